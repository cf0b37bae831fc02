import PyProof.Rows.All
import Wide.All
import OpenK.AllK
import Wide.FinOn
import PyProof.EqAt
import PyProof.EqKinds
import PyProof.TupleCall
import KE.KFromBytes
import KE.KMinKey
import KE.GoesEnum
import KE.GoesMore
import HandS.Base
import HandS.Call
import HandS.List
import HandS.Comp
import HandS.Ends
import HandS.Dict
import HandS.Iter
import HandS.Text
import HandS.Exc
import HandS.TryOnly
import HandS.ExcOwn
import HandS.ExcInit
import HandS.ExcIs
import HandS.Walk
import HandS.Wide
import HandS.Set
import HandS.SetFor
import HandS.TupAny
import HandS.TupMul
import HandS.SortKw
import HandS.TupLe
import HandS.IsInst
import HandS.Words
import HandS.WordsList
import HandS.WordsDict
import HandS.WordsExc
import HandS.Evl
import HandS.Conv
import HandS.Sort
import HandS.SortInts
import HandS.SortRule
import HandS.Rev
import PyProof.SeqIndex
import HandS.Flow
import HandS.TryMany
import PyProof.ListMulRight
import PyProof.TupleOfSeq
import PyProof.ReprRoads
import HandS.Deep
import HandS.Strs
import KE.SortData
import HandS.More
import KE.DataMinMax
import HandS.ExcField
import KE.KExcIs
import KE.KDictLaws
import PySem.Challenge.RW_bymiddles_k93_whole_windows_that_are_wel
set_option Elab.async false
set_option linter.all false
set_option maxRecDepth 100000
set_option maxHeartbeats 4000000

namespace L2
open PySem PySem.Spec PyProof.Rows
/-! t.index(k), whole numbers -/
section
variable {X : Cx}
def rTupIx (K : PySem.W.Frag) : V → List V → Hp → VK → Prop := fun x xs H Q => ∃ (p : Addr) (ks : List Nat) (k : Nat), x = .ref p ∧ xs = [.int (k : Int)] ∧ SqT K H p (ks.map fun j : Nat => V.int (j : Int)) ∧ k ∈ ks ∧ Q (.int (ks.idxOf k : Nat)) H
theorem mt_tupIx : MtR X "tuple.index" (rTupIx X.K) := by
  intro pins s σ H x xs v us Q I rx rs h
  obtain ⟨p, ks, k, rfl, rfl, hq, hk, q⟩ := h
  cases rx
  obtain ⟨u, rfl, t, rfl⟩ := vals1 rs
  obtain ⟨its, r, pl, hz⟩ := I.tuple hq
  have hl : its.length = ks.length := by rw [← r.length, List.length_map]
  have items : SeqAt.ItemsEq X.A.in1 s its ks (Value.int (k : Int) t) k := by
    refine ⟨hl, fun j h1 h2 => ?_⟩
    obtain ⟨w, hw, t', hw'⟩ := r.get (i := j) (x := .int ((ks[j] : Nat) : Int)) (by simp [h2])
    have e := (List.getElem?_eq_some_iff.mp hw).2
    rw [e, hw']
    have z := SeqAt.EqAt.int_int (A := X.A.in1) (s := s) ((ks[j] : Nat) : Int) t' (k : Int) t
    have e2 : (((ks[j] : Nat) : Int) == (k : Int)) = decide (ks[j] = k) := by
      rw [Bool.eq_iff_iff]
      simp
      omega
    rw [e2] at z
    exact z
  exact SeqAt.call_tuple_index pl items hk ⟨.int (ks.idxOf k : Nat), H, I.tok _, ⟨_, rfl⟩, q⟩
theorem mt_tupIxB {K : PySem.W.Frag} (h : X.K = K := by rfl) : MtR X "tuple.index" (rTupIx K) := h ▸ mt_tupIx
/-- xs.index(k) of a list of whole numbers -/
def rLstIx (K : PySem.W.Frag) : V → List V → Hp → VK → Prop := fun x xs H Q => ∃ (p : Addr) (ks : List Nat) (k : Nat), x = .ref p ∧ xs = [.int (k : Int)] ∧ SqL K H p (ks.map fun j : Nat => V.int (j : Int)) ∧ k ∈ ks ∧ Q (.int (ks.idxOf k : Nat)) H
theorem mt_lstIx : MtR X "list.index" (rLstIx X.K) := by
  intro pins s σ H x xs v us Q I rx rs h
  obtain ⟨p, ks, k, rfl, rfl, hq, hk, q⟩ := h
  refine mt_index pins s σ H _ _ v us Q I rx rs ⟨p, _, _, ks.idxOf k, .int (k : Int), rfl, rfl, hq, rfl, ?_, ?_, ?_, ?_, q⟩
  · rw [List.all_eq_true]
    intro x hx
    obtain ⟨i, _, rfl⟩ := List.mem_map.mp hx
    rfl
  · have h1 := List.idxOf_lt_length_iff.mpr hk
    rw [List.getElem?_map, List.getElem?_eq_getElem h1, List.getElem_idxOf h1]
    rfl
  · show ((k : Int) == (k : Int)) = true
    exact beq_self_eq_true _
  · intro m z' hm hz
    rw [List.getElem?_map] at hz
    cases e : ks[m]? with
    | none =>
      rw [e] at hz
      cases hz
    | some y =>
      rw [e] at hz
      cases hz
      have h2 := (List.getElem?_eq_some_iff.mp e).1
      have h3 := SeqAt.lt_idxOf_ne hm h2
      have h4 : y ≠ k := by rw [← (List.getElem?_eq_some_iff.mp e).2]; exact h3
      show ((y : Int) == (k : Int)) = false
      rw [beq_eq_false_iff_ne]
      omega
/-- tuple(xs): the new tuple's object is kept in mind -/
def rTupFz (K : PySem.W.Frag) : List V → Hp → VK → Prop := fun xs H Q => ∃ p ys, xs = [.ref p] ∧ SqL K H p ys ∧ ∀ l o, H l = none → o.dict = none → o.cls = .type "tuple" → Q (.ref l) (upd H l (.frz o (.tup ys)))
theorem call_tupleFz0 : CallR X (.type "tuple") (rTupFz X.K) := by
  intro pins s σ H xs us Q I r h
  obtain ⟨p, ys, rfl, hq, q⟩ := h
  obtain ⟨u, rfl, rx⟩ := vals1 r
  cases rx
  obtain ⟨its, r', pl, hz⟩ := I.list hq
  have hlen := r'.length
  refine call_tuple_list pl.isList (fun h' kp => ?_) (by simp only [List.size_toArray] <;> omega)
  have I1 : Inv X pins σ H { s with heap := h' } := I.kept (t' := s.toks) kp
  have I2 : Inv X pins σ (upd H h'.objs.size (.frz { cls := .type "tuple", data := .seq its.toArray } (.tup ys))) { s with heap := h'.push { cls := .type "tuple", data := .seq its.toArray } } :=
    I1.laid (t' := s.toks) (fun b o e => Heap.get?_push_of_some _ e) (Nat.le_refl _) (show ObjOk X.prog X.w _ _ _ (.frz _ (.tup ys)) from ⟨Heap.get?_push_size _ rfl, hz, its, r', IsTup.new _ _⟩)
  exact ⟨.ref h'.objs.size, _, I2, rfl, q _ _ (I1.hok.fresh (Nat.le_refl _)) rfl rfl⟩
theorem call_tupleFz {K : PySem.W.Frag} (h : X.K = K := by rfl) : CallR X (.type "tuple") (rTupFz K) := h ▸ call_tupleFz0
/-- t.m(..), the tuple's object known -/
def tBMF (r : V → List V → Hp → VK → Prop) (to : TE) (t : TA) : TE := fun σ H Q => to σ H fun x H1 => (∃ p o ys, x = .ref p ∧ H1 p = some (.frz o (.tup ys)) ∧ o.dict = none ∧ o.cls = .type "tuple") ∧ t σ H1 fun xs H2 => r x xs H2 Q
theorem pe_bmF {o e : Expr} {es : List Expr} {to : TE} {t : TA} {name : Str} {apos cpos : Pos} {id : String} {r : V → List V → Hp → VK → Prop} (pa : PlainAttrs "tuple") (slot : Slot "tuple" name id) (hty : typeOf (.builtin id) = pure (.type "method_descriptor")) (hm : MtR X id r) (ho : PE X o to) (ha : PA X (e :: es) t)
    (hbase : attributeBase o name X.env (eval o X.env) = eval o X.env := by rfl)
    (hfew : ((backTo cpos (starEach (e :: es) X.env)).all (fun x => !x.1) && (backToKw cpos (keywordEach [] X.env)).all (fun x => x.1.isSome)
      && decide ((e :: es).length + ([] : List Keyword).length + (if ([] : List Keyword).isEmpty then 0 else 1) < 30)) = true := by rfl)
    (hline : (apos.endLine == cpos.line) = true := by rfl) (hs : starEach (e :: es) X.env = (false, eval e X.env) :: starEach es X.env := by rfl) (hplain : (backTo cpos (starEach es X.env)).any (·.1) = false := by rfl) :
    PE X (.Call (.Attribute o name apos) (e :: es) [] cpos) (tBMF r to t) := by
  refine ⟨fun pins s σ H Q I h => ?_⟩
  refine wpAny_Call_method_late hbase hfew hline rfl (thn (ho.run pins s σ H _ I h) fun v s1 ⟨x, H1, I1, r1, ⟨p, ob, ys, ex, hp, hd, hc⟩, q1⟩ => ?_)
  subst ex
  cases r1
  obtain ⟨hob, _⟩ := (show ObjOk X.prog X.w H1 s1.heap p (.frz ob (.tup ys)) from I1.hok p _ hp)
  refine ⟨"tuple", id, pa, slot, hty, ⟨ob, hob, hc⟩, fun a e => ?_, ?_⟩
  · cases e
    exact ⟨ob, hob, hd⟩
  have hA := ha.run cpos pins s1 σ H1 _ I1 q1
  rw [hs] at hA ⊢
  refine Calls.callWith_builtin (by show (false || (backTo cpos (starEach es X.env)).any (·.1)) = false; rw [hplain] <;> rfl) (Calls.evalArgs_plain ?_)
  exact thn hA fun us s2 ⟨vs, H2, I2, r2, q2⟩ => hm pins s2 σ H2 (.ref p) vs (.ref p) us Q I2 rfl r2 q2
end
/-! sorted(t) of a tuple of whole numbers; k * t; isinstance of any caught own error -/
section
variable {X : Cx}
def rSortedTI (K : PySem.W.Frag) : List V → Hp → VK → Prop := fun vs H Q => ∃ (a : Addr) (ns : List Int), vs = [V.ref a] ∧ SqT K H a (ns.map V.int) ∧
  ∀ (ms : List Int) (p : Addr), ms.Perm ns → ms.Pairwise (· ≤ ·) → H p = none → Q (.ref p) (upd H p (.lst (ms.map V.int)))
theorem cr_sortedTI : CallR X (.builtin "sorted") (rSortedTI X.K) := by
  intro pins s σ H vs us Q I r h
  obtain ⟨a, ns, rfl, hs, q⟩ := h
  obtain ⟨its, rv, ⟨o, ho, hc, n, hd⟩, hz⟩ := I.tuple hs
  rw [Vals.ref1 r]
  have hi := rv.ints
  have hzz : its.length ≤ sizeLine := by rw [← rv.length] <;> exact hz
  refine Calls.call_function_entry PyProof.Rows.kind_sorted PyProof.Rows.plain_sorted PyProof.Rows.entry_sorted (PyProof.Rows.args_sorted1 _) ?_
  unfold Builtin.«sorted»
  refine wpAny_bind (m := checkCount "sorted" 1 1 _) (wpAny_pure ?_)
  refine wpAny_bind (wpAny_collect_seq a (.inr rfl) ho hc hd (fun h' hk => ?_) (by rw [List.size_toArray] <;> exact hzz))
  have eL : its.toArray.toList = its := by simp
  rw [eL]
  refine wpAny_bind (wpAny_newList ?_ hzz)
  have I1 : Inv X pins σ H { s with heap := h' } := I.kept (t' := s.toks) hk
  have atL : (h'.push (seqObj "list" its.toArray 0)).get? h'.objs.size = some (seqObj "list" its.toArray 0) := Heap.get?_push_size _ rfl
  show wpAny _ _ _ _ _ { s with heap := h'.push (seqObj "list" its.toArray 0) }
  refine wpAny_bind (wpAny_holding (wpAny_call_entry PyProof.Rows.slot_list_sort ⟨_, atL, rfl⟩ PyProof.Rows.entry_list_sort
    (SrtO.list_sort_ord (s := { s with heap := h'.push (seqObj "list" its.toArray 0) }) SrtO.swo_int atL hzz (fun h2 => SrtO.ints_sortable hi h2) fun out h1 h2 => ⟨_, rfl, ?_⟩) (PyProof.Rows.args_list_sort _)))
  obtain ⟨k1, k2, k3⟩ := SrtO.ints_out hi h1 h2
  obtain ⟨ep, he'⟩ := PyProof.Rows.sortedHeap_at (vs := its) (out := out.toArray) atL
  have hlen : ((out.map SrtO.iv).map V.int).length ≤ sizeLine := by
    rw [List.length_map, k2.length_eq]
    rw [List.length_map] at hz
    exact hz
  refine wpAny_pure ⟨_, rfl, .ref h'.objs.size, upd H h'.objs.size (.lst ((out.map SrtO.iv).map V.int)), I1.laid (t' := s.toks) (fun b u e => ?_) (Nat.le_refl _) ⟨hlen, out, ep, vals_of_ints k1, he'⟩, rfl, q _ _ k2 k3 (I1.hok.fresh (Nat.le_refl _))⟩
  have hb : b < h'.objs.size := Heap.lt_size e
  rw [PyProof.Rows.sortedHeap_old (Nat.ne_of_lt hb) (by rw [size_push'] <;> exact Nat.lt_succ_of_lt hb)]
  exact Heap.get?_push_of_some _ e
theorem int_mul_tuple (a : Int) (t : Tok) (l : Addr) (items : Array Value) (n : Nat) (dd : Option Addr) (sl : Array (Option Value)) :
    Meets (Builtin.«int.__mul__» ⟨[.int a t, .ref l], []⟩) (fun _ R s => s.heap.get? l = some { cls := .type "tuple", dict := dd, data := .seq items n, slots := sl } ∧ R (.ok (.ret Value.notImplemented)) s) :=
  .of_wp fun prog w A R s h => by
    obtain ⟨hp, g, d, tk, os⟩ := s
    obtain ⟨hl, h⟩ := h
    wp_walk using wpAny_loadPart' hl
    exact ⟨_, rfl, h⟩
def rRepL (K : PySem.W.Frag) : R2 := fun x y H Q => ∃ l k xs, y = .ref l ∧ x = .int k ∧ SqT K H l xs ∧ xs ≠ [] ∧ 2 ≤ k ∧ k ≤ 1000 ∧ xs.length ≤ 1000 ∧ ∀ p, H p = none → Q (.ref p) (upd H p (.tup (List.replicate k.toNat xs).flatten))
theorem op_repL : OpR X (binaryOp .Mult) (rRepL X.K) := by
  intro pins s σ H y x u v Q I ry rx h
  obtain ⟨l, k, xs, rfl, rfl, hT, hne, h1, h2, hz, q⟩ := h
  cases rx
  obtain ⟨t, rfl⟩ := ry
  obtain ⟨its, r, ⟨⟨cls, dd, data, sl⟩, ho, hc, n, hd⟩, hs⟩ := I.tuple hT
  simp only at hc hd
  subst hc hd
  have hle : its.length = xs.length := r.length.symm
  have hi : its.toArray.isEmpty = false := by
    cases its with
    | nil => exact absurd (List.eq_nil_of_length_eq_zero hle.symm) hne
    | cons a b => rfl
  have hsz : its.toArray.size = xs.length := by rw [List.size_toArray, hle]
  have flat : (List.replicate k.toNat its).flatten.length = k.toNat * xs.length := by rw [PyProof.Rows.lm_len_rep_flat, hle]
  have top : k.toNat * xs.length ≤ 1000 * 1000 := Nat.mul_le_mul (by omega) hz
  have hm : ((its.toArray.size : Nat) : Int) * k ≤ 1000000 := by
    rw [hsz]
    have a1 : ((xs.length : Nat) : Int) * k ≤ 1000 * k := Int.mul_le_mul_of_nonneg_right (by omega) (by omega)
    omega
  have c0 : (decide (k < -(2 ^ 63)) || decide (k ≥ 2 ^ 63)) = false := by
    rw [Bool.or_eq_false_iff, decide_eq_false_iff_not, decide_eq_false_iff_not]
    omega
  have c1 : (its.toArray.isEmpty || k == 1) = false := by
    rw [hi, Bool.false_or, beq_eq_false_iff_ne]
    omega
  have c2 : (decide (k ≤ 0) || its.toArray.isEmpty) = false := by
    rw [hi, Bool.or_false, decide_eq_false_iff_not]
    omega
  have c4 : Builtin.Tuple.tupleTooMany (((its.toArray.size : Nat) : Int) * k) = false := by
    unfold Builtin.Tuple.tupleTooMany
    rw [sizeLine_eq, decide_eq_false_iff_not]
    omega
  refine lm_binaryOp_repeat_right (T := "tuple") (U := "int") (by decide) (fun s' => typeIs_int s' k t) ⟨_, ho, rfl⟩ F.fills_int_mul noFill_tuple_mul F.slot_int_mul lm_noRepeat_int repeat_tuple F.slot_int_index.lookup
    (call_meets F.slot_int_mul (typeIs_int s k t) F.entry_int_mul (F.args_int_mul_2 _ _) (int_mul_tuple k t l its.toArray n dd sl) ⟨ho, rfl, ⟨_, ho, rfl⟩, ?_⟩)
  refine call_meets F.slot_tuple_mul ⟨_, ho, rfl⟩ F.entry_tuple_mul (F.args_tuple_mul_2 _ _) (tuple_mulW l its.toArray n dd sl k t c0 c1 c2 (by omega) c4 (by rw [size_rep, List.size_toArray, flat, sizeLine_eq] <;> omega)) ⟨ho, ?_⟩
  rw [size_rep]
  refine ⟨.ref s.heap.objs.size, _, I.laid (t' := s.toks) (o := .tup (List.replicate k.toNat xs).flatten) (fun b ob q => Heap.get?_push_of_some _ q) (Nat.le_refl _) ?_, rfl, q _ (I.hok.fresh (Nat.le_refl _))⟩
  exact ⟨by rw [PyProof.Rows.lm_len_rep_flat, sizeLine_eq] <;> omega, _, r.rep k.toNat, IsTup.new _ _⟩
/-- isinstance(e, c), e what the suite holds, of whichever own class -/
def rIsAny (K : PySem.W.Frag) (a : Addr) (cls : Value) (d : Option Addr) : List V → Hp → VK → Prop := fun xs H Q => ∃ (D : Addr) (c : V) (cv : Value) (b : Bool), cls = .ref D ∧ d = none ∧ ExcC K D ∧ xs = [.ref a, c] ∧ (∀ u, RelV c u → u = cv) ∧ PySem.W.kitOne K (.ref D) cv = some b ∧ Q (.bl b) H
theorem call_isAny {a : Addr} {oe : Obj} {cls : Value} {d : Option Addr} {pn : List (Addr × Obj)} (hz : Zc cls d oe) (hf : ∃ vs, oe.data = .fields vs) : CallR (X.suite a ((a, oe) :: pn)) (.builtin "isinstance") (rIsAny X.K a cls d) := by
  intro pins s σ H xs us Q I r h
  obtain ⟨D, c, cv, b, rfl, rfl, C, e, h1, h2, q⟩ := h
  exact call_isE C hz hf pins s σ H xs us Q I r ⟨c, cv, b, e, h1, h2, q⟩
end
theorem kit_own {K : PySem.W.Frag} {C D : Addr} {b : Bool} (h1 : PySem.W.hasDictIn K D = true) (h2 : PySem.W.typeIn K (.ref D) = some (.type "type")) (h3 : PySem.W.subIn K (.ref C) (.ref D) = some b) (h4 : PySem.W.subIn K (.ref C) (.ref C) = some true) : PySem.W.kitOne K (.ref C) (.ref D) = some b := by
  obtain ⟨cd, hc, _⟩ := PySem.W.any_some h1
  have e2 : ((PySem.W.clsIn K D).isSome && PySem.W.typeIn K (.ref D) == some (.type "type")) = true := by rw [hc, h2] <;> rfl
  show (if ((Value.ref C : Value) == .ref D) = true then some true else (if ((PySem.W.clsIn K D).isSome && PySem.W.typeIn K (.ref D) == some (.type "type")) = true then PySem.W.subIn K (.ref C) (.ref D) else none)) = some b
  by_cases e : C = D
  · subst e
    rw [if_pos (by simp), ← h4, h3]
  · rw [if_neg (by simp [e]), if_pos e2, h3]
/-! own == and != : whatever the own __eq__ answers -/
section
variable {X : Cx} {n : Nat}
theorem callTwo {CX : CXT} {f : Addr} {fd : FuncData} {ps : List Str} {sp : Sp} {E : XK} (F : FnOk X.prog X.w X.K X.mg X.base CX n f fd ps sp) (hb : Binds X.K fd ps []) (hx : Passes CX X E)
    {A : Around} {pins : List (Addr × Obj)} {s : Shared} {σ : St} {H : Hp} {a b : Addr} {Q : VK} (rm : Room n A) (fr : A.frames = X.A.frames) (I : Inv X pins σ H s) (hsp : sp [.ref a, .ref b] H Q E) :
    wpAny (model X.prog X.w) A (call (.ref f) [.ref a, .ref b]) (EP X pins σ Q) X.xe s := by
  have z := I.env0
  have z0 : Env0 X.prog X.w X.K X.mg X.base A X.stack s H :=
    ⟨by rw [fr] <;> exact z.frames, z.mod, z.bs, z.bsz, z.funs, z.frf, z.hok, z.bare⟩
  have two := F.len _ _ _ _ hsp
  have vs : Vals [V.ref a, V.ref b] [Value.ref a, Value.ref b] := .cons rfl (.cons rfl .nil)
  have bd := hb s [.ref a, .ref b] I.kIn (by simpa using two)
  refine wpAny_call (codeAny_mono (F.run A X.stack s H ⟨[.ref a, .ref b], []⟩ [.ref a, .ref b] [.ref a, .ref b] _ E rm z0 (by simpa using bd) vs hsp) fun r s' hq => ?_)
  cases r with
  | error er => exact hx pins σ H s er s' I hq
  | ok fl =>
    cases fl with
    | ret w => exact I.after hq
    | _ => exact False.elim hq
/-- two instances of the class at C, asked by the own __eq__ -/
def rOwnCmp (C : Addr) (sp : Sp) (E : XK) (neg : Bool) : R2 := fun x y H Q => ∃ a b dx dy fs gs, x = .ref a ∧ y = .ref b ∧ H a = some (.ins C dx fs) ∧ H b = some (.ins C dy gs) ∧
  sp [.ref a, .ref b] H (fun v H' => ∃ k : Bool, v = .bl k ∧ Q (.bl (k != neg)) H') E
theorem op_ownEq {CX : CXT} {C f : Addr} {fd : FuncData} {ps : List Str} {sp : Sp} {E : XK} (F : FnOk X.prog X.w X.K X.mg X.base CX n f fd ps sp) (hr : Room n X.A)
    (hs : PySem.W.findIn X.K (.ref C) "__eq__" = some (some (.ref f))) (hf : PySem.W.isFn X.K (.ref f) = true) (hb : Binds X.K fd ps []) (hx : Passes CX X E) : OpR X (compareOp .Eq) (rOwnCmp C sp E false) := by
  intro pins s σ H x y v u Q I rx ry hq
  obtain ⟨a, b, dx, dy, fs, gs, rfl, rfl, ha, hb', hsp⟩ := hq
  cases rx
  cases ry
  obtain ⟨_, J, _⟩ := ins_get I.hok ha
  obtain ⟨_, J', _⟩ := ins_get I.hok hb'
  obtain ⟨_, J, _⟩ := J.look
  obtain ⟨_, J', _⟩ := J'.look
  obtain ⟨m, hF⟩ := I.fr
  refine PySem.W.cmp_K (op := .Eq) (tb := .ref C) hr.units0 hF I.ok.mod.kin J J'.type (by simp [PySem.W.notFirst]) hs hf (wpAny_mono (callTwo F hb hx hr rfl I hsp) (fun r s' z => ?_) fun _ _ e => e)
  obtain ⟨z, H', I', rz, k, rfl, q⟩ := z
  cases rz
  refine ⟨.bl k, H', I', rfl, ?_⟩
  cases k <;> exact q
open PySem.W Builtin in
theorem ne_own {A : Around} {K : PySem.W.Frag} {a b C f : Addr} {oa ob : Obj} {da db : Option Obj} {prog : Program} {w : World} {E : Value → Shared → Prop} {s : Shared} {Q : Value → Shared → Prop} (hu : A.units < cLine) (hu1 : A.in1.units < cLine) (hK : K.In s.heap) (I : InstAt s.heap a oa C da) (J : InstAt s.heap b ob C db)
    (hs : findIn K (.ref C) "__eq__" = some (some (.ref f))) (hf : isFn K (.ref f) = true) (hn : findIn K (.ref C) "__ne__" = some (some (.builtin "object.__ne__"))) (hm : mroIn K C (.type "object") = some true)
    (h : wpAny (model prog w) A.in1 (call (.ref f) [.ref a, .ref b]) (fun v s' => ∃ k : Bool, v = .bool k ∧ Q (.bool (!k)) s') E s) : wpAny (model prog w) A (richCompare .NotEq (.ref a) (.ref b)) Q E s := by
  have body : wpAny (model prog w) A (call (.builtin "object.__ne__") [.ref a, .ref b]) (fun v s' => ∃ k : Bool, v = .bool k ∧ Q v s') E s := by
    refine wpAny_call (codeAny_call_builtin PySem.F.slot_object_ne.plain PySem.F.entry_object_ne (check_slot (i := "object.__ne__") (owner := "object") (n := "__ne__") (by decide +kernel) (by decide +kernel) (I.type.andThen (looks_mroIn hK hm)) (PySem.F.args_object_ne_2 _ _) ?_))
    unfold Builtin.«object.__ne__»
    refine wpAny_bind (m := slotArgs "__ne__" 1 _) (wpAny_pure ?_)
    refine wpAny_bind (m := cRoomFor _ _) (wpAny_cRoomFor hu1 ?_)
    refine wpAny_bind (m := callSpecialIfBound? (.ref a) (Str.ofString "__eq__") _) (ifBound_K hK I hs hf (wpAny_mono h (fun v s' hv => ?_) fun _ _ y => y))
    obtain ⟨k, rfl, q⟩ := hv
    refine wpAny_bind (m := truthy _) (wpAny_truthy_bool ?_)
    exact wpAny_pure ⟨!k, rfl, q⟩
  have one : wpAny (model prog w) A (tryCompare (.ref a) "__ne__" (.ref b)) (fun r s' => ∃ v, r = some v ∧ Q v s') E s := by
    unfold tryCompare
    refine wpAny_bind ?_
    simp only [callSpecialIfBound?, bindSpecialIfBound?]
    refine wpAny_holding (wpAny_bind (wpAny_bind (wpAny_bind (I.type.here ((looks_findIn hK hn).here ?_)))))
    simp only [PySem.F.slot_object_ne.bind]
    refine wpAny_bind (wpAny_askSetting (wpAny_ite ?_))
    have fin : wpAny (model prog w) A (call (.builtin "object.__ne__") ([.ref a] ++ [.ref b]) >>= fun v => pure (some v)) (fun r s' => wpAny (model prog w) A (match r with | some Value.notImplemented => pure none | none => pure none | some v => pure (some v)) (fun r s' => ∃ v, r = some v ∧ Q v s') E s') E s := by
      refine wpAny_bind (wpAny_mono body (fun v s' hv => ?_) fun _ _ y => y)
      obtain ⟨k, rfl, q⟩ := hv
      exact wpAny_pure (wpAny_pure ⟨_, rfl, q⟩)
    split
    · exact wpAny_bind (wpAny_pure (wpAny_pure fin))
    · exact wpAny_tryCatch (wpAny_bind (wpAny_pure (wpAny_pure fin)))
  unfold richCompare
  simp only [oneThing_ref]
  refine wpAny_holding (wpAny_bind (wpAny_cRoomFor hu ?_))
  refine wpAny_bind (I.type.here (wpAny_bind (J.type.here ?_)))
  split
  · rename_i q
    simp at q
  · refine wpAny_bind (wpAny_pure ?_)
    simp only [Bool.false_eq_true, if_false]
    refine wpAny_bind (wpAny_mono one (fun r s' z => ?_) fun _ _ e => e)
    obtain ⟨v, rfl, hq⟩ := z
    exact wpAny_pure hq
theorem op_ownNe {CX : CXT} {C f : Addr} {fd : FuncData} {ps : List Str} {sp : Sp} {E : XK} (F : FnOk X.prog X.w X.K X.mg X.base CX n f fd ps sp) (hr : Room (n + 1) X.A)
    (hs : PySem.W.findIn X.K (.ref C) "__eq__" = some (some (.ref f))) (hf : PySem.W.isFn X.K (.ref f) = true) (hb : Binds X.K fd ps []) (hx : Passes CX X E)
    (hn : PySem.W.findIn X.K (.ref C) "__ne__" = some (some (.builtin "object.__ne__"))) (hm : PySem.W.mroIn X.K C (.type "object") = some true) : OpR X (compareOp .NotEq) (rOwnCmp C sp E true) := by
  intro pins s σ H x y v u Q I rx ry hq
  obtain ⟨a, b, dx, dy, fs, gs, rfl, rfl, ha, hb', hsp⟩ := hq
  cases rx
  cases ry
  obtain ⟨_, J, _⟩ := ins_get I.hok ha
  obtain ⟨_, J', _⟩ := ins_get I.hok hb'
  obtain ⟨_, J, _⟩ := J.look
  obtain ⟨_, J', _⟩ := J'.look
  refine ne_own hr.units0 hr.in1.units0 I.kIn J J' hs hf hn hm (wpAny_mono (callTwo F hb hx hr.in1 rfl I hsp) (fun r s' z => ?_) fun _ _ e => e)
  obtain ⟨z, H', I', rz, k, rfl, q⟩ := z
  cases rz
  refine ⟨k, rfl, .bl (!k), H', I', rfl, ?_⟩
  cases k <;> exact q
end
/-! t[::-1] of a tuple -/
theorem fmSame {α β : Type} {f g : α → Option β} : ∀ {l : List α}, (∀ m ∈ l, f m = g m) → l.filterMap f = l.filterMap g
  | [], _ => rfl
  | a :: r, h => by
    rw [List.filterMap_cons, List.filterMap_cons, h a (List.mem_cons_self ..), fmSame fun m hm => h m (List.mem_cons_of_mem _ hm)]
theorem turnAll {α : Type} : ∀ ys : List α, (List.range ys.length).filterMap (fun m => ys[m]?) = ys
  | [] => rfl
  | y :: r => by
    rw [List.length_cons, List.range_succ_eq_map, List.filterMap_cons]
    show y :: _ = _
    rw [List.filterMap_map]
    exact congrArg (y :: ·) (turnAll r)
theorem turnAdjust (n : Nat) : Builtin.Slice.sliceAdjust none none (-1) (n : Int) = ((n : Int) - 1, -1) := by
  unfold Builtin.Slice.sliceAdjust
  simp
theorem turnPlaces (n : Nat) : Builtin.Slice.slicePlaces ((n : Int) - 1) (-1) (-1) = n := by
  unfold Builtin.Slice.slicePlaces
  rw [if_neg (by decide)]
  by_cases h : (n : Int) - 1 > -1
  · rw [if_pos h, show (-(-1) : Int) = 1 by decide, Int.ediv_one]
    omega
  · rw [if_neg h]
    omega
theorem turnPick (xs : Array Value) : ((List.range xs.size).filterMap fun (m : Nat) => xs[(((xs.size : Int) - 1) + (m : Int) * (-1)).toNat]?).toArray = xs.toList.reverse.toArray := by
  have g : ∀ m ∈ List.range xs.size, xs[(((xs.size : Int) - 1) + (m : Int) * (-1)).toNat]? = xs.toList.reverse[m]? := by
    intro m hm
    have hm' : m < xs.toList.length := by simpa using hm
    rw [List.getElem?_reverse hm']
    have e : ((((xs.size : Int) - 1) + (m : Int) * (-1)).toNat) = xs.toList.length - 1 - m := by
      rw [Array.length_toList]
      omega
    rw [e]
    simp
  have e : xs.size = xs.toList.reverse.length := by simp
  rw [fmSame g, e, turnAll]
section
variable {prog : Program} {w : World} {A : Around} {E : Value → Shared → Prop} {s : Shared}
theorem getItem_turn {t sl : Addr} {items : Array Value} {u : Tok} {Q : Value → Shared → Prop} (ht : IsTup s.heap t items) (hs : s.heap.IsSliceOf sl .none .none (.int (-1) u))
    (h : Q (.ref s.heap.objs.size) { s with heap := s.heap.push { cls := .type "tuple", data := .seq items.toList.reverse.toArray } }) (hz : items.size ≤ sizeLine) : wpAny (model prog w) A (getItem (.ref t) (.ref sl)) Q E s := by
  have room : sizeOk (.seq items.toList.reverse.toArray) := by
    show items.toList.reverse.toArray.size ≤ sizeLine
    simpa using hz
  obtain ⟨os, hos, hcs, hds⟩ := id hs
  have isl : s.TypeIs (.ref sl) "slice" := ⟨os, hos, hcs⟩
  unfold getItem
  try with_reducible refine wpAny_holding ?_
  first | refine wpAny_bind (wpAny_pure ?_) | skip
  refine wpAny_bind (wpAny_sequenceKey ht.typeIs (by decide) ?_)
  refine wpAny_bind (wpAny_callSpecial?_slot (name := Str.ofString "__getitem__") ht.typeIs slot_tuple_getitem (wpAny_call_entry slot_tuple_getitem ht.typeIs entry_tuple_getitem ?_ (args_tuple_getitem _ _)))
  show wpAny _ _ (Builtin.Tuple.tupleItemsOf (.ref t) >>= _) _ _ s
  refine wpAny_bind (tupleItemsOf_ ht ?_)
  refine wpAny_bind (wpAny_typeOf isl ?_)
  rw [if_pos (by decide)]
  have app : ∀ {R : Int × Int × Nat → Shared → Prop}, R (((items.size : Nat) : Int) - 1, -1, items.size) s → wpAny (model prog w) (A.in1) (Builtin.Slice.sliceApplied (.ref sl) (pure ((items.size : Nat) : Int))) R E s := by
    intro R hR
    unfold Builtin.Slice.sliceApplied Builtin.Slice.sliceFields
    refine wpAny_bind (wpAny_bind (wpAny_field hos hds (x := .none) rfl (wpAny_bind (wpAny_field hos hds (x := .none) rfl (wpAny_bind (wpAny_field hos hds (x := .int (-1) u) rfl (wpAny_pure ?_)))))))
    refine wpAny_bind (slicePart_int ?_)
    show wpAny _ _ (if ((-1 : Int) == 0) = true then _ else _) _ _ s
    rw [if_neg (by decide)]
    refine wpAny_bind (slicePart_none (wpAny_bind (slicePart_none (wpAny_bind (wpAny_pure ?_)))))
    show wpAny _ _ (match Builtin.Slice.sliceAdjust none none (-1) ((items.size : Nat) : Int) with | (lo, hi) => pure (lo, (-1 : Int), Builtin.Slice.slicePlaces lo hi (-1))) _ _ s
    rw [turnAdjust]
    show wpAny _ _ (pure (((items.size : Nat) : Int) - 1, (-1 : Int), Builtin.Slice.slicePlaces (((items.size : Nat) : Int) - 1) (-1) (-1))) _ _ s
    rw [turnPlaces]
    exact wpAny_pure hR
  refine wpAny_bind (app ?_)
  have hno : ¬ (((((items.size : Nat) : Int) - 1) == 0 && (-1 : Int) == 1 && items.size == items.size) = true) := by simp
  show wpAny _ _ (if ((((items.size : Nat) : Int) - 1) == 0 && (-1 : Int) == 1 && items.size == items.size) = true then _ else _) _ _ s
  rw [if_neg hno, turnPick]
  first
    | exact wpAny_bind (m := Builtin.Tuple.tupleExact _) (wpAny_newObj_type (wpAny_pure ⟨_, rfl, wpAny_pure h⟩) room)
    | exact wpAny_bind (m := Builtin.Tuple.tupleExact _) (wpAny_newObj_type (wpAny_bind (wpAny_pure (wpAny_pure ⟨_, rfl, wpAny_pure h⟩))) room)
    | exact wpAny_bind (wpAny_bind (m := Builtin.Tuple.tupleExact _) (wpAny_newObj_type (wpAny_pure (wpAny_pure ⟨_, rfl, wpAny_pure h⟩)) room))
    | exact wpAny_bind (wpAny_bind (m := Builtin.Tuple.tupleExact _) (wpAny_newObj_type (wpAny_pure ⟨_, rfl, wpAny_pure h⟩) room))
end
section
variable {X : Cx} {e ee : Expr} {te : TE} {tk : TO} {pos p2 : Pos}
theorem turn_read {pins : List (Addr × Obj)} {s : Shared} {σ : St} {H : Hp} {a sl : Addr} {xs : List V} {u : Tok} {Q : VK} (I : Inv X pins σ H s) (hs : s.heap.IsSliceOf sl .none .none (.int (-1) u)) (hx : SqT X.K H a xs) (q : ∀ p, H p = none → Q (.ref p) (upd H p (.tup xs.reverse))) :
    s.TypeIs (.ref a) "tuple" ∧ wpAny (model X.prog X.w) X.A (getItem (.ref a) (.ref sl)) (EP X pins σ Q) X.xe s := by
  obtain ⟨its, r, ht, hz⟩ := I.tuple hx
  have hlen : its.toArray.size = xs.length := by rw [List.size_toArray] <;> exact r.length.symm
  refine ⟨ht.typeIs, getItem_turn ht hs ?_ (by rw [hlen] <;> exact hz)⟩
  refine ⟨.ref s.heap.objs.size, _, I.laid (t' := s.toks) (o := .tup xs.reverse) (fun b ob z => Heap.get?_push_of_some _ z) (Nat.le_refl _) ?_, rfl, q _ (I.hok.fresh (Nat.le_refl _))⟩
  exact ⟨by rw [List.length_reverse] <;> exact hz, _, r.reverse, IsTup.new _ _⟩
def tTurn (K : PySem.W.Frag) (te : TE) (tk : TO) : TE := fun σ H Q => te σ H fun x H1 => tk σ H1 fun k H2 => k = some (-1) ∧ ∃ a xs, x = .ref a ∧ SqT K H2 a xs ∧ ∀ p, H2 p = none → Q (.ref p) (upd H2 p (.tup xs.reverse))
theorem pe_turn (he : PE X e te) (hk : PO X (some ee) tk) : PE X (.Subscript e (.Slice none none (some ee) p2) pos) (tTurn X.K te tk) := by
  refine ⟨fun pins s σ H Q I h => Subscript_ (thn (he.run pins s σ H _ I h) fun v s1 ⟨x, H1, I1, r1, q1⟩ => ?_)⟩
  refine wpAny_Slice ?_
  rw [evalPart_none]
  refine wpAny_pure ?_
  refine wpAny_pure (thn (hk.run pins s1 σ H1 _ I1 q1) fun vk s3 ⟨k, H2, I3, pk, q2⟩ => ?_)
  obtain ⟨rfl, a, xs, rfl, hx, q⟩ := q2
  cases r1
  cases pk with
  | int i u =>
    have I4 : Inv X pins σ H2 { s3 with heap := s3.heap.push { cls := .type "slice", data := .fields #[.none, .none, .int (-1) u] } } := I3.kept (t' := s3.toks) fun b ob z => Heap.get?_push_of_some _ z
    obtain ⟨hT, hg⟩ := turn_read I4 (Heap.IsSliceOf.new ..) hx q
    exact tail_any (ops := [.ref a, .ref s3.heap.objs.size]) hT slot_tuple_getitem.lookup hg (by with_unfolding_all rfl)
end
/-! ### raise X(), X an own error with an __init__(self) that passes -/
def tMkO0 (C : Addr) : St → Hp → XK → Prop := fun _ H Q => Q (.ref C) none H
def sp_pass : Sp := fun vs H Q _ => ∃ a, vs = [.ref a] ∧ Q .non H
section
variable {X : Cx}
theorem mk_end00 {pins : List (Addr × Obj)} {σ : L2.St} {H1 : Hp} {hp hp2 h2 : Heap} {g1 g2 : Array GenState} {d1 d2 : Drawn} {t1 t2 : Nat} {os1 os2 : OsState} {a C : Addr} (I1 : Inv X pins σ H1 ⟨hp, g1, d1, t1, os1⟩)
    (ha : hp.objs.size ≤ a) (k : ∀ b o, hp.get? b = some o → hp2.get? b = some o) (un : Un (frs X.stack) [] (upd H1 a (exo a C none)) (upd H1 a (exo a C none)) hp2 h2) (hok : HOk X.prog X.w (upd H1 a (exo a C none)) h2) (ho : os2 = os1) (hb : AllBare g2) :
    ∃ (t0 : Addr) (G : Heap), Inv X pins σ H1 ⟨G, g2, d2, t2, os2⟩ ∧ (∀ b o, G.get? b = some o → h2.get? b = some o) ∧ G.get? a = none ∧
      h2.get? a = some ({ cls := .ref C, dict := none, data := .fields #[.ref t0, .none, .none, .none, .bool false, .none] } : Obj) := by
  have ea : (upd H1 a (exo a C none)) a = some (exo a C none) := upd_same
  obtain ⟨t0, hoe⟩ := exo_at hok ea
  have hn : H1 a = none := I1.hok.fresh ha
  obtain ⟨G, g1', g2'⟩ := restrict h2 fun b => decide (b ≠ a)
  have gk : ∀ b, b ≠ a → G.get? b = h2.get? b := fun b hb => g1' b (decide_eq_true hb)
  have ge : G.get? a = none := g2' a (by simp)
  have nha : ∀ {b : Addr} {o : Obj}, hp.get? b = some o → b ≠ a := fun {b o} z => Nat.ne_of_lt (Nat.lt_of_lt_of_le (Heap.lt_size z) ha)
  have up : ∀ {b : Addr}, b ≠ a → H1 b = none → upd H1 a (exo a C none) b = none := fun {b} hb n => by rw [upd_ne hb]; exact n
  have U : Un (frs X.stack) [] H1 H1 hp G := {
    keep := fun b o z n hf hx => by
      rw [gk b (nha z)]
      exact un.keep b o (k b o z) (up (nha z) n) hf hx
    slot := fun b o z n hf hx => by
      rw [gk b (nha z)]
      exact un.slot b o (k b o z) (up (nha z) n) hf hx
    free := fun b o z n hx => n
    there := fun b o z hx => by
      rw [gk b (nha z)]
      exact un.there b o (k b o z) hx
    tups := fun b xs z => z
    frzs := fun b o v z => z
    tbls := fun b ps z => ⟨#[], by simpa using z⟩ }
  have hok3 : HOk X.prog X.w H1 G := fun b o z => by
    have hba : b ≠ a := fun e => by
      rw [e, hn] at z
      cases z
    have z' : (upd H1 a (exo a C none)) b = some o := by rw [upd_ne hba]; exact z
    have noa : ∀ {c : Addr}, (upd H1 a (exo a C none)) c = some (.own b) → c ≠ a := fun {c} hc => at_ne ea hc exo_own
    exact (hok b o z').stay (fun c v hc y => by
        have hca : c ≠ a := by
          rcases hc with hc | hc
          · rw [hc]
            exact hba
          · exact noa hc
        rw [gk c hca]
        exact y)
      (fun c hc => by have q := hc; rw [upd_ne (noa hc)] at q; exact q) (fun c xs hc => by have q := hc; rw [upd_ne (at_ne ea hc exo_tup)] at q; exact q)
  have J : Inv X pins σ H1 ⟨G, g2, d2, t2, os2⟩ := I1.call' (ch := []) ho U hok3 hb (fun b z => absurd z (by simp))
  refine ⟨t0, G, J, fun b o z => ?_, ge, hoe⟩
  by_cases hba : b = a
  · rw [hba, ge] at z
    cases z
  · exact (gk b hba).symm.trans z
theorem pmk_oex0 {p pos : Pos} {CX : CXT} {x : Str} {C fI : Addr} {k : Nat} {fd : FuncData} {ps : List Str} (T : OexC X.K C) (iC : PySem.W.findIn X.K (.ref C) "__init__" = some (some (.ref fI))) (tI : PySem.W.typeIn X.K (.ref fI) = some (.type "function"))
    (F1 : FnOk X.prog X.w X.K X.mg X.base CX k fI fd ps sp_pass) (hr : Room (k + 1) X.A) (hb : Binds X.K fd ps []) (hx : Passes CX X (fun _ _ _ => False)) (hg : Gl X x) (hm : X.mg x = some (.ref C))
    (hdb : (x == ("__debug__" : Str)) = false := by decide) :
    PMk X (.Call (.Name x p) [] [] pos) (tMkO0 C) := by
  intro pins s σ H Q I h
  obtain ⟨nm, q, N, bs, bm, sn, sub, ab, col, dd, k0, k1, k2, k3, k5, hC, hbm⟩ := T.cls
  refine wpAny_Call_Name_kw (ld_glob I hg hm ?_ hdb)
  refine PySem.W.callWith_K0 I.kIn T.kC ?_
  show wpAny _ _ (call (.ref C) []) _ _ _
  obtain ⟨hp, g, dr, tk, os⟩ := s
  have hsz : hp.objs.size ≤ hp.objs.size + 1 := Nat.le_succ _
  have hn : H (hp.objs.size + 1) = none := I.hok.fresh hsz
  have kk : ∀ b o, hp.get? b = some o → ((hp.push (PySem.W.kdv_tup [])).push (PySem.HandSPX.excO C hp.objs.size)).get? b = some o := fun b o e => Heap.get?_push_of_some _ (Heap.get?_push_of_some _ e)
  have hget : ((hp.push (PySem.W.kdv_tup [])).push (PySem.HandSPX.excO C hp.objs.size)).get? (hp.objs.size + 1) = some (PySem.HandSPX.excO C hp.objs.size) := by heap_get
  have I2 : Inv X pins σ (upd H (hp.objs.size + 1) (exo (hp.objs.size + 1) C none)) ⟨(hp.push (PySem.W.kdv_tup [])).push (PySem.HandSPX.excO C hp.objs.size), g, dr, tk, os⟩ :=
    I.laid (t' := tk) (a := hp.objs.size + 1) (o := exo (hp.objs.size + 1) C none) (h' := (hp.push (PySem.W.kdv_tup [])).push (PySem.HandSPX.excO C hp.objs.size)) kk hsz (exo_ok hget)
  have r2 : Vals [V.ref (hp.objs.size + 1)] [Value.ref (hp.objs.size + 1)] := .cons rfl .nil
  have hq : sp_pass [V.ref (hp.objs.size + 1)] (upd H (hp.objs.size + 1) (exo (hp.objs.size + 1) C none)) (fun v H2 => v = .non ∧ H2 = upd H (hp.objs.size + 1) (exo (hp.objs.size + 1) C none)) (fun _ _ _ => False) := ⟨_, rfl, rfl, rfl⟩
  have hl : [Value.ref (hp.objs.size + 1)].length = ps.length := by
    have e := r2.length
    rw [F1.len _ _ _ _ hq] at e
    exact e.symm
  refine wpAny_call (PySem.HandSPX.call_own F.excBase_ValueError (fun Y => PySem.HandSPX.refsVE_contains Y bm hbm) (I.kIn _ _ hC) (PySem.W.looks_findIn I.kIn iC) (fun self => PySem.W.bind_fn I.kIn self tI) (by rw [sizeLine_eq]; exact Nat.zero_le _)
    (codeAny_mono (F1.run _ X.stack _ _ ⟨[Value.ref (hp.objs.size + 1)], []⟩ [Value.ref (hp.objs.size + 1)] _ _ (fun _ _ _ => False) (hr.make C [] []) (I2.env0.make C [] []) (hb _ [Value.ref (hp.objs.size + 1)] I2.kIn hl) r2 hq) fun r s' hq' => ?_))
  cases r with
  | error er => exact hx pins σ _ _ er s' I2 hq'
  | ok fl =>
    cases fl with
    | ret u =>
      obtain ⟨v, H2, os2, bare2, un2, hok2, rv, ev, eH⟩ := hq'
      subst ev
      subst eH
      obtain ⟨h2, g2, d2, t2, os'⟩ := s'
      obtain ⟨t0, G, J, kG, ge, hoe⟩ := mk_end00 (d2 := d2) (t2 := t2) I hsz kk un2 hok2 os2 bare2
      exact ⟨rv, hp.objs.size + 1, _, _, ⟨G, g2, d2, t2, os'⟩, _, .ref C, none, rfl, J, kG, ge, hoe, ⟨rfl, rfl⟩, rfl, rfl, hn, rfl, bare2, raises_own T.exC T.tyC, h⟩
    | next => exact False.elim hq'
    | brk => exact False.elim hq'
    | cont => exact False.elim hq'
end
/-! ### enumerate over a tuple -/
abbrev enO (it : Addr) : Obj := { cls := .type "enumerate", data := .fields #[.none, .bool false, .ref it, rawInt 0, .none, .none] }
set_option maxHeartbeats 1000000 in
theorem en_new {v : Value} {o : Obj} {Hd : Heap → Prop} (B : Begins v o Hd) :
    Meets (Builtin.«enumerate.__new__» ⟨[.type "enumerate", v], []⟩) (fun _ R s => Hd s.heap ∧ R (.ok (.ret (.ref (s.heap.push o).objs.size))) { s with heap := (s.heap.push o).push (enO s.heap.objs.size) }) := .of_wp fun prog w A R s h => by
  obtain ⟨hp, g, d, tk, os⟩ := s
  obtain ⟨h1, h2⟩ := h
  have su := sub_enumerate
  have go : ∀ {A' : Around} {E : Value → Shared → Prop} {Q : Value → Shared → Prop}, Q (.ref hp.objs.size) ⟨hp.push o, g, d, tk, os⟩ → wpAny (model prog w) A' (pyIter v) Q E ⟨hp, g, d, tk, os⟩ := fun q => B.iter prog w _ _ ⟨hp, g, d, tk, os⟩ _ h1 q
  wp_walk using go
  refine wpAny_stack_any fun st => wpAny_pure ?_
  split
  · rename_i c _ _ _ _ _
    cases (c == Value.type "enumerate") <;> (wp_walk using go; exact ⟨_, rfl, h2⟩)
  · wp_walk using go
    exact ⟨_, rfl, h2⟩
theorem en_call {prog : Program} {w : World} {A : Around} {E : Value → Shared → Prop} {s : Shared} {v : Value} {o : Obj} {Hd : Heap → Prop} {Q : Value → Shared → Prop} (B : Begins v o Hd) (h1 : Hd s.heap)
    (k : ∀ h', IsEnum h' (s.heap.objs.size + 1) s.heap.objs.size 0 .none → h'.get? s.heap.objs.size = some o → (∀ b u, s.heap.get? b = some u → h'.get? b = some u) → Q (.ref (s.heap.objs.size + 1)) { s with heap := h' }) :
    wpAny (model prog w) A (call (.type "enumerate") [v]) Q E s := by
  refine callType_new F.called_enumerate (by decide) (F.typeCall_enumerate_1 _) (F.newCall_enumerate_1 _) (fun obj => F.args_object_init_2 obj _) F.entry_enumerate_new (en_new B) ⟨h1, ?_⟩
  have z : (s.heap.push o).objs.size = s.heap.objs.size + 1 := Heap.size_push ..
  show _ ∧ _
  rw [z]
  have he : IsEnum ((s.heap.push o).push (enO s.heap.objs.size)) (s.heap.objs.size + 1) s.heap.objs.size 0 .none := by
    have y := Heap.get?_push_size (s.heap.push o) (o := enO s.heap.objs.size) rfl
    rw [z] at y
    exact y
  exact ⟨⟨_, he, rfl⟩, k _ he (Heap.get?_push_of_some _ (Heap.get?_push_size _ B.free)) fun b u x => Heap.get?_push_of_some _ (Heap.get?_push_of_some _ x)⟩
/-- the tuple at a, each item in a new pair behind its place -/
def Iet (K : PySem.W.Frag) (a : Addr) : It :=
  ⟨fun i H => ∃ (xs : List V) (x : V), SqT K H a xs ∧ xs[i]? = some x, fun i H v H' => ∃ T x, v = .ref T ∧ H T = none ∧ H' = upd H T (.tup [.int (i : Nat), x]) ∧ ∀ xs, SqT K H a xs → xs[i]? = some x, fun i H => ∃ xs : List V, SqT K H a xs ∧ xs.length ≤ i⟩
theorem tup_apart {h : Heap} {it a e : Addr} {i : Nat} {z : Int} {old : Value} {its : Array Value} (he : IsEnum h e it z old) (hi : h.IsTupleIter it a i) (hp : IsTup h a its) : a ≠ it ∧ e ≠ a := by
  obtain ⟨o, ho, hc, _⟩ := hi
  obtain ⟨u, hu, hv, _⟩ := hp
  constructor
  · intro y
    rw [y, ho] at hu
    cases hu
    rw [hc] at hv
    simp at hv
  · intro y
    have he' : h.get? e = some { cls := .type "enumerate", dict := none, data := .fields #[.none, .bool false, .ref it, rawInt z, .none, old], slots := #[] } := he
    rw [y, hu] at he'
    cases he'
    simp at hv
theorem en_end {prog : Program} {w : World} {A : Around} {E : Value → Shared → Prop} {s : Shared} {e it l : Addr} {i : Nat} {items : Array Value} {old : Value} {Q : Option Value → Shared → Prop} (hh : A.handled = none) (he : IsEnum s.heap e it i old) (hit : s.heap.IsTupleIter it l i) (hl : s.heap.IsTuple l items) (hx : items[i]? = none)
    (k : ∀ h', Heap.ExtBut it s.heap h' → Q none { s with heap := h' }) : wpAny (model prog w) A (pyNext (.ref e)) Q E s := by
  have ty : s.TypeIs (.ref e) "enumerate" := ⟨_, he, rfl⟩
  unfold pyNext
  refine wpAny_bind (wpAny_attempt (wpAny_callSpecial?_slot (name := Str.ofString "__next__") ty F.slot_enumerate_next (wpAny_call_entry F.slot_enumerate_next ty F.entry_enumerate_next ?_ (F.args_enumerate_next_1 _))))
  show wpAny _ _ (field (.ref e) 2 >>= _) _ _ _
  refine wpAny_bind (wpAny_field he rfl (x := .ref it) rfl (wpAny_bind (wpAny_nextOf_tuple_end hh hit hl hx fun h' x a b => ?_)))
  obtain ⟨o, ho, hc⟩ := b
  exact wpAny_bind (wpAny_isInstance (T := "StopIteration") (b := true) ⟨o, ho, hc⟩ isSubtype_stop (wpAny_pure (k _ a)))
theorem turn_enT {P : Program} {w : World} {K : PySem.W.Frag} {elts : List Expr} {kk : Nat} {tpos : Pos} (a e it : Addr) :
    Turn P w K (.Tuple elts kk tpos) (Iet K a) [e, it] e (fun i h => (∃ old, IsEnum h e it ((i : Nat) : Int) old) ∧ h.IsTupleIter it a i ∧ e ≠ it) where
  mem := by simp
  obj := fun i h st b hb => by
    obtain ⟨⟨old, he⟩, ⟨o, ho, hc, hd⟩, _⟩ := st
    rcases (show b = e ∨ b = it by simpa using hb) with z | z
    · rw [z]
      exact ⟨_, he, fun v q => nomatch q⟩
    · rw [z]
      exact ⟨o, ho, fun v q => by rw [hd] at q; cases q⟩
  keep := fun i h h' st k => ⟨⟨st.1.choose, k e (by simp) _ st.1.choose_spec⟩, st.2.1.at fun o q => k it (by simp) o q, st.2.2⟩
  item := by
    intro X hP hw hK hc i pins s σ H E I hf st hg
    subst hP hw hK
    obtain ⟨⟨old, he⟩, hit, hne⟩ := st
    obtain ⟨xs, x, hq, hx⟩ := hg
    obtain ⟨its, rv, p, hz⟩ := I.tuple hq
    obtain ⟨u, hu, ru⟩ := rv.get hx
    obtain ⟨ai, ea⟩ := tup_apart he hit p
    have hel : e < s.heap.objs.size := Heap.lt_size he
    have hil : it < s.heap.objs.size := by
      obtain ⟨_, q, _⟩ := hit
      exact Heap.lt_size q
    have hlt : i < its.toArray.size := by
      have := (List.getElem?_eq_some_iff.mp hu).1
      simpa using this
    refine wpAny_pyNext_enum_itemC (Draws.tuple (A := X.A.in1) (show X.A.in1.handled = none from I.ok.hd hc) it a ai its.toArray) he ⟨hit, p⟩ hlt hne (by simp [hne, ea]) fun y h' tk hP ho hst hT hsz hk => ?_
    have ey : y = u := by
      have hP' : its.toArray[i]? = some y := hP
      rw [show its.toArray[i]? = some u by simpa using hu] at hP'
      exact (Option.some.inj hP').symm
    subst ey
    refine ⟨_, rfl, wpAny_letOwnedTupleGo_enum (s := { s with heap := h', toks := tk + 1 }) ho fun h2 he2 sb => ?_⟩
    have hT2 : h2.get? s.heap.objs.size = some { cls := .type "tuple", data := .seq #[.int i tk, y] } := (sb.2 _ (Nat.ne_of_gt hel)).trans hT
    have new : ObjOk X.prog X.w (upd H s.heap.objs.size (.tup [.int (i : Nat), x])) h2 s.heap.objs.size (.tup [.int (i : Nat), x]) := ⟨by show 2 ≤ sizeLine; decide, [.int i tk, y], .cons ⟨_, rfl⟩ (.cons ru .nil), ⟨_, hT2, rfl, _, rfl⟩⟩
    have J : Inv X pins σ (upd H s.heap.objs.size (.tup [.int (i : Nat), x])) { s with heap := h2, toks := tk + 1 } :=
      I.turnedNew (ch := [e, it]) (t' := tk + 1) (fun b ob hb q => (sb.2 b (fun z => hb (by simp [z]))).trans (hk b ob (fun z => hb (by simp [z])) (fun z => hb (by simp [z])) q)) hf (Nat.le_refl _) new
    refine ⟨.ref s.heap.objs.size, _, J, rfl, ⟨_, x, rfl, I.hok.fresh (Nat.le_refl _), rfl, fun ys hy => by rw [I.tuple_inj hy hq]; exact hx⟩, ⟨⟨y, by rw [show ((i + 1 : Nat) : Int) = (i : Int) + 1 by omega]; exact he2⟩, hst.1.at fun o q => (sb.2 it (Ne.symm hne)).trans q, hne⟩, fun b hb => ?_⟩
    have hb' : b < s.heap.objs.size := by
      rcases (show b = e ∨ b = it by simpa using hb) with z | z <;> rw [z] <;> assumption
    rw [upd_ne (Nat.ne_of_lt hb')]
    exact (hf b hb).1
  done := by
    intro X hP hw hK hc i pins s σ H E I hf st hg
    subst hP hw hK
    obtain ⟨⟨old, he⟩, hit, hne⟩ := st
    obtain ⟨xs, hq, hx⟩ := hg
    obtain ⟨its, rv, p, hz⟩ := I.tuple hq
    obtain ⟨ai, _⟩ := tup_apart he hit p
    obtain ⟨f0, f1, f2, f3, f4, f5⟩ := hf it (by simp)
    have hl := rv.length
    have fin : its.toArray[i]? = none := by
      simp
      omega
    exact en_end (I.ok.hd hc) he hit p fin fun h' eb => ⟨rfl, I.turned (t' := s.toks) (fun b o hb q => eb b o hb q) f0 f1 f3 f4 f5⟩
  self := fun A i s Q E st h => wpAny_pyIter_enum st.1.choose_spec h
def iEnT (K : PySem.W.Frag) (ta : TA) : TI := fun σ H R => ta σ H fun vs H1 => ∃ a xs, vs = [.ref a] ∧ SqT K H1 a xs ∧ R (Iet K a) H1
theorem pi_enT {X : Cx} {e : Expr} {ta : TA} {p pos tpos : Pos} {elts : List Expr} {kk : Nat} (hg : Gl X "enumerate") (hm : X.mg "enumerate" = none) (ha : PA X [e] ta) (hs : starEach [e] X.env = [(false, eval e X.env)] := by rfl) :
    PI X (.Tuple elts kk tpos) (.Call (.Name "enumerate" p) [e] [] pos) (iEnT X.K ta) := ⟨fun pins s σ H R I h => by
  refine Call_ (ld_blt I hg hm boot_enumerate (PyProof.Rows.callWith_type1 (thn (ha.run pos pins s σ H _ I h) fun us s1 ⟨vs, H1, I1, r1, q1⟩ => ?_) hs rfl))
  obtain ⟨a, xs, ex, hq, q⟩ := q1
  subst ex
  cases r1 with
  | cons r rr =>
    cases rr
    cases r
    obtain ⟨its, rv, p', hz⟩ := I1.tuple hq
    refine en_call (begins_tuple a its.toArray) p' fun h' he hit hk => wpAny_pyIter_enum he ?_
    have I2 : Inv X pins σ H1 { s1 with heap := h' } := I1.kept (t' := s1.toks) hk
    refine ⟨s1.heap.objs.size + 1, [s1.heap.objs.size + 1, s1.heap.objs.size], _, _, H1, rfl, I2, turn_enT a (s1.heap.objs.size + 1) s1.heap.objs.size, ⟨⟨.none, he⟩, ⟨_, hit, rfl, rfl⟩, Nat.succ_ne_self _⟩, fun b hb => ?_, q⟩
    have hle : s1.heap.objs.size ≤ b := by
      rcases (show b = s1.heap.objs.size + 1 ∨ b = s1.heap.objs.size by simpa using hb) with z | z <;> rw [z]
      · exact Nat.le_add_right _ _
      · exact Nat.le_refl _
    exact I1.fpOk hle (I1.hok.fresh hle)⟩
theorem walk_enT {K : PySem.W.Frag} {a : Addr} {xs : List V} : Walk (Iet K a) xs.length (fun H => SqT K H a xs) (YPair (fun i => some (.int (i : Nat))) (fun i => xs[i]?)) :=
  ⟨fun i H hi h => ⟨xs, xs[i], h, List.getElem?_eq_getElem hi⟩, fun H h => ⟨xs, h, Nat.le_refl _⟩, fun i H x H' hi h y => by
    obtain ⟨T, u, e1, e2, e3, e4⟩ := y
    exact ⟨T, _, u, e1, e2, e3, rfl, e4 xs h⟩⟩
/-! ### a op b op c op d -/
def tChain3 (r r' r'' : R2) (ta tb tc td : TE) : TE := fun σ H Q => ta σ H fun x H1 => tb σ H1 fun y H2 => r x y H2 fun z H3 => ∃ k, z = .bl k ∧
  (if k = true then tc σ H3 fun u H4 => r' y u H4 fun z2 H5 => ∃ k2, z2 = .bl k2 ∧ (if k2 = true then td σ H5 fun v H6 => r'' u v H6 Q else Q (.bl false) H5) else Q (.bl false) H3)
theorem pe_chain3 {X : Cx} {a b c d : Expr} {ta tb tc td : TE} {pos : Pos} {op op' op2 : CmpOp} {r r' r'' : R2} (ho : OpR X (compareOp op) r) (ho' : OpR X (compareOp op') r') (ho2 : OpR X (compareOp op2) r'') (ha : PE X a ta) (hb : PE X b tb) (hc : PE X c tc) (hd : PE X d td)
    (hm : lastMarks [op, op', op2] [b, c, d] = false := by with_unfolding_all rfl) : PE X (.Compare a [op, op', op2] [b, c, d] pos) (tChain3 r r' r'' ta tb tc td) := ⟨fun pins s σ H Q I h => by
  refine Compare_chain (thn (ha.run pins s σ H _ I h) fun v s1 ⟨x, H1, I1, r1, q1⟩ => chain_link (thn (hb.run pins s1 σ H1 _ I1 q1) fun u s2 ⟨y, H2, I2, r2, q2⟩ => thn (ho pins s2 σ H2 x y v u _ I2 r1 r2 q2) fun e s3 ⟨z, H3, I3, r3, k, ez, q3⟩ => ?_)) hm
  subst ez
  cases r3
  refine wpAny_truthy_bool ?_
  cases k with
  | false => exact ite_ff ⟨.bl false, H3, I3, rfl, q3⟩
  | true =>
    refine ite_tt (chain_link (thn (hc.run pins s3 σ H3 _ I3 q3) fun u2 s4 ⟨y2, H4, I4, r4, q4⟩ => thn (ho' pins s4 σ H4 y y2 u u2 _ I4 r2 r4 q4) fun e2 s5 ⟨z2, H5, I5, r5, k2, ez2, q5⟩ => ?_))
    subst ez2
    cases r5
    refine wpAny_truthy_bool ?_
    cases k2 with
    | false => exact ite_ff ⟨.bl false, H5, I5, rfl, q5⟩
    | true => exact ite_tt (chain_last (thn (hd.run pins s5 σ H5 _ I5 q5) fun u3 s6 ⟨y3, H6, I6, r6, q6⟩ => ho2 pins s6 σ H6 y2 y3 u2 u3 Q I6 r4 r6 q6))⟩
/-! ### rules within a comprehension, the written part named -/
section
variable {X : Cx} {K : PySem.W.Frag}
theorem ix_tupB (h : X.K = K := by rfl) : IxR X (rIxT K) := h ▸ ix_tup
theorem ix_listB (h : X.K = K := by rfl) : IxR X (rIxL K) := h ▸ ix_list
theorem op_in_seqB (h : X.K = K := by rfl) : OpR X (compareOp .In) (rIn K false) := h ▸ op_in_seq
theorem op_notIn_seqB (h : X.K = K := by rfl) : OpR X (compareOp .NotIn) (rIn K true) := h ▸ op_notIn_seq
theorem call_isiB (h : X.K = K := by rfl) : CallR X (.builtin "isinstance") (rIsi K) := h ▸ call_isi
theorem call_len_seqB (h : X.K = K := by rfl) : CallR X (.builtin "len") (fun xs H Q => ∃ p ys, xs = [.ref p] ∧ (SqL K H p ys ∨ SqT K H p ys) ∧ Q (.int ys.length) H) := h ▸ call_len_seq
theorem op_eqDB (h : X.K = K) (hu : X.A.units + 64 < cLine) : OpR X (compareOp .Eq) (rEqD K) := h ▸ op_eqD hu
theorem op_neDB (h : X.K = K) (hu : X.A.units + 64 < cLine) : OpR X (compareOp .NotEq) (rNeD K) := h ▸ op_neD hu
end
/-! ### len(set(t)), t a tuple of ints -/
def tLenSetT (K : PySem.W.Frag) (ta : TE) : TE := fun σ H Q => ta σ H fun x H1 => ∃ (l : Addr) (ns : List Int), x = .ref l ∧ SqT K H1 l (ns.map V.int) ∧ ns.length ≤ 1000 ∧ ∀ m : List Int, m.Nodup → (∀ k, k ∈ m ↔ k ∈ ns) → Q (.int (m.length : Nat)) H1
theorem pe_lenSetT {X : Cx} {a : Expr} {ta : TE} {p p2 q pos : Pos} (hg : Gl X "len") (hm : X.mg "len" = none) (hg2 : Gl X "set") (hm2 : X.mg "set" = none) (ha : PE X a ta) (hc : X.calm = true := by rfl)
    (na : starEach [a] X.env = (false, eval a X.env) :: starEach [] X.env := by rfl) : PE X (.Call (.Name "len" p) [.Call (.Name "set" p2) [a] [] q] [] pos) (tLenSetT X.K ta) := ⟨fun pins s σ H Q I h => by
  refine Call_ (ld_blt I hg hm boot_len (PyProof.Rows.callWith_builtin1 (PyProof.Rows.args_cons (Call_ (ld_blt I hg2 hm2 boot_set (PyProof.Rows.callWith_type1 (PyProof.Rows.args_cons (thn (ha.run pins s σ H _ I h) fun v s1 ⟨x, H1, I1, r1, q1⟩ => PyProof.Rows.args_nil ?_) na) na rfl))) rfl) rfl rfl))
  obtain ⟨l, ns, rfl, hq, hl, k⟩ := q1
  cases r1
  obtain ⟨its, r, pt, hz⟩ := I1.tuple hq
  refine call_set_tupI ns (I1.ok.hd hc) (show s1.heap.IsTuple l its.toArray from pt) (ints_of_vals r) (by unfold scanBound; omega) fun h' tk c R hcn hk => PyProof.Rows.args_nil ?_
  obtain ⟨o, es, ep, t, ho, hex, hd, _, nd, hm3, hb, hf, hn, _⟩ := R
  have I2 : Inv X pins σ H1 { s1 with heap := h', toks := tk } := I1.kept fun b o e => hk b o e
  refine call_len_set ho hex hd hf (by unfold scanBound at hb; omega) ⟨.int ((es.toList.map keyOf).length : Nat), H1, I2.tok _, ⟨_, by rw [List.length_map, Array.length_toList]⟩, k _ nd fun j => ?_⟩
  rw [← hm3 j, decide_eq_true_eq]⟩
/-! ### t * k, k from 1 on -/
theorem tuple_mul_one (l : Addr) (items : Array Value) (n : Nat) (dd : Option Addr) (sl : Array (Option Value)) (u : Tok) :
    Meets (Builtin.«tuple.__mul__» ⟨[.ref l, .int 1 u], []⟩) (fun _ R s => s.heap.get? l = some { cls := .type "tuple", dict := dd, data := .seq items n, slots := sl } ∧ R (.ok (.ret (Value.ref l))) s) :=
  .of_wp fun prog w A R s h => by
    obtain ⟨hp, g, d, tk, os⟩ := s
    obtain ⟨hl, h⟩ := h
    have f1 := AutoSeq1.idx_int
    wp_walk using wpAny_loadPart' hl
    repeat (first
      | (refine wpAny_ite_false (decide_eq_false (by decide)) ?_; wp_walk using wpAny_loadPart' hl)
      | (refine wpAny_ite_true (decide_eq_true (by simp)) ?_; wp_walk using wpAny_loadPart' hl))
    exact ⟨_, rfl, h⟩
def rRep1 (K : PySem.W.Frag) : R2 := fun x y H Q => ∃ l k xs, x = .ref l ∧ y = .int k ∧ SqT K H l xs ∧ xs ≠ [] ∧ 1 ≤ k ∧ k ≤ 1000 ∧ xs.length ≤ 1000 ∧ (k = 1 → Q (.ref l) H) ∧ (2 ≤ k → ∀ p, H p = none → Q (.ref p) (upd H p (.tup (List.replicate k.toNat xs).flatten)))
theorem op_rep1 {X : Cx} : OpR X (binaryOp .Mult) (rRep1 X.K) := by
  intro pins s σ H x y v u Q I rx ry h
  obtain ⟨l, k, xs, rfl, rfl, hT, hne, h1, h2, hz, q1, q2⟩ := h
  by_cases hk : k = 1
  · subst hk
    cases rx
    obtain ⟨t, rfl⟩ := ry
    obtain ⟨its, r, ⟨⟨cls, dd, data, sl⟩, ho, hc, n, hd⟩, hs⟩ := I.tuple hT
    simp only at hc hd
    subst hc hd
    exact wpAny_binaryOp_repeat_ref (T := "tuple") (U := "int") (by decide) ⟨_, ho, rfl⟩ (fun s' => typeIs_int s' 1 t) noFill_tuple_mul F.fills_int_mul F.slot_int_rmul repeat_tuple F.slot_int_index.lookup
      (call_meets F.slot_int_rmul (typeIs_int s 1 t) F.entry_int_rmul (F.args_int_rmul_2 _ _) (int_rmul_tuple 1 t l its.toArray n dd sl)
        ⟨ho, rfl, ⟨_, ho, rfl⟩, call_meets F.slot_tuple_mul ⟨_, ho, rfl⟩ F.entry_tuple_mul (F.args_tuple_mul_2 _ _) (tuple_mul_one l its.toArray n dd sl t) ⟨ho, ⟨.ref l, H, I, rfl, q1 rfl⟩⟩⟩)
  · exact op_repT pins s σ H _ _ v u Q I rx ry ⟨l, k, xs, rfl, rfl, hT, hne, by omega, h2, hz, q2 (by omega)⟩
/-! ### max(xs, default=d) of whole numbers -/
abbrev mxW : String := "max.loop"
theorem mx_args (a d : Value) : argsOk "max" ⟨[a], [(Str.ofString "default", d)]⟩ := by unfold argsOk; kernel_rfl
theorem mx_name : (toString "max" ++ toString ".loop" : String) = mxW := by decide
section
variable {prog : Program} {w : World} {A : Around} {R : Result → Shared → Prop} {J : Addr} {fp wr : List Addr} {n : Nat} {P : Nat → Value → Prop} {St : Nat → Heap → Prop} {d : Value}
theorem mx_loop (W : Walks prog w A.in1 J fp wr n P St) (bt : Nat → Nat → Bool) (hc : CmpOf prog w A.in1 .Gt P bt) (B : Addr) (hB : B ∉ fp) : ∀ (k j : Nat) (s : Shared) (vb : Value) (c : Nat), n - (j + 1) = k → j + 1 ≤ n → St (j + 1) s.heap → P (argBest bt j) vb → s.heap.get? B = some { cls := .type "list", dict := none, data := .seq #[vb, vb] c, slots := #[] } →
    (∀ v h' tk, P (argBest bt (n - 1)) v → (∀ b o, b ∉ wr → b ≠ B → s.heap.get? b = some o → h'.get? b = some o) → R (.ok (.ret v)) { s with heap := h', toks := tk }) → codeAny (model prog w) A (.builtin mxW ⟨[.ref J, .none, .ref B], [(Str.ofString "default", d)]⟩) R s := by
  have hBw : B ∉ wr := fun h => hB (W.sub _ h)
  intro k
  induction k with
  | zero =>
    intro j s vb c hk hj hst hP hs hR
    have hin : j + 1 = n := by omega
    refine codeAny_builtin PySem.F.entry_max_loop ?_
    rw [Around.under_plainId PySem.F.plain_max_loop _]
    show wpAny _ A.in1 (seqItems? (.ref B) >>= _) _ _ s
    refine wpAny_bind (wpAny_seqItems hs rfl ?_)
    show wpAny _ A.in1 (tryCatch (pyNext (.ref J)) _ >>= _) _ _ s
    refine wpAny_bind (wpAny_tryCatch (W.done s _ _ (hin ▸ hst) fun h' tk kk => ?_))
    show wpAny _ A.in1 (updateSeq B (fun _ => #[]) >>= _) _ _ _
    refine wpAny_bind (wpAny_updateSeq (kk B _ hBw hs) rfl (wpAny_bind (wpAny_letGo (wpAny_pure ?_))))
    exact hR vb _ tk (by rw [← hin]; exact hP) fun b o h1 h2 e => (Heap.get?_update_other _ _ (Ne.symm h2)).trans (kk b o h1 e)
  | succ k ih =>
    intro j s vb c hk hj hst hP hs hR
    have hlt : j + 1 < n := by omega
    refine codeAny_builtin PySem.F.entry_max_loop ?_
    rw [Around.under_plainId PySem.F.plain_max_loop _]
    show wpAny _ A.in1 (seqItems? (.ref B) >>= _) _ _ s
    refine wpAny_bind (wpAny_seqItems hs rfl ?_)
    show wpAny _ A.in1 (tryCatch (pyNext (.ref J)) _ >>= _) _ _ s
    refine wpAny_bind (wpAny_tryCatch (W.item (j + 1) s _ _ hlt hst fun v h' tk hPv hst' kk => ?_))
    have hs' := kk B _ hBw hs
    show wpAny _ A.in1 (tryCatch (holding [v, v] (richCompare .Gt v vb >>= _)) _ >>= _) _ _ _
    refine wpAny_bind (wpAny_tryCatch (wpAny_holding (wpAny_bind (hc (j + 1) (argBest bt j) v vb _ _ _ hPv hP (wpAny_bind (wpAny_holding (wpAny_truthy_bool (wpAny_bind (wpAny_letGo (wpAny_pure ?_))))))))))
    cases hb : bt (j + 1) (argBest bt j) with
    | true =>
      simp only [if_true]
      refine wpAny_bind (wpAny_updateSeq hs' rfl (wpAny_bind (wpAny_letGo ?_)))
      rw [mx_name]
      refine wpAny_pure ⟨plainId_quiet PySem.F.plain_max_loop _, ih (j + 1) _ v _ (by omega) hlt (W.frame _ _ _ hst' fun b hbf o e => (Heap.get?_update_other _ _ (fun h : B = b => hB (by rw [h]; exact hbf))).trans e) (by simp only [argBest, hb, if_true]; exact hPv) (Heap.get?_update_self _ hs' rfl) fun v2 h2 tk2 hP2 kk2 => ?_⟩
      exact hR v2 h2 tk2 hP2 fun b o h1 h2 e => kk2 b o h1 h2 ((Heap.get?_update_other _ _ (Ne.symm h2)).trans (kk b o h1 e))
    | false =>
      simp only [Bool.false_eq_true, if_false]
      refine wpAny_bind (wpAny_letGo ?_)
      rw [mx_name]
      exact wpAny_pure ⟨plainId_quiet PySem.F.plain_max_loop _, ih (j + 1) _ vb c (by omega) hlt hst' (by simp only [argBest, hb, Bool.false_eq_true, if_false]; exact hP) hs' fun v2 h2 tk2 hP2 kk2 => hR v2 h2 tk2 hP2 fun b o h1 h2 e => kk2 b o h1 h2 (kk b o h1 e)⟩
end
theorem mx_raw {prog : Program} {w : World} {A : Around} {E : Value → Shared → Prop} {s : Shared} {l : Addr} {its : List Value} {ns : List Int} {d : Value} {Q : Value → Shared → Prop} (hh : A.handled = none) (hl : s.heap.IsList l its.toArray) (hi : IntsAre its ns)
    (h0 : ns = [] → ∀ h' tk, (∀ b o, s.heap.get? b = some o → h'.get? b = some o) → Q d { s with heap := h', toks := tk })
    (h1 : ∀ h' tk M t', (∀ b o, s.heap.get? b = some o → h'.get? b = some o) → M ∈ ns → (∀ a, a ∈ ns → a ≤ M) → Q (.int M t') { s with heap := h', toks := tk }) : wpAny (model prog w) A (call (.builtin "max") [.ref l] [(Str.ofString "default", d)]) Q E s := by
  obtain ⟨xs, e⟩ := hi.allInts.items
  have hn : numsOf (intItems xs).toList = ns := by rw [← e]; exact hi.numsOf
  rw [nums_intItems] at hn
  subst hn
  rw [e] at hl
  refine PyProof.Rows.kmk_tree PySem.F.kind_max PySem.F.plain_max PySem.F.entry_max (mx_args _ _) ?_
  show wpAny _ A.in1 (Builtin.Builtins.bindParams "max" ["key", "default"] 0 ⟨[], [(Str.ofString "default", d)]⟩ >>= _) _ _ s
  refine wpAny_bind (wpAny_of_eq (show Builtin.Builtins.bindParams "max" ["key", "default"] 0 ⟨[], [(Str.ofString "default", d)]⟩ = pure [none, some d] from rfl) (wpAny_bind (wpAny_pure (wpAny_bind (iter_intList hl fun s₂ e st hfp hlI => ?_)))))
  subst e
  refine wpAny_bind (wpAny_newList ?_ (Nat.zero_le _))
  rw [mx_name]
  have W := Walks.list (prog := prog) (w := w) (A := A.in1) hh s.heap.objs.size l hlI (intItems xs)
  generalize hz : s.heap.push { cls := .type "list_iterator", data := .fields #[.ref l, .int 0 0] } = hp1 at st hfp
  have hBf : hp1.objs.size ∉ [s.heap.objs.size, l] := fun hm => Nat.lt_irrefl _ (hfp _ hm)
  have up : ∀ b o, s.heap.get? b = some o → hp1.get? b = some o := fun b o e => by rw [← hz]; exact Heap.get?_push_of_some _ e
  refine wpAny_pure ⟨plainId_quiet PySem.F.plain_max_loop _, codeAny_builtin PySem.F.entry_max_loop ?_⟩
  rw [Around.under_plainId PySem.F.plain_max_loop _]
  have gS : (hp1.push (seqObj "list" #[] 0)).get? hp1.objs.size = some { cls := .type "list", dict := none, data := .seq #[] 0, slots := #[] } := Heap.get?_push_size _ rfl
  have st2 := W.frame 0 hp1 (hp1.push (seqObj "list" #[] 0)) st fun b _ o e => Heap.get?_push_of_some _ e
  have out : ∀ b o, s.heap.get? b = some o → b ∉ [s.heap.objs.size] ∧ b ≠ hp1.objs.size ∧ (hp1.push (seqObj "list" #[] 0)).get? b = some o := fun b o e => by
    have h1 := Heap.lt_size e
    have h2 := Heap.lt_size (up b o e)
    exact ⟨by simp; exact Nat.ne_of_lt h1, Nat.ne_of_lt h2, Heap.get?_push_of_some _ (up b o e)⟩
  show wpAny _ A.in1 (seqItems? (.ref hp1.objs.size) >>= _) _ _ _
  refine wpAny_bind (wpAny_seqItems gS rfl ?_)
  show wpAny _ A.in1 (tryCatch (pyNext (.ref s.heap.objs.size)) _ >>= _) _ _ _
  by_cases hne : xs.size = 0
  · have hx : xs.toList.map (·.1) = [] := by
      rw [List.map_eq_nil_iff]
      exact List.eq_nil_of_length_eq_zero (by rw [Array.length_toList]; exact hne)
    have hn0 : (intItems xs).size = 0 := by simpa [intItems] using hne
    have st3 : (hp1.push (seqObj "list" #[] 0)).IsListIter s.heap.objs.size l (intItems xs).size ∧ (hp1.push (seqObj "list" #[] 0)).IsList l (intItems xs) := by
      rw [hn0]
      exact st2
    refine wpAny_bind (wpAny_tryCatch (W.done _ _ _ st3 fun h' tk kk => ?_))
    show wpAny _ A.in1 (rule _ >>= _) _ _ _
    refine wpAny_bind (wpAny_rule (wpAny_pure ?_))
    exact h0 hx h' tk fun b o e => kk b o (out b o e).1 (out b o e).2.2
  · have hpos : 0 < (intItems xs).size := by
      have : (intItems xs).size = xs.size := by simp [intItems]
      omega
    have hBw : hp1.objs.size ∉ [s.heap.objs.size] := fun h => hBf (W.sub _ h)
    refine wpAny_bind (wpAny_tryCatch (W.item 0 _ _ _ hpos st2 fun v h' tk hP hst' kk => ?_))
    have hs' := kk _ _ hBw gS
    show wpAny _ A.in1 (updateSeq hp1.objs.size (fun _ => #[v, v]) >>= _) _ _ _
    refine wpAny_bind (wpAny_updateSeq hs' rfl ?_)
    rw [mx_name]
    refine wpAny_pure ⟨plainId_quiet PySem.F.plain_max_loop _, mx_loop W _ (CmpOf.ints_gt (numAt xs) (fun _ _ => intItems_at)) _ hBf _ 0 _ v _ rfl hpos (W.frame _ _ _ hst' fun b hbf o e => (Heap.get?_update_other _ _ (fun h => hBf (by rw [h]; exact hbf))).trans e) hP (Heap.get?_update_self _ hs' rfl) fun v2 h2 tk2 hP2 kk2 => ?_⟩
    have hv : (intItems xs)[argBest (fun i j => decide (numAt xs i > numAt xs j)) (xs.size - 1)]? = some v2 := by simpa [intItems] using hP2
    obtain ⟨t, rfl⟩ := intItems_at hv
    obtain ⟨g1, g2⟩ := argBest_gt (numAt xs) (xs.size - 1)
    refine h1 _ _ _ t (fun b o e => kk2 b o (out b o e).1 (out b o e).2.1 ((Heap.get?_update_other _ _ (Ne.symm (out b o e).2.1)).trans (kk b o (out b o e).1 (out b o e).2.2))) ?_ fun a ha => ?_
    · rw [numAt_eq]
      exact PySem.getD_mem (by rw [List.length_map, Array.length_toList]; omega)
    · obtain ⟨j, hj, rfl⟩ := mem_getD ha
      rw [List.length_map, Array.length_toList] at hj
      have := g2 j (by omega)
      rwa [numAt_eq] at this
def rMaxD (K : PySem.W.Frag) : List V → List V → Hp → VK → Prop := fun vs zs H Q => ∃ (a : Addr) (ns : List Int) (d : V), vs = [V.ref a] ∧ zs = [d] ∧ SqL K H a (ns.map V.int) ∧ (ns = [] → Q d H) ∧ ∀ M, M ∈ ns → (∀ k, k ∈ ns → k ≤ M) → Q (.int M) H
theorem cr_maxD {X : Cx} (hc : X.calm = true) : CallRK X (.builtin "max") [Str.ofString "default"] (rMaxD X.K) := by
  intro pins s σ H xs zs us ws Q I r1 r2 h
  obtain ⟨a, ns, d, rfl, rfl, hs, q0, q1⟩ := h
  obtain ⟨its, rv, hl, _⟩ := I.list hs
  rw [Vals.ref1 r1]
  cases r2 with
  | cons rd rn =>
    cases rn
    exact mx_raw (I.ok.hd hc) hl.isList rv.ints (fun e h' tk hk => ⟨d, H, I.kept hk, rd, q0 e⟩) fun h' tk m t' hk h1 h2 => ⟨.int _, H, I.kept hk, ⟨_, rfl⟩, q1 m h1 h2⟩
theorem pe_fldB {X : Cx} {K : PySem.W.Frag} {o : Expr} {to : TE} {f : Str} {pos : Pos} (h : X.K = K) (ho : PE X o to) (hb : attributeBase o f X.env (eval o X.env) = eval o X.env := by rfl) : PE X (.Attribute o f pos) (tFld K to f) := h ▸ pe_fld ho hb
/-! ### nothing is being shown around a law: repr -/
structure RoomG (k : Nat) (A : Around) : Prop where
  rm : Room k A
  gd : A.guards = some []
structure FnOkG (P : Program) (w : World) (K : PySem.W.Frag) (mg : Str → Option Value) (base : Heap)
    (CX : CXT) (k : Nat) (f : Addr) (fd : FuncData) (ps : List Str) (sp : Sp) : Prop where
  len : ∀ xs H Q E, sp xs H Q E → xs.length = ps.length
  run : ∀ (A : Around) (outer : List Env) (s : Shared) (H : Hp) (args : Args) (us : List Value) (xs : List V)
    (Q : VK) (E : XK), RoomG k A → Env0 P w K mg base A outer s H → BindsTo s fd args (ps.zip us) → Vals xs us →
    sp xs H Q E → codeAny (model P w) A (.call (.ref f) args) (CR CX outer P w H s Q E) s
section
variable {P : Program} {w : World} {K : PySem.W.Frag} {mg : Str → Option Value} {base : Heap}
theorem FnOk.toG {CX : CXT} {k : Nat} {f : Addr} {fd : FuncData} {ps : List Str} {sp : Sp}
    (F : FnOk P w K mg base CX k f fd ps sp) : FnOkG P w K mg base CX k f fd ps sp :=
  ⟨F.len, fun A outer s H args us xs Q E z => F.run A outer s H args us xs Q E z.rm⟩
set_option maxHeartbeats 4000000 in
theorem Fun.okG {x qual : Str} {st : Stmt} {f : Addr} {fd : FuncData} {N ps : List Str} {k : Nat} {sp : Sp}
    (F : Fun K x qual st f fd) (S : FnScope N ps (defScope st))
    (len : ∀ xs H Q E, sp xs H Q E → xs.length = ps.length)
    (hbody : ∀ (cdv : Value) (A : Around) (outer : List Env) (s : Shared) (H : Hp) (xs : List V) (Q : VK) (E : XK),
      RoomG k (A.deeper (envOfC qual (defScope st) s.heap.objs.size f cdv)) → sp xs H Q E →
      ∃ t, PSs (cxOf CX0 P w K mg base N qual (defScope st) f cdv A outer s H E).nox (defBody st) t ∧
        t { nx := fun _ G => Q .non G, rt := Q } (start N xs) H) :
    FnOkG P w K mg base CX0 (k + 1) f fd ps sp := by
  obtain ⟨oc, od, kV, doc, pm, an, cdv, ct, osl, rfl, lk, hcd⟩ := F.ex
  refine ⟨len, fun A outer s H args us xs Q E hr e0 hb r hsp => ?_⟩
  have hn := len _ _ _ _ hsp
  have inK : K.In s.heap := e0.mod.kin.keeps (fun a o q => (e0.bs a o q).1)
  have noL : s.heap.NoLimit := e0.mod.nolimit.keeps (fun a o q => (e0.bs a o q).1)
  have kinds : ∀ y ∈ ps.zip us, (defScope st).names.lookup y.1 = some .local ∨
      ((defScope st).names.lookup y.1 = some .cell ∧
        ((cellsFrom (s.heap.objs.size + 1) (defScope st).names []).lookup y.1).isSome = true) := by
    rintro ⟨n, v⟩ hy
    rcases S.par n (List.of_mem_zip hy).1 with q | q
    · exact .inl q
    · exact .inr ⟨q, PySem.W.cellsFrom_some (defScope st).names (s.heap.objs.size + 1) [] (.inl q)⟩
  refine codeAny_call_function hr.rm.depth (inK _ _ lk) rfl S.co S.gen rfl (PySem.W.codeRec_of inK hcd)
    (hb _ _ _ _ ?_)
  refine wpAny_newFunctionEnv_cells S.kind kinds fun env he s1 x => ?_
  subst he
  refine ⟨noL.keeps x.toInCall.keep, codeAny_func ?_⟩
  obtain ⟨t, ht, hq⟩ := hbody cdv A outer s H xs Q E ⟨hr.rm.deeper _, hr.gd⟩ hsp
  have ht' := ht.nox
  have J0 := inv_start (CX := CX0) (P := P) (w := w) (cd := cdv) (f := f) (qual := qual) (E := E) S hr.rm.hd e0 hn r x
  refine wpAny_mono (ht'.run [] s1 (start N xs) H _ J0 hq) (fun fl s' hs => ?_) fun e s' hs => hs
  have fin : ∀ {τ : St} {G : Hp} {y : V} {u : Value},
      Inv (cxOf CX0 P w K mg base N qual (defScope st) f cdv A outer s H E) [] τ G s' → RelV y u → Q y G →
      CE outer P w H s Q u s' := by
    intro τ G y u J ry q
    exact ⟨y, G, J.os, J.bare, J.base, J.hok, ry, q⟩
  cases fl with
  | ret u =>
    obtain ⟨y, τ, G, J, ry, q⟩ := hs
    exact fin J ry q
  | next =>
    obtain ⟨τ, G, J, q⟩ := hs
    exact fin (y := V.non) (u := Value.none) J rfl q
  | brk =>
    obtain ⟨_, _, _, q⟩ := hs
    exact q.elim
  | cont =>
    obtain ⟨_, _, _, q⟩ := hs
    exact q.elim
end
set_option maxHeartbeats 4000000 in
/-- a law's promise at its caller, where nothing is being shown -/
theorem law_callG {P : Program} {w : World} {K : PySem.W.Frag} {mg mb : Str → Option Value} {CX : CXT} {k : Nat}
    {fa a : Addr} {fd : FuncData} {x : Str} {sp : Sp} {s : Shared} {vs : List Value} {ns : List Int}
    (kx : K.In s.heap) (hns : s.heap.Ns mainGlobals mg) (hb : s.heap.Ns builtinsNs mb)
    (hbb : ∀ x : Str, x ≠ "__name__" → mb x = bootBuiltins x) (hlim : s.heap.NoLimit) (hg : s.gens = #[])
    (ha : s.heap.get? a = some { cls := .type "list", data := .seq vs.toArray }) (hi : IntsAre vs ns)
    (hl : ns.length ≤ sizeLine) (hr : Room k callerA)
    (F : ∀ base : Heap, K.In base → base.Ns mainGlobals mg → FnOkG P w K mg base CX k fa fd [x] sp)
    (hbind : ∀ (t : Shared) (u : Value), BindsTo t fd ⟨[u], []⟩ [(x, u)])
    (hsp : ∀ H : Hp, Only H → SqL K H a (ns.map V.int) → sp [.ref a] H (fun v _ => v = .bl true) fun _ _ _ => False)
    (hCX : ∀ H e t, CX [] H s (fun _ _ _ => False) e t → False) :
    codeAny (model P w) callerA (.call (.ref fa) ⟨[.ref a], []⟩)
      (fun r t => r = .ok (.ret (.bool true)) ∧ OldK s.heap t.heap ∧ t.os = s.os ∧ AllBare t.gens) s := by
  have rv := vals_ints hi
  have lenV := hi.length
  have core : ∀ H : Hp, Only H → SqL K H a (ns.map V.int) → HOk P w H s.heap → (∀ b, H b ≠ none → b = a) →
      (H a ≠ none → K.lookup a = none) → codeAny (model P w) callerA (.call (.ref fa) ⟨[.ref a], []⟩)
      (fun r t => r = .ok (.ret (.bool true)) ∧ OldK s.heap t.heap ∧ t.os = s.os ∧ AllBare t.gens) s := by
    intro H hO hS hok hA hK
    have noA : ∀ {b : Addr} {o : Obj} {es : Array DictEntry} {ep : Nat}, s.heap.get? b = some o →
        o.data = .dict es ep → H b = none := by
      intro b o es ep e d
      cases q : H b with
      | none => rfl
      | some u =>
        obtain rfl : b = a := hA b (by rw [q]; exact fun z => nomatch z)
        rw [ha] at e
        cases e
        exact nomatch (show Data.seq vs.toArray _ = Data.dict es ep from d)
    have nsK : ∀ {b : Addr} {m : Str → Option Value}, s.heap.Ns b m → (hidT s.heap H).Ns b m := by
      rintro b m ⟨o, es, ep, e, d, r⟩
      exact ⟨o, es, ep, hidT_get e (noA e d), d, r⟩
    have hKb : K.In (hidT s.heap H) := by
      intro b o e
      refine hidT_get (kx b o e) ?_
      cases q : H b with
      | none => rfl
      | some u =>
        obtain rfl : b = a := hA b (by rw [q]; exact fun z => nomatch z)
        rw [hK (by rw [q]; exact fun z => nomatch z)] at e
        exact nomatch e
    have hM : Mod K mg (hidT s.heap H) := by
      obtain ⟨mc, h1, h2⟩ := hlim
      exact ⟨hKb, nsK hns, ⟨mb, nsK hb, hbb⟩, mc, nsK h1, h2⟩
    have e0 : Env0 P w K mg (hidT s.heap H) callerA [] s H :=
      ⟨rfl, hM, fun _ _ e => of_hidT e, Nat.le_of_eq (hidT_size _ _), trivial, fun b z => (nomatch z), hok, .of_eq hg⟩
    have go := (F _ hKb (nsK hns)).run callerA [] s H ⟨[.ref a], []⟩ [.ref a] [.ref a] _ _ ⟨hr, rfl⟩ e0
      (hbind s (.ref a)) (.cons rfl .nil) (hsp H hO hS)
    refine codeAny_mono go fun r t h => ?_
    cases r with
    | error e => exact (hCX H e t h).elim
    | ok fl =>
      cases fl with
      | next => exact h.elim
      | brk => exact h.elim
      | cont => exact h.elim
      | ret u =>
        obtain ⟨y, G, os, bare, un, hok', ry, q⟩ := h
        obtain rfl : y = .bl true := q
        obtain rfl : u = Value.bool true := ry
        refine ⟨rfl, OldK.of_keep fun b o e => ?_, os, bare⟩
        cases q : H b with
        | none => exact un.keep b o e q (fun z => (nomatch z)) (by simp)
        | some u =>
          rcases hO b with z | ⟨ob, xs, z⟩
          · rw [q] at z
            exact nomatch z
          · obtain ⟨e1, _⟩ := hok b _ z
            obtain ⟨e2, _⟩ := hok' b _ (un.frzs b ob _ z)
            rw [e] at e1
            cases e1
            exact e2
  cases hk : K.lookup a with
  | some o =>
    have e := kx a o hk
    rw [ha] at e
    cases e
    refine core (fun _ => none) (fun _ => .inl rfl) (.inr ⟨_, vs.toArray, _, hk, rfl, rfl, rfl, ?_, ?_⟩)
      (fun b u z => nomatch (show (none : Option HO) = some u from z)) (fun b z => absurd rfl z) fun z => absurd rfl z
    · rw [List.size_toArray, lenV]
      exact hl
    · simpa using rv
  | none =>
    let ob : Obj := { cls := .type "list", data := .seq vs.toArray }
    refine core (fun b => if b = a then some (.frz ob (.lst (ns.map V.int))) else none) (fun b => ?_)
      (.inl (.inr ⟨ob, if_pos rfl⟩)) (fun b u z => ?_) (fun b z => ?_) fun _ => hk
    · by_cases hb : b = a
      · exact .inr ⟨_, _, if_pos hb⟩
      · exact .inl (if_neg hb)
    · by_cases hb : b = a
      · cases (if_pos hb).symm.trans z
        subst hb
        exact ⟨ha, by rw [List.length_map]; exact hl, vs, _, rv, ha⟩
      · exact nomatch (if_neg hb).symm.trans z
    · by_cases hb : b = a
      · exact hb
      · exact absurd (if_neg hb) z
theorem walk_ofG {l : PySem.W.OpenLaw} {n k : Nat} {q : Program} {loose : List Str}
    {XP : (Str → Option Value) → Heap → Prop} {YP : World → Heap → Prop} {d : DefRec} {K : Params → PySem.W.Frag}
    {CX : World → CXT} {sp : World → Sp} {x : Str} (hn : l.most = some n) (hz : n ≤ sizeLine)
    (hdf : d.params.defaults = []) (hr : Room k callerA) (hY : ∀ (w : World) (h : Heap), YP w h → (K w.params).In h)
    (F : ∀ (w : World) (mg : Str → Option Value) (fa : Addr) (h : Heap), (K w.params).In h → h.Ns mainGlobals mg →
      mg d.name = some (.ref fa) → ∃ fd : FuncData, (∀ (t : Shared) (u : Value), BindsTo t fd ⟨[u], []⟩ [(x, u)]) ∧
        ∀ base : Heap, (K w.params).In base → base.Ns mainGlobals mg →
          FnOkG l.prog w (K w.params) mg base (CX w) k fa fd [x] (sp w))
    (hsp : ∀ (w : World) (H : Hp) (a : Addr) (ns : List Int), ns.length ≤ n → Only H →
      SqL (K w.params) H a (ns.map V.int) → sp w [.ref a] H (fun v _ => v = .bl true) fun _ _ _ => False)
    (hCX : ∀ (w : World) (H : Hp) (s : Shared) (e : Value) (t : Shared), CX w [] H s (fun _ _ _ => False) e t → False) :
    PySem.W.WalkO q loose XP YP l.row.toRowW d [] (fun f vs => PySem.call f vs) := by
  refine Att.attach_call hn hdf fun w s₀ s mg mb fa o pm cd doc a vs ns G Y ho hd hcd hmg hobj hints hlen hg => ?_
  obtain ⟨fd, hb, hF⟩ := F w mg fa s.heap (hY w _ Y) G.T.g hmg
  exact law_callG (hY w _ Y) G.T.g G.T.b G.T.builtins G.T.nolimit hg hobj hints (Nat.le_trans hlen hz) hr hF hb
    (fun H hO hS => hsp w H a ns hlen hO hS) fun H e t => hCX w H s e t
/-- repr of data without dicts -/
def rRepr (K : PySem.W.Frag) : List V → Hp → VK → Prop := fun xs H Q => ∃ v d, xs = [v] ∧ Dp K H v d ∧
  d.showable = true ∧ d.hasDict = false ∧ d.depth ≤ 60 ∧ d.shown.length ≤ sizeLine ∧ Q (.str d.shown) H
theorem cr_repr {X : Cx} {K : PySem.W.Frag} (hK : X.K = K) (hg : X.A.guards = some []) (hu : X.A.units + 64 < cLine) :
    CallR X (.builtin "repr") (rRepr K) := by
  subst hK
  intro pins s σ H xs us Q I r h
  obtain ⟨v, d, rfl, hd, h1, h2, h3, h4, q⟩ := h
  cases r with
  | cons rv rt =>
    rename_i u ut
    cases rt
    obtain ⟨as, rd⟩ := Dp.reads I d v u hd rv
    cases hd with
    | non =>
      cases rv
      exact PySem.P.repr_of_none ⟨.str _, H, I.tok _, ⟨_, rfl⟩, by simpa only [PyData.shown] using q⟩
    | bl b =>
      cases rv
      exact PySem.P.repr_of_bool ⟨.str _, H, I.tok _, ⟨_, rfl⟩, by simpa only [PyData.shown] using q⟩
    | int i =>
      obtain ⟨t, rfl⟩ := rv
      exact PySem.P.repr_of_int (by simpa [PyData.showable] using h1)
        ⟨.str _, H, I.tok _, ⟨_, rfl⟩, by simpa only [PyData.shown] using q⟩
    | str x =>
      obtain ⟨t, rfl⟩ := rv
      exact PySem.P.repr_of_str ⟨.str _, H, I.tok _, ⟨_, rfl⟩, by simpa only [PyData.shown] using q⟩
        (by simpa only [PyData.shown] using h4)
    | lst hs ha =>
      cases rv
      exact repr_of_reads' rd h1 (PyData.noDict_hsm h2) hg (by omega) (fun _ _ e => e)
        (fun h' u tk hk => ⟨.str _, H, I.kept hk, ⟨_, rfl⟩, q⟩) h4
    | tup hs ha =>
      cases rv
      exact repr_of_reads' rd h1 (PyData.noDict_hsm h2) hg (by omega) (fun _ _ e => e)
        (fun h' u tk hk => ⟨.str _, H, I.kept hk, ⟨_, rfl⟩, q⟩) h4
theorem Room.u65 {k : Nat} {A : Around} (r : Room k A) : A.units + 65 < cLine := by
  have := r.un
  omega
/-! ### a thing in a list of tuples, the thing a dict among others -/
theorem dict_no_tuple (l b : Addr) (es : Array DictEntry) (items : Array Value) (n ep : Nat) (dd dd2 : Option Addr) (sl sl2 : Array (Option Value)) :
    Meets (Builtin.«dict.__eq__» ⟨[.ref l, .ref b], []⟩) (fun _ R s => s.heap.get? l = some { cls := .type "dict", dict := dd, data := .dict es ep, slots := sl } ∧
      s.heap.get? b = some { cls := .type "tuple", dict := dd2, data := .seq items n, slots := sl2 } ∧ R (.ok (.ret .notImplemented)) s) :=
  .of_wp fun prog w A R s h => by
    obtain ⟨hp, g, d, tk, os⟩ := s
    obtain ⟨hl, hb, h⟩ := h
    have f1 := PySem.F.sub_tuple_dict
    wp_walk using wpAny_loadPart' hl, wpAny_loadPart' hb
    exact ⟨_, rfl, h⟩
theorem tuple_no_dict (l b : Addr) (es : Array DictEntry) (items : Array Value) (n ep : Nat) (dd dd2 : Option Addr) (sl sl2 : Array (Option Value)) :
    Meets (Builtin.«tuple.__eq__» ⟨[.ref l, .ref b], []⟩) (fun _ R s => s.heap.get? l = some { cls := .type "tuple", dict := dd, data := .seq items n, slots := sl } ∧
      s.heap.get? b = some { cls := .type "dict", dict := dd2, data := .dict es ep, slots := sl2 } ∧ R (.ok (.ret .notImplemented)) s) :=
  .of_wp fun prog w A R s h => by
    obtain ⟨hp, g, d, tk, os⟩ := s
    obtain ⟨hl, hb, h⟩ := h
    have f1 := PySem.F.sub_dict_tuple
    wp_walk using wpAny_loadPart' hl, wpAny_loadPart' hb
    exact ⟨_, rfl, h⟩
open SeqAt in
theorem rc_tuple_dict {A : Around} {s : Shared} {l b : Addr} {o : Obj} {es : Array DictEntry} {ep : Nat} {items : Array Value} (hl : s.heap.IsTuple l items)
    (ho2 : s.heap.get? b = some o) (hx : o.ExactDict) (hdt : o.data = .dict es ep) (hu : A.units < cLine) : l ≠ b ∧ RcAt A s (.ref l) (.ref b) false := by
  obtain ⟨⟨cls, dd, data, sl⟩, ho, hc, n, hd⟩ := id hl
  obtain ⟨cls2, dd2, data2, sl2⟩ := o
  obtain ⟨hc2, hdd, hsl⟩ := hx
  simp only at hc hd hc2 hdt
  subst hc hd hc2 hdt
  have hne : l ≠ b := fun e => by
    subst e
    exact absurd (congrArg Obj.cls (Option.some.inj (ho.symm.trans ho2))) (by simp)
  refine ⟨hne, fun prog w E Q h => ?_⟩
  exact rc_eq_decline_or (k := false) ⟨_, ho, rfl⟩ ⟨_, ho2, rfl⟩ (by decide) PySem.F.sub_dict_tuple PySem.F.slot_tuple_eq PySem.F.slot_dict_eq_refl
    (fun _ hq => call_meets PySem.F.slot_tuple_eq ⟨_, ho, rfl⟩ PySem.F.entry_tuple_eq (PySem.F.args_tuple_eq_2 _ _) (tuple_no_dict l b es items n ep dd dd2 sl sl2) ⟨ho, ho2, hq⟩)
    (fun _ hq => call_meets PySem.F.slot_dict_eq_refl ⟨_, ho2, rfl⟩ PySem.F.entry_dict_eq (PySem.F.args_dict_eq_2 _ _) (dict_no_tuple b l es items n ep dd2 dd sl2 sl) ⟨ho2, ho, hq⟩)
    (fun _ hq => wpAny_isSame_ref_other' hne ho ho2 (by simp) hq) (.inr hu) h
/-- x in a list of tuples: x a dict, or data -/
def rInM (K : PySem.W.Frag) : R2 := fun x y H Q => rInD K x y H Q ∨ ∃ (a p : Addr) (kvs : List (Key × V)) (as : List Addr), x = .ref a ∧ y = .ref p ∧ H a = some (.dK kvs) ∧ SqL K H p (as.map V.ref) ∧ (∀ t ∈ as, ∃ zs, SqT K H t zs) ∧ Q (.bl false) H
theorem op_inM {X : Cx} {K : PySem.W.Frag} (hK : X.K = K) (hu : X.A.units + 65 < cLine) : OpR X (compareOp .In) (rInM K) := by
  subst hK
  intro pins s σ H x y v u Q I rx ry h
  rcases h with h | ⟨a, p, kvs, as, rfl, rfl, ha, hp, ht, q⟩
  · exact op_inD hu pins s σ H x y v u Q I rx ry h
  · cases rx
    cases ry
    obtain ⟨its, rv, ⟨o, n, ho, hc, _, hd⟩, _⟩ := I.list hp
    obtain ⟨_, _, vs, _, od, es, ep, e1, e2, e3, _⟩ := I.hok a _ ha
    refine SeqAt.in_listAt (items := its.toArray) (fun _ => false) ⟨o, ho, hc, n, hd⟩ (fun y hy => ?_) ?_
    · have hm : y ∈ its := by simpa using hy
      obtain ⟨i, hi, e⟩ := List.mem_iff_getElem.mp hm
      have hl := rv.length
      rw [List.length_map] at hl
      have hia : i < as.length := by omega
      obtain ⟨u, hu1, hu2⟩ := rv.get (i := i) (x := .ref as[i]) (by rw [List.getElem?_map, List.getElem?_eq_getElem hia] <;> rfl)
      rw [List.getElem?_eq_getElem hi, e] at hu1
      cases hu1
      cases hu2
      obtain ⟨zs, hz⟩ := ht _ (List.getElem_mem hia)
      obtain ⟨its2, _, hT, _⟩ := I.tuple hz
      obtain ⟨hne, hr⟩ := rc_tuple_dict (A := X.A.in1) (s := s) (l := as[i]) (b := a) hT e1 e2 e3 (by show X.A.units + 1 < cLine; omega)
      exact .of_refs hne hr
    · have e : (its.toArray.any fun _ => false) = false := by simp
      exact ⟨.bl _, H, I, by rw [e] <;> rfl, q⟩
/-! ### things told whole: lists and dicts with what is in them -/
def keyD : Key → PyData
  | .inl i => .int i
  | .inr x => .str x
mutual
inductive Tg (K : PySem.W.Frag) (H : Hp) : V → PyData → Prop
  | non : Tg K H .non .none
  | bl (b : Bool) : Tg K H (.bl b) (.bool b)
  | int (i : Int) : Tg K H (.int i) (.int i)
  | str (x : Str) : Tg K H (.str x) (.str x)
  | lst {a : Addr} {xs : List V} {ds : List PyData} : SqL K H a xs → TgAll K H xs ds → Tg K H (.ref a) (.list ds)
  | tup {a : Addr} {xs : List V} {ds : List PyData} : SqT K H a xs → TgAll K H xs ds → Tg K H (.ref a) (.tuple ds)
  | dic {a : Addr} {kvs : List (Key × V)} {ds : List PyData} : H a = some (.dK kvs) → TgAll K H (kvs.map (·.2)) ds → Tg K H (.ref a) (.dict ((kvs.map fun kv => keyD kv.1).zip ds))
inductive TgAll (K : PySem.W.Frag) (H : Hp) : List V → List PyData → Prop
  | nil : TgAll K H [] []
  | cons {v : V} {vs : List V} {d : PyData} {ds : List PyData} : Tg K H v d → TgAll K H vs ds → TgAll K H (v :: vs) (d :: ds)
end
theorem TgAll.length {K : PySem.W.Frag} {H : Hp} : ∀ {vs : List V} {ds : List PyData}, TgAll K H vs ds → vs.length = ds.length
  | _, _, .nil => rfl
  | _, _, .cons _ r => congrArg (· + 1) r.length
mutual
/-- no list, no dict in it -/
def afD : PyData → Bool
  | .list _ => false
  | .dict _ => false
  | .tuple xs => afAll xs
  | _ => true
def afAll : List PyData → Bool
  | [] => true
  | x :: r => afD x && afAll r
end
mutual
/-- no dict in a list, nothing that may change in a dict -/
def dlD : PyData → Bool
  | .list xs => !PyData.hasDictAll xs
  | .dict kvs => afAll (kvs.map (·.2))
  | .tuple xs => dlAll xs
  | _ => true
def dlAll : List PyData → Bool
  | [] => true
  | x :: r => dlD x && dlAll r
end
theorem key_read {h : Heap} {k : Key} {v : Value} (p : keyIs k v = true) : Reads h v (keyD k) [] := by
  rcases keyIs_shape p with ⟨i, t, e1, e2⟩ | ⟨x, t, e1, e2⟩
  · rw [e1, e2]
    exact .int i t
  · rw [e1, e2]
    exact .str x t
theorem readsAll_one {h : Heap} {v : Value} {d : PyData} {vs : List Value} {ds : List PyData} (a : Reads h v d []) (b : ReadsAll h vs ds []) : ReadsAll h (v :: vs) (d :: ds) [] := by
  have := ReadsAll.cons a b
  simpa using this
theorem keys_read {P : Program} {w : World} {h : Heap} : ∀ {es : List DictEntry} {kvs : List (Key × V)} {vs : List (Key × Value)}, KV kvs vs → Pairs (mixKind P w) es vs →
    ReadsAll h (es.map (·.key)) (kvs.map fun kv => keyD kv.1) [] ∧ es.map (·.val) = vs.map (·.2) ∧ Vals (kvs.map (·.2)) (vs.map (·.2)) ∧ es.length = kvs.length
  | _, _, _, .nil, .nil => ⟨.nil, rfl, .nil, rfl⟩
  | _, _, _, .cons q r, .cons p p2 s => by
    obtain ⟨i1, i2, i3, i4⟩ := keys_read (h := h) r s
    obtain ⟨q1, q2⟩ := q
    rename_i a b l1 l2 e es
    have hk : Reads h e.key (keyD a.1) [] := by
      rw [q1]
      exact key_read p
    refine ⟨readsAll_one hk i1, ?_, .cons q2 i3, ?_⟩
    · rw [List.map_cons, List.map_cons, i2, p2]
    · rw [List.length_cons, List.length_cons, i4]
theorem zip_fst {α β : Type} : ∀ {l : List α} {m : List β}, l.length = m.length → (l.zip m).map (·.1) = l
  | [], [], _ => rfl
  | a :: l, b :: m, h => by
    rw [List.zip_cons_cons, List.map_cons, zip_fst (by simpa using h)]
theorem zip_snd {α β : Type} : ∀ {l : List α} {m : List β}, l.length = m.length → (l.zip m).map (·.2) = m
  | [], [], _ => rfl
  | a :: l, b :: m, h => by
    rw [List.zip_cons_cons, List.map_cons, zip_snd (by simpa using h)]
section
variable {X : Cx} {pins : List (Addr × Obj)} {σ : St} {H : Hp} {s : Shared}
mutual
theorem Tg.reads (I : Inv X pins σ H s) : ∀ {v : V} {d : PyData} {u : Value}, Tg X.K H v d → RelV v u → ∃ as, Reads s.heap u d as ∧ (afD d = true → as = [])
  | _, _, _, .non, r => by
    cases r
    exact ⟨_, .none, fun _ => rfl⟩
  | _, _, _, .bl b, r => by
    cases r
    exact ⟨_, .bool b, fun _ => rfl⟩
  | _, _, _, .int i, r => by
    obtain ⟨t, rfl⟩ := r
    exact ⟨_, .int i t, fun _ => rfl⟩
  | _, _, _, .str x, r => by
    obtain ⟨t, rfl⟩ := r
    exact ⟨_, .str x t, fun _ => rfl⟩
  | _, _, _, .lst hs ha, r => by
    cases r
    obtain ⟨its, rv, ⟨o, n, ho, hc, _, hd⟩, _⟩ := I.list hs
    obtain ⟨as, hr, _⟩ := TgAll.reads I ha rv
    exact ⟨_, .list ho hc hd hr, fun z => nomatch z⟩
  | _, _, _, .tup hs ha, r => by
    cases r
    obtain ⟨its, rv, ⟨o, ho, hc, n, hd⟩, _⟩ := I.tuple hs
    obtain ⟨as, hr, hf⟩ := TgAll.reads I ha rv
    exact ⟨_, .tuple ho hc hd hr, hf⟩
  | _, _, _, .dic hs ha, r => by
    cases r
    obtain ⟨_, _, vs, kv, o, es, ep, e1, ⟨e2, _⟩, e3, _, e4, _⟩ := I.hok _ _ hs
    obtain ⟨k1, k2, k3, k4⟩ := keys_read (h := s.heap) kv e4
    obtain ⟨as, hr, _⟩ := TgAll.reads I ha k3
    have hl := ha.length
    rw [List.length_map] at hl
    refine ⟨_, .dict e1 e2 e3 (as := []) (bs := as) ?_ ?_, fun z => nomatch z⟩
    · rw [zip_fst (by rw [List.length_map]; exact hl)]
      exact k1
    · rw [zip_snd (by rw [List.length_map]; exact hl), k2]
      exact hr
theorem TgAll.reads (I : Inv X pins σ H s) : ∀ {vs : List V} {ds : List PyData} {us : List Value}, TgAll X.K H vs ds → Vals vs us → ∃ as, ReadsAll s.heap us ds as ∧ (afAll ds = true → as = [])
  | _, _, _, .nil, r => by
    cases r
    exact ⟨_, .nil, fun _ => rfl⟩
  | _, _, _, .cons h1 h2, r => by
    cases r with
    | cons r1 r2 =>
      obtain ⟨as, q1, f1⟩ := Tg.reads I h1 r1
      obtain ⟨bs, q2, f2⟩ := TgAll.reads I h2 r2
      refine ⟨_, .cons q1 q2, fun z => ?_⟩
      simp only [afAll, Bool.and_eq_true] at z
      rw [f1 z.1, f2 z.2]
      rfl
end
/-- what is needed to show it -/
def Shows (P : Program) (w : World) (h : Heap) (u : Value) (d : PyData) : Prop := (∃ as, Reads h u d as) ∧ ∃ bs, ReadAtMost h d.depth bs ∧ ReprK P w bs h d.depth u d.shown
mutual
theorem Tg.shows (I : Inv X pins σ H s) : ∀ {v : V} {d : PyData} {u : Value}, Tg X.K H v d → RelV v u → dlD d = true → d.showable = true → d.shown.length ≤ sizeLine → Shows X.prog X.w s.heap u d
  | _, _, _, .tup (a := a) (ds := ds) hs ha, r, hd, hw, hz => by
    obtain ⟨as, rd, _⟩ := Tg.reads I (.tup hs ha) r
    cases r
    obtain ⟨its, rv, ⟨o, ho, hc, n, hdt⟩, _⟩ := I.tuple hs
    have hz' : (tupleText (PyData.shownAll ds)).length ≤ sizeLine := by simpa only [PyData.shown] using hz
    obtain ⟨bs, hb, hk⟩ := TgAll.shows I ha rv (by simpa [dlD] using hd) (by simpa [PyData.showable] using hw) (fun t ht => Nat.le_trans (tupleText_mem_le ht) hz')
    have hna : a ∉ bs := not_mem_of_deeper rd (by simp only [PyData.depth]; omega) hb
    refine ⟨⟨_, rd⟩, a :: bs, ReadAtMost.cons rd (by simp only [PyData.depth]; omega) hb, ?_⟩
    simp only [PyData.depth, PyData.shown]
    exact ReprK.tuple ho hc hdt hna hk
  | _, _, u, .lst (a := a) (ds := ds) hs ha, r, hd, hw, hz => by
    obtain ⟨as, rd, _⟩ := Tg.reads I (.lst hs ha) r
    have hn : PyData.hasDict (.list ds) = false := by
      simp only [PyData.hasDict]
      simpa [dlD] using hd
    exact ⟨⟨_, rd⟩, ReprK.of_reads rd hw (PyData.noDict_hsm hn) hz⟩
  | _, _, u, .dic (a := a) (kvs := kvs) (ds := ds) hs ha, r, hd, hw, hz => by
    cases r
    obtain ⟨_, hsys, vs, kv, o, es, ep, e1, ⟨e2, _⟩, e3, _, e4, _⟩ := I.hok _ _ hs
    obtain ⟨k1, k2, k3, k4⟩ := keys_read (h := s.heap) kv e4
    obtain ⟨as, hr, hf⟩ := TgAll.reads I ha k3
    have hl := ha.length
    rw [List.length_map] at hl
    simp only [dlD] at hd
    rw [zip_snd (by rw [List.length_map]; exact hl)] at hd
    have has := hf hd
    subst has
    have rd : Reads s.heap (.ref a) (.dict ((kvs.map fun kv => keyD kv.1).zip ds)) (a :: [] ++ []) := .dict e1 e2 e3 (as := []) (bs := []) (by rw [zip_fst (by rw [List.length_map]; exact hl)]; exact k1) (by rw [zip_snd (by rw [List.length_map]; exact hl), k2]; exact hr)
    refine ⟨⟨_, rd⟩, ReprK.of_reads rd hw (fun _ hm => ?_) hz⟩
    simp only [List.cons_append, List.nil_append, List.mem_singleton] at hm
    rw [← hm] at hsys
    simp at hsys
  | _, _, _, .non, r, hd, hw, hz => by
    cases r
    exact ⟨⟨_, .none⟩, ReprK.of_reads .none hw (fun h => nomatch h) hz⟩
  | _, _, _, .bl b, r, hd, hw, hz => by
    cases r
    exact ⟨⟨_, .bool b⟩, ReprK.of_reads (.bool b) hw (fun h => nomatch h) hz⟩
  | _, _, _, .int i, r, hd, hw, hz => by
    obtain ⟨t, rfl⟩ := r
    exact ⟨⟨_, .int i t⟩, ReprK.of_reads (.int i t) hw (fun h => nomatch h) hz⟩
  | _, _, _, .str x, r, hd, hw, hz => by
    obtain ⟨t, rfl⟩ := r
    exact ⟨⟨_, .str x t⟩, ReprK.of_reads (.str x t) hw (fun h => nomatch h) hz⟩
theorem TgAll.shows (I : Inv X pins σ H s) : ∀ {vs : List V} {ds : List PyData} {us : List Value}, TgAll X.K H vs ds → Vals vs us → dlAll ds = true → PyData.showableAll ds = true → (∀ t ∈ PyData.shownAll ds, t.length ≤ sizeLine) →
    ∃ bs, ReadAtMost s.heap (PyData.depthAll ds) bs ∧ ReprAllK X.prog X.w bs s.heap (PyData.depthAll ds) us (PyData.shownAll ds)
  | _, _, _, .nil, r, _, _, _ => by
    cases r
    exact ⟨[], (fun _ h => nomatch h), by simp only [PyData.shownAll]; exact .nil⟩
  | _, _, _, .cons h1 h2, r, hd, hw, hz => by
    cases r with
    | cons r1 r2 =>
      simp only [dlAll, Bool.and_eq_true] at hd
      simp only [PyData.showableAll, Bool.and_eq_true] at hw
      obtain ⟨_, b1, hb1, k1⟩ := Tg.shows I h1 r1 hd.1 hw.1 (hz _ (by simp only [PyData.shownAll]; exact List.mem_cons_self ..))
      obtain ⟨b2, hb2, k2⟩ := TgAll.shows I h2 r2 hd.2 hw.2 (fun t ht => hz t (by simp only [PyData.shownAll]; exact List.mem_cons_of_mem _ ht))
      refine ⟨b1 ++ b2, ?_, ?_⟩
      · simp only [PyData.depthAll]
        exact (hb1.mono (Nat.le_max_left _ _)).append (hb2.mono (Nat.le_max_right _ _))
      · simp only [PyData.depthAll, PyData.shownAll]
        exact .cons ((k1.more fun b hb => List.mem_append_left _ hb).level_le (Nat.le_max_left _ _)) (k2.more_le (fun b hb => List.mem_append_right _ hb) (Nat.le_max_right _ _))
end
end
/-- repr of what is told whole -/
def rReprT (K : PySem.W.Frag) : List V → Hp → VK → Prop := fun xs H Q => ∃ v d, xs = [v] ∧ Tg K H v d ∧ dlD d = true ∧
  d.showable = true ∧ d.depth ≤ 60 ∧ d.shown.length ≤ sizeLine ∧ Q (.str d.shown) H
theorem cr_reprT {X : Cx} {K : PySem.W.Frag} (hK : X.K = K) (hg : X.A.guards = some []) (hu : X.A.units + 64 < cLine) :
    CallR X (.builtin "repr") (rReprT K) := by
  subst hK
  intro pins s σ H xs us Q I r h
  obtain ⟨v, d, rfl, hd, h1, h2, h3, h4, q⟩ := h
  cases r with
  | cons rv rt =>
    rename_i u ut
    cases rt
    have S := Tg.shows I hd rv h1 h2 h4
    cases hd with
    | non =>
      cases rv
      exact PySem.P.repr_of_none ⟨.str _, H, I.tok _, ⟨_, rfl⟩, by simpa only [PyData.shown] using q⟩
    | bl b =>
      cases rv
      exact PySem.P.repr_of_bool ⟨.str _, H, I.tok _, ⟨_, rfl⟩, by simpa only [PyData.shown] using q⟩
    | int i =>
      obtain ⟨t, rfl⟩ := rv
      exact PySem.P.repr_of_int (by simpa [PyData.showable] using h2)
        ⟨.str _, H, I.tok _, ⟨_, rfl⟩, by simpa only [PyData.shown] using q⟩
    | str x =>
      obtain ⟨t, rfl⟩ := rv
      exact PySem.P.repr_of_str ⟨.str _, H, I.tok _, ⟨_, rfl⟩, by simpa only [PyData.shown] using q⟩
        (by simpa only [PyData.shown] using h4)
    | lst hs ha =>
      rename_i a xs ds
      obtain ⟨as, rd, _⟩ := Tg.reads I (.lst hs ha) rv
      cases rv
      have hn : PyData.hasDict (.list ds) = false := by
        simp only [PyData.hasDict]
        simpa [dlD] using h1
      exact repr_of_reads' rd h2 (PyData.noDict_hsm hn) hg (by omega) (fun _ _ e => e)
        (fun h' u tk hk => ⟨.str _, H, I.kept hk, ⟨_, rfl⟩, q⟩) h4
    | tup hs ha =>
      rename_i a xs ds
      cases rv
      obtain ⟨its, rv', ⟨o, ho, hc, n, hdt⟩, _⟩ := I.tuple hs
      have hz' : (tupleText (PyData.shownAll ds)).length ≤ sizeLine := by simpa only [PyData.shown] using h4
      obtain ⟨bs, hb, hk⟩ := TgAll.shows I ha rv' (by simpa [dlD] using h1) (by simpa [PyData.showable] using h2) (fun t ht => Nat.le_trans (tupleText_mem_le ht) hz')
      obtain ⟨⟨as, rd⟩, _⟩ := S
      have hna : a ∉ bs := not_mem_of_deeper rd (by simp only [PyData.depth]; omega) hb
      simp only [PyData.depth] at h3
      refine call_repr_slot (T := "tuple") (idr := "tuple.__repr__") (by omega) ⟨o, ho, hc⟩ F.slot_tuple_repr ?_
      simp only [PyData.shown] at q
      exact call_tuple_reprK ho hc hdt hna hk hg (fun b _ => Clear.nil b) (by show X.A.units + 1 + (PyData.depthAll ds + 1) < cLine; omega) (fun _ _ e => e)
        (fun h' u tk hk' => ⟨_, _, rfl, ⟨.str _, H, I.kept hk', ⟨_, rfl⟩, q⟩⟩) hz'
    | dic hs ha =>
      rename_i a kvs ds
      cases rv
      obtain ⟨_, hsys, vs, kv, o, es, ep, e1, ⟨e2, _⟩, e3, _, e4, _⟩ := I.hok _ _ hs
      obtain ⟨k1, k2, k3, k4⟩ := keys_read (h := s.heap) kv e4
      obtain ⟨as, hr, hf⟩ := TgAll.reads I ha k3
      have hl := ha.length
      rw [List.length_map] at hl
      simp only [dlD] at h1
      rw [zip_snd (by rw [List.length_map]; exact hl)] at h1
      have has := hf h1
      subst has
      have rd : Reads s.heap (.ref a) (.dict ((kvs.map fun kv => keyD kv.1).zip ds)) (a :: [] ++ []) := .dict e1 e2 e3 (as := []) (bs := []) (by rw [zip_fst (by rw [List.length_map]; exact hl)]; exact k1) (by rw [zip_snd (by rw [List.length_map]; exact hl), k2]; exact hr)
      refine repr_of_reads' rd h2 (fun _ hm => ?_) hg (by omega) (fun _ _ e => e) (fun h' u tk hk => ⟨.str _, H, I.kept hk, ⟨_, rfl⟩, q⟩) h4
      simp only [List.cons_append, List.nil_append, List.mem_singleton] at hm
      rw [← hm] at hsys
      simp at hsys
/-! ### a new instance within a try -/
def tMakeS (C : Addr) (sp : Sp) (E : St → XK) (t : TA) : TE := fun σ H Q => t σ H fun vs G => ∀ x dx, G x = none → G dx = none → dx ≠ x →
  sp (.ref x :: vs) (upd (upd G dx (.own x)) x (.ins C dx [])) (fun v G2 => v = .non ∧ Q (.ref x) G2) (E σ)
theorem pe_makeS {X : Cx} {CX : CXT} {k : Nat} {f C : Addr} {fd : FuncData} {ps : List Str} {sp : Sp} {E : St → XK} {x : Str} {p pos : Pos} {e : Expr} {es : List Expr} {t : TA}
    (M : Mk X.K C f) (F : FnOk X.prog X.w X.K X.mg X.base CX k f fd ps sp) (hr : Room (k + 1) X.A) (hg : Gl X x) (hm : X.mg x = some (.ref C)) (hb : Binds X.K fd ps [])
    (hx : ∀ σ, PassesAt CX X σ (E σ)) (ha : PA X (e :: es) t) (hdb : (x == ("__debug__" : Str)) = false := by decide)
    (he : starEach (e :: es) X.env = (false, eval e X.env) :: starEach es X.env := by rfl) (hpl : (backTo pos (starEach es X.env)).any (·.1) = false := by rfl) :
    PE X (.Call (.Name x p) (e :: es) [] pos) (tMakeS C sp E t) := by
  refine ⟨fun pins s0 σ H0 Q I0 h0 => ?_⟩
  refine wpAny_Call_Name_kw (ld_glob I0 hg hm ?_ hdb)
  refine PySem.W.callWith_K (h₀ := X.base) I0.ok.mod.kin M.kp (thn (ha.run pos pins s0 σ H0 _ I0 h0) fun us s vsH => ?_) he hpl
  obtain ⟨vs, H, I, r, q0⟩ := vsH
  refine ⟨I.kIn, ?_⟩
  have q1 := q0 (s.heap.objs.size + 1) s.heap.objs.size (I.hok.fresh (Nat.le_succ _)) (I.hok.fresh (Nat.le_refl _)) (Nat.ne_of_lt (Nat.lt_succ_self _))
  have J := Inv.made (C := C) I
  have rr : Vals (V.ref (s.heap.objs.size + 1) :: vs) (Value.ref (s.heap.objs.size + 1) :: us) := .cons rfl r
  have ln : (Value.ref (s.heap.objs.size + 1) :: us).length = ps.length := by
    have z := rr.length
    rw [F.len _ _ _ _ q1] at z
    exact z.symm
  have bb := hb _ (Value.ref (s.heap.objs.size + 1) :: us) J.kIn (by rw [List.append_nil]; exact ln)
  rw [List.append_nil] at bb
  have go := F.run _ X.stack _ _ ⟨Value.ref (s.heap.objs.size + 1) :: us, []⟩ (Value.ref (s.heap.objs.size + 1) :: us) _ _ (E σ) (hr.make C us []) (J.env0.make C us []) bb rr q1
  refine wpAny_call (make_map (f := f) I.kIn M.makes M.init (beq_iff_eq.mp M.fn) (codeAny_mono go fun res s' hq => ?_))
  cases res with
  | error er => exact hx σ pins _ _ er s' J hq
  | ok fl =>
    cases fl with
    | ret u =>
      obtain ⟨v, G, J3, rv, ev, q3⟩ := J.after hq
      subst ev
      exact ⟨rv, ⟨V.ref (s.heap.objs.size + 1), G, J3, rfl, q3⟩⟩
    | next => exact hq.elim
    | brk => exact hq.elim
    | cont => exact hq.elim
/-! ### sorted(xs) of any alike data; set(xs) of a list of ints -/
section
variable {X : Cx}
def rSortedD (K : PySem.W.Frag) : List V → Hp → VK → Prop := fun vs H Q => ∃ (a : Addr) (β : Type) (bs : List β) (val : β → V) (enc : β → PyData), vs = [V.ref a] ∧ SqL K H a (bs.map val) ∧ (∀ b ∈ bs, Dp K H (val b) (enc b)) ∧
  PySem.W.AllAlike (bs.map enc) ∧ PySem.W.Sortable (bs.map enc) ∧ (∀ b ∈ bs, (enc b).depth ≤ 60) ∧ ∀ p, H p = none → Q (.ref p) (upd H p (.lst ((bs.mergeSort (PySem.W.dataLe false enc)).map val)))
theorem each_vals {β : Type} {val : β → V} : ∀ {bs : List β} {us : List Value}, Vals (bs.map val) us → PySem.W.EachIs (fun u b => RelV (val b) u) us bs
  | [], _, .nil => .nil
  | _ :: _, _, .cons h t => .cons h (each_vals t)
theorem vals_each {β : Type} {val : β → V} : ∀ {bs : List β} {us : List Value}, PySem.W.EachIs (fun u b => RelV (val b) u) us bs → Vals (bs.map val) us
  | _, _, .nil => .nil
  | _, _, .cons h t => .cons h (vals_each t)
theorem each_with {α β : Type} {R S : α → β → Prop} : ∀ {us : List α} {bs : List β}, PySem.W.EachIs R us bs → (∀ u b, b ∈ bs → R u b → S u b) → PySem.W.EachIs S us bs
  | _, _, .nil, _ => .nil
  | _, _, .cons h t, k => .cons (k _ _ (List.mem_cons_self ..) h) (each_with t fun u b m => k u b (List.mem_cons_of_mem _ m))
theorem cr_sortedD (hu : X.A.units + 64 < cLine) : CallR X (.builtin "sorted") (rSortedD X.K) := by
  intro pins s σ H vs us Q I r h
  obtain ⟨a, β, bs, val, enc, rfl, hs, hd, hal, hk, hdp, q⟩ := h
  obtain ⟨its, rv, hl, hz⟩ := I.list hs
  obtain ⟨u, rfl, ru⟩ := vals1 r
  obtain rfl : u = Value.ref a := ru
  have e := each_vals rv
  rw [List.length_map] at hz
  refine PySem.W.sorted_data (vs := its) (enc := enc) hl.isList e (each_with e fun u b m z => Dp.reads I _ _ _ (hd b m) z) hal hk hz (fun b hb => ?_) fun out ho eo => ?_
  · have := hdp b hb
    omega
  · obtain ⟨c, hc⟩ := PyProof.Rows.sortedAll_at s.heap its out.toArray
    have hn : H (s.heap.objs.size + 1) = none := I.hok.fresh (Nat.le_succ _)
    have hl2 : ((bs.mergeSort (PySem.W.dataLe false enc)).map val).length ≤ sizeLine := by
      rw [List.length_map, List.length_mergeSort]
      exact hz
    exact ⟨.ref (s.heap.objs.size + 1), upd H (s.heap.objs.size + 1) (.lst ((bs.mergeSort (PySem.W.dataLe false enc)).map val)), I.laid (t' := s.toks) (fun b u e => PyProof.Rows.sortedAll_old e) (Nat.le_succ _) ⟨hl2, out, c, vals_each eo, hc⟩, rfl, q _ hn⟩
end
/-! ### set(xs), xs a list of ints -/
section
variable {w : World} {P : Program} {A : Around} {s : Shared} {E : Value → Shared → Prop}
abbrev set0 (w : World) : Obj := { cls := .type "set", dict := none, data := .set #[] 0 (.fresh 0 0 (!w.params.followText "set-order")) }
set_option maxHeartbeats 8000000 in
theorem call_setL {l : Addr} {xs : Array Value} (ks : List Int) {Q : Value → Shared → Prop} (ha : A.handled = none) (at0 : s.heap.IsList l xs) (ia : IntsAre xs.toList ks) (few : ks.length + 1 < scanBound)
    (fin : ∀ (g : Heap) (tk c : Nat), SetR w g s.heap.objs.size (fun j => decide (j ∈ ks)) c → c ≤ ks.length → (∀ b o, s.heap.get? b = some o → g.get? b = some o) → Q (.ref s.heap.objs.size) { s with heap := g, toks := tk }) :
    wpAny (model P w) A (call (.type "set") [Value.ref l]) Q E s := by
  have sz : xs.size = ks.length := (Array.length_toList (xs := xs)).symm.trans (IntsAre.length ia)
  obtain ⟨cc, ct, em⟩ := F.called_set.mro
  have m1 := F.called_set.made
  have m2 := F.called_set.sub
  have m3 := F.called_set.notType
  have m4 := F.called_set.canCreate
  have m5 := F.typeCall_set_1 (.ref l)
  have m6 := F.called_set.init.lookup
  refine wpAny_call (codeAny_of_tree ?_); show wpAny _ _ (callAny (.type "set") _) _ _ _
  refine wpAny_pure (And.intro (Code.quiet_builtin _ (by decide +kernel)) (codeAny_builtin F.entry_type_call ?_))
  rw [Around.under_plain (weight_type_call_type "set" [.ref l] []) (rfl)]
  repeat any_goals first | assumption | wp_step

  refine codeAny_mono (code_set_led1 (.ref l) (E := E) (Q₁ := fun o t => o = .ref s.heap.objs.size ∧ t = { s with heap := s.heap.push (set0 w) }) ⟨rfl, rfl⟩) fun r t hr => ?_
  rcases r with r | fl
  · exact hr
  cases fl with
  | ret obj =>
    obtain ⟨rfl, rfl⟩ := hr
    have hN : (s.heap.push (set0 w)).get? s.heap.objs.size = some (set0 w) := Heap.get?_push_size _ rfl
    have hY : Shared.TypeIs { s with heap := s.heap.push (set0 w) } (.ref s.heap.objs.size) "set" := ⟨_, hN, rfl⟩
    have m7 := F.called_set.init.bind (.ref s.heap.objs.size)
    repeat any_goals first | assumption | wp_step

    refine codeAny_mono (codeAny_call_builtin (R := wants (fun r t => r = .none ∧ ∃ g tk c, t = { s with heap := g, toks := tk } ∧ SetR w g s.heap.objs.size (fun j => decide (j ∈ ks)) c ∧ c ≤ ks.length ∧
        (∀ b o, s.heap.get? b = some o → g.get? b = some o)) E) F.called_set.init.plain F.entry_set_init (check_set_init_1 hY ?_)) fun r t ht => ?_
    · obtain ⟨⟨oc, od, oo, os⟩, e1, e2, nl, e3⟩ := at0
      simp only at e2 e3
      subst e2
      subst e3
      have e4 : (s.heap.push (set0 w)).get? l = some { cls := .type "list", dict := od, data := .seq xs nl, slots := os } := Heap.get?_push_of_some _ e1
      have n1 := F.sub_list_set
      have n2 := F.sub_list_frozenset
      have n3 : (Value.type "list" == Value.type "dict") = false := by decide
      have e5 : (s.heap.push (set0 w)).IsList l xs := ⟨_, e4, rfl, nl, rfl⟩
      unfold Builtin.«set.__init__» Builtin.Frozenset.updateFrom noKeywords
      generalize hPI : pyIter = PI
      wp_walk
      subst hPI

      refine wpAny_pyIter_list e5 (wpAny_bind (wpAny_runValue ?_))
      have lt0 : l < s.heap.objs.size := Heap.lt_size e1
      have a3 : A.in1.in1.in1.handled = none := by simp [ha]
      have ne1 : l ≠ (s.heap.push (set0 w)).objs.size := by
        rw [Heap.size_push]
        exact Nat.ne_of_lt (Nat.lt_succ_of_lt lt0)
      have ne2 : s.heap.objs.size ∉ [(s.heap.push (set0 w)).objs.size, l] := by
        rw [Heap.size_push]
        simp only [List.mem_cons, List.not_mem_nil, or_false, not_or]
        exact ⟨Nat.ne_of_lt (Nat.lt_succ_self _), (Nat.ne_of_lt lt0).symm⟩
      have vals : ∀ (i : Nat) (v : Value), xs[i]? = some v → ∃ k t, ks[i]? = some k ∧ v = .int k t := fun i v hv => by
        have hi : i < ks.length := by rw [← sz]; exact (Array.getElem?_eq_some_iff.mp hv).1
        obtain ⟨t, e⟩ := IntsAre.int_at ia i v (by rw [Array.getElem?_toList]; exact hv)
        refine ⟨ks[i], t, List.getElem?_eq_getElem hi, ?_⟩
        rw [e, List.getD_eq_getElem?_getD, List.getElem?_eq_getElem hi] <;> rfl
      refine set_update_ints ((Walks.list a3 _ l ne1 xs).toS) s.heap.objs.size ne2 ks sz few vals (xs.size - 0) 0 _ (by omega) (Nat.zero_le _) ⟨⟨_, Heap.get?_push_size _ rfl, rfl, rfl⟩, (e5.push _)⟩ ⟨0, Nat.le_refl 0, setR_new_at (Heap.get?_push_of_some _ hN)⟩ ?_
      intro t c mv hc hS
      obtain ⟨g, g2, d2, tk, os2⟩ := t
      have q1 : g2 = s.gens := mv.gens
      have q2 : d2 = s.drawn := mv.drawn
      have q3 : os2 = s.os := mv.os
      subst q1 q2 q3
      show wpAny _ _ _ _ _ _
      refine wpAny_pure ?_
      show wpAny _ _ (ret .none) _ _ _
      rw [sz] at hc
      refine wpAny_pure ⟨rfl, g, tk, c, rfl, hS, hc, fun b o e => ?_⟩
      have lb : b < s.heap.objs.size := Heap.lt_size e
      refine mv.heap b o (fun hb => ?_) (Heap.get?_push_of_some _ (Heap.get?_push_of_some _ e))
      rw [Heap.size_push] at hb
      simp only [List.mem_cons, List.not_mem_nil, or_false] at hb
      rcases hb with hb | hb
      · exact Nat.ne_of_lt lb hb
      · exact Nat.ne_of_lt (Nat.lt_succ_of_lt lb) hb
    · rcases r with r | fl
      · exact ht
      cases fl with
      | ret r =>
        obtain ⟨rfl, g, tk, c, rfl, h1, h2, h3⟩ := ht
        repeat any_goals first | assumption | wp_step
        exact fin _ _ _ h1 h2 h3
      | _ => exact ht.elim
  | _ => exact hr.elim
end
section
variable {X : Cx}
def rSetLI (K : PySem.W.Frag) (w : World) : List V → Hp → VK → Prop := fun vs H Q => ∃ (l : Addr) (ns : List Int), vs = [V.ref l] ∧ SqL K H l (ns.map V.int) ∧ ns.length ≤ 1000 ∧
  ∀ (p : Addr) (c : Nat), c ≤ ns.length → H p = none → Q (.ref p) (upd H p (SetO w p (fun j => decide (j ∈ ns)) c))
theorem cr_setL (hc : X.calm = true) : CallR X (.type "set") (rSetLI X.K X.w) := by
  intro pins s σ H vs us Q I r h
  obtain ⟨l, ns, rfl, hs, hl, q⟩ := h
  obtain ⟨its, rv, pl, hz⟩ := I.list hs
  rw [Vals.ref1 r]
  have hn : H s.heap.objs.size = none := I.hok.fresh (Nat.le_refl _)
  exact call_setL ns (I.ok.hd hc) pl.isList (ints_of_vals rv) (by unfold scanBound; omega) fun g tk c h1 h2 h3 =>
    ⟨.ref s.heap.objs.size, upd H s.heap.objs.size (SetO X.w s.heap.objs.size (fun j => decide (j ∈ ns)) c), I.laid (t' := tk) h3 (Nat.le_refl _) (setO_new h1), rfl, q _ c h2 hn⟩
end
/-! ### xs.extend(t), t a tuple -/
theorem ext_tup (l b : Addr) (xs ys : Array Value) (n m : Nat) (od : Option Addr) (os : Array (Option Value)) (c0 : ¬ (!xs.isEmpty && Builtin.List.listTooLong (xs.size + ys.size)) = true) (c1 : xs.size ≤ sizeLine) (c2 : xs.size + ys.size ≤ sizeLine + 1) :
    Meets (Builtin.«list.extend» ⟨[.ref l, .ref b], []⟩) (fun _ R s => s.heap.get? l = some { cls := .type "list", dict := none, data := .seq xs n, slots := #[] } ∧
      s.heap.get? b = some { cls := .type "tuple", dict := od, data := .seq ys m, slots := os } ∧ R (.ok (.ret Value.none)) { s with heap := s.heap.update l (Obj.mapSeq fun x => x ++ ys), toks := s.toks }) :=
  .of_wp fun prog w A R s h => by
    obtain ⟨hp, g, d, tk, os⟩ := s
    obtain ⟨q1, q2, h⟩ := h
    have a1 := PyProof.Rows.sub_tuple_tuple
    have a2 := PyProof.Rows.sub_list_list
    have a3 := PyProof.Rows.sub_tuple_list
    have a4 := PyProof.Rows.sub_list_tuple
    have a5 : (xs ++ ys).size ≤ sizeLine + 1 := by
      rw [Array.size_append]
      exact c2
    wp_walk using (wpAny_updateSeq q1 rfl (hz := c1) (_hz' := a5)), wpAny_loadPart' q1, wpAny_loadPart' q2
    exact ⟨_, rfl, h⟩
section
variable {X : Cx}
def rExtT (K : PySem.W.Frag) : V → List V → Hp → VK → Prop := fun x vs H Q => ∃ (l b : Addr) (xs zs : List V), x = .ref l ∧ vs = [.ref b] ∧ H l = some (.lst xs) ∧ H b = some (.tup zs) ∧ xs.length + zs.length ≤ sizeLine ∧ Q .non (upd H l (.lst (xs ++ zs)))
theorem mt_extT : MtM X "list.extend" (rExtT X.K) := by
  intro pns s τ H x vs v us Q I rx rv h
  obtain ⟨l, b, xs, zs, rfl, rfl, hl, hb, hz, q⟩ := h
  cases rx
  obtain ⟨u, rfl, ru⟩ := rv.one
  cases ru
  obtain ⟨z, its, n, r, hn, e⟩ := I.lstM hl
  obtain ⟨it2, r2, ⟨⟨oc, od, oo, os⟩, e2, c2, n2, d2⟩, z2⟩ := I.tuple (SqT.of hb)
  simp only at c2 d2
  subst c2 d2
  have hn2 : zs.length = it2.length := r2.length
  have few : its.toArray.size + it2.toArray.size ≤ sizeLine := by
    rw [List.size_toArray, List.size_toArray]
    omega
  have nl : ¬ (!its.toArray.isEmpty && Builtin.List.listTooLong (its.toArray.size + it2.toArray.size)) = true := by
    rw [notLongL few, Bool.and_false]
    exact Bool.false_ne_true
  have M := ext_tup l b its.toArray it2.toArray n n2 od os nl (by rw [List.size_toArray]; omega) (by omega)
  refine call_meets F.slot_list_extend ⟨_, e, rfl⟩ F.entry_list_extend (F.args_list_extend_2 _ _) M ⟨e, e2, ?_⟩
  refine ⟨.non, _, I.lset (its' := its ++ it2) hl e (by simp) (r.append r2) ?_, rfl, q⟩
  rw [List.length_append]
  omega
end
/-! ### x == b, b an instance of an own class with __eq__, x of another kind -/
section
variable {P : Program} {w : World} {A : Around} {K : PySem.W.Frag} {b C dx : Addr} {E : Value → Shared → Prop} {s : Shared} {Q : Value → Shared → Prop}
/-- the kind's own __eq__ declines -/
theorem dcl_tuple {l : Addr} (hl : s.TypeIs (.ref l) "tuple") (hb : PySem.W.Looks (model P w) s.heap (isInstance (.ref b) (.type "tuple")) false) (q : Q .notImplemented s) : wpAny (model P w) A (call (.builtin "tuple.__eq__") [.ref l, .ref b]) Q E s := by
  refine wpAny_call_entry PySem.F.slot_tuple_eq hl PySem.F.entry_tuple_eq ?_ (PySem.F.args_tuple_eq_2 _ _)
  unfold Builtin.«tuple.__eq__»
  show wpAny _ _ (slotArgs "__eq__" 1 ⟨[.ref l, .ref b], []⟩ >>= _) _ _ _
  refine wpAny_bind (m := slotArgs "__eq__" 1 _) (wpAny_pure ?_)
  refine wpAny_bind (hb.at ?_)
  exact wpAny_pure ⟨_, rfl, q⟩
theorem dcl_list {l : Addr} (hl : s.TypeIs (.ref l) "list") (hb : PySem.W.Looks (model P w) s.heap (isInstance (.ref b) (.type "list")) false) (q : Q .notImplemented s) : wpAny (model P w) A (call (.builtin "list.__eq__") [.ref l, .ref b]) Q E s := by
  refine wpAny_call_entry PySem.F.slot_list_eq hl PySem.F.entry_list_eq ?_ (PySem.F.args_list_eq_2 _ _)
  unfold Builtin.«list.__eq__»
  show wpAny _ _ (slotArgs "__eq__" 1 ⟨[.ref l, .ref b], []⟩ >>= _) _ _ _
  refine wpAny_bind (m := slotArgs "__eq__" 1 _) (wpAny_pure ?_)
  refine wpAny_bind (hb.at ?_)
  exact wpAny_pure ⟨_, rfl, q⟩
theorem dcl_int {i : Int} {t : Tok} (ho : s.heap.get? b = some (PySem.W.instObj C dx)) (q : Q .notImplemented s) : wpAny (model P w) A (call (.builtin "int.__eq__") [.int i t, .ref b]) Q E s := by
  refine wpAny_call_entry PySem.F.slot_int_eq (show s.TypeIs (.int i t) "int" from rfl) PySem.F.entry_int_eq ?_ (PySem.F.args_int_eq_2 _ _)
  obtain ⟨hp, g, d, tk, os⟩ := s
  unfold Builtin.«int.__eq__»
  wp_walk using wpAny_loadPart' ho
  exact ⟨_, rfl, q⟩
theorem dcl_str {x : Str} {t : Tok} (ho : s.heap.get? b = some (PySem.W.instObj C dx)) (q : Q .notImplemented s) : wpAny (model P w) A (call (.builtin "str.__eq__") [.str x t, .ref b]) Q E s := by
  refine wpAny_call_entry PySem.F.slot_str_eq (show s.TypeIs (.str x t) "str" from rfl) PySem.F.entry_str_eq ?_ (PySem.F.args_str_eq_2 _ _)
  obtain ⟨hp, g, d, tk, os⟩ := s
  unfold Builtin.«str.__eq__»
  wp_walk using wpAny_loadPart' ho
  exact ⟨_, rfl, q⟩
theorem dcl_none (q : Q .notImplemented s) : wpAny (model P w) A (call (.builtin "NoneType.__eq__") [.none, .ref b]) Q E s := by
  refine wpAny_call_entry PySem.F.slot_NoneType_eq (show s.TypeIs .none "NoneType" from rfl) PySem.F.entry_NoneType_eq ?_ (PySem.F.args_NoneType_eq_2 _ _)
  obtain ⟨hp, g, d, tk, os⟩ := s
  unfold Builtin.«NoneType.__eq__»
  wp_walk
  exact ⟨_, rfl, q⟩
theorem dcl_dict {l : Addr} (hl : s.TypeIs (.ref l) "dict") (hb : PySem.W.Looks (model P w) s.heap (isInstance (.ref b) (.type "dict")) false) (q : Q .notImplemented s) : wpAny (model P w) A (call (.builtin "dict.__eq__") [.ref l, .ref b]) Q E s := by
  refine wpAny_call_entry PySem.F.slot_dict_eq hl PySem.F.entry_dict_eq ?_ (PySem.F.args_dict_eq_2 _ _)
  obtain ⟨hp, g, d, tk, os⟩ := s
  unfold Builtin.«dict.__eq__»
  show wpAny _ _ (Builtin.Dict.dictSlotArgs "__eq__" _ >>= _) _ _ _
  unfold Builtin.Dict.dictSlotArgs Builtin.Dict.notOrdered
  rw [if_neg (by decide)]
  refine wpAny_bind (wpAny_bind (wpAny_pure ?_))
  refine wpAny_bind (m := slotArgs "__eq__" 1 _) (wpAny_pure (wpAny_pure ?_))
  refine wpAny_bind (hb.at ?_)
  exact wpAny_bind (wpAny_rule (wpAny_pure ⟨_, rfl, q⟩))
end
section
open PySem.W
variable {prog : Program} {w : World} {A : Around} {K : Frag} {b C f : Addr} {ob : Obj} {od : Option Obj} {a : Value} {T ida : String} {E : Value → Shared → Prop} {s : Shared} {Q : Value → Shared → Prop}
theorem eq_right (hu : A.units < cLine) (X : K.In s.heap) (I : InstAt s.heap b ob C od) (ha : s.TypeIs a T) (hm : mroIn K C (.type T) = some false) (sl : Slot T (cmpInfo .Eq).2.1 ida)
    (dec : ∀ Q' : Value → Shared → Prop, Q' .notImplemented s → wpAny (model prog w) A (call (.builtin ida) [a, .ref b]) Q' E s)
    (hs : findIn K (.ref C) "__eq__" = some (some (.ref f))) (hf : isFn K (.ref f) = true) (h : wpAny (model prog w) A (call (.ref f) [.ref b, a]) (PySem.W.CmpBack Q) E s) : wpAny (model prog w) A (richCompare .Eq a (.ref b)) Q E s := by
  have two : wpAny (model prog w) A (tryCompare (.ref b) "__eq__" a) (fun r s' => ∃ v, r = some v ∧ Q v s') E s := by
    unfold tryCompare
    refine wpAny_bind (ifBound_K X I hs hf (wpAny_mono h (fun v s' hv => ?_) fun _ _ e => e))
    cases v <;> first | exact hv.elim | exact wpAny_pure ⟨_, rfl, hv⟩
  have ne : (Value.type T != .ref C) = true := by simp
  unfold richCompare
  simp only [ha.oneThing_none]
  refine wpAny_holding (wpAny_bind (wpAny_cRoomFor hu ?_))
  refine wpAny_bind (wpAny_typeOf ha (wpAny_bind (I.type.at ?_)))
  simp only [cmpInfo, ne, if_true]
  refine wpAny_bind ((looks_mroIn X hm).at ?_)
  simp only [Bool.false_eq_true, if_false, Bool.not_false, if_true]
  refine wpAny_bind (m := tryCompare a _ (.ref b)) (wpAny_tryCompare_declines ha sl (dec _ ⟨rfl, ?_⟩))
  refine wpAny_bind (wpAny_mono two (fun r s' z => ?_) fun _ _ e => e)
  obtain ⟨v, rfl, hq⟩ := z
  exact wpAny_pure hq
end
/-- of another kind: its type, that type's __eq__ -/
inductive Oth (K : PySem.W.Frag) (H : Hp) : V → String → String → Prop
  | non : Oth K H .non "NoneType" "NoneType.__eq__"
  | int (i : Int) : Oth K H (.int i) "int" "int.__eq__"
  | str (x : Str) : Oth K H (.str x) "str" "str.__eq__"
  | tup {a : Addr} {xs : List V} : SqT K H a xs → Oth K H (.ref a) "tuple" "tuple.__eq__"
  | lst {a : Addr} {xs : List V} : SqL K H a xs → Oth K H (.ref a) "list" "list.__eq__"
  | dic {a : Addr} {kvs : List (Key × V)} : H a = some (.dK kvs) → Oth K H (.ref a) "dict" "dict.__eq__"
/-- the class at C is below none of these, and is a class -/
structure NoBase (K : PySem.W.Frag) (C : Addr) : Prop where
  non : PySem.W.mroIn K C (.type "NoneType") = some false
  int : PySem.W.mroIn K C (.type "int") = some false
  str : PySem.W.mroIn K C (.type "str") = some false
  tup : PySem.W.mroIn K C (.type "tuple") = some false
  lst : PySem.W.mroIn K C (.type "list") = some false
  dic : PySem.W.mroIn K C (.type "dict") = some false
  hd : PySem.W.hasDictIn K C = true
  ty : PySem.W.typeIn K (.ref C) = some (.type "type")
theorem looks_is {M : Model} {s : Shared} {v : Value} {T : String} (h : s.TypeIs v T) : PySem.W.Looks M s.heap (typeOf v) (.type T) := by
  cases v with
  | ref a =>
    obtain ⟨o, ho, hc⟩ := h
    exact hc ▸ (PySem.W.Looks.ld ho).andThen .now
  | _ => exact .of_pure h
section
variable {X : Cx} {n : Nat} {pins : List (Addr × Obj)} {σ : St} {H : Hp} {s : Shared}
theorem Oth.is {v : V} {T i : String} {u : Value} (h : Oth X.K H v T i) (I : Inv X pins σ H s) (r : RelV v u) : s.TypeIs u T := by
  cases h with
  | non =>
    cases r
    exact (rfl : typeOf .none = pure (.type "NoneType"))
  | int i =>
    obtain ⟨t, rfl⟩ := r
    exact (rfl : typeOf (.int i t) = pure (.type "int"))
  | str x =>
    obtain ⟨t, rfl⟩ := r
    exact (rfl : typeOf (.str x t) = pure (.type "str"))
  | tup hs =>
    cases r
    obtain ⟨its, _, ⟨o, ho, hc, _⟩, _⟩ := I.tuple hs
    exact ⟨o, ho, hc⟩
  | lst hs =>
    cases r
    obtain ⟨its, _, hl, _⟩ := I.list hs
    obtain ⟨o, ho, hc, _⟩ := hl.isList
    exact ⟨o, ho, hc⟩
  | dic hs =>
    cases r
    obtain ⟨_, _, vs, kv, o, es, ep, e1, ⟨e2, _⟩, _⟩ := I.hok _ _ hs
    exact ⟨o, e1, e2⟩
theorem Oth.first {C : Addr} {v : V} {T i : String} (h : Oth X.K H v T i) : PySem.W.notFirst X.K C (.type T) = true := by
  have q : ∀ T : String, (PySem.fastBuiltinMro T).map (·.contains (Value.ref C)) = some false → PySem.W.notFirst X.K C (.type T) = true := fun T e => by
    unfold PySem.W.notFirst
    have e2 : PySem.W.subIn X.K (.type T) (.ref C) = some false := e
    rw [e2, Bool.or_eq_true]
    exact .inr rfl
  cases h <;> exact q _ rfl
theorem Oth.kit {K : PySem.W.Frag} {H : Hp} {C : Addr} (N : NoBase K C) {v : V} {T i : String} (h : Oth K H v T i) : PySem.W.kitOne K (.type T) (.ref C) = some false := by
  obtain ⟨cd, hc, _⟩ := PySem.W.any_some N.hd
  have e2 : ((PySem.W.clsIn K C).isSome && PySem.W.typeIn K (.ref C) == some (.type "type")) = true := by rw [hc, N.ty] <;> rfl
  have q : ∀ T : String, (PySem.fastBuiltinMro T).map (·.contains (Value.ref C)) = some false → PySem.W.kitOne K (.type T) (.ref C) = some false := fun T e => by
    show (if ((Value.type T : Value) == .ref C) = true then some true else (if ((PySem.W.clsIn K C).isSome && PySem.W.typeIn K (.ref C) == some (.type "type")) = true then PySem.W.subIn K (.type T) (.ref C) else none)) = some false
    rw [if_neg (by simp), if_pos e2]
    exact e
  cases h <;> exact q _ rfl
theorem Oth.ty {K : PySem.W.Frag} {H : Hp} {v : V} {T i : String} (h : Oth K H v T i) : TyX K H v (.type T) := by
  cases h with
  | non => exact .base .non
  | int i => exact .base (.int i)
  | str x => exact .base (.str x)
  | tup hs =>
    rcases hs with (h | ⟨o, h⟩) | ⟨o, its, n, h, c, _⟩
    · exact .base (.tup h)
    · exact .fTuple h
    · exact .kTuple h c
  | lst hs =>
    rcases hs with (h | ⟨o, h⟩) | ⟨o, its, n, h, c, _⟩
    · exact .base (.lst h)
    · exact .base (.frz h)
    · exact .kList h c
  | dic hs => exact .base (.dK hs)
theorem callTwoV {CX : CXT} {f : Addr} {fd : FuncData} {ps : List Str} {sp : Sp} {E : XK} (F : FnOk X.prog X.w X.K X.mg X.base CX n f fd ps sp) (hb : Binds X.K fd ps []) (hx : Passes CX X E)
    {A : Around} {a : Addr} {y : V} {u : Value} {Q : VK} (rm : Room n A) (fr : A.frames = X.A.frames) (I : Inv X pins σ H s) (ry : RelV y u) (hsp : sp [.ref a, y] H Q E) :
    wpAny (model X.prog X.w) A (call (.ref f) [.ref a, u]) (EP X pins σ Q) X.xe s := by
  have z := I.env0
  have z0 : Env0 X.prog X.w X.K X.mg X.base A X.stack s H :=
    ⟨by rw [fr] <;> exact z.frames, z.mod, z.bs, z.bsz, z.funs, z.frf, z.hok, z.bare⟩
  have two := F.len _ _ _ _ hsp
  have vs : Vals [V.ref a, y] [Value.ref a, u] := .cons rfl (.cons ry .nil)
  have bd := hb s [.ref a, u] I.kIn (by simpa using two)
  refine wpAny_call (codeAny_mono (F.run A X.stack s H ⟨[.ref a, u], []⟩ [.ref a, u] [.ref a, y] _ E rm z0 (by simpa using bd) vs hsp) fun r s' hq => ?_)
  cases r with
  | error er => exact hx pins σ H s er s' I hq
  | ok fl =>
    cases fl with
    | ret w => exact I.after hq
    | _ => exact False.elim hq
/-- ==, one of them an instance of the class at C -/
def rEqMix (K : PySem.W.Frag) (C : Addr) (sp : Sp) (E : XK) : R2 := fun x y H Q => (∃ a dx fs, x = .ref a ∧ H a = some (.ins C dx fs) ∧ ((∃ b dy gs, y = .ref b ∧ H b = some (.ins C dy gs)) ∨ ∃ T i, Oth K H y T i) ∧ sp [x, y] H (fun v H' => ∃ k : Bool, v = .bl k ∧ Q (.bl k) H') E) ∨
  ∃ b dy gs T i, y = .ref b ∧ H b = some (.ins C dy gs) ∧ Oth K H x T i ∧ sp [y, x] H (fun v H' => ∃ k : Bool, v = .bl k ∧ Q (.bl k) H') E
theorem op_eqMix {CX : CXT} {C f : Addr} {fd : FuncData} {ps : List Str} {sp : Sp} {E : XK} (F : FnOk X.prog X.w X.K X.mg X.base CX n f fd ps sp) (hr : Room n X.A) (N : NoBase X.K C)
    (hs : PySem.W.findIn X.K (.ref C) "__eq__" = some (some (.ref f))) (hf : PySem.W.isFn X.K (.ref f) = true) (hb : Binds X.K fd ps []) (hx : Passes CX X E) : OpR X (compareOp .Eq) (rEqMix X.K C sp E) := by
  intro pins s σ H x y v u Q I rx ry hq
  have back : ∀ {r : Value} {s' : Shared}, EP X pins σ (fun v H' => ∃ k : Bool, v = .bl k ∧ Q (.bl k) H') r s' → PySem.W.CmpBack (EP X pins σ Q) r s' := fun {r s'} z => by
    obtain ⟨z, H', I', rz, k, rfl, q⟩ := z
    cases rz
    exact ⟨.bl k, H', I', rfl, q⟩
  rcases hq with ⟨a, dx, fs, rfl, ha, hy, hsp⟩ | ⟨b, dy, gs, T, i, rfl, hb', ho, hsp⟩
  · cases rx
    obtain ⟨_, J, _⟩ := ins_get I.hok ha
    obtain ⟨_, J, _⟩ := J.look
    obtain ⟨m, hF⟩ := I.fr
    rcases hy with ⟨b, dy, gs, rfl, hb'⟩ | ⟨T, i, ho⟩
    · cases ry
      obtain ⟨_, J', _⟩ := ins_get I.hok hb'
      obtain ⟨_, J', _⟩ := J'.look
      exact PySem.W.cmp_K (op := .Eq) (tb := .ref C) hr.units0 hF I.ok.mod.kin J J'.type (by simp [PySem.W.notFirst]) hs hf (wpAny_mono (callTwoV (y := .ref b) F hb hx hr rfl I rfl hsp) (fun r s' z => back z) fun _ _ e => e)
    · exact PySem.W.cmp_K (op := .Eq) (tb := .type T) hr.units0 hF I.ok.mod.kin J (looks_is (ho.is I ry)) ho.first hs hf (wpAny_mono (callTwoV F hb hx hr rfl I ry hsp) (fun r s' z => back z) fun _ _ e => e)
  · cases ry
    obtain ⟨_, J, _⟩ := ins_get I.hok hb'
    have at0 := J.1
    obtain ⟨_, J, _⟩ := J.look
    have is0 := ho.is I rx
    have lk : ∀ {T : String}, PySem.W.mroIn X.K C (.type T) = some false → PySem.W.Looks (model X.prog X.w) s.heap (isInstance (.ref b) (.type T)) false := fun e => J.type.andThen (PySem.W.looks_mroIn I.kIn e)
    have fin := wpAny_mono (callTwoV F hb hx hr rfl I rx hsp) (fun r s' z => back z) fun _ _ (e : X.xe _ _) => e
    cases ho with
    | non =>
      cases rx
      exact eq_right hr.units0 I.kIn J is0 N.non PySem.F.slot_NoneType_eq (fun Q' q => dcl_none q) hs hf fin
    | int i =>
      obtain ⟨t, rfl⟩ := rx
      exact eq_right hr.units0 I.kIn J is0 N.int PySem.F.slot_int_eq (fun Q' q => dcl_int at0 q) hs hf fin
    | str z =>
      obtain ⟨t, rfl⟩ := rx
      exact eq_right hr.units0 I.kIn J is0 N.str PySem.F.slot_str_eq (fun Q' q => dcl_str at0 q) hs hf fin
    | tup h1 =>
      cases rx
      exact eq_right hr.units0 I.kIn J is0 N.tup PySem.F.slot_tuple_eq (fun Q' q => dcl_tuple is0 (lk N.tup) q) hs hf fin
    | lst h1 =>
      cases rx
      exact eq_right hr.units0 I.kIn J is0 N.lst PySem.F.slot_list_eq (fun Q' q => dcl_list is0 (lk N.lst) q) hs hf fin
    | dic h1 =>
      cases rx
      exact eq_right hr.units0 I.kIn J is0 N.dic PySem.F.slot_dict_eq (fun Q' q => dcl_dict is0 (lk N.dic) q) hs hf fin
end
/-! ### max(xs) of alike data: the item that reads as the greatest -/
def rMaxData (K : PySem.W.Frag) : List V → Hp → VK → Prop := fun vs H Q => ∃ (a : Addr) (β : Type) (b : β) (bs : List β) (val : β → V) (enc : β → PyData), vs = [V.ref a] ∧ SqL K H a ((b :: bs).map val) ∧ (∀ c ∈ b :: bs, Dp K H (val c) (enc c)) ∧
  PySem.W.AlikeAll ((b :: bs).map enc) ∧ PyData.depthAll ((b :: bs).map enc) ≤ 60 ∧ ∀ c ∈ b :: bs, enc c = PySem.W.maxD (enc b) (bs.map enc) → Q (val c) H
theorem dpAll_of {K : PySem.W.Frag} {H : Hp} {β : Type} {val : β → V} {enc : β → PyData} : ∀ {bs : List β}, (∀ c ∈ bs, Dp K H (val c) (enc c)) → DpAll K H (bs.map val) (bs.map enc)
  | [], _ => .nil
  | b :: bs, h => .cons (h b (List.mem_cons_self ..)) (dpAll_of fun c m => h c (List.mem_cons_of_mem _ m))
theorem cr_maxData {X : Cx} (hc : X.calm = true) (hu : X.A.units + 64 < cLine) : CallR X (.builtin "max") (rMaxData X.K) := by
  intro pins s σ H vs us Q I r h
  obtain ⟨a, β, b, bs, val, enc, rfl, hs, hd, hal, hdp, q⟩ := h
  obtain ⟨its, rv, hl, hz⟩ := I.list hs
  obtain ⟨u, rfl, ru⟩ := vals1 r
  obtain rfl : u = Value.ref a := ru
  obtain ⟨as, hr⟩ := Dp.readsAll I _ _ _ (dpAll_of hd) rv
  refine PySem.W.max_list_data (vs := its.toArray) (x := enc b) (xs := bs.map enc) (I.ok.hd hc) hl.isList (by simpa using hr) hal (by show _ + 1 + PyData.depthAll ((b :: bs).map enc) < cLine; omega) fun i v h' tk cs hv hr' hk => ?_
  have hi : i < (b :: bs).length := by
    have h1 := (Array.getElem?_eq_some_iff.mp hv).1
    have h2 := rv.length
    rw [List.length_map] at h2
    rw [List.size_toArray] at h1
    omega
  obtain ⟨v', hv', rel⟩ := rv.get (i := i) (x := val (b :: bs)[i]) (by rw [List.getElem?_map, List.getElem?_eq_getElem hi] <;> rfl)
  have ev : v' = v := by
    have h1 : its[i]? = some v := by rw [← hv]; simp
    exact Option.some.inj (hv'.symm.trans h1)
  subst ev
  obtain ⟨ds, rd⟩ := Dp.reads I _ _ _ (hd _ (List.getElem_mem hi)) rel
  have one := (PySem.Reads.unique (PyProof.Rows.Reads.keeps hk rd) _ _ hr').1
  exact ⟨val (b :: bs)[i], H, I.kept (t' := tk) hk, rel, q _ (List.getElem_mem hi) one⟩
/-! ### an own error as a value: C(..), C's own __init__ keeping sp -/
def tMkV (C : Addr) (sp : Sp) (ta : TA) : TE := fun σ H Q => ta σ H fun vs H1 => vs.length ≤ 1000 ∧ ∀ a, H1 a = none → sp (.ref a :: vs) (upd H1 a (exo a C none)) (fun v H2 => v = .non ∧ Q (.ref a) H2) (fun _ _ _ => False)
def tMkV0 (C : Addr) (sp : Sp) : TE := fun _ H Q => ∀ a, H a = none → sp [.ref a] (upd H a (exo a C none)) (fun v H2 => v = .non ∧ Q (.ref a) H2) (fun _ _ _ => False)
section
variable {X : Cx} {e : Expr} {es : List Expr} {ta : TA} {p pos : Pos}
theorem pe_oexV {CX : CXT} {x : Str} {C fI : Addr} {k : Nat} {fd : FuncData} {ps : List Str} {sp : Sp} (T : OexC X.K C) (iC : PySem.W.findIn X.K (.ref C) "__init__" = some (some (.ref fI))) (tI : PySem.W.typeIn X.K (.ref fI) = some (.type "function"))
    (F1 : FnOk X.prog X.w X.K X.mg X.base CX k fI fd ps sp) (hr : Room (k + 1) X.A) (hb : Binds X.K fd ps []) (hx : Passes CX X (fun _ _ _ => False)) (hg : Gl X x) (hm : X.mg x = some (.ref C)) (ha : PA X (e :: es) ta)
    (hdb : (x == ("__debug__" : Str)) = false := by decide) (he : starEach (e :: es) X.env = (false, eval e X.env) :: starEach es X.env := by rfl) (hpl : (backTo pos (starEach es X.env)).any (·.1) = false := by rfl) :
    PE X (.Call (.Name x p) (e :: es) [] pos) (tMkV C sp ta) := by
  refine ⟨fun pins s σ H Q I h => ?_⟩
  obtain ⟨nm, q, N, bs, bm, sn, sub, ab, col, dd, k0, k1, k2, k3, k5, hC, hbm⟩ := T.cls
  refine wpAny_Call_Name_kw (ld_glob I hg hm ?_ hdb)
  refine PySem.W.callWith_K (h₀ := X.base) I.ok.mod.kin T.kC (thn (ha.run pos pins s σ H _ I h) fun us s1 ⟨vs, H1, I1, r1, hz, q1⟩ => ⟨I1.kIn, ?_⟩) he hpl
  show wpAny _ _ (call (.ref C) us) _ _ _
  obtain ⟨hp, g, dr, tk, os⟩ := s1
  have hsz : hp.objs.size ≤ hp.objs.size + 1 := Nat.le_succ _
  have hn : H1 (hp.objs.size + 1) = none := I1.hok.fresh hsz
  have hq := q1 (hp.objs.size + 1) hn
  have hget : ((hp.push (PySem.W.kdv_tup us)).push (PySem.HandSPX.excO C hp.objs.size)).get? (hp.objs.size + 1) = some (PySem.HandSPX.excO C hp.objs.size) := by heap_get
  have I2 : Inv X pins σ (upd H1 (hp.objs.size + 1) (exo (hp.objs.size + 1) C none)) ⟨(hp.push (PySem.W.kdv_tup us)).push (PySem.HandSPX.excO C hp.objs.size), g, dr, tk, os⟩ := I1.laid (t' := tk) (a := hp.objs.size + 1) (o := exo (hp.objs.size + 1) C none) (h' := (hp.push (PySem.W.kdv_tup us)).push (PySem.HandSPX.excO C hp.objs.size)) (fun b o e => Heap.get?_push_of_some _ (Heap.get?_push_of_some _ e)) hsz (exo_ok hget)
  have r2 : Vals (V.ref (hp.objs.size + 1) :: vs) (Value.ref (hp.objs.size + 1) :: us) := .cons rfl r1
  have hl : (Value.ref (hp.objs.size + 1) :: us ++ []).length = ps.length := by
    rw [List.append_nil]
    have e := r2.length
    rw [F1.len _ _ _ _ hq] at e
    exact e.symm
  have hus : us.length ≤ sizeLine := by
    rw [← Paired.length r1, sizeLine_eq]
    omega
  refine wpAny_call (PySem.HandSPX.call_own F.excBase_ValueError (fun Y => PySem.HandSPX.refsVE_contains Y bm hbm) (I1.kIn _ _ hC) (PySem.W.looks_findIn I1.kIn iC) (fun self => PySem.W.bind_fn I1.kIn self tI) hus
    (codeAny_mono (F1.run _ X.stack _ _ ⟨Value.ref (hp.objs.size + 1) :: us, []⟩ (Value.ref (hp.objs.size + 1) :: us) _ _ (fun _ _ _ => False) (hr.make C us []) (I2.env0.make C us []) (by have := hb _ (Value.ref (hp.objs.size + 1) :: us) I2.kIn hl; rw [List.append_nil] at this; exact this) r2 hq) fun r s' hq' => ?_))
  cases r with
  | error er => exact hx pins σ _ _ er s' I2 hq'
  | ok fl =>
    cases fl with
    | ret u =>
      obtain ⟨v, H2, J, rv, ev, q2⟩ := I2.after hq'
      subst ev
      exact ⟨rv, .ref (hp.objs.size + 1), H2, J, rfl, q2⟩
    | next => exact False.elim hq'
    | brk => exact False.elim hq'
    | cont => exact False.elim hq'
theorem pe_oexV0 {CX : CXT} {x : Str} {C fI : Addr} {k : Nat} {fd : FuncData} {ps : List Str} {sp : Sp} (T : OexC X.K C) (iC : PySem.W.findIn X.K (.ref C) "__init__" = some (some (.ref fI))) (tI : PySem.W.typeIn X.K (.ref fI) = some (.type "function"))
    (F1 : FnOk X.prog X.w X.K X.mg X.base CX k fI fd ps sp) (hr : Room (k + 1) X.A) (hb : Binds X.K fd ps []) (hx : Passes CX X (fun _ _ _ => False)) (hg : Gl X x) (hm : X.mg x = some (.ref C)) (hdb : (x == ("__debug__" : Str)) = false := by decide) :
    PE X (.Call (.Name x p) [] [] pos) (tMkV0 C sp) := by
  refine ⟨fun pins s σ H Q I h => ?_⟩
  obtain ⟨nm, q, N, bs, bm, sn, sub, ab, col, dd, k0, k1, k2, k3, k5, hC, hbm⟩ := T.cls
  refine wpAny_Call_Name_kw (ld_glob I hg hm ?_ hdb)
  refine PySem.W.callWith_K0 I.kIn T.kC ?_
  show wpAny _ _ (call (.ref C) []) _ _ _
  obtain ⟨hp, g, dr, tk, os⟩ := s
  have hsz : hp.objs.size ≤ hp.objs.size + 1 := Nat.le_succ _
  have hn : H (hp.objs.size + 1) = none := I.hok.fresh hsz
  have hq := h (hp.objs.size + 1) hn
  have hget : ((hp.push (PySem.W.kdv_tup [])).push (PySem.HandSPX.excO C hp.objs.size)).get? (hp.objs.size + 1) = some (PySem.HandSPX.excO C hp.objs.size) := by heap_get
  have I2 := I.laid (t' := tk) (a := hp.objs.size + 1) (o := exo (hp.objs.size + 1) C none) (h' := (hp.push (PySem.W.kdv_tup [])).push (PySem.HandSPX.excO C hp.objs.size)) (fun b o e => Heap.get?_push_of_some _ (Heap.get?_push_of_some _ e)) hsz (exo_ok hget)
  have r2 : Vals [V.ref (hp.objs.size + 1)] [Value.ref (hp.objs.size + 1)] := .cons rfl .nil
  have hl : [Value.ref (hp.objs.size + 1)].length = ps.length := by
    have e := r2.length
    rw [F1.len _ _ _ _ hq] at e
    exact e.symm
  refine wpAny_call (PySem.HandSPX.call_own F.excBase_ValueError (fun Y => PySem.HandSPX.refsVE_contains Y bm hbm) (I.kIn _ _ hC) (PySem.W.looks_findIn I.kIn iC) (fun self => PySem.W.bind_fn I.kIn self tI) (by rw [sizeLine_eq]; exact Nat.zero_le _)
    (codeAny_mono (F1.run _ X.stack _ _ ⟨[Value.ref (hp.objs.size + 1)], []⟩ [Value.ref (hp.objs.size + 1)] _ _ (fun _ _ _ => False) (hr.make C [] []) (I2.env0.make C [] []) (hb _ [Value.ref (hp.objs.size + 1)] I2.kIn hl) r2 hq) fun r s' hq' => ?_))
  cases r with
  | error er => exact hx pins σ _ _ er s' I2 hq'
  | ok fl =>
    cases fl with
    | ret u =>
      obtain ⟨v, H2, J, rv, ev, q2⟩ := I2.after hq'
      subst ev
      exact ⟨rv, .ref (hp.objs.size + 1), H2, J, rfl, q2⟩
    | next => exact False.elim hq'
    | brk => exact False.elim hq'
    | cont => exact False.elim hq'
end
/-! ### isinstance of an own error that is held as a value; its field -/
def rIsX (K : PySem.W.Frag) : List V → Hp → VK → Prop := fun xs H Q => ∃ (a C : Addr) (d : Option Addr) (c : V) (u : Value) (b : Bool), xs = [.ref a, c] ∧ ClsV c u ∧ H a = some (exo a C d) ∧ (∀ dx, d = some dx → ∃ fs, H dx = some (exd dx fs)) ∧ ExcC K C ∧ PySem.W.kitOne K (.ref C) u = some b ∧ Q (.bl b) H
section
variable {X : Cx} {pins : List (Addr × Obj)} {σ : L2.St} {H : Hp} {s : Shared}
theorem exo_inst {a C : Addr} {d : Option Addr} (I : Inv X pins σ H s) (ha : H a = some (exo a C d)) (hd : ∀ dx, d = some dx → ∃ fs, H dx = some (exd dx fs)) :
    ∃ (ox : Obj) (od : Option Obj), PySem.W.InstAt s.heap a ox C od := by
  obtain ⟨t1, ho⟩ := exo_at I.hok ha
  cases d with
  | none => exact ⟨_, none, ho, rfl, rfl, trivial⟩
  | some dx =>
    obtain ⟨fs, hx⟩ := hd dx rfl
    obtain ⟨mA, hns, _⟩ := exd_at I.hok hx
    obtain ⟨od, ho2, _⟩ := lookIn_ns hns
    exact ⟨_, some od, ho, rfl, rfl, ho2⟩
theorem call_isX : CallR X (.builtin "isinstance") (rIsX X.K) := by
  intro pins s σ H xs us Q I r h
  obtain ⟨a, C, d, c, u, b, rfl, k, ha, hd, T, e, q⟩ := h
  obtain ⟨u1, u2, rfl, r1, r2⟩ := vals2 r
  cases (show u1 = Value.ref a from r1)
  cases k.eq r2
  obtain ⟨ox, od, J⟩ := exo_inst I ha hd
  obtain ⟨cd, hcd, _⟩ := PySem.W.any_some T.hd
  exact PySem.W.kia_one (PySem.W.kitx_exc (by rw [hcd] <;> rfl) T.hg T.hk T.hs T.ha T.hn T.ht T.hm) I.kIn J e (fun z => nomatch z) fun tk => ⟨.bl b, H, I.tok tk, rfl, q⟩
def tExF (K : PySem.W.Frag) (n : Str) (te : TE) : TE := fun σ H Q => te σ H fun x H1 => ∃ (a C dx : Addr) (fs : List (Str × V)) (v : V), x = .ref a ∧ H1 a = some (exo a C (some dx)) ∧ H1 dx = some (exd dx fs) ∧ XfC K C ∧ PySem.W.findIn K (.ref C) n = some none ∧ fs.lookup n = some v ∧ Q v H1
theorem pe_exF {e : Expr} {te : TE} {pos : Pos} {n : Str} (he : PE X e te) (hb : attributeBase e n X.env (eval e X.env) = eval e X.env := by rfl) : PE X (.Attribute e n pos) (tExF X.K n te) := by
  refine ⟨fun pins s σ H Q I h => ?_⟩
  refine attr_of hb (thn (he.run pins s σ H _ I h) fun u s1 hh => ?_)
  obtain ⟨x, H1, I1, rx, a, C, dx, fs, v, ex, ha, hx, T, hno, l, q⟩ := hh
  subst ex
  obtain rfl : u = Value.ref a := rx
  obtain ⟨t1, ho⟩ := exo_at I1.hok ha
  obtain ⟨mA, hns, hr⟩ := exd_at I1.hok hx
  obtain ⟨od, ho2, hl⟩ := lookIn_ns hns
  obtain ⟨u, hu, ru⟩ := RelO.some_of (v := v) (o := mA n) (by rw [← l]; exact hr n)
  have J : PySem.W.InstAt s1.heap a _ C (some od) := ⟨ho, rfl, rfl, ho2⟩
  exact HandSPX.exc_get I1.kIn J T.ga T.gg T.exC (PySem.W.findObj_own T.hdC hno rfl (by rw [hl, hu])) (handed_of ru) ⟨v, H1, I1.tok _, ru, q⟩
end
def rEqOr (K : PySem.W.Frag) : R2 := fun x y H Q => rEqD K x y H Q ∨ ∃ a b kvs, x = .ref a ∧ y = .ref b ∧ H a = some (.dK kvs) ∧ H b = some (.dK kvs) ∧ (kvs.map (·.1)).Nodup ∧ (∀ p ∈ kvs, flatB p.2 = true) ∧ Q (.bl true) H
theorem op_eqOr {X : Cx} (hu : X.A.units + 64 < cLine) (h0 : X.A.units < cLine) : OpR X (compareOp .Eq) (rEqOr X.K) := by
  intro pins s σ H x y v u Q I rx ry h
  rcases h with h | h
  · exact op_eqD hu pins s σ H x y v u Q I rx ry h
  · exact op_eq_dict h0 pins s σ H x y v u Q I rx ry h
/-! ### sorted(xs) of alike data, or of a list of at most one item, whatever it is -/
section
variable {X : Cx}
def rSortedU (K : PySem.W.Frag) : List V → Hp → VK → Prop := fun vs H Q => rSortedD K vs H Q ∨ ∃ (a : Addr) (xs : List V), vs = [V.ref a] ∧ SqL K H a xs ∧ xs.length ≤ 1 ∧ ∀ p, H p = none → Q (.ref p) (upd H p (.lst xs))
theorem perm_short {α : Type} : ∀ {l m : List α}, l.Perm m → m.length ≤ 1 → l = m
  | _, [], h, _ => h.eq_nil
  | _, [x], h, _ => List.perm_singleton.mp h
  | _, _ :: _ :: m, _, h => absurd h (by rw [List.length_cons, List.length_cons]; omega)
theorem cr_sortedU (hu : X.A.units + 64 < cLine) : CallR X (.builtin "sorted") (rSortedU X.K) := by
  intro pins s σ H vs us Q I r h
  rcases h with h | h
  · exact cr_sortedD hu pins s σ H vs us Q I r h
  obtain ⟨a, xs, rfl, hs, h1, q⟩ := h
  obtain ⟨its, rv, hl, hz⟩ := I.list hs
  obtain ⟨o, ho, hc, n, hd⟩ := hl.isList
  rw [Vals.ref1 r]
  have hle : its.length = xs.length := rv.length.symm
  have hzz : its.length ≤ sizeLine := by rw [hle] <;> exact hz
  refine Calls.call_function_entry PyProof.Rows.kind_sorted PyProof.Rows.plain_sorted PyProof.Rows.entry_sorted (PyProof.Rows.args_sorted1 _) ?_
  unfold Builtin.«sorted»
  refine wpAny_bind (m := checkCount "sorted" 1 1 _) (wpAny_pure ?_)
  refine wpAny_bind (wpAny_collect_seq a (.inl rfl) ho hc hd (fun h' hk => ?_) (by rw [List.size_toArray] <;> exact hzz))
  have eL : its.toArray.toList = its := by simp
  rw [eL]
  refine wpAny_bind (wpAny_newList ?_ hzz)
  have I1 : Inv X pins σ H { s with heap := h' } := I.kept (t' := s.toks) hk
  have atL : (h'.push (seqObj "list" its.toArray 0)).get? h'.objs.size = some (seqObj "list" its.toArray 0) := Heap.get?_push_size _ rfl
  show wpAny _ _ _ _ _ { s with heap := h'.push (seqObj "list" its.toArray 0) }
  refine wpAny_bind (wpAny_holding (wpAny_call_entry PyProof.Rows.slot_list_sort ⟨_, atL, rfl⟩ PyProof.Rows.entry_list_sort
    (SrtO.list_sort_ord (s := { s with heap := h'.push (seqObj "list" its.toArray 0) }) SrtO.swo_int atL hzz (fun h2 => absurd h2 (by rw [hle]; omega)) fun out k1 k2 => ⟨_, rfl, ?_⟩) (PyProof.Rows.args_list_sort _)))
  have eo : out = its := perm_short k2.perm (by rw [hle]; exact h1)
  subst eo
  obtain ⟨ep, he'⟩ := PyProof.Rows.sortedHeap_at (vs := out) (out := out.toArray) atL
  refine wpAny_pure ⟨_, rfl, .ref h'.objs.size, upd H h'.objs.size (.lst xs), I1.laid (t' := s.toks) (fun b u e => ?_) (Nat.le_refl _) ⟨by rw [sizeLine_eq]; omega, out, ep, rv, he'⟩, rfl, q _ (I1.hok.fresh (Nat.le_refl _))⟩
  have hb : b < h'.objs.size := Heap.lt_size e
  rw [PyProof.Rows.sortedHeap_old (Nat.ne_of_lt hb) (by rw [size_push'] <;> exact Nat.lt_succ_of_lt hb)]
  exact Heap.get?_push_of_some _ e

theorem pi_tupB {K : PySem.W.Frag} {e : Expr} {te : TE} {tg : Expr} (he : PE X e te) (h : X.K = K := by rfl) : PI X tg e (iTup K te) := h ▸ pi_tup he
theorem pi_listB {K : PySem.W.Frag} {e : Expr} {te : TE} {tg : Expr} (he : PE X e te) (h : X.K = K := by rfl) : PI X tg e (iList K te) := h ▸ pi_list he
theorem op_catAB {K : PySem.W.Frag} (h : X.K = K := by rfl) : OpR X (binaryOp .Add) (rCatA K) := h ▸ op_catA
end
theorem op_inDB {X : Cx} {K : PySem.W.Frag} (hr : X.A.units + 65 < cLine) (h : X.K = K := by rfl) : OpR X (compareOp .In) (rInD K) := h ▸ op_inD hr
/-! ### d.setdefault(k, x); a built-in function that a module brings; math.factorial -/
section
variable {X : Cx} {o e f : Expr} {apos cpos : Pos} {td ty tx : TE}
def tDSet (td ty tx : TE) : TE := fun σ H Q => td σ H fun x H1 => ∃ a, x = .ref a ∧ IsD H1 a ∧ ty σ H1 fun y H2 => tx σ H2 fun z H3 => ∃ (kvs : List (Key × V)) (k : Key), H3 a = some (.dK kvs) ∧ y = kV k ∧ kvs.length < sizeLine ∧
  (∀ v, valV kvs k = some v → Q v H3) ∧ (valV kvs k = none → Q z (upd H3 a (.dK (kvs ++ [(k, z)]))))
theorem putK_fresh {kvs : List (Key × V)} {k : Key} {z : V} (h : valV kvs k = none) : putK kvs k z = kvs ++ [(k, z)] := by
  unfold putK
  rw [if_neg]
  intro c
  obtain ⟨p, hp, e⟩ := List.any_eq_true.mp c
  unfold valV at h
  cases hf : kvs.find? fun kv => decide (kv.1 = k) with
  | none => exact absurd e (List.find?_eq_none.mp hf p hp)
  | some q =>
    rw [hf] at h
    cases h
theorem pe_dsetdef (ho : PE X o td) (he : PE X e ty) (hf : PE X f tx) (m : M2 X o "setdefault" apos e f cpos) : PE X (.Call (.Attribute o "setdefault" apos) [e, f] [] cpos) (tDSet td ty tx) := by
  refine ⟨fun pins s σ H Q I h => ?_⟩
  refine wpAny_Call_method m.base m.few m.line PySem.F.plainAttrs_dict PySem.F.slot_dict_setdefault PySem.F.type_dict_setdefault (thn (ho.run pins s σ H _ I h) fun u s1 ⟨x, H1, I1, rx, a, ex, d, q1⟩ => ?_)
  subst ex
  obtain rfl : u = Value.ref a := rx
  obtain ⟨t1, t2, _⟩ := isD_at I1 d
  refine ⟨t1, t2, ?_⟩
  rw [m.trees]
  refine Calls.callWith_builtin rfl (Calls.evalArgs_plain (Calls.spliced_cons (thn (he.run pins s1 σ H1 _ I1 q1) fun iv s2 ⟨y, H2, I2, ry, q2⟩ =>
    Calls.spliced_cons (thn (hf.run pins s2 σ H2 _ I2 q2) fun fv s3 ⟨z, H3, I3, rz, kvs, k, ea, ey, hz, q3, q4⟩ => Calls.spliced_nil ?_))))
  subst ey
  obtain ⟨zl, hd, vs, rel, dd⟩ := dk_of I3.hok ea
  have hzv : vs.length ≤ sizeLine := by rw [← rel.length]; exact zl
  refine call_meetsIn PySem.F.slot_dict_setdefault dd.typeIs PySem.F.entry_dict_setdefault (PySem.F.args_dict_setdefault_3 _ _ _) (kt_meets_setdefault (mixKind X.prog X.w) a (kV_is ry) hd fv) ⟨vs, dd, hzv, fun v hv => ?_, fun hn h' dd' hs => ?_⟩
  · obtain ⟨v0, h0, r0⟩ : ∃ v0, valV kvs k = some v0 ∧ RelV v0 v := by
      have := rel.val k
      rw [hv] at this
      cases hq : valV kvs k with
      | none => rw [hq] at this; exact this.elim
      | some v0 => rw [hq] at this; exact ⟨v0, rfl, this⟩
    exact ⟨v0, H3, I3.tok _, r0, q3 v0 h0⟩
  · have h0 : valV kvs k = none := by
      have := rel.val k
      rw [hn] at this
      cases hq : valV kvs k with
      | none => rfl
      | some v0 => rw [hq] at this; exact this.elim
    have hl : (kvs ++ [(k, z)]).length ≤ sizeLine := by rw [List.length_append, List.length_singleton]; omega
    have he : ∃ q, h'.get? a = some q := let ⟨q, _, _, hq, _⟩ := dd'; ⟨q, hq⟩
    have rp := rel.put k rz
    rw [putK_fresh h0] at rp
    exact ⟨z, _, d_write I3 (by rw [ea]; exact True.intro) hs he (dk_new hl hd rp dd'), rz, q4 h0⟩
/-- f(e, ..), f a built-in function that the module has under this name -/
theorem pe_callM {x : Str} {id : String} {r : List V → Hp → VK → Prop} {es : List Expr} {t : TA} {p pos : Pos} (hc : CallR X (.builtin id) r) (hg : Gl X x) (hm : X.mg x = some (.builtin id)) (ha : PA X (e :: es) t) (hdb : (x == ("__debug__" : Str)) = false := by decide)
    (he : starEach (e :: es) X.env = (false, eval e X.env) :: starEach es X.env := by rfl) (hpl : (backTo pos (starEach es X.env)).any (·.1) = false := by rfl) : PE X (.Call (.Name x p) (e :: es) [] pos) (tCB r t) := by
  refine ⟨fun pins s σ H Q I h => ?_⟩
  refine wpAny_Call_Name_kw (ld_glob I hg hm ?_ hdb)
  exact PyProof.Rows.callWith_builtin1 (thn (ha.run pos pins s σ H _ I h) fun us s1 ⟨vs, H1, I1, r1, q1⟩ => hc pins s1 σ H1 vs us Q I1 r1 q1) he hpl
theorem entry_factorial : entryFor table "math.factorial" = some Builtin.«math.factorial» := entryFor_of_fast (by kernel_rfl)
theorem kind_factorial : builtinKind "math.factorial" = none := by decide +kernel
theorem plain_factorial : plainId "math.factorial" = true := by decide +kernel
theorem args_factorial (a : Value) : argsOk "math.factorial" ⟨[a], []⟩ := by unfold argsOk; kernel_rfl
def facN (n : Nat) : Nat := (List.range n).foldl (fun (p i : Nat) => p * (i + 1)) 1
def rFact : List V → Hp → VK → Prop := fun xs H Q => ∃ n : Nat, xs = [.int (n : Int)] ∧ n ≤ 12 ∧ Q (.int (facN n : Nat)) H
theorem cr_fact : CallR X (.builtin "math.factorial") rFact := by
  intro pins s σ H xs us Q I r h
  obtain ⟨n, rfl, hn, q⟩ := h
  obtain ⟨u, rfl, ru⟩ := vals1 r
  obtain ⟨tk, rfl⟩ : ∃ tk, u = Value.int (n : Int) tk := ru
  refine Calls.call_function_entry kind_factorial plain_factorial entry_factorial (args_factorial _) ?_
  unfold Builtin.«math.factorial»
  refine wpAny_bind (m := Builtin.Math.mathOne "factorial" _) (wpAny_pure ?_)
  unfold Builtin.Math.factorialOf
  refine wpAny_bind (m := Builtin.Math.mathIndex _) (wpAny_pure ?_)
  show wpAny _ _ (if ((n : Int) > Builtin.Math.maxSsize) then _ else _) _ _ _
  rw [if_neg (by
    have : Builtin.Math.maxSsize = 9223372036854775807 := rfl
    omega)]
  show wpAny _ _ (if ((n : Int) < 0) then _ else _) _ _ _
  rw [if_neg (by omega)]
  show wpAny _ _ (if ((n : Int) > Builtin.Math.manyFactors) then _ else _) _ _ _
  rw [if_neg (by
    have : Builtin.Math.manyFactors = 20000 := rfl
    omega)]
  show wpAny _ _ (retIntGrown ((facN n : Nat) : Int)) _ _ _
  have hb : ¬ (((facN n : Nat) : Int).natAbs.log2 ≥ bitsLine) := by
    have : ∀ m : Fin 13, ¬ (((facN m.val : Nat) : Int).natAbs.log2 ≥ bitsLine) := by decide +kernel
    exact this ⟨n, by omega⟩
  unfold retIntGrown mkIntGrown
  rw [if_neg hb]
  exact wpAny_bind (wpAny_mkInt (wpAny_pure ⟨_, rfl, .int ((facN n : Nat) : Int), H, I.tok _, ⟨_, rfl⟩, q⟩))
end
/-! ### min(xs) of alike data: the item that reads as the least -/
def rMinData (K : PySem.W.Frag) : List V → Hp → VK → Prop := fun vs H Q => ∃ (a : Addr) (β : Type) (b : β) (bs : List β) (val : β → V) (enc : β → PyData), vs = [V.ref a] ∧ SqL K H a ((b :: bs).map val) ∧ (∀ c ∈ b :: bs, Dp K H (val c) (enc c)) ∧
  PySem.W.AlikeAll ((b :: bs).map enc) ∧ PyData.depthAll ((b :: bs).map enc) ≤ 60 ∧ ∀ c ∈ b :: bs, enc c = PySem.W.minD (enc b) (bs.map enc) → Q (val c) H
theorem cr_minData {X : Cx} (hc : X.calm = true) (hu : X.A.units + 64 < cLine) : CallR X (.builtin "min") (rMinData X.K) := by
  intro pins s σ H vs us Q I r h
  obtain ⟨a, β, b, bs, val, enc, rfl, hs, hd, hal, hdp, q⟩ := h
  obtain ⟨its, rv, hl, hz⟩ := I.list hs
  obtain ⟨u, rfl, ru⟩ := vals1 r
  obtain rfl : u = Value.ref a := ru
  obtain ⟨as, hr⟩ := Dp.readsAll I _ _ _ (dpAll_of hd) rv
  refine PySem.W.min_list_data (vs := its.toArray) (x := enc b) (xs := bs.map enc) (I.ok.hd hc) hl.isList (by simpa using hr) hal (by show _ + 1 + PyData.depthAll ((b :: bs).map enc) < cLine; omega) fun i v h' tk cs hv hr' hk => ?_
  have hi : i < (b :: bs).length := by
    have h1 := (Array.getElem?_eq_some_iff.mp hv).1
    have h2 := rv.length
    rw [List.length_map] at h2
    rw [List.size_toArray] at h1
    omega
  obtain ⟨v', hv', rel⟩ := rv.get (i := i) (x := val (b :: bs)[i]) (by rw [List.getElem?_map, List.getElem?_eq_getElem hi] <;> rfl)
  have ev : v' = v := by
    have h1 : its[i]? = some v := by rw [← hv]; simp
    exact Option.some.inj (hv'.symm.trans h1)
  subst ev
  obtain ⟨ds, rd⟩ := Dp.reads I _ _ _ (hd _ (List.getElem_mem hi)) rel
  have one := (PySem.Reads.unique (PyProof.Rows.Reads.keeps hk rd) _ _ hr').1
  exact ⟨val (b :: bs)[i], H, I.kept (t' := tk) hk, rel, q _ (List.getElem_mem hi) one⟩
/-! several except clauses, any of them 'as n' -/
/-- an 'as n' clause's ends: the name goes -/
def asD (i : Nat) (D : Ends) : Ends :=
  let f : (St → Hp → Prop) → St → Hp → Prop := fun k τ J => k (τ.set i none) J
  { nx := f D.nx, rt := D.rt, bk := f D.bk, ct := f D.ct }
abbrev Clv := Value × (Addr → Value → Option Addr → TS)
/-- the reading of an 'as n' clause -/
def tAs (i : Nat) (ts : Addr → Value → Option Addr → TS) : Addr → Value → Option Addr → TS := fun ea C d D τ J => ts ea C d (asD i D) (τ.set i (some (.ref ea))) J
/-- a suite is read, whatever was caught -/
def SuiteR (X : Cx) (su : List Stmt) (ts : Addr → Value → Option Addr → TS) : Prop := ∀ (ea : Addr) (u : Obj) (C : Value) (d : Option Addr) (rest : List (Addr × Obj)), Zc C d u → (∃ fs, u.data = .fields fs) → PSs (X.suite ea ((ea, u) :: rest)) su (ts ea C d)
/-- what holds once the exception at ea has landed: h is the heap -/
structure Lit (X : Cx) (pins : List (Addr × Obj)) (τ : St) (J : Hp) (s : Shared) (ea : Addr) (C : Value) (d : Option Addr) (h : Heap) : Prop where
  ok : X.Ok
  free : J ea = none
  kin : X.K.In h
  look : PySem.W.Looks (model X.prog X.w) h (typeOf (.ref ea)) C
  name : ∀ {x : Str} {c : Value} {p : Pos} {G E : Value → Shared → Prop}, Names X x c → G c { s with heap := h } → wpAny (model X.prog X.w) (X.A.mark (some (.ref ea))) (eval (.Name x p) X.env) G E { s with heap := h }
  lands : ∀ {A : Around} {G : Unit → Shared → Prop} {E : Value → Shared → Prop}, (∀ g u fs, u.data = .fields fs → Zc C d u → Inv (X.suite ea ((ea, u) :: (X.pn ++ pins))) [] τ J { s with heap := g } → G () { s with heap := g }) →
    wpAny (model X.prog X.w) A (setFlight (.ref ea) none) G E { s with heap := h }
section
variable {X : Cx} {pins : List (Addr × Obj)} {τ : St} {J : Hp} {s : Shared} {ea : Addr} {C c : Value} {d : Option Addr} {h : Heap} {D : Ends} {x n : Str} {p1 p2 : Pos} {b0 : Stmt} {su : List Stmt} {ts : Addr → Value → Option Addr → TS} {hds : List ExceptHandler}
/-- the ends of a suite are those of the whole -/
theorem suite_ends {u : Obj} {f : Flow} {s6 : Shared} (ok : X.Ok) (q : SP (X.suite ea ((ea, u) :: (X.pn ++ pins))) [] D f s6) : SP X pins D f s6 := by
  cases f with
  | ret v =>
    obtain ⟨z, τ6, J6, I6, r6, k6⟩ := q
    exact ⟨z, τ6, J6, I6.unsuite ok, r6, k6⟩
  | next =>
    obtain ⟨τ6, J6, I6, k6⟩ := q
    exact ⟨τ6, J6, I6.unsuite ok, k6⟩
  | brk =>
    obtain ⟨τ6, J6, I6, k6⟩ := q
    exact ⟨τ6, J6, I6.unsuite ok, k6⟩
  | cont =>
    obtain ⟨τ6, J6, I6, k6⟩ := q
    exact ⟨τ6, J6, I6.unsuite ok, k6⟩
/-- a clause without a name -/
theorem Lit.plain (t : Lit X pins τ J s ea C d h) {b : Bool} (hc : Names X x c) (hb : PySem.W.exmOne X.K C c = some b) (rd : SuiteR X (b0 :: su) ts) (yes : b = true → ts ea C d D τ J)
    (no : b = false → wpAny (model X.prog X.w) X.A (handleBy (.ref ea) X.env hds) (SP X pins D) X.xe { s with heap := h }) :
    wpAny (model X.prog X.w) X.A (handleBy (.ref ea) X.env (.ExceptHandler (some (.Name x p1)) none (b0 :: su) p2 :: hds)) (SP X pins D) X.xe { s with heap := h } := by
  refine wpAny_handleBy_cons (codeAny_handlers_test (t.name hc ((PySem.W.exm_one t.kin t.look hb).here ?_))) fun z => (nomatch z)
  match b, yes, no with
  | false, _, no => exact no rfl
  | true, yes, _ =>
    refine codeAny_handlers_suite (t.lands fun g u fs hu hz I4 => wpAny_mono ((rd ea u C d _ hz ⟨fs, hu⟩).run _ _ _ _ _ I4 (yes rfl)) (fun f s6 q => ?_) (fun _ _ z => z.elim))
    have q := suite_ends t.ok q
    cases f with
    | ret v => exact q
    | next => exact q
    | brk => exact q
    | cont => exact q
/-- a clause 'as n' -/
theorem Lit.named {i : Nat} (t : Lit X pins τ J s ea C d h) {b : Bool} (hN : X.N.Nodup) (hi : X.N[i]? = some n) (hl : X.env.kindOf n = some .local) (hc : Names X x c) (hb : PySem.W.exmOne X.K C c = some b) (rd : SuiteR X (b0 :: su) ts) (yes : b = true → tAs i ts ea C d D τ J)
    (no : b = false → wpAny (model X.prog X.w) X.A (handleBy (.ref ea) X.env hds) (SP X pins D) X.xe { s with heap := h }) :
    wpAny (model X.prog X.w) X.A (handleBy (.ref ea) X.env (.ExceptHandler (some (.Name x p1)) (some n) (b0 :: su) p2 :: hds)) (SP X pins D) X.xe { s with heap := h } := by
  refine wpAny_handleBy_cons (codeAny_handlers_test (t.name hc ((PySem.W.exm_one t.kin t.look hb).here ?_))) fun z => (nomatch z)
  match b, yes, no with
  | false, _, no => exact no rfl
  | true, yes, _ =>
    refine codeAny_handlers_suite_as (t.lands fun g u fs hu hz I4 => store_ok (X := X.suite ea ((ea, u) :: (X.pn ++ pins))) (v := .ref ea) I4 hN hi (.inl hl) rfl (fun s5 I5 => ?_) (.inr hl))
    refine wpAny_mono ((rd ea u C d _ hz ⟨fs, hu⟩).run _ _ _ _ _ I5 (yes rfl)) (fun f s6 q => ?_) (fun _ _ z => z.elim)
    have q : SP X pins (asD i D) f s6 := suite_ends t.ok q
    cases f with
    | ret v =>
      obtain ⟨z, τ6, J6, I6, r6, k6⟩ := q
      exact gone_ok I6 hN hi hl fun s7 I7 => ⟨z, _, J6, I7, r6, k6⟩
    | next =>
      obtain ⟨τ6, J6, I6, k6⟩ := q
      exact gone_ok I6 hN hi hl fun s7 I7 => ⟨_, J6, I7, k6⟩
    | brk =>
      obtain ⟨τ6, J6, I6, k6⟩ := q
      exact gone_ok I6 hN hi hl fun s7 I7 => ⟨_, J6, I7, k6⟩
    | cont =>
      obtain ⟨τ6, J6, I6, k6⟩ := q
      exact gone_ok I6 hN hi hl fun s7 I7 => ⟨_, J6, I7, k6⟩
end
inductive Clauses (X : Cx) : List ExceptHandler → List Clv → Prop
  | nil : Clauses X [] []
  | plain {x : Str} {c : Value} {ts : Addr → Value → Option Addr → TS} {b0 : Stmt} {su : List Stmt} {p1 p2 : Pos} {hds : List ExceptHandler} {cl : List Clv} (hc : Names X x c) (rd : SuiteR X (b0 :: su) ts) (more : Clauses X hds cl) : Clauses X (.ExceptHandler (some (.Name x p1)) none (b0 :: su) p2 :: hds) ((c, ts) :: cl)
  | named {x n : Str} {i : Nat} {c : Value} {ts : Addr → Value → Option Addr → TS} {b0 : Stmt} {su : List Stmt} {p1 p2 : Pos} {hds : List ExceptHandler} {cl : List Clv} (hN : X.N.Nodup) (hi : X.N[i]? = some n) (hl : X.env.kindOf n = some .local) (hc : Names X x c) (rd : SuiteR X (b0 :: su) ts) (more : Clauses X hds cl) :
      Clauses X (.ExceptHandler (some (.Name x p1)) (some n) (b0 :: su) p2 :: hds) ((c, tAs i ts) :: cl)
theorem Lit.all {X : Cx} {pins : List (Addr × Obj)} {τ : St} {J : Hp} {s : Shared} {ea : Addr} {C : Value} {d : Option Addr} {h : Heap} {D : Ends} {W : WX} (t : Lit X pins τ J s ea C d h) (on : W C d τ J → wpAny (model X.prog X.w) X.A (handleBy (.ref ea) X.env []) (SP X pins D) X.xe { s with heap := h })
    {hds : List ExceptHandler} {cl : List Clv} (k : Clauses X hds cl) : wMany X.K W D cl C d τ J → wpAny (model X.prog X.w) X.A (handleBy (.ref ea) X.env hds) (SP X pins D) X.xe { s with heap := h } := by
  induction k with
  | nil => exact on
  | plain hc rd _ ih =>
    intro w
    obtain ⟨b, hb, yes, no⟩ := w
    exact t.plain hc hb rd (fun z => yes z ea t.free) fun z => ih (no z)
  | named hN hi hl hc rd _ ih =>
    intro w
    obtain ⟨b, hb, yes, no⟩ := w
    exact t.named hN hi hl hc hb rd (fun z => yes z ea t.free) fun z => ih (no z)
theorem ps_try_mixed {X : Cx} {body : List Stmt} {k1 : ExceptHandler} {ks : List ExceptHandler} {cl : List Clv} {pos : Pos} {tb : WX → TS} {W : WX} (hst : X.stack = X.env :: X.outer) (hfr : X.env.frame = some X.env.locals) (tk : Takes X W)
    (rb : ∀ (V : WX) (pn : List (Addr × Obj)) (xe : Value → Shared → Prop), Takes (X.tr pn xe) V → PassesOwn (model X.prog X.w) X.A X.env xe → PSs (X.tr pn xe) body (tb V)) (hk : Clauses X (k1 :: ks) cl) :
    PS X (.Try body (k1 :: ks) [] [] pos) fun D τ J => tb (wMany X.K W D cl) D τ J := ⟨fun pins s σ H D I q0 => by
  have ok := I.ok
  have fr2 : X.A.frames = some (X.env :: X.outer) := ok.frames.trans (congrArg some hst)
  refine wpAny_Try_except (wpAny_mono ((rb (wMany X.K W D cl) (X.pn ++ pins) _ (fun u s' z => ?_) PassesOwn.looking).run [] s σ H D (I.toTry _) q0) (fun f s1 q => ?_) (fun e s1 z => z))
  · obtain ⟨ea, B, sI, _, τ, J, C, d, rfl, I', nb, up, sky, free, os, ag, w⟩ := z
    have I1 := I'.ofTry ok
    have sky : Sky B (X.env :: X.outer) ea (Zc C d) X.env.locals s'.heap := hst ▸ sky
    refine Sky.land Zc.steady fr2 hfr sky fun h fl up3 => ?_
    have lower : ∀ {g : Heap}, HandSPX.FlyingZ B (X.env :: X.outer) ea (Zc C d) g → s'.heap.UpToSlots g → ∀ {u : Obj} {fs : Array Value}, g.get? ea = some u → u.data = .fields fs → Inv (X.suite ea ((ea, u) :: (X.pn ++ pins))) [] τ J { s' with heap := g } := by
      intro g fg ug u fs hu hd
      have I2 : Inv X pins τ J { s' with heap := g } := I1.landed nb fg.1 (up.trans ug) os ag
      have out : ea ∉ frs (X.env :: X.outer) := by
        intro m
        obtain ⟨_, o, e, nf⟩ := fg.2.2.1.mem m
        cases hu.symm.trans e
        exact nf fs hd
      refine I2.suite hu hd free (fun z => out ?_) fun m => out ?_
      · exact List.mem_filterMap.mpr ⟨_, .head _, hfr.trans (congrArg some z.symm)⟩
      · obtain ⟨e, m1, m2⟩ := List.mem_filterMap.mp m
        exact List.mem_filterMap.mpr ⟨e, .tail _ m1, m2⟩
    obtain ⟨u3, f3, hu3, hz3, hd3⟩ := fl.there
    have I3 := lower fl up3 hu3 hd3
    refine Lit.all (W := W) (s := s') (h := h) ⟨ok, free, I3.kIn, ?_, ?_, ?_⟩ ?_ hk w
    · exact fun A Q E s k q => wpAny_typeOf_ref (k _ _ hu3) (hz3.1.symm ▸ q)
    · intro x c p G E hn q
      obtain ⟨hg, hdb, hm | ⟨hm, hv, hx⟩⟩ := hn
      · exact ld_glob I3 hg hm q hdb
      · exact ld_blt I3 hg hm hv q hx hdb
    · intro A G E q
      refine HandSPX.lands_againZ fl fun g fg ug => ?_
      obtain ⟨u, fs, hu, hz, hd⟩ := fg.there
      exact q g u fs hd hz (lower fg (up3.trans ug) hu hd)
    · intro w
      have again : wpAny (model X.prog X.w) X.A (setFlight (.ref ea) X.env.frame) (fun _ s4 => wpAny (model X.prog X.w) X.A (throw (.ref ea) : Sem Flow) (SP X pins D) X.xe s4) X.xe { s' with heap := h } := by
        rw [hfr]
        exact HandSPX.setFlight_upZ fl fun g hg ug => wpAny_throw (tk _ _ ⟨ea, B, sI, pins, τ, J, C, d, rfl, I1, nb, (up.trans up3).trans ug, .inr (.inr (hst.symm ▸ hg)), free, os, ag, w⟩)
      obtain ⟨_, _, _, u, fs, T, _, _, e1, _, e2, e3, _⟩ := id fl
      refine wpAny_handleBy_nil ?_
      unfold PySem.passOn
      refine wpAny_bind (wpAny_field e1 e2 e3 ?_)
      rw [if_neg (by simp)]
      first
        | exact wpAny_bind (wpAny_pure (wpAny_bind again))
        | exact wpAny_bind again
  · cases f with
    | ret v =>
      obtain ⟨z, τ, J, I1, r, k⟩ := q
      exact ⟨z, τ, J, I1.ofTry ok, r, k⟩
    | next =>
      obtain ⟨τ, J, I1, k⟩ := q
      exact wpAny_execs_nil ⟨τ, J, I1.ofTry ok, k⟩
    | brk =>
      obtain ⟨τ, J, I1, k⟩ := q
      exact ⟨τ, J, I1.ofTry ok, k⟩
    | cont =>
      obtain ⟨τ, J, I1, k⟩ := q
      exact ⟨τ, J, I1.ofTry ok, k⟩⟩
end L2
namespace My
open PySem PySem.Spec PyProof.Rows L2 Evl
theorem if_pos_of {c : Bool} {A B : Prop} (hc : c = true) (h : A) : if c = true then A else B := by
  rw [if_pos hc]
  exact h
theorem if_neg_of {c : Bool} {A B : Prop} (hc : c = false) (h : B) : if c = true then A else B := by
  rw [hc, if_neg Bool.false_ne_true]
  exact h
theorem atI0 (x : V) (xs : List V) : atI (x :: xs) 0 = some x := by
  unfold atI ixN
  rw [if_pos (by decide), if_pos (by simp only [List.length_cons]; omega)]
  rfl
theorem ixN0 (n : Nat) : ixN (n + 1) 0 = some 0 := by
  unfold ixN
  rw [if_pos (by decide), if_pos (by omega)]
  rfl
theorem atI_of {xs : List V} {i : Nat} {v : V} (h : xs[i]? = some v) : atI xs (i : Int) = some v := by
  have hi := (List.getElem?_eq_some_iff.mp h).1
  unfold atI ixN
  rw [if_pos (by omega), if_pos (by omega)]
  simpa using h
theorem seqIx0 (n : Nat) : seqIndex? 0 (n + 1) = some 0 := by
  unfold seqIndex?
  simp
theorem cutV_ints (ns : List Int) (lo hi : Option Int) : ∃ ms : List Int, cutV (ns.map V.int) lo hi = ms.map V.int ∧ ms.length ≤ ns.length := by
  unfold cutV
  refine ⟨_, by rw [← List.map_drop, ← List.map_take], ?_⟩
  rw [List.length_take, List.length_drop]
  omega
theorem ints_get {ms : List Int} {i : Nat} {y : V} (h : (ms.map V.int)[i]? = some y) : ∃ z, ms[i]? = some z ∧ y = .int z := by
  rw [List.getElem?_map] at h
  cases e : ms[i]? with
  | none =>
    rw [e] at h
    cases h
  | some z =>
    rw [e] at h
    exact ⟨z, rfl, (Option.some.inj h).symm⟩

structure Ad where
  a : Nat → Addr
  C : Nat → Addr
structure Fd where
  d : Nat → FuncData
abbrev Ad.a_BadBook_init (A : Ad) : Addr := A.a 0
abbrev Fd.d_BadBook_init (D : Fd) : FuncData := D.d 0
abbrev Ad.a_NoWork_init (A : Ad) : Addr := A.a 1
abbrev Fd.d_NoWork_init (D : Fd) : FuncData := D.d 1
abbrev Ad.a_is_integer (A : Ad) : Addr := A.a 2
abbrev Fd.d_is_integer (D : Fd) : FuncData := D.d 2
abbrev Ad.a_is_pair (A : Ad) : Addr := A.a 3
abbrev Fd.d_is_pair (D : Fd) : FuncData := D.d 3
abbrev Ad.a_Book_init (A : Ad) : Addr := A.a 4
abbrev Fd.d_Book_init (D : Fd) : FuncData := D.d 4
abbrev Ad.a_is_windows (A : Ad) : Addr := A.a 5
abbrev Fd.d_is_windows (D : Fd) : FuncData := D.d 5
abbrev Ad.a_is_window (A : Ad) : Addr := A.a 6
abbrev Fd.d_is_window (D : Fd) : FuncData := D.d 6
abbrev Ad.a_is_work (A : Ad) : Addr := A.a 7
abbrev Fd.d_is_work (D : Fd) : FuncData := D.d 7
abbrev Ad.a_middle (A : Ad) : Addr := A.a 8
abbrev Fd.d_middle (D : Fd) : FuncData := D.d 8
abbrev Ad.a_is_inside (A : Ad) : Addr := A.a 9
abbrev Fd.d_is_inside (D : Fd) : FuncData := D.d 9
abbrev Ad.a_within (A : Ad) : Addr := A.a 10
abbrev Fd.d_within (D : Fd) : FuncData := D.d 10
abbrev Ad.a_l_pool (A : Ad) : Addr := A.a 11
abbrev Fd.d_l_pool (D : Fd) : FuncData := D.d 11
abbrev Ad.a_l_draw (A : Ad) : Addr := A.a 12
abbrev Fd.d_l_draw (D : Fd) : FuncData := D.d 12
abbrev Ad.a_l_windows (A : Ad) : Addr := A.a 13
abbrev Fd.d_l_windows (D : Fd) : FuncData := D.d 13
abbrev Ad.a_l_refused (A : Ad) : Addr := A.a 14
abbrev Fd.d_l_refused (D : Fd) : FuncData := D.d 14
abbrev Ad.a_law (A : Ad) : Addr := A.a 15
abbrev Fd.d_law (D : Fd) : FuncData := D.d 15
abbrev Ad.a_NoLot_init (A : Ad) : Addr := A.a 16
abbrev Fd.d_NoLot_init (D : Fd) : FuncData := D.d 16
abbrev Ad.a_NoRow_init (A : Ad) : Addr := A.a 17
abbrev Fd.d_NoRow_init (D : Fd) : FuncData := D.d 17
abbrev Ad.a_is_row (A : Ad) : Addr := A.a 18
abbrev Fd.d_is_row (D : Fd) : FuncData := D.d 18
abbrev Ad.a_is_length_or_none (A : Ad) : Addr := A.a 19
abbrev Fd.d_is_length_or_none (D : Fd) : FuncData := D.d 19
abbrev Ad.a_is_lot (A : Ad) : Addr := A.a 20
abbrev Fd.d_is_lot (D : Fd) : FuncData := D.d 20
abbrev Ad.a_check_run (A : Ad) : Addr := A.a 21
abbrev Fd.d_check_run (D : Fd) : FuncData := D.d 21
abbrev Ad.a_is_all_in (A : Ad) : Addr := A.a 22
abbrev Fd.d_is_all_in (D : Fd) : FuncData := D.d 22
abbrev Ad.a_coming (A : Ad) : Addr := A.a 23
abbrev Fd.d_coming (D : Fd) : FuncData := D.d 23
abbrev Ad.a_steps (A : Ad) : Addr := A.a 24
abbrev Fd.d_steps (D : Fd) : FuncData := D.d 24
abbrev Ad.a_run (A : Ad) : Addr := A.a 25
abbrev Fd.d_run (D : Fd) : FuncData := D.d 25
abbrev Ad.a_l_row (A : Ad) : Addr := A.a 26
abbrev Fd.d_l_row (D : Fd) : FuncData := D.d 26
abbrev Ad.a_l_lot (A : Ad) : Addr := A.a 27
abbrev Fd.d_l_lot (D : Fd) : FuncData := D.d 27
abbrev Ad.a_l_some (A : Ad) : Addr := A.a 28
abbrev Fd.d_l_some (D : Fd) : FuncData := D.d 28
abbrev Ad.a_l_run (A : Ad) : Addr := A.a 29
abbrev Fd.d_l_run (D : Fd) : FuncData := D.d 29
abbrev Ad.a_is_served (A : Ad) : Addr := A.a 30
abbrev Fd.d_is_served (D : Fd) : FuncData := D.d 30
abbrev Ad.a_serves (A : Ad) : Addr := A.a 31
abbrev Fd.d_serves (D : Fd) : FuncData := D.d 31
abbrev Ad.a_lateness (A : Ad) : Addr := A.a 32
abbrev Fd.d_lateness (D : Fd) : FuncData := D.d 32
abbrev Ad.a_l_lateness (A : Ad) : Addr := A.a 33
abbrev Fd.d_l_lateness (D : Fd) : FuncData := D.d 33
abbrev Ad.a_l_flag (A : Ad) : Addr := A.a 34
abbrev Fd.d_l_flag (D : Fd) : FuncData := D.d 34
abbrev Ad.a_broken (A : Ad) : Addr := A.a 35
abbrev Fd.d_broken (D : Fd) : FuncData := D.d 35
abbrev Ad.a_NoNumber_init (A : Ad) : Addr := A.a 36
abbrev Fd.d_NoNumber_init (D : Fd) : FuncData := D.d 36
abbrev Ad.a_Book_eq (A : Ad) : Addr := A.a 37
abbrev Fd.d_Book_eq (D : Fd) : FuncData := D.d 37
abbrev Ad.a_unbounded (A : Ad) : Addr := A.a 38
abbrev Fd.d_unbounded (D : Fd) : FuncData := D.d 38
abbrev Ad.a_shifted (A : Ad) : Addr := A.a 39
abbrev Fd.d_shifted (D : Fd) : FuncData := D.d 39
abbrev Ad.a_last_of_all (A : Ad) : Addr := A.a 40
abbrev Fd.d_last_of_all (D : Fd) : FuncData := D.d 40
abbrev Ad.a_mirrored (A : Ad) : Addr := A.a 41
abbrev Fd.d_mirrored (D : Fd) : FuncData := D.d 41
abbrev Ad.a_NoGroup_init (A : Ad) : Addr := A.a 42
abbrev Fd.d_NoGroup_init (D : Fd) : FuncData := D.d 42
abbrev Ad.a_is_group (A : Ad) : Addr := A.a 43
abbrev Fd.d_is_group (D : Fd) : FuncData := D.d 43
abbrev Ad.a_part (A : Ad) : Addr := A.a 44
abbrev Fd.d_part (D : Fd) : FuncData := D.d 44
abbrev Ad.a_joined (A : Ad) : Addr := A.a 45
abbrev Fd.d_joined (D : Fd) : FuncData := D.d 45
abbrev Ad.a_l_main (A : Ad) : Addr := A.a 46
abbrev Fd.d_l_main (D : Fd) : FuncData := D.d 46
abbrev Ad.a_l_told (A : Ad) : Addr := A.a 47
abbrev Fd.d_l_told (D : Fd) : FuncData := D.d 47
abbrev Ad.a_l_more (A : Ad) : Addr := A.a 48
abbrev Fd.d_l_more (D : Fd) : FuncData := D.d 48
abbrev Ad.a_room (A : Ad) : Addr := A.a 49
abbrev Fd.d_room (D : Fd) : FuncData := D.d 49
abbrev Ad.a_latest_end (A : Ad) : Addr := A.a 50
abbrev Fd.d_latest_end (D : Fd) : FuncData := D.d 50
abbrev Ad.a_l_moved (A : Ad) : Addr := A.a 51
abbrev Fd.d_l_moved (D : Fd) : FuncData := D.d 51
abbrev Ad.a_is_broken (A : Ad) : Addr := A.a 52
abbrev Fd.d_is_broken (D : Fd) : FuncData := D.d 52
abbrev Ad.a_l_is_late (A : Ad) : Addr := A.a 53
abbrev Fd.d_l_is_late (D : Fd) : FuncData := D.d 53
abbrev Ad.a_l_with (A : Ad) : Addr := A.a 54
abbrev Fd.d_l_with (D : Fd) : FuncData := D.d 54
abbrev Ad.a_l_no_row (A : Ad) : Addr := A.a 55
abbrev Fd.d_l_no_row (D : Fd) : FuncData := D.d 55
abbrev Ad.a_l_no_lot (A : Ad) : Addr := A.a 56
abbrev Fd.d_l_no_lot (D : Fd) : FuncData := D.d 56
abbrev Ad.a_l_broken (A : Ad) : Addr := A.a 57
abbrev Fd.d_l_broken (D : Fd) : FuncData := D.d 57
abbrev Ad.a_is_order (A : Ad) : Addr := A.a 58
abbrev Fd.d_is_order (D : Fd) : FuncData := D.d 58
abbrev Ad.a_there (A : Ad) : Addr := A.a 59
abbrev Fd.d_there (D : Fd) : FuncData := D.d 59
abbrev Ad.a_l_deep (A : Ad) : Addr := A.a 60
abbrev Fd.d_l_deep (D : Fd) : FuncData := D.d 60
abbrev Ad.a_l_is_row (A : Ad) : Addr := A.a 61
abbrev Fd.d_l_is_row (D : Fd) : FuncData := D.d 61
abbrev Ad.a_l_is_lot (A : Ad) : Addr := A.a 62
abbrev Fd.d_l_is_lot (D : Fd) : FuncData := D.d 62
abbrev Ad.a_l_there (A : Ad) : Addr := A.a 63
abbrev Fd.d_l_there (D : Fd) : FuncData := D.d 63
abbrev Ad.a_l_bent (A : Ad) : Addr := A.a 64
abbrev Fd.d_l_bent (D : Fd) : FuncData := D.d 64
abbrev Ad.a_l_is_hour (A : Ad) : Addr := A.a 65
abbrev Fd.d_l_is_hour (D : Fd) : FuncData := D.d 65
abbrev Ad.a_l_is_window (A : Ad) : Addr := A.a 66
abbrev Fd.d_l_is_window (D : Fd) : FuncData := D.d 66
abbrev Ad.a_l_are_windows (A : Ad) : Addr := A.a 67
abbrev Fd.d_l_are_windows (D : Fd) : FuncData := D.d 67
abbrev Ad.a_NoOrder_init (A : Ad) : Addr := A.a 68
abbrev Fd.d_NoOrder_init (D : Fd) : FuncData := D.d 68
abbrev Ad.a_check_order (A : Ad) : Addr := A.a 69
abbrev Fd.d_check_order (D : Fd) : FuncData := D.d 69
abbrev Ad.a_thrown_over (A : Ad) : Addr := A.a 70
abbrev Fd.d_thrown_over (D : Fd) : FuncData := D.d 70
abbrev Ad.a_row_throws (A : Ad) : Addr := A.a 71
abbrev Fd.d_row_throws (D : Fd) : FuncData := D.d 71
abbrev Ad.a_throws (A : Ad) : Addr := A.a 72
abbrev Fd.d_throws (D : Fd) : FuncData := D.d 72
abbrev Ad.a_is_one_order (A : Ad) : Addr := A.a 73
abbrev Fd.d_is_one_order (D : Fd) : FuncData := D.d 73
abbrev Ad.a_l_within (A : Ad) : Addr := A.a 74
abbrev Fd.d_l_within (D : Fd) : FuncData := D.d 74
abbrev Ad.a_l_middle (A : Ad) : Addr := A.a 75
abbrev Fd.d_l_middle (D : Fd) : FuncData := D.d 75
abbrev Ad.a_l_throws (A : Ad) : Addr := A.a 76
abbrev Fd.d_l_throws (D : Fd) : FuncData := D.d 76
abbrev Ad.a_l_by_middles (A : Ad) : Addr := A.a 77
abbrev Fd.d_l_by_middles (D : Fd) : FuncData := D.d 77
abbrev Ad.a_l_near_order (A : Ad) : Addr := A.a 78
abbrev Fd.d_l_near_order (D : Fd) : FuncData := D.d 78
abbrev Ad.a_l_nested (A : Ad) : Addr := A.a 79
abbrev Fd.d_l_nested (D : Fd) : FuncData := D.d 79
abbrev Ad.a_l_book_windows (A : Ad) : Addr := A.a 80
abbrev Fd.d_l_book_windows (D : Fd) : FuncData := D.d 80
abbrev Ad.a_NoPrices_init (A : Ad) : Addr := A.a 81
abbrev Fd.d_NoPrices_init (D : Fd) : FuncData := D.d 81
abbrev Ad.a_Over_init (A : Ad) : Addr := A.a 82
abbrev Fd.d_Over_init (D : Fd) : FuncData := D.d 82
abbrev Ad.a_NoLength_init (A : Ad) : Addr := A.a 83
abbrev Fd.d_NoLength_init (D : Fd) : FuncData := D.d 83
abbrev Ad.a_NothingDone_init (A : Ad) : Addr := A.a 84
abbrev Fd.d_NothingDone_init (D : Fd) : FuncData := D.d 84
abbrev Ad.a_NoLine_init (A : Ad) : Addr := A.a 85
abbrev Fd.d_NoLine_init (D : Fd) : FuncData := D.d 85
abbrev Ad.a_NoBounds_init (A : Ad) : Addr := A.a 86
abbrev Fd.d_NoBounds_init (D : Fd) : FuncData := D.d 86
abbrev Ad.a_TooMany_init (A : Ad) : Addr := A.a 87
abbrev Fd.d_TooMany_init (D : Fd) : FuncData := D.d 87
abbrev Ad.a_NoRule_init (A : Ad) : Addr := A.a 88
abbrev Fd.d_NoRule_init (D : Fd) : FuncData := D.d 88
abbrev Ad.a_TooLate_init (A : Ad) : Addr := A.a 89
abbrev Fd.d_TooLate_init (D : Fd) : FuncData := D.d 89
abbrev Ad.a_BadText_init (A : Ad) : Addr := A.a 90
abbrev Fd.d_BadText_init (D : Fd) : FuncData := D.d 90
abbrev Ad.a_NoName_init (A : Ad) : Addr := A.a 91
abbrev Fd.d_NoName_init (D : Fd) : FuncData := D.d 91
abbrev Ad.a_l_made (A : Ad) : Addr := A.a 92
abbrev Fd.d_l_made (D : Fd) : FuncData := D.d 92
abbrev Ad.a_l_kinds (A : Ad) : Addr := A.a 93
abbrev Fd.d_l_kinds (D : Fd) : FuncData := D.d 93
abbrev Ad.a_l_same (A : Ad) : Addr := A.a 94
abbrev Fd.d_l_same (D : Fd) : FuncData := D.d 94
abbrev Ad.a_l_caught (A : Ad) : Addr := A.a 95
abbrev Fd.d_l_caught (D : Fd) : FuncData := D.d 95
abbrev Ad.a_l_orders (A : Ad) : Addr := A.a 96
abbrev Fd.d_l_orders (D : Fd) : FuncData := D.d 96
abbrev Ad.a_l_groups (A : Ad) : Addr := A.a 97
abbrev Fd.d_l_groups (D : Fd) : FuncData := D.d 97
abbrev Ad.a_l_most (A : Ad) : Addr := A.a 98
abbrev Fd.d_l_most (D : Fd) : FuncData := D.d 98
abbrev Ad.a_l_beaten (A : Ad) : Addr := A.a 99
abbrev Fd.d_l_beaten (D : Fd) : FuncData := D.d 99
abbrev Ad.a_l_by_groups (A : Ad) : Addr := A.a 100
abbrev Fd.d_l_by_groups (D : Fd) : FuncData := D.d 100
abbrev Ad.a_blocks (A : Ad) : Addr := A.a 101
abbrev Fd.d_blocks (D : Fd) : FuncData := D.d 101
abbrev Ad.a_joined_rows (A : Ad) : Addr := A.a 102
abbrev Fd.d_joined_rows (D : Fd) : FuncData := D.d 102
abbrev Ad.a_ends_of_block (A : Ad) : Addr := A.a 103
abbrev Fd.d_ends_of_block (D : Fd) : FuncData := D.d 103
abbrev Ad.a_has_no_throw (A : Ad) : Addr := A.a 104
abbrev Fd.d_has_no_throw (D : Fd) : FuncData := D.d 104
abbrev Ad.a_shapes_of (A : Ad) : Addr := A.a 105
abbrev Fd.d_shapes_of (D : Fd) : FuncData := D.d 105
abbrev Ad.a_row_of_shape (A : Ad) : Addr := A.a 106
abbrev Fd.d_row_of_shape (D : Fd) : FuncData := D.d 106
abbrev Ad.a_all_shapes (A : Ad) : Addr := A.a 107
abbrev Fd.d_all_shapes (D : Fd) : FuncData := D.d 107
abbrev Ad.a_checked_shapes (A : Ad) : Addr := A.a 108
abbrev Fd.d_checked_shapes (D : Fd) : FuncData := D.d 108
abbrev Ad.a_many_of_block (A : Ad) : Addr := A.a 109
abbrev Fd.d_many_of_block (D : Fd) : FuncData := D.d 109
abbrev Ad.a_many_of_all (A : Ad) : Addr := A.a 110
abbrev Fd.d_many_of_all (D : Fd) : FuncData := D.d 110
abbrev Ad.a_one_order (A : Ad) : Addr := A.a 111
abbrev Fd.d_one_order (D : Fd) : FuncData := D.d 111
abbrev Ad.a_l_ones (A : Ad) : Addr := A.a 112
abbrev Fd.d_l_ones (D : Fd) : FuncData := D.d 112
abbrev Ad.a_l_least (A : Ad) : Addr := A.a 113
abbrev Fd.d_l_least (D : Fd) : FuncData := D.d 113
abbrev Ad.a_l_has_one (A : Ad) : Addr := A.a 114
abbrev Fd.d_l_has_one (D : Fd) : FuncData := D.d 114
abbrev Ad.a_l_lots_of (A : Ad) : Addr := A.a 115
abbrev Fd.d_l_lots_of (D : Fd) : FuncData := D.d 115
abbrev Ad.a_l_thrown_windows (A : Ad) : Addr := A.a 116
abbrev Fd.d_l_thrown_windows (D : Fd) : FuncData := D.d 116
abbrev Ad.a_l_any_windows (A : Ad) : Addr := A.a 117
abbrev Fd.d_l_any_windows (D : Fd) : FuncData := D.d 117
abbrev Ad.a_check_works (A : Ad) : Addr := A.a 118
abbrev Fd.d_check_works (D : Fd) : FuncData := D.d 118
abbrev Ad.a_has_one_order (A : Ad) : Addr := A.a 119
abbrev Fd.d_has_one_order (D : Fd) : FuncData := D.d 119
abbrev Ad.a_welcome (A : Ad) : Addr := A.a 120
abbrev Fd.d_welcome (D : Fd) : FuncData := D.d 120
abbrev Ad.a_l_source (A : Ad) : Addr := A.a 121
abbrev Fd.d_l_source (D : Fd) : FuncData := D.d 121
abbrev Ad.a_l_lies_within (A : Ad) : Addr := A.a 122
abbrev Fd.d_l_lies_within (D : Fd) : FuncData := D.d 122
abbrev Ad.a_l_is_thrown (A : Ad) : Addr := A.a 123
abbrev Fd.d_l_is_thrown (D : Fd) : FuncData := D.d 123
abbrev Ad.a_l_rows (A : Ad) : Addr := A.a 124
abbrev Fd.d_l_rows (D : Fd) : FuncData := D.d 124
abbrev Ad.a_l_due (A : Ad) : Addr := A.a 125
abbrev Fd.d_l_due (D : Fd) : FuncData := D.d 125
abbrev Ad.a_l_word (A : Ad) : Addr := A.a 126
abbrev Fd.d_l_word (D : Fd) : FuncData := D.d 126
abbrev Ad.a_l_early_windows (A : Ad) : Addr := A.a 127
abbrev Fd.d_l_early_windows (D : Fd) : FuncData := D.d 127
abbrev Ad.C_BadBook (A : Ad) : Addr := A.C 0
abbrev Ad.C_NoWork (A : Ad) : Addr := A.C 1
abbrev Ad.C_Book (A : Ad) : Addr := A.C 2
abbrev Ad.C_NoLot (A : Ad) : Addr := A.C 3
abbrev Ad.C_NoRow (A : Ad) : Addr := A.C 4
abbrev Ad.C_NoNumber (A : Ad) : Addr := A.C 5
abbrev Ad.C_MiddleError (A : Ad) : Addr := A.C 6
abbrev Ad.C_NoGroup (A : Ad) : Addr := A.C 7
abbrev Ad.C_NoOrder (A : Ad) : Addr := A.C 8
abbrev Ad.C_NoPrices (A : Ad) : Addr := A.C 9
abbrev Ad.C_Over (A : Ad) : Addr := A.C 10
abbrev Ad.C_NoLength (A : Ad) : Addr := A.C 11
abbrev Ad.C_NothingDone (A : Ad) : Addr := A.C 12
abbrev Ad.C_NoLine (A : Ad) : Addr := A.C 13
abbrev Ad.C_NoBounds (A : Ad) : Addr := A.C 14
abbrev Ad.C_TooMany (A : Ad) : Addr := A.C 15
abbrev Ad.C_NoRule (A : Ad) : Addr := A.C 16
abbrev Ad.C_TooLate (A : Ad) : Addr := A.C 17
abbrev Ad.C_BadText (A : Ad) : Addr := A.C 18
abbrev Ad.C_NoName (A : Ad) : Addr := A.C 19

/-- the pool at p: its list, its cells at c -/
structure PoolAt (H : Hp) (p c : Addr) : Prop where
  ob : ∃ i j : Int, H p = some (.lst [.int i, .int j, .ref c])
  cl : ∃ ns : List Int, H c = some (.lst (ns.map V.int))
  ne : p ≠ c
def Kept (p c : Addr) (H H' : Hp) : Prop := ∀ a o, a ≠ p → a ≠ c → H a = some o → H' a = some o
structure SpDraw (vs : List V) (H : Hp) (Q : VK) : Prop where
  ex : ∃ (p c : Addr) (m : Int), vs = [.ref p, .int m] ∧ PoolAt H p c ∧ 0 < m ∧ m < 1267650600228229401496703205376 ∧
    ∀ (d : Int) (H' : Hp), 0 ≤ d → d < m → PoolAt H' p c → Kept p c H H' → Q (.int d) H'
theorem SpDraw.len {vs : List V} {H : Hp} {Q : VK} (h : SpDraw vs H Q) : vs.length = 2 := by
  obtain ⟨p, c, m, rfl, _⟩ := h.ex
  rfl
abbrev sp_l_draw (K : PySem.W.Frag) (A : Ad) : Sp := fun vs H Q _ => SpDraw vs H Q
structure SpPool (K : PySem.W.Frag) (vs : List V) (H : Hp) (Q : VK) : Prop where
  ex : ∃ (a : Addr) (ns : List Int), vs = [.ref a] ∧ SqL K H a (ns.map V.int) ∧ ns.length ≤ 63 ∧ ∀ (p c : Addr) (H' : Hp), H p = none → H c = none → PoolAt H' p c → Ex H H' → Q (.ref p) H'
theorem SpPool.len {K : PySem.W.Frag} {vs : List V} {H : Hp} {Q : VK} (h : SpPool K vs H Q) : vs.length = 1 := by
  obtain ⟨a, ns, rfl, _⟩ := h.ex
  rfl
abbrev sp_l_pool (K : PySem.W.Frag) (A : Ad) : Sp := fun vs H Q _ => SpPool K vs H Q
/-- a tuple of pairs of ints at w -/
structure WinAt (K : PySem.W.Frag) (H : Hp) (w : Addr) (ws : List (Int × Int)) : Prop where
  le : ws.length ≤ 1000
  ex : ∃ as : List Addr, SqT K H w (as.map V.ref) ∧ as.length = ws.length ∧ ∀ (i : Nat) (a : Addr) (q : Int × Int), as[i]? = some a → ws[i]? = some q → SqT K H a [.int q.1, .int q.2]
theorem WinAt.mono {K : PySem.W.Frag} {H H' : Hp} {w : Addr} {ws : List (Int × Int)} (h : WinAt K H w ws) (e : Ex H H') : WinAt K H' w ws := by
  obtain ⟨as, h1, h2, h3⟩ := h.ex
  exact ⟨h.le, ⟨as, ex_t e h1, h2, fun i a q x y => ex_t e (h3 i a q x y)⟩⟩
theorem PoolAt.mono {H H' : Hp} {p c : Addr} (h : PoolAt H p c) (e : Ex H H') : PoolAt H' p c := by
  obtain ⟨⟨i, j, h1⟩, ⟨ns, h2⟩, h3⟩ := h
  exact ⟨⟨i, j, e _ _ h1⟩, ⟨ns, e _ _ h2⟩, h3⟩
theorem Kept.refl (p c : Addr) (H : Hp) : Kept p c H H := fun _ _ _ _ h => h
theorem Kept.trans {p c : Addr} {H H1 H2 : Hp} (a : Kept p c H H1) (b : Kept p c H1 H2) : Kept p c H H2 := fun x o h1 h2 h => b x o h1 h2 (a x o h1 h2 h)
theorem kept_of {p c : Addr} {H H1 : Hp} (a : Ex H H1) : Kept p c H H1 := fun x o _ _ h => a x o h
theorem PoolAt.nep {H : Hp} {p c a : Addr} (h : PoolAt H p c) (n : H a = none) : a ≠ p := by
  obtain ⟨i, j, e⟩ := h.ob
  exact (ne_of_none e n).symm
theorem PoolAt.nec {H : Hp} {p c a : Addr} (h : PoolAt H p c) (n : H a = none) : a ≠ c := by
  obtain ⟨ns, e⟩ := h.cl
  exact (ne_of_none e n).symm
theorem PoolAt.upd {H : Hp} {p c f : Addr} {o : HO} (h : PoolAt H p c) (h1 : p ≠ f) (h2 : c ≠ f) : PoolAt (upd H f o) p c := by
  obtain ⟨⟨i, j, e1⟩, ⟨ns, e2⟩, e3⟩ := h
  exact ⟨⟨i, j, by rw [upd_ne h1]; exact e1⟩, ⟨ns, by rw [upd_ne h2]; exact e2⟩, e3⟩
def inWin (b : Int) (q : Int × Int) : Prop := 0 ≤ q.1 ∧ q.1 ≤ q.2 ∧ q.2 ≤ b
structure SpWin (K : PySem.W.Frag) (vs : List V) (H : Hp) (Q : VK) : Prop where
  ex : ∃ (p c : Addr) (n t : Int), vs = [.ref p, .int n, .int t] ∧ PoolAt H p c ∧ 0 ≤ n ∧ n ≤ 1000 ∧ 0 ≤ t ∧ t ≤ 1000000 ∧
    ∀ (w : Addr) (ws : List (Int × Int)) (H' : Hp), H w = none → WinAt K H' w ws → (ws.length : Int) = n → (∀ q ∈ ws, inWin (2 * t + n + 4) q) → PoolAt H' p c → Kept p c H H' → Q (.ref w) H'
theorem SpWin.len {K : PySem.W.Frag} {vs : List V} {H : Hp} {Q : VK} (h : SpWin K vs H Q) : vs.length = 3 := by
  obtain ⟨p, c, n, t, rfl, _⟩ := h.ex
  rfl
abbrev sp_l_windows (K : PySem.W.Frag) (A : Ad) : Sp := fun vs H Q _ => SpWin K vs H Q
/-- the list of pairs that grows at f -/
structure Grows (K : PySem.W.Frag) (H : Hp) (f : Addr) (ws : List (Int × Int)) : Prop where
  ex : ∃ as : List Addr, H f = some (.lst (as.map V.ref)) ∧ as.length = ws.length ∧ ∀ (i : Nat) (a : Addr) (q : Int × Int), as[i]? = some a → ws[i]? = some q → H a = some (.tup [.int q.1, .int q.2])
theorem Grows.mono {K : PySem.W.Frag} {H H' : Hp} {p c f : Addr} {ws : List (Int × Int)} (h : Grows K H f ws) (P : PoolAt H p c) (k : Kept p c H H') (n1 : f ≠ p) (n2 : f ≠ c) : Grows K H' f ws := by
  obtain ⟨as, h1, h2, h3⟩ := h.ex
  refine ⟨⟨as, k _ _ n1 n2 h1, h2, fun i a q x y => ?_⟩⟩
  have z := h3 i a q x y
  refine k _ _ ?_ ?_ z
  · intro e
    obtain ⟨u, v, hp⟩ := P.ob
    rw [e, hp] at z
    cases z
  · intro e
    obtain ⟨ns, hc⟩ := P.cl
    rw [e, hc] at z
    cases z
theorem Grows.add {K : PySem.W.Frag} {H : Hp} {f r : Addr} {ws : List (Int × Int)} {q : Int × Int} {as : List Addr} (h1 : H f = some (.lst (as.map V.ref))) (h2 : as.length = ws.length) (h3 : ∀ (i : Nat) (a : Addr) (q : Int × Int), as[i]? = some a → ws[i]? = some q → H a = some (.tup [.int q.1, .int q.2]))
    (hr : H r = some (.tup [.int q.1, .int q.2])) : Grows K (L2.upd H f (.lst (as.map V.ref ++ [.ref r]))) f (ws ++ [q]) := by
  have nf : ∀ {a : Addr} {xs : List V}, H a = some (.tup xs) → a ≠ f := fun {a xs} z e => by
    rw [e, h1] at z
    cases z
  refine ⟨⟨as ++ [r], by rw [upd_same, List.map_append] <;> rfl, by rw [List.length_append, List.length_append, h2] <;> rfl, fun i a q' x y => ?_⟩⟩
  by_cases hi : i < as.length
  · rw [List.getElem?_append_left hi] at x
    rw [List.getElem?_append_left (by omega)] at y
    have z := h3 i a q' x y
    rw [upd_ne (nf z)]
    exact z
  · rw [List.getElem?_append_right (by omega)] at x
    rw [List.getElem?_append_right (by omega)] at y
    have e0 : i - as.length = 0 := by
      have := (List.getElem?_eq_some_iff.mp x).1
      simp at this
      omega
    rw [e0] at x
    rw [← h2, e0] at y
    cases (Option.some.inj x)
    cases (Option.some.inj y)
    rw [upd_ne (nf hr)]
    exact hr
theorem Grows.win {K : PySem.W.Frag} {H : Hp} {f w : Addr} {ws : List (Int × Int)} {as : List Addr} (h2 : as.length = ws.length) (h3 : ∀ (i : Nat) (a : Addr) (q : Int × Int), as[i]? = some a → ws[i]? = some q → H a = some (.tup [.int q.1, .int q.2])) (nw : H w = none) (hl : ws.length ≤ 1000) :
    WinAt K (L2.upd H w (.tup (as.map V.ref))) w ws :=
  ⟨hl, ⟨as, SqT.of upd_same, h2, fun i a q x y => SqT.of (by rw [upd_ne (ne_of_none (h3 i a q x y) nw)]; exact h3 i a q x y)⟩⟩
/-! ### things -/
inductive Da where
  | non | bl (b : Bool) | int (i : Int) | str (x : Str) | lst | dic | tup (xs : List Da)
mutual
inductive Rp (K : PySem.W.Frag) (H : Hp) : V → Da → Prop
  | non : Rp K H .non .non
  | bl (b : Bool) : Rp K H (.bl b) (.bl b)
  | int (i : Int) : Rp K H (.int i) (.int i)
  | str (x : Str) : Rp K H (.str x) (.str x)
  | lst {a : Addr} {xs : List V} : SqL K H a xs → Rp K H (.ref a) .lst
  | dic {a : Addr} {kvs : List (Key × V)} : H a = some (.dK kvs) → Rp K H (.ref a) .dic
  | tup {a : Addr} {xs : List V} {ds : List Da} : SqT K H a xs → RpAll K H xs ds → Rp K H (.ref a) (.tup ds)
inductive RpAll (K : PySem.W.Frag) (H : Hp) : List V → List Da → Prop
  | nil : RpAll K H [] []
  | cons {v : V} {vs : List V} {d : Da} {ds : List Da} : Rp K H v d → RpAll K H vs ds → RpAll K H (v :: vs) (d :: ds)
end
mutual
theorem Rp.mono {K : PySem.W.Frag} {H H' : Hp} (e : Ex H H') : ∀ {v : V} {d : Da}, Rp K H v d → Rp K H' v d
  | _, _, .non => .non
  | _, _, .bl b => .bl b
  | _, _, .int i => .int i
  | _, _, .str x => .str x
  | _, _, .lst h => .lst (ex_l e h)
  | _, _, .dic h => .dic (e _ _ h)
  | _, _, .tup h r => .tup (ex_t e h) (RpAll.mono e r)
theorem RpAll.mono {K : PySem.W.Frag} {H H' : Hp} (e : Ex H H') : ∀ {vs : List V} {ds : List Da}, RpAll K H vs ds → RpAll K H' vs ds
  | _, _, .nil => .nil
  | _, _, .cons h r => .cons (Rp.mono e h) (RpAll.mono e r)
end
theorem RpAll.length {K : PySem.W.Frag} {H : Hp} : ∀ {vs : List V} {ds : List Da}, RpAll K H vs ds → vs.length = ds.length
  | _, _, .nil => rfl
  | _, _, .cons _ r => congrArg (· + 1) r.length
theorem RpAll.get {K : PySem.W.Frag} {H : Hp} : ∀ {vs : List V} {ds : List Da} {i : Nat} {v : V}, RpAll K H vs ds → vs[i]? = some v → ∃ d, ds[i]? = some d ∧ Rp K H v d
  | _, _, 0, _, .cons h _, e => by
    cases e
    exact ⟨_, rfl, h⟩
  | _, _, i + 1, _, .cons _ r, e => RpAll.get (i := i) r e
/-- what isinstance says of int, bool, tuple -/
def isI : Da → Bool | .int _ => true | .bl _ => true | _ => false
def isB : Da → Bool | .bl _ => true | _ => false
def isT : Da → Bool | .tup _ => true | _ => false
def isZ : Da → Bool | .int _ => true | _ => false
theorem isZ_eq (d : Da) : (isI d && !isB d) = isZ d := by cases d <;> rfl
theorem ty_list {K : PySem.W.Frag} {H : Hp} {a : Addr} {xs : List V} (h : SqL K H a xs) : TyX K H (.ref a) (.type "list") := by
  rcases h with (h | ⟨o, h⟩) | ⟨o, its, n, h, c, _⟩
  · exact .base (.lst h)
  · exact .base (.frz h)
  · exact .kList h c
theorem ty_tup {K : PySem.W.Frag} {H : Hp} {a : Addr} {xs : List V} (h : SqT K H a xs) : TyX K H (.ref a) (.type "tuple") := by
  rcases h with (h | ⟨o, h⟩) | ⟨o, its, n, h, c, _⟩
  · exact .base (.tup h)
  · exact .fTuple h
  · exact .kTuple h c
theorem Rp.ty {K : PySem.W.Frag} {H : Hp} {v : V} {d : Da} (h : Rp K H v d) : ∃ t, TyX K H v t ∧ PySem.W.kitOne K t (.type "int") = some (isI d) ∧ PySem.W.kitOne K t (.type "bool") = some (isB d) ∧ PySem.W.kitOne K t (.type "tuple") = some (isT d) := by
  cases h with
  | non => exact ⟨_, .base .non, kit_ty (by decide +kernel : kitB "NoneType" "int" = some false), kit_ty (by decide +kernel : kitB "NoneType" "bool" = some false), kit_ty (by decide +kernel : kitB "NoneType" "tuple" = some false)⟩
  | bl b => exact ⟨_, .base (.bl b), kit_ty (by decide +kernel : kitB "bool" "int" = some true), kit_ty (by decide +kernel : kitB "bool" "bool" = some true), kit_ty (by decide +kernel : kitB "bool" "tuple" = some false)⟩
  | int i => exact ⟨_, .base (.int i), kit_ty (by decide +kernel : kitB "int" "int" = some true), kit_ty (by decide +kernel : kitB "int" "bool" = some false), kit_ty (by decide +kernel : kitB "int" "tuple" = some false)⟩
  | str x => exact ⟨_, .base (.str x), kit_ty (by decide +kernel : kitB "str" "int" = some false), kit_ty (by decide +kernel : kitB "str" "bool" = some false), kit_ty (by decide +kernel : kitB "str" "tuple" = some false)⟩
  | lst h => exact ⟨_, ty_list h, kit_ty (by decide +kernel : kitB "list" "int" = some false), kit_ty (by decide +kernel : kitB "list" "bool" = some false), kit_ty (by decide +kernel : kitB "list" "tuple" = some false)⟩
  | dic h => exact ⟨_, .base (.dK h), kit_ty (by decide +kernel : kitB "dict" "int" = some false), kit_ty (by decide +kernel : kitB "dict" "bool" = some false), kit_ty (by decide +kernel : kitB "dict" "tuple" = some false)⟩
  | tup h r => exact ⟨_, ty_tup h, kit_ty (by decide +kernel : kitB "tuple" "int" = some false), kit_ty (by decide +kernel : kitB "tuple" "bool" = some false), kit_ty (by decide +kernel : kitB "tuple" "tuple" = some true)⟩
/-- a window, as a thing -/
def winD : Da → Bool
  | .tup [.int f, .int l] => decide (0 ≤ f) && decide (f ≤ l) && decide (l ≤ 1000000)
  | _ => false
def pairD : Da → Bool | .tup xs => decide (xs.length = 2) | _ => false
def winsD : Da → Bool
  | .tup ds => decide (1 ≤ ds.length) && decide (ds.length ≤ 40) && ds.all winD
  | _ => false
def workD (n : Nat) : Da → Bool | .int z => decide (0 ≤ z) && decide (z < (n : Int)) | _ => false
def winDa (q : Int × Int) : Da := .tup [.int q.1, .int q.2]
structure Sp1 (vs : List V) (P : V → Prop) : Prop where
  ex : ∃ x, vs = [x] ∧ P x
theorem Sp1.len {vs : List V} {P : V → Prop} (h : Sp1 vs P) : vs.length = 1 := by
  obtain ⟨x, rfl, _⟩ := h.ex
  rfl
structure Sp2 (vs : List V) (P : V → V → Prop) : Prop where
  ex : ∃ x y, vs = [x, y] ∧ P x y
theorem Sp2.len {vs : List V} {P : V → V → Prop} (h : Sp2 vs P) : vs.length = 2 := by
  obtain ⟨x, y, rfl, _⟩ := h.ex
  rfl
structure Sp3 (vs : List V) (P : V → V → V → Prop) : Prop where
  ex : ∃ x y z, vs = [x, y, z] ∧ P x y z
theorem Sp3.len {vs : List V} {P : V → V → V → Prop} (h : Sp3 vs P) : vs.length = 3 := by
  obtain ⟨x, y, z, rfl, _⟩ := h.ex
  rfl
/-- a def that judges a thing, by f -/
abbrev spJudge (K : PySem.W.Frag) (f : Da → Bool) : Sp := fun vs H Q _ => Sp1 vs fun x => ∃ d, Rp K H x d ∧ ∀ H', Ex H H' → Q (.bl (f d)) H'
abbrev sp_is_integer (K : PySem.W.Frag) (A : Ad) : Sp := spJudge K isZ
abbrev sp_is_pair (K : PySem.W.Frag) (A : Ad) : Sp := spJudge K pairD
abbrev sp_is_window (K : PySem.W.Frag) (A : Ad) : Sp := spJudge K winD
abbrev sp_is_windows (K : PySem.W.Frag) (A : Ad) : Sp := spJudge K winsD
/-- a book at b, its windows' tuple at w -/
def BookAt (C : Addr) (H : Hp) (b w : Addr) : Prop := ∃ dx, H b = some (.ins C dx [("windows", .ref w)])
theorem BookAt.mono {C : Addr} {H H' : Hp} {b w : Addr} (h : BookAt C H b w) (e : Ex H H') : BookAt C H' b w := by
  obtain ⟨dx, h⟩ := h
  exact ⟨dx, e _ _ h⟩
abbrev sp_NoWork_init (K : PySem.W.Frag) (A : Ad) : Sp := sp_pass
abbrev sp_BadBook_init (K : PySem.W.Frag) (A : Ad) : Sp := sp_pass
abbrev sp_Book_init (K : PySem.W.Frag) (A : Ad) : Sp := fun vs H Q E => Sp2 vs fun x y => ∃ (p dx : Addr) (d : Da), x = .ref p ∧ H p = some (.ins A.C_Book dx []) ∧ Rp K H y d ∧
  (winsD d = true → ∀ H', Ex H H' → Q .non (L2.upd H' p (.ins A.C_Book dx [("windows", y)]))) ∧ (winsD d = false → ∀ H', Ex H H' → E (.ref A.C_BadBook) none H')
abbrev sp_is_work (K : PySem.W.Frag) (A : Ad) : Sp := fun vs H Q _ => Sp2 vs fun x y => ∃ (b w : Addr) (ws : List (Int × Int)) (d : Da), x = .ref b ∧ BookAt A.C_Book H b w ∧ WinAt K H w ws ∧ Rp K H y d ∧ ∀ H', Ex H H' → Q (.bl (workD ws.length d)) H'
/-- a def upon a book and a work, or NoWork -/
structure OnWork (K : PySem.W.Frag) (A : Ad) (H : Hp) (x y : V) (E : XK) (G : List (Int × Int) → Nat → Prop) : Prop where
  ex : ∃ (b w : Addr) (ws : List (Int × Int)) (d : Da), x = .ref b ∧ BookAt A.C_Book H b w ∧ WinAt K H w ws ∧ Rp K H y d ∧ (workD ws.length d = false → ∀ H', Ex H H' → E (.ref A.C_NoWork) none H') ∧
    ∀ i : Nat, d = .int i → i < ws.length → G ws i
def winAt (ws : List (Int × Int)) (i : Nat) : Int × Int := ws.getD i (0, 0)
def insideB (p q : Int × Int) : Bool := decide (q.1 < p.1) && decide (p.2 < q.2)
def withinL (ws : List (Int × Int)) (i : Nat) : List V := given ws.length (fun j => insideB (winAt ws j) (winAt ws i)) (fun j => .int (j : Nat))
abbrev sp_middle (K : PySem.W.Frag) (A : Ad) : Sp := fun vs H Q E => Sp2 vs fun x y => OnWork K A H x y E fun ws i => ∀ H', Ex H H' → Q (.int ((winAt ws i).1 + (winAt ws i).2)) H'
abbrev sp_within (K : PySem.W.Frag) (A : Ad) : Sp := fun vs H Q E => Sp2 vs fun x y => OnWork K A H x y E fun ws i => ∀ p H', H p = none → Ex H H' → H' p = some (.tup (withinL ws i)) → Q (.ref p) H'
abbrev sp_is_inside (K : PySem.W.Frag) (A : Ad) : Sp := fun vs H Q _ => Sp2 vs fun x y => ∃ (a b : Addr) (p q : Int × Int), x = .ref a ∧ y = .ref b ∧ SqT K H a [.int p.1, .int p.2] ∧ SqT K H b [.int q.1, .int q.2] ∧ Q (.bl (insideB p q)) H
theorem workD_int {n : Nat} {d : Da} (h : workD n d = true) : ∃ i : Nat, d = .int i ∧ i < n := by
  cases d with
  | int z =>
    simp only [workD, Bool.and_eq_true, decide_eq_true_eq] at h
    exact ⟨z.toNat, by rw [Int.toNat_of_nonneg h.1], by omega⟩
  | _ => cases h
theorem WinAt.item {K : PySem.W.Frag} {H : Hp} {ws : List (Int × Int)} {as : List Addr} (h2 : as.length = ws.length) (h3 : ∀ (i : Nat) (a : Addr) (q : Int × Int), as[i]? = some a → ws[i]? = some q → SqT K H a [.int q.1, .int q.2]) {i : Nat} (hi : i < ws.length) :
    ∃ a, (as.map V.ref)[i]? = some (.ref a) ∧ SqT K H a [.int (winAt ws i).1, .int (winAt ws i).2] := by
  have e1 : as[i]? = some (as[i]'(by omega)) := List.getElem?_eq_getElem _
  have e2 : ws[i]? = some (ws[i]) := List.getElem?_eq_getElem _
  have e3 : winAt ws i = ws[i] := by
    unfold winAt
    rw [List.getD_eq_getElem?_getD, e2] <;> rfl
  rw [e3]
  exact ⟨_, by rw [List.getElem?_map, e1] <;> rfl, h3 i _ _ e1 e2⟩
/-! ### tuples of ints, compared -/
def dInts (l : List Int) : PyData := .tuple (l.map .int)
theorem dpAll_ints {K : PySem.W.Frag} {H : Hp} : ∀ l : List Int, DpAll K H (l.map V.int) (l.map PyData.int)
  | [] => .nil
  | i :: r => .cons (.int i) (dpAll_ints r)
theorem dp_ints {K : PySem.W.Frag} {H : Hp} {a : Addr} {l : List Int} (h : SqT K H a (l.map V.int)) : Dp K H (.ref a) (dInts l) := .tup h (dpAll_ints l)
theorem lay_ints : ∀ l : List Int, PyData.canLayAll0 (l.map .int) = true
  | [] => by simp only [List.map_nil, PyData.canLayAll0]
  | i :: r => by
    simp only [List.map_cons, PyData.canLayAll0, PyData.canLay0, lay_ints r]
    rfl
theorem deep_ints : ∀ l : List Int, PyData.depthAll (l.map .int) = 0
  | [] => by simp only [List.map_nil, PyData.depthAll]
  | i :: r => by
    simp only [List.map_cons, PyData.depthAll, PyData.depth, deep_ints r]
    rfl
theorem shaped_ints (l : List Int) : SeqAt.shaped (dInts l) = true := by
  unfold SeqAt.shaped dInts
  simp only [PyData.canLay0, PyData.depth, lay_ints, deep_ints]
  decide
theorem eqvAll_ints : ∀ l m : List Int, PyData.eqvAll (l.map .int) (m.map .int) = decide (l = m)
  | [], [] => by simp [PyData.eqvAll]
  | [], _ :: _ => by simp [PyData.eqvAll]
  | _ :: _, [] => by simp [PyData.eqvAll]
  | i :: l, j :: m => by
    simp only [List.map_cons, PyData.eqvAll, PyData.eqv, eqvAll_ints l m]
    by_cases h1 : i = j <;> by_cases h2 : l = m <;> simp [h1, h2]
theorem eqv_dInts (l m : List Int) : PyData.eqv (dInts l) (dInts m) = decide (l = m) := by
  unfold dInts
  simp only [PyData.eqv, eqvAll_ints]
theorem inV_ints (z : Int) (l : List Int) : inV (.int z) (l.map V.int) = decide (z ∈ l) := by
  unfold inV
  induction l with
  | nil => simp
  | cons i r ih =>
    rw [List.map_cons, List.any_cons, ih]
    by_cases h : i = z
    · simp [eqV, h]
    · have h' : ¬ z = i := fun e => h e.symm
      simp [eqV, h, h']
theorem flat_ints (l : List Int) : (l.map V.int).all flatV = true := by
  rw [List.all_eq_true]
  intro x hx
  obtain ⟨i, _, rfl⟩ := List.mem_map.mp hx
  rfl
theorem WinAt.rp {K : PySem.W.Frag} {H : Hp} {w : Addr} {ws : List (Int × Int)} (h : WinAt K H w ws) : Rp K H (.ref w) (.tup (ws.map winDa)) := by
  obtain ⟨_, as, h1, h2, h3⟩ := h
  refine .tup h1 ?_
  clear h1
  induction ws generalizing as with
  | nil =>
    cases as with
    | nil => exact .nil
    | cons _ _ => simp at h2
  | cons q r ih =>
    cases as with
    | nil => simp at h2
    | cons a s =>
      refine .cons (.tup (h3 0 a q rfl rfl) (.cons (.int _) (.cons (.int _) .nil))) (ih ?_ s (by simpa using h2) fun i a q x y => h3 (i + 1) a q x y)
      have : (q :: r).length ≤ 1000 := by assumption
      simp at this
      omega
theorem winsD_of {ws : List (Int × Int)} (h1 : 1 ≤ ws.length) (h2 : ws.length ≤ 40) (h3 : ∀ q ∈ ws, inWin 1000000 q) : winsD (.tup (ws.map winDa)) = true := by
  simp only [winsD, List.length_map, Bool.and_eq_true, decide_eq_true_eq, List.all_eq_true]
  refine ⟨⟨h1, h2⟩, fun x hx => ?_⟩
  obtain ⟨q, hq, rfl⟩ := List.mem_map.mp hx
  obtain ⟨a, b, c⟩ := h3 q hq
  simp [winDa, winD, a, b, c]
def withinN (ws : List (Int × Int)) (i : Nat) : List Int := ((List.range ws.length).filter fun j => insideB (winAt ws j) (winAt ws i)).map fun j => ((j : Nat) : Int)
theorem withinL_eq (ws : List (Int × Int)) (i : Nat) : withinL ws i = (withinN ws i).map V.int := by
  unfold withinL withinN given
  rw [List.map_map] <;> rfl
theorem mem_withinN {ws : List (Int × Int)} {i : Nat} {z : Int} : z ∈ withinN ws i ↔ ∃ j : Nat, z = (j : Int) ∧ j < ws.length ∧ insideB (winAt ws j) (winAt ws i) = true := by
  unfold withinN
  rw [List.mem_map]
  constructor
  · rintro ⟨j, hj, rfl⟩
    rw [List.mem_filter, List.mem_range] at hj
    exact ⟨j, rfl, hj.1, hj.2⟩
  · rintro ⟨j, rfl, h1, h2⟩
    exact ⟨j, List.mem_filter.mpr ⟨List.mem_range.mpr h1, h2⟩, rfl⟩
theorem insideB_iff {p q : Int × Int} : insideB p q = true ↔ q.1 < p.1 ∧ p.2 < q.2 := by
  unfold insideB
  rw [Bool.and_eq_true, decide_eq_true_eq, decide_eq_true_eq]
abbrev sp_l_refused (K : PySem.W.Frag) (A : Ad) : Sp := fun vs H Q _ => Sp3 vs fun x y z => ∃ (k : Int) (b w : Addr) (ws : List (Int × Int)) (d : Da), x = .int k ∧ y = .ref b ∧ BookAt A.C_Book H b w ∧ WinAt K H w ws ∧ Rp K H z d ∧ workD ws.length d = false ∧ ∀ H', Ex H H' → Q (.bl true) H'
/-- the law's own promise: the script's ints are handed in, True comes out -/
structure SpLaw (K : PySem.W.Frag) (vs : List V) (H : Hp) (Q : VK) : Prop where
  ex : ∃ (a : Addr) (ns : List Int), vs = [.ref a] ∧ SqL K H a (ns.map V.int) ∧ ns.length ≤ 63 ∧ ∀ H', Q (.bl true) H'
theorem SpLaw.len {K : PySem.W.Frag} {vs : List V} {H : Hp} {Q : VK} (h : SpLaw K vs H Q) : vs.length = 1 := by
  obtain ⟨a, ns, rfl, _⟩ := h.ex
  rfl
abbrev sp_law (K : PySem.W.Frag) (A : Ad) : Sp := fun vs H Q _ => SpLaw K vs H Q
theorem atI_three {a b c : Int} {d : Int} (h0 : 0 ≤ d) (h1 : d < 3) : ∃ t, atI [V.int a, .int b, .int c] d = some (.int t) ∧ (t = a ∨ t = b ∨ t = c) := by
  have : d = 0 ∨ d = 1 ∨ d = 2 := by omega
  rcases this with rfl | rfl | rfl
  · exact ⟨a, rfl, .inl rfl⟩
  · exact ⟨b, rfl, .inr (.inl rfl)⟩
  · exact ⟨c, rfl, .inr (.inr rfl)⟩
/-! ### rows, lots, runs -/
def daInt : Da → Int | .int z => z | _ => 0
def rowD (n : Nat) : Da → Bool
  | .tup ds => ds.all (workD n) && decide ((ds.map daInt).Nodup)
  | _ => false
def lenD : Da → Bool | .non => true | .int z => decide (0 ≤ z) | _ => false
def lotD (n : Nat) : Da → Bool
  | .tup ds => decide (ds.length = n) && ds.all lenD
  | _ => false
def isNon : Da → Bool | .non => true | _ => false
def inAt (ls : List Da) (rs : List Int) (i : Nat) : Bool := (match ls[i]? with | some d => isNon d | none => false) || decide ((i : Int) ∈ rs)
def allInD : Da → Da → Bool
  | .tup ls, .tup rs => (List.range ls.length).all (inAt ls (rs.map daInt))
  | _, _ => false
/-- 0: right, 1: no row, 2: no lot -/
def runD (n : Nat) (r l : Da) : Nat := if rowD n r = true then (if lotD n l = true ∧ allInD l r = true then 0 else 2) else 1
def smallD : Da → Prop | .tup ds => ds.length ≤ 1000 | _ => True
abbrev sp_NoRow_init (K : PySem.W.Frag) (A : Ad) : Sp := sp_pass
abbrev sp_NoLot_init (K : PySem.W.Frag) (A : Ad) : Sp := sp_pass
/-- a def that judges a thing of a book -/
structure OnBook (K : PySem.W.Frag) (A : Ad) (H : Hp) (x y : V) (G : List (Int × Int) → Da → Prop) : Prop where
  ex : ∃ (b w : Addr) (ws : List (Int × Int)) (d : Da), x = .ref b ∧ BookAt A.C_Book H b w ∧ WinAt K H w ws ∧ Rp K H y d ∧ smallD d ∧ G ws d
abbrev sp_is_row (K : PySem.W.Frag) (A : Ad) : Sp := fun vs H Q _ => Sp2 vs fun x y => OnBook K A H x y fun ws d => ∀ H', Ex H H' → Q (.bl (rowD ws.length d)) H'
abbrev sp_is_length_or_none (K : PySem.W.Frag) (A : Ad) : Sp := spJudge K lenD
abbrev sp_is_lot (K : PySem.W.Frag) (A : Ad) : Sp := fun vs H Q _ => Sp2 vs fun x y => OnBook K A H x y fun ws d => ∀ H', Ex H H' → Q (.bl (lotD ws.length d)) H'
abbrev sp_is_all_in (K : PySem.W.Frag) (A : Ad) : Sp := fun vs H Q _ => Sp2 vs fun x y => ∃ (ls rs : List Da) (zs : List Int), Rp K H x (.tup ls) ∧ Rp K H y (.tup rs) ∧ rs = zs.map .int ∧ ls.length ≤ 1000 ∧ ∀ H', Ex H H' → Q (.bl (allInD (.tup ls) (.tup rs))) H'
abbrev sp_check_run (K : PySem.W.Frag) (A : Ad) : Sp := fun vs H Q E => Sp3 vs fun x y z => ∃ (b w : Addr) (ws : List (Int × Int)) (r l : Da), x = .ref b ∧ BookAt A.C_Book H b w ∧ WinAt K H w ws ∧ Rp K H y r ∧ Rp K H z l ∧ smallD r ∧ smallD l ∧
  (runD ws.length r l = 1 → ∀ H', Ex H H' → E (.ref A.C_NoRow) none H') ∧ (runD ws.length r l = 2 → ∀ H', Ex H H' → E (.ref A.C_NoLot) none H') ∧ (runD ws.length r l = 0 → ∀ H', Ex H H' → Q .non H')
def vNat (j : Nat) : V := .int (j : Int)
def vO : Option Int → V | none => .non | some n => .int n
def dNat (j : Nat) : Da := .int (j : Int)
def dO : Option Int → Da | none => .non | some n => .int n
/-- those of the row that are there -/
def comingN (row : List Nat) (lot : List (Option Int)) : List Nat := row.filter fun j => ((lot[j]?).getD none).isSome
def lenAt (lot : List (Option Int)) (j : Nat) : Int := ((lot[j]?).getD none).getD 0
/-- (work, begin, end), from this hour on -/
def stepsF (ws : List (Int × Int)) (lot : List (Option Int)) : Int → List Nat → List (Int × Int × Int)
  | _, [] => []
  | h, j :: r =>
    let b := if (winAt ws j).1 > h then (winAt ws j).1 else h
    ((j : Int), b, b + lenAt lot j) :: stepsF ws lot (b + lenAt lot j) r
def stepsN (ws : List (Int × Int)) (row : List Nat) (lot : List (Option Int)) : List (Int × Int × Int) := stepsF ws lot 0 (comingN row lot)
def vTri (q : Int × Int × Int) : List V := [.int q.1, .int q.2.1, .int q.2.2]
/-- the addresses of triples -/
def TrisAt (K : PySem.W.Frag) (H : Hp) (as : List Addr) (ts : List (Int × Int × Int)) : Prop := as.length = ts.length ∧ ∀ (i : Nat) (a : Addr) (q : Int × Int × Int), as[i]? = some a → ts[i]? = some q → H a = some (.tup (vTri q))
theorem TrisAt.mono {K : PySem.W.Frag} {H H' : Hp} {as : List Addr} {ts : List (Int × Int × Int)} (h : TrisAt K H as ts) (e : Ex H H') : TrisAt K H' as ts := ⟨h.1, fun i a q x y => e _ _ (h.2 i a q x y)⟩
/-- a right row and a right lot of a book -/
structure Right (ws : List (Int × Int)) (row : List Nat) (lot : List (Option Int)) : Prop where
  lt : ∀ j ∈ row, j < ws.length
  nd : row.Nodup
  sz : lot.length = ws.length
  ge : ∀ n, some n ∈ lot → 0 ≤ n
  isin : ∀ j : Nat, (lot[j]?).getD none ≠ none → j ∈ row
structure RunOn (K : PySem.W.Frag) (A : Ad) (H : Hp) (x y z : V) (G : List (Int × Int) → List Nat → List (Option Int) → Prop) : Prop where
  ex : ∃ (b w : Addr) (ws : List (Int × Int)) (row : List Nat) (lot : List (Option Int)) (a c : Addr), x = .ref b ∧ y = .ref a ∧ z = .ref c ∧ BookAt A.C_Book H b w ∧ WinAt K H w ws ∧ SqT K H a (row.map vNat) ∧ SqT K H c (lot.map vO) ∧
    (∀ j ∈ row, j < ws.length) ∧ lot.length = ws.length ∧ row.length ≤ 1000 ∧ G ws row lot
abbrev sp_coming (K : PySem.W.Frag) (A : Ad) : Sp := fun vs H Q _ => Sp2 vs fun y z => ∃ (row : List Nat) (lot : List (Option Int)) (a c : Addr), y = .ref a ∧ z = .ref c ∧ SqT K H a (row.map vNat) ∧ SqT K H c (lot.map vO) ∧ (∀ j ∈ row, j < lot.length) ∧ row.length ≤ 1000 ∧ RetL ((comingN row lot).map vNat) H Q
abbrev sp_steps (K : PySem.W.Frag) (A : Ad) : Sp := fun vs H Q _ => Sp3 vs fun x y z => RunOn K A H x y z fun ws row lot => ∀ (l : Addr) (as : List Addr) (H' : Hp), H l = none → Ex H H' → H' l = some (.lst (as.map V.ref)) → TrisAt K H' as (stepsN ws row lot) → Q (.ref l) H'
abbrev sp_run (K : PySem.W.Frag) (A : Ad) : Sp := fun vs H Q E => Sp3 vs fun x y z => RunOn K A H x y z fun ws row lot => Right ws row lot ∧ ∀ (l : Addr) (as : List Addr) (H' : Hp), H l = none → Ex H H' → H' l = some (.tup (as.map V.ref)) → TrisAt K H' as (stepsN ws row lot) → Q (.ref l) H'
theorem works_ints {K : PySem.W.Frag} {H : Hp} {n : Nat} : ∀ {xs : List V} {ds : List Da}, RpAll K H xs ds → ds.all (workD n) = true → xs = (ds.map daInt).map V.int ∧ ds = (ds.map daInt).map Da.int
  | _, _, .nil, _ => ⟨rfl, rfl⟩
  | _, _, .cons h r, e => by
    rw [List.all_cons, Bool.and_eq_true] at e
    obtain ⟨e1, e2⟩ := works_ints r e.2
    obtain ⟨i, rfl, _⟩ := workD_int e.1
    cases h
    refine ⟨?_, ?_⟩
    · rw [List.map_cons, List.map_cons, ← e1] <;> rfl
    · rw [List.map_cons, List.map_cons, ← e2] <;> rfl
theorem len_le_of_nodup : ∀ {m l : List Int}, m.Nodup → (∀ k ∈ m, k ∈ l) → m.length ≤ l.length
  | [], _, _, _ => Nat.zero_le _
  | x :: r, l, nd, h => by
    have hx := h x (List.mem_cons_self ..)
    obtain ⟨n1, n2⟩ := List.nodup_cons.mp nd
    have ih := len_le_of_nodup (m := r) (l := l.erase x) n2 fun k hk => (List.mem_erase_of_ne (fun e : k = x => n1 (by rw [← e]; exact hk))).mpr (h k (List.mem_cons_of_mem _ hk))
    have := List.length_erase_of_mem hx
    have h0 : 0 < l.length := List.length_pos_of_mem hx
    rw [List.length_cons]
    omega
theorem dup_of : ∀ {l : List Int}, ¬ l.Nodup → ∃ x ∈ l, x ∈ l.erase x
  | [], h => absurd List.nodup_nil h
  | y :: r, h => by
    by_cases hy : y ∈ r
    · exact ⟨y, List.mem_cons_self .., by rw [List.erase_cons_head]; exact hy⟩
    · have hr : ¬ r.Nodup := fun n => h (List.nodup_cons.mpr ⟨hy, n⟩)
      obtain ⟨x, hx, he⟩ := dup_of hr
      refine ⟨x, List.mem_cons_of_mem _ hx, ?_⟩
      have hn : y ≠ x := fun e => hy (by rw [e]; exact hx)
      rw [List.erase_cons_tail (by simpa using hn)]
      exact List.mem_cons_of_mem _ he
theorem len_nodup {m l : List Int} (nd : m.Nodup) (h : ∀ k, k ∈ m ↔ k ∈ l) : m.length = l.length ↔ l.Nodup := by
  have h1 := len_le_of_nodup nd fun k hk => (h k).mp hk
  constructor
  · intro e
    apply Classical.byContradiction
    intro n
    obtain ⟨x, hx, he⟩ := dup_of n
    have h2 := len_le_of_nodup (l := l.erase x) nd fun k hk => by
      by_cases hkx : k = x
      · rw [hkx]
        exact he
      · exact (List.mem_erase_of_ne hkx).mpr ((h k).mp hk)
    have := List.length_erase_of_mem hx
    have h0 : 0 < l.length := List.length_pos_of_mem hx
    omega
  · intro n
    have h2 := len_le_of_nodup n fun k hk => (h k).mpr hk
    omega
theorem rp_row {K : PySem.W.Frag} {H : Hp} {a : Addr} {row : List Nat} (h : SqT K H a (row.map vNat)) : Rp K H (.ref a) (.tup (row.map dNat)) := by
  refine .tup h ?_
  clear h
  induction row with
  | nil => exact .nil
  | cons j r ih => exact .cons (.int _) ih
theorem rp_lot {K : PySem.W.Frag} {H : Hp} {a : Addr} {lot : List (Option Int)} (h : SqT K H a (lot.map vO)) : Rp K H (.ref a) (.tup (lot.map dO)) := by
  refine .tup h ?_
  clear h
  induction lot with
  | nil => exact .nil
  | cons j r ih =>
    cases j with
    | none => exact .cons .non ih
    | some n => exact .cons (.int n) ih
theorem da_row (row : List Nat) : (row.map dNat).map daInt = row.map fun j => ((j : Nat) : Int) := by
  rw [List.map_map] <;> rfl
theorem right_run {ws : List (Int × Int)} {row : List Nat} {lot : List (Option Int)} (R : Right ws row lot) : runD ws.length (.tup (row.map dNat)) (.tup (lot.map dO)) = 0 := by
  have h1 : rowD ws.length (.tup (row.map dNat)) = true := by
    simp only [rowD, Bool.and_eq_true, decide_eq_true_eq, List.all_eq_true]
    refine ⟨fun x hx => ?_, ?_⟩
    · obtain ⟨j, hj, rfl⟩ := List.mem_map.mp hx
      have := R.lt j hj
      simp [dNat, workD, this]
    · rw [da_row]
      refine List.pairwise_map.mpr (R.nd.imp fun h e => h ?_)
      omega
  have h2 : lotD ws.length (.tup (lot.map dO)) = true := by
    simp only [lotD, List.length_map, Bool.and_eq_true, decide_eq_true_eq, List.all_eq_true]
    refine ⟨R.sz, fun x hx => ?_⟩
    obtain ⟨j, hj, rfl⟩ := List.mem_map.mp hx
    cases j with
    | none => rfl
    | some n =>
      have := R.ge n hj
      simp [dO, lenD, this]
  have h3 : allInD (.tup (lot.map dO)) (.tup (row.map dNat)) = true := by
    simp only [allInD, List.all_eq_true, List.length_map]
    intro i hi
    rw [List.mem_range] at hi
    unfold inAt
    rw [da_row, List.getElem?_map]
    have e : lot[i]? = some lot[i] := List.getElem?_eq_getElem hi
    have is := R.isin i
    rw [e] at is
    rw [e]
    cases h : lot[i] with
    | none => rfl
    | some n =>
      rw [h] at is
      have : i ∈ row := is (by simp)
      simp [dO, isNon]
      exact ⟨i, this, rfl⟩
  unfold runD
  rw [if_pos h1, if_pos ⟨h2, h3⟩]
theorem TrisAt.add {K : PySem.W.Frag} {H : Hp} {f r : Addr} {xs ys : List V} {as : List Addr} {ts : List (Int × Int × Int)} {q : Int × Int × Int} (h : TrisAt K H as ts) (hf : H f = some (.lst xs)) (hr : H r = some (.tup (vTri q))) : TrisAt K (L2.upd H f (.lst ys)) (as ++ [r]) (ts ++ [q]) := by
  obtain ⟨h2, h3⟩ := h
  have nf : ∀ {a : Addr} {zs : List V}, H a = some (.tup zs) → a ≠ f := fun {a zs} z e => by
    rw [e, hf] at z
    cases z
  refine ⟨by rw [List.length_append, List.length_append, h2] <;> rfl, fun i a q' x y => ?_⟩
  by_cases hi : i < as.length
  · rw [List.getElem?_append_left hi] at x
    rw [List.getElem?_append_left (by omega)] at y
    have z := h3 i a q' x y
    rw [upd_ne (nf z)]
    exact z
  · rw [List.getElem?_append_right (by omega)] at x
    rw [List.getElem?_append_right (by omega)] at y
    have e0 : i - as.length = 0 := by
      have := (List.getElem?_eq_some_iff.mp x).1
      simp at this
      omega
    rw [e0] at x
    rw [← h2, e0] at y
    cases (Option.some.inj x)
    cases (Option.some.inj y)
    rw [upd_ne (nf hr)]
    exact hr
theorem nats_get {ms : List Nat} {i : Nat} {y : V} (h : (ms.map vNat)[i]? = some y) : ∃ z, ms[i]? = some z ∧ y = .int (z : Int) := by
  rw [List.getElem?_map] at h
  cases e : ms[i]? with
  | none =>
    rw [e] at h
    cases h
  | some z =>
    rw [e] at h
    exact ⟨z, rfl, (Option.some.inj h).symm⟩
theorem lot_at {lot : List (Option Int)} {j : Nat} (h : j < lot.length) : atI (lot.map vO) (j : Int) = some (vO ((lot[j]?).getD none)) := by
  refine atI_of ?_
  rw [List.getElem?_map, List.getElem?_eq_getElem h] <;> rfl
theorem comingN_le (row : List Nat) (lot : List (Option Int)) : (comingN row lot).length ≤ row.length := List.length_filter_le ..
theorem comingN_mem {row : List Nat} {lot : List (Option Int)} {j : Nat} (h : j ∈ comingN row lot) : j ∈ row ∧ ∃ n, (lot[j]?).getD none = some n := by
  obtain ⟨h1, h2⟩ := List.mem_filter.mp h
  exact ⟨h1, Option.isSome_iff_exists.mp h2⟩
theorem drop_of {α : Type} {l : List α} {i : Nat} {x : α} (h : l[i]? = some x) : l.drop i = x :: l.drop (i + 1) := by
  obtain ⟨hi, e⟩ := List.getElem?_eq_some_iff.mp h
  rw [List.drop_eq_getElem_cons hi, e]
/-! ### the law's own drawn rows and lots -/
theorem sqt_kept {K : PySem.W.Frag} {H H' : Hp} {p c a : Addr} {xs : List V} (h : SqT K H a xs) (P : PoolAt H p c) (k : Kept p c H H') : SqT K H' a xs := by
  have ne : ∀ {o : HO}, H a = some o → (∀ ys, o ≠ .lst ys) → a ≠ p ∧ a ≠ c := fun {o} e n => by
    constructor
    · intro z
      obtain ⟨i, j, q⟩ := P.ob
      rw [z, q] at e
      exact n _ (Option.some.inj e).symm
    · intro z
      obtain ⟨ns, q⟩ := P.cl
      rw [z, q] at e
      exact n _ (Option.some.inj e).symm
  rcases h with (h | ⟨o, h⟩) | h
  · have q := ne h (fun ys z => by cases z)
    exact .inl (.inl (k _ _ q.1 q.2 h))
  · have q := ne h (fun ys z => by cases z)
    exact .inl (.inr ⟨o, k _ _ q.1 q.2 h⟩)
  · exact .inr h
theorem WinAt.kept {K : PySem.W.Frag} {H H' : Hp} {p c w : Addr} {ws : List (Int × Int)} (h : WinAt K H w ws) (P : PoolAt H p c) (k : Kept p c H H') : WinAt K H' w ws := by
  obtain ⟨hl, as, h1, h2, h3⟩ := h
  exact ⟨hl, ⟨as, sqt_kept h1 P k, h2, fun i a q x y => sqt_kept (h3 i a q x y) P k⟩⟩
theorem BookAt.kept {C : Addr} {H H' : Hp} {p c b w : Addr} (h : BookAt C H b w) (P : PoolAt H p c) (k : Kept p c H H') : BookAt C H' b w := by
  obtain ⟨dx, h⟩ := h
  refine ⟨dx, k _ _ ?_ ?_ h⟩
  · intro z
    obtain ⟨i, j, q⟩ := P.ob
    rw [z, q] at h
    cases h
  · intro z
    obtain ⟨ns, q⟩ := P.cl
    rw [z, q] at h
    cases h
theorem free_kept {H H' : Hp} {p c a : Addr} (P : PoolAt H' p c) (k : Kept p c H H') (n : H' a = none) : H a = none := by
  cases e : H a with
  | none => rfl
  | some o =>
    rw [k a o (P.nep n) (P.nec n) e] at n
    cases n
/-- a list or a tuple of works, told by numbers, not of the pool -/
def WorksAt (K : PySem.W.Frag) (H : Hp) (p c a : Addr) (row : List Nat) : Prop := SqT K H a (row.map vNat) ∨ (H a = some (.lst (row.map vNat)) ∧ a ≠ p ∧ a ≠ c)
theorem WorksAt.kept {K : PySem.W.Frag} {H H' : Hp} {p c a : Addr} {row : List Nat} (h : WorksAt K H p c a row) (P : PoolAt H p c) (k : Kept p c H H') : WorksAt K H' p c a row := by
  rcases h with h | ⟨h, n1, n2⟩
  · exact .inl (sqt_kept h P k)
  · exact .inr ⟨k _ _ n1 n2 h, n1, n2⟩
theorem WorksAt.mono {K : PySem.W.Frag} {H H' : Hp} {p c a : Addr} {row : List Nat} (h : WorksAt K H p c a row) (e : Ex H H') : WorksAt K H' p c a row := by
  rcases h with h | ⟨h, n1, n2⟩
  · exact .inl (ex_t e h)
  · exact .inr ⟨e _ _ h, n1, n2⟩
theorem WorksAt.seq {K : PySem.W.Frag} {H : Hp} {p c a : Addr} {row : List Nat} (h : WorksAt K H p c a row) : SqL K H a (row.map vNat) ∨ SqT K H a (row.map vNat) := by
  rcases h with h | ⟨h, _⟩
  · exact .inr h
  · exact .inl (SqL.of h)
abbrev sp_l_row (K : PySem.W.Frag) (A : Ad) : Sp := fun vs H Q _ => Sp2 vs fun x y => ∃ (p c a : Addr) (row : List Nat), x = .ref p ∧ y = .ref a ∧ PoolAt H p c ∧ WorksAt K H p c a row ∧ row.length ≤ 1000 ∧
  ∀ (w : Addr) (out : List Nat) (H' : Hp), H w = none → out.Perm row → H' w = some (.tup (out.map vNat)) → PoolAt H' p c → Kept p c H H' → Q (.ref w) H'
abbrev sp_l_some (K : PySem.W.Frag) (A : Ad) : Sp := fun vs H Q _ => Sp2 vs fun x y => ∃ (p c : Addr) (n : Nat), x = .ref p ∧ y = .int (n : Int) ∧ PoolAt H p c ∧ n ≤ 1000 ∧
  ∀ (w : Addr) (out : List Nat) (H' : Hp), H w = none → (∀ j ∈ out, j < n) → out.Nodup → H' w = some (.tup (out.map vNat)) → PoolAt H' p c → Kept p c H H' → Q (.ref w) H'
abbrev sp_l_lot (K : PySem.W.Frag) (A : Ad) : Sp := fun vs H Q _ => Sp3 vs fun x y z => ∃ (p c w a : Addr) (ws : List (Int × Int)) (row : List Nat), x = .ref p ∧ y = .ref w ∧ z = .ref a ∧ PoolAt H p c ∧ WinAt K H w ws ∧ WorksAt K H p c a row ∧ (∀ q ∈ ws, inWin 1000000 q) ∧
  ∀ (l : Addr) (lot : List (Option Int)) (H' : Hp), H l = none → lot.length = ws.length → (∀ n, some n ∈ lot → 0 ≤ n ∧ n ≤ 1000001) → (∀ j : Nat, j < ws.length → ((lot[j]?).getD none ≠ none ↔ j ∈ row)) → H' l = some (.tup (lot.map vO)) → PoolAt H' p c → Kept p c H H' → Q (.ref l) H'
abbrev sp_l_run (K : PySem.W.Frag) (A : Ad) : Sp := fun vs H Q _ => Sp3 vs fun x y z => ∃ (w a c : Addr) (ws : List (Int × Int)) (row : List Nat) (lot : List (Option Int)), x = .ref w ∧ y = .ref a ∧ z = .ref c ∧ WinAt K H w ws ∧ SqT K H a (row.map vNat) ∧ SqT K H c (lot.map vO) ∧
  (∀ j ∈ row, j < ws.length) ∧ lot.length = ws.length ∧ row.length ≤ 1000 ∧ ∀ (l : Addr) (as : List Addr) (H' : Hp), H l = none → Ex H H' → H' l = some (.lst (as.map V.ref)) → TrisAt K H' as (stepsN ws row lot) → Q (.ref l) H'
theorem seqIx_of {d : Int} {n : Nat} (h0 : 0 ≤ d) (h1 : d < n) : seqIndex? d n = some d.toNat := by
  unfold seqIndex?
  simp [h0, h1, show ¬ d < 0 by omega]
theorem inV_nats (z : Nat) (l : List Nat) : inV (.int (z : Int)) (l.map vNat) = decide (z ∈ l) := by
  unfold inV
  induction l with
  | nil => simp
  | cons i r ih =>
    rw [List.map_cons, List.any_cons, ih]
    by_cases h : i = z
    · simp [eqV, vNat, h]
    · have h' : ¬ z = i := fun e => h e.symm
      have h2 : ¬ ((i : Int) = (z : Int)) := by omega
      simp [eqV, vNat, h', h2]
theorem flat_nats (l : List Nat) : (l.map vNat).all flatV = true := by
  rw [List.all_eq_true]
  intro x hx
  obtain ⟨i, _, rfl⟩ := List.mem_map.mp hx
  rfl
theorem fdiv_two {n : Int} (h0 : 0 ≤ n) : 0 ≤ n / 2 ∧ n / 2 ≤ n := by omega
theorem map_eraseIdx' {α β : Type} (f : α → β) : ∀ (l : List α) (k : Nat), (l.map f).eraseIdx k = (l.eraseIdx k).map f
  | [], _ => rfl
  | _ :: _, 0 => rfl
  | a :: l, k + 1 => congrArg (f a :: ·) (map_eraseIdx' f l k)
theorem perm_eraseIdx : ∀ {l : List Nat} {k : Nat} (h : k < l.length), (l[k] :: l.eraseIdx k).Perm l
  | a :: l, 0, _ => List.Perm.refl _
  | a :: l, k + 1, h => (List.Perm.swap a (l[k]'(by simpa using h)) (l.eraseIdx k)).trans ((perm_eraseIdx (l := l) (k := k) (by simpa using h)).cons a)
/-! ### tuples of triples, compared -/
def dTri (q : Int × Int × Int) : PyData := .tuple [.int q.1, .int q.2.1, .int q.2.2]
def dTris (ts : List (Int × Int × Int)) : PyData := .tuple (ts.map dTri)
theorem dp_tris {K : PySem.W.Frag} {H : Hp} {l : Addr} {as : List Addr} {ts : List (Int × Int × Int)} (h : SqT K H l (as.map V.ref)) (t : TrisAt K H as ts) : Dp K H (.ref l) (dTris ts) := by
  refine .tup h ?_
  obtain ⟨t1, t2⟩ := t
  clear h
  induction ts generalizing as with
  | nil =>
    cases as with
    | nil => exact .nil
    | cons _ _ => simp at t1
  | cons q r ih =>
    cases as with
    | nil => simp at t1
    | cons a s => exact .cons (.tup (SqT.of (t2 0 a q rfl rfl)) (.cons (.int _) (.cons (.int _) (.cons (.int _) .nil)))) (ih (by simpa using t1) fun i a q x y => t2 (i + 1) a q x y)
theorem lay_tris : ∀ ts : List (Int × Int × Int), PyData.canLayAll0 (ts.map dTri) = true
  | [] => by simp only [List.map_nil, PyData.canLayAll0]
  | q :: r => by
    simp only [List.map_cons, PyData.canLayAll0, dTri, PyData.canLay0, lay_tris r]
    rfl
theorem deep_tris : ∀ ts : List (Int × Int × Int), PyData.depthAll (ts.map dTri) ≤ 1
  | [] => by simp only [List.map_nil, PyData.depthAll]; omega
  | q :: r => by
    have := deep_tris r
    simp only [List.map_cons, PyData.depthAll, dTri, PyData.depth]
    omega
theorem shaped_tris (ts : List (Int × Int × Int)) : SeqAt.shaped (dTris ts) = true := by
  have h := deep_tris ts
  unfold SeqAt.shaped dTris
  have e1 : PyData.canLay0 (.tuple (ts.map dTri)) = true := by simp only [PyData.canLay0, lay_tris]
  rw [e1, Bool.true_and]
  apply decide_eq_true
  simp only [PyData.depth]
  omega
theorem eqv_tris (ts : List (Int × Int × Int)) : PyData.eqv (dTris ts) (dTris ts) = true := SeqAt.eqv_refl _ (by
  unfold dTris
  simp only [PyData.canLay0, lay_tris])
theorem comingN_self (row : List Nat) (lot : List (Option Int)) : comingN (comingN row lot) lot = comingN row lot := by
  unfold comingN
  rw [List.filter_filter]
  congr 1
  funext j
  rw [Bool.and_self]
theorem comingN_app (r s : List Nat) (lot : List (Option Int)) : comingN (r ++ s) lot = comingN r lot ++ comingN s lot := List.filter_append ..
theorem comingN_away {r : List Nat} {lot : List (Option Int)} (h : ∀ j ∈ r, (lot[j]?).getD none = none) : comingN r lot = [] := by
  unfold comingN
  rw [List.filter_eq_nil_iff]
  intro j hj
  rw [h j hj]
  exact Bool.false_ne_true
theorem cat_read {K : PySem.W.Frag} {H : Hp} {a b : Addr} {xs ys : List V} {Q : VK} (ha : SqT K H a xs) (hb : SqT K H b ys) (hl : xs.length + ys.length ≤ 2000) (k : ∀ r H', Ex H H' → SqT K H' r (xs ++ ys) → Q (.ref r) H') : rCatA K (.ref a) (.ref b) H Q := by
  refine ⟨a, b, xs, ys, rfl, rfl, ha, hb, sz_of (by omega), fun e => ?_, fun _ e => ?_, fun _ _ p np => k p _ (Ex.new np) (SqT.of upd_same)⟩
  · refine k b H (Ex.refl H) ?_
    rw [e, List.nil_append]
    exact hb
  · refine k a H (Ex.refl H) ?_
    rw [e, List.append_nil]
    exact ha
theorem map_setO (lot : List (Option Int)) (j : Nat) (d : Int) : (lot.map vO).set j (.int d) = (lot.set j (some d)).map vO := by
  rw [List.map_set] <;> rfl
/-- a lot just of these works -/
structure LotOf (ws : List (Int × Int)) (works : List Nat) (lot : List (Option Int)) : Prop where
  sz : lot.length = ws.length
  ge : ∀ n, some n ∈ lot → 0 ≤ n
  isin : ∀ j : Nat, j < ws.length → ((lot[j]?).getD none ≠ none ↔ j ∈ works)
theorem LotOf.out {ws : List (Int × Int)} {works : List Nat} {lot : List (Option Int)} (L : LotOf ws works lot) {j : Nat} (h : (lot[j]?).getD none ≠ none) : j < ws.length ∧ j ∈ works := by
  have hj : j < ws.length := by
    rw [← L.sz]
    apply Classical.byContradiction
    intro n
    rw [List.getElem?_eq_none (by omega)] at h
    exact h rfl
  exact ⟨hj, (L.isin j hj).mp h⟩
theorem LotOf.set {ws : List (Int × Int)} {works : List Nat} {lot : List (Option Int)} (L : LotOf ws works lot) {j : Nat} {d : Int} (hj : j ∈ works) (hd : 0 ≤ d) : LotOf ws works (lot.set j (some d)) := by
  refine ⟨by rw [List.length_set]; exact L.sz, fun n hn => ?_, fun i hi => ?_⟩
  · rcases List.mem_or_eq_of_mem_set hn with h | h
    · exact L.ge n h
    · cases h
      exact hd
  · by_cases e : j = i
    · subst e
      rw [List.getElem?_set_self (by rw [L.sz]; exact hi)]
      exact ⟨fun _ => hj, fun _ => by simp⟩
    · rw [List.getElem?_set_ne e]
      exact L.isin i hi
theorem LotOf.right {ws : List (Int × Int)} {works row : List Nat} {lot : List (Option Int)} (L : LotOf ws works lot) (h1 : ∀ j ∈ row, j < ws.length) (h2 : row.Nodup) (h3 : ∀ j ∈ works, j ∈ row) : Right ws row lot :=
  ⟨h1, h2, L.sz, L.ge, fun j h => h3 j (L.out h).2⟩
theorem flat_none : ∀ m : Nat, (List.replicate m [V.non]).flatten = (List.replicate m (none : Option Int)).map vO
  | 0 => rfl
  | m + 1 => by
    rw [List.replicate_succ, List.replicate_succ, List.flatten_cons, flat_none m]
    rfl
/-! ### lateness -/
def maxL : List Int → Option Int
  | [] => none
  | a :: r => some (r.foldl (fun m k => if k > m then k else m) a)
theorem foldl_max (r : List Int) : ∀ a : Int, (r.foldl (fun m k => if k > m then k else m) a ∈ a :: r) ∧ ∀ k ∈ a :: r, k ≤ r.foldl (fun m k => if k > m then k else m) a := by
  induction r with
  | nil => intro a; exact ⟨List.mem_cons_self .., fun k hk => by cases List.mem_singleton.mp hk; exact Int.le_refl _⟩
  | cons b r ih =>
    intro a
    obtain ⟨h1, h2⟩ := ih (if b > a then b else a)
    rw [List.foldl_cons]
    refine ⟨?_, fun k hk => ?_⟩
    · rcases List.mem_cons.mp h1 with h | h
      · rw [h]
        split <;> simp
      · exact List.mem_cons_of_mem _ (List.mem_cons_of_mem _ h)
    · have hm := h2 _ (List.mem_cons_self ..)
      rcases List.mem_cons.mp hk with h | h
      · subst h
        refine Int.le_trans ?_ hm
        split <;> omega
      · rcases List.mem_cons.mp h with h | h
        · subst h
          refine Int.le_trans ?_ hm
          split <;> omega
        · exact h2 k (List.mem_cons_of_mem _ h)
theorem maxL_some {l : List Int} {m : Int} (h : maxL l = some m) : m ∈ l ∧ ∀ k ∈ l, k ≤ m := by
  cases l with
  | nil => cases h
  | cons a r =>
    cases h
    exact foldl_max r a
theorem maxL_of {l : List Int} {m : Int} (h1 : m ∈ l) (h2 : ∀ k ∈ l, k ≤ m) : maxL l = some m := by
  cases l with
  | nil => cases h1
  | cons a r =>
    obtain ⟨g1, g2⟩ := foldl_max r a
    have e : r.foldl (fun m k => if k > m then k else m) a = m := Int.le_antisymm (h2 _ g1) (g2 _ h1)
    show some _ = some m
    rw [e]
theorem maxL_none {l : List Int} : maxL l = none ↔ l = [] := by
  cases l with
  | nil => exact ⟨fun _ => rfl, fun _ => rfl⟩
  | cons a r => exact ⟨fun h => (by cases h), fun h => (by cases h)⟩
def lateAt (ws : List (Int × Int)) (q : Int × Int × Int) : Int := q.2.2 - (winAt ws q.1.toNat).2
def latesN (ws : List (Int × Int)) (ts : List (Int × Int × Int)) : List Int := ts.map (lateAt ws)
def inTime (ws : List (Int × Int)) (q : Int × Int × Int) : Bool := decide (q.2.2 ≤ (winAt ws q.1.toNat).2)
def servesB (ws : List (Int × Int)) (ts : List (Int × Int × Int)) : Bool := (ts.map (inTime ws)).all id
abbrev sp_is_served (K : PySem.W.Frag) (A : Ad) : Sp := fun vs H Q _ => Sp3 vs fun x y z => RunOn K A H x y z fun ws row lot => ∀ H', Ex H H' → Q (.bl (servesB ws (stepsN ws row lot))) H'
abbrev sp_serves (K : PySem.W.Frag) (A : Ad) : Sp := fun vs H Q E => Sp3 vs fun x y z => RunOn K A H x y z fun ws row lot => Right ws row lot ∧ ∀ H', Ex H H' → Q (.bl (servesB ws (stepsN ws row lot))) H'
abbrev sp_lateness (K : PySem.W.Frag) (A : Ad) : Sp := fun vs H Q E => Sp3 vs fun x y z => RunOn K A H x y z fun ws row lot => Right ws row lot ∧ ∀ H', Ex H H' → Q (vO (maxL (latesN ws (stepsN ws row lot)))) H'
abbrev sp_l_lateness (K : PySem.W.Frag) (A : Ad) : Sp := fun vs H Q _ => Sp3 vs fun x y z => ∃ (w a c : Addr) (ws : List (Int × Int)) (row : List Nat) (lot : List (Option Int)), x = .ref w ∧ y = .ref a ∧ z = .ref c ∧ WinAt K H w ws ∧ SqT K H a (row.map vNat) ∧ SqT K H c (lot.map vO) ∧
  (∀ j ∈ row, j < ws.length) ∧ lot.length = ws.length ∧ row.length ≤ 1000 ∧ ∀ H', Ex H H' → Q (vO (maxL (latesN ws (stepsN ws row lot)))) H'
abbrev sp_l_flag (K : PySem.W.Frag) (A : Ad) : Sp := fun vs H Q _ => Sp2 vs fun x y => ∃ a b : Bool, x = .bl a ∧ y = .bl b ∧ Q (.bl (decide (a = b))) H
theorem stepsF_len (ws : List (Int × Int)) (lot : List (Option Int)) : ∀ (l : List Nat) (h : Int), (stepsF ws lot h l).length = l.length
  | [], _ => rfl
  | j :: r, h => by
    show (stepsF ws lot _ r).length + 1 = r.length + 1
    rw [stepsF_len ws lot r]
theorem stepsF_mem {ws : List (Int × Int)} {lot : List (Option Int)} : ∀ {l : List Nat} {h : Int} {q : Int × Int × Int}, q ∈ stepsF ws lot h l → ∃ j ∈ l, q.1 = (j : Int)
  | [], _, _, hq => by cases hq
  | j :: r, h, q, hq => by
    rcases List.mem_cons.mp hq with e | hq
    · exact ⟨j, List.mem_cons_self .., by rw [e]⟩
    · obtain ⟨i, hi, e⟩ := stepsF_mem (l := r) hq
      exact ⟨i, List.mem_cons_of_mem _ hi, e⟩
theorem steps_len {ws : List (Int × Int)} {row : List Nat} {lot : List (Option Int)} : (stepsN ws row lot).length ≤ row.length := by
  unfold stepsN
  rw [stepsF_len]
  exact comingN_le row lot
theorem steps_work {ws : List (Int × Int)} {row : List Nat} {lot : List (Option Int)} (h : ∀ j ∈ row, j < ws.length) {q : Int × Int × Int} (hq : q ∈ stepsN ws row lot) : ∃ j : Nat, q.1 = (j : Int) ∧ j < ws.length := by
  obtain ⟨j, hj, e⟩ := stepsF_mem hq
  exact ⟨j, e, h j (comingN_mem hj).1⟩
/-! ### shorter, fewer, longer -/
theorem lates_mono {ws : List (Int × Int)} {A B : List (Option Int)} (p : Nat → Bool) : ∀ (l : List Nat) (h1 h2 : Int), h1 ≤ h2 → (∀ j ∈ l, 0 ≤ lenAt B j) → (∀ j ∈ l, p j = true → lenAt A j ≤ lenAt B j) → ∀ x ∈ latesN ws (stepsF ws A h1 (l.filter p)), ∃ y ∈ latesN ws (stepsF ws B h2 l), x ≤ y
  | [], _, _, _, _, _, x, hx => by cases hx
  | j :: r, h1, h2, hh, g0, g1, x, hx => by
    have b0 := g0 j (List.mem_cons_self ..)
    have ih := fun h1 h2 hh => lates_mono (ws := ws) p r h1 h2 hh (fun i hi => g0 i (List.mem_cons_of_mem _ hi)) (fun i hi => g1 i (List.mem_cons_of_mem _ hi))
    cases hp : p j with
    | false =>
      rw [List.filter_cons_of_neg (by rw [hp]; exact Bool.false_ne_true)] at hx
      obtain ⟨y, hy, e⟩ := ih h1 ((if (winAt ws j).1 > h2 then (winAt ws j).1 else h2) + lenAt B j) (by split <;> omega) x hx
      exact ⟨y, List.mem_cons_of_mem _ hy, e⟩
    | true =>
      rw [List.filter_cons_of_pos hp] at hx
      have a1 := g1 j (List.mem_cons_self ..) hp
      have m : (if (winAt ws j).1 > h1 then (winAt ws j).1 else h1) + lenAt A j ≤ (if (winAt ws j).1 > h2 then (winAt ws j).1 else h2) + lenAt B j := by split <;> split <;> omega
      rcases List.mem_cons.mp hx with e | hx
      · refine ⟨_, List.mem_cons_self .., ?_⟩
        rw [e]
        exact Int.sub_le_sub_right m _
      · obtain ⟨y, hy, e⟩ := ih _ _ m x hx
        exact ⟨y, List.mem_cons_of_mem _ hy, e⟩
theorem lates_more {ws : List (Int × Int)} {A B : List (Option Int)} : ∀ (l : List Nat) (h1 h2 : Int), h1 ≤ h2 → (∀ j ∈ l, lenAt A j + 1 ≤ lenAt B j) → ∀ x ∈ latesN ws (stepsF ws A h1 l), ∃ y ∈ latesN ws (stepsF ws B h2 l), x + 1 ≤ y
  | [], _, _, _, _, x, hx => by cases hx
  | j :: r, h1, h2, hh, g1, x, hx => by
    have a1 := g1 j (List.mem_cons_self ..)
    have m : (if (winAt ws j).1 > h1 then (winAt ws j).1 else h1) + lenAt A j + 1 ≤ (if (winAt ws j).1 > h2 then (winAt ws j).1 else h2) + lenAt B j := by split <;> split <;> omega
    rcases List.mem_cons.mp hx with e | hx
    · refine ⟨_, List.mem_cons_self .., ?_⟩
      rw [e]
      show ((if (winAt ws j).1 > h1 then (winAt ws j).1 else h1) + lenAt A j) - (winAt ws ((j : Int)).toNat).2 + 1 ≤ ((if (winAt ws j).1 > h2 then (winAt ws j).1 else h2) + lenAt B j) - (winAt ws ((j : Int)).toNat).2
      generalize (if (winAt ws j).1 > h1 then (winAt ws j).1 else h1) + lenAt A j = u at m
      generalize (if (winAt ws j).1 > h2 then (winAt ws j).1 else h2) + lenAt B j = v at m
      omega
    · have m' : (if (winAt ws j).1 > h1 then (winAt ws j).1 else h1) + lenAt A j ≤ (if (winAt ws j).1 > h2 then (winAt ws j).1 else h2) + lenAt B j := by
        generalize (if (winAt ws j).1 > h1 then (winAt ws j).1 else h1) + lenAt A j = u at m ⊢
        generalize (if (winAt ws j).1 > h2 then (winAt ws j).1 else h2) + lenAt B j = v at m ⊢
        omega
      obtain ⟨y, hy, e⟩ := lates_more r _ _ m' (fun i hi => g1 i (List.mem_cons_of_mem _ hi)) x hx
      exact ⟨y, List.mem_cons_of_mem _ hy, e⟩
def dueN (ws : List (Int × Int)) (row : List Nat) (lot : List (Option Int)) : Option Int := maxL (latesN ws (stepsN ws row lot))
theorem due_none {ws : List (Int × Int)} {row : List Nat} {lot : List (Option Int)} : dueN ws row lot = none ↔ comingN row lot = [] := by
  unfold dueN
  rw [maxL_none]
  have e : (latesN ws (stepsN ws row lot)).length = (comingN row lot).length := by
    unfold latesN stepsN
    rw [List.length_map, stepsF_len]
  rw [← List.length_eq_zero_iff, ← List.length_eq_zero_iff, e]
theorem due_le {ws : List (Int × Int)} {row : List Nat} {A B : List (Option Int)} (p : Nat → Bool) (hc : comingN row A = (comingN row B).filter p) (g0 : ∀ j ∈ comingN row B, 0 ≤ lenAt B j) (g1 : ∀ j ∈ comingN row B, p j = true → lenAt A j ≤ lenAt B j) {m n : Int} (hm : dueN ws row A = some m) (hn : dueN ws row B = some n) : m ≤ n := by
  obtain ⟨m1, _⟩ := maxL_some hm
  unfold stepsN at m1
  rw [hc] at m1
  obtain ⟨y, hy, e⟩ := lates_mono p _ _ _ (Int.le_refl 0) g0 g1 m m1
  exact Int.le_trans e ((maxL_some hn).2 y hy)
theorem due_lt {ws : List (Int × Int)} {row : List Nat} {A B : List (Option Int)} (hc : comingN row A = comingN row B) (g1 : ∀ j ∈ comingN row B, lenAt A j + 1 ≤ lenAt B j) {m n : Int} (hm : dueN ws row A = some m) (hn : dueN ws row B = some n) : m < n := by
  obtain ⟨m1, _⟩ := maxL_some hm
  unfold stepsN at m1
  rw [hc] at m1
  obtain ⟨y, hy, e⟩ := lates_more _ _ _ (Int.le_refl 0) g1 m m1
  have := (maxL_some hn).2 y hy
  omega
theorem serves_due {ws : List (Int × Int)} {row : List Nat} {lot : List (Option Int)} : servesB ws (stepsN ws row lot) = (match dueN ws row lot with | none => true | some m => decide (m ≤ 0)) := by
  have key : servesB ws (stepsN ws row lot) = true ↔ ∀ x ∈ latesN ws (stepsN ws row lot), x ≤ 0 := by
    unfold servesB latesN
    rw [List.all_eq_true]
    constructor
    · intro h x hx
      obtain ⟨q, hq, rfl⟩ := List.mem_map.mp hx
      have := h _ (List.mem_map_of_mem (f := inTime ws) hq)
      have t : q.2.2 ≤ (winAt ws q.1.toNat).2 := of_decide_eq_true this
      unfold lateAt
      omega
    · intro h x hx
      obtain ⟨q, hq, rfl⟩ := List.mem_map.mp hx
      have := h _ (List.mem_map_of_mem (f := lateAt ws) hq)
      unfold lateAt at this
      exact decide_eq_true (by omega)
  cases hd : dueN ws row lot with
  | none =>
    refine key.mpr fun x hx => ?_
    rw [maxL_none.mp hd] at hx
    cases hx
  | some m =>
    obtain ⟨m1, m2⟩ := maxL_some hd
    show _ = decide (m ≤ 0)
    rw [Bool.eq_iff_iff, key, decide_eq_true_eq]
    exact ⟨fun h => h m m1, fun h x hx => Int.le_trans (m2 x hx) h⟩
def halfO : Option Int → Option Int | none => none | some n => some (n / 2)
def moreO : Option Int → Option Int | none => none | some n => some (n + 1)
theorem at_map (f : Option Int → Option Int) (hf : f none = none) (lot : List (Option Int)) (j : Nat) : (((lot.map f)[j]?).getD none) = f ((lot[j]?).getD none) := by
  rw [List.getElem?_map]
  cases lot[j]? with
  | none => exact hf.symm
  | some o => rfl
theorem coming_map (f : Option Int → Option Int) (hf : f none = none) (hs : ∀ n, (f (some n)).isSome = true) (row : List Nat) (lot : List (Option Int)) : comingN row (lot.map f) = comingN row lot := by
  unfold comingN
  congr 1
  funext j
  rw [at_map f hf]
  cases (lot[j]?).getD none with
  | none => rw [hf]
  | some n => exact hs n
theorem at_set (lot : List (Option Int)) (s j : Nat) : ((lot.set s none)[j]?).getD none = if j = s then none else (lot[j]?).getD none := by
  by_cases e : j = s
  · subst e
    rw [if_pos rfl, List.getElem?_set]
    by_cases h : j < lot.length
    · simp [h]
    · simp [h]
  · rw [if_neg e, List.getElem?_set_ne (fun z => e z.symm)]
theorem coming_set (row : List Nat) (lot : List (Option Int)) (s : Nat) : comingN row (lot.set s none) = (comingN row lot).filter fun j => decide (j ≠ s) := by
  unfold comingN
  rw [List.filter_filter]
  congr 1
  funext j
  rw [at_set]
  by_cases e : j = s
  · simp [e]
  · simp [e]
theorem Right.map {ws : List (Int × Int)} {row : List Nat} {lot : List (Option Int)} (R : Right ws row lot) (f : Option Int → Option Int) (hf : f none = none) (hg : ∀ n m, 0 ≤ n → f (some n) = some m → 0 ≤ m) : Right ws row (lot.map f) := by
  refine ⟨R.lt, R.nd, by rw [List.length_map]; exact R.sz, fun n hn => ?_, fun j hj => R.isin j fun z => hj (by rw [at_map f hf, z, hf])⟩
  obtain ⟨o, ho, e⟩ := List.mem_map.mp hn
  cases o with
  | none =>
    rw [hf] at e
    cases e
  | some k => exact hg k n (R.ge k ho) e
theorem Right.gone {ws : List (Int × Int)} {row : List Nat} {lot : List (Option Int)} (R : Right ws row lot) (s : Nat) : Right ws row (lot.set s none) := by
  refine ⟨R.lt, R.nd, by rw [List.length_set]; exact R.sz, fun n hn => ?_, fun j hj => R.isin j fun z => hj ?_⟩
  · rcases List.mem_or_eq_of_mem_set hn with h | h
    · exact R.ge n h
    · cases h
  · rw [at_set]
    split
    · rfl
    · exact z
theorem Right.len0 {ws : List (Int × Int)} {row : List Nat} {lot : List (Option Int)} (R : Right ws row lot) (j : Nat) : 0 ≤ lenAt lot j := by
  unfold lenAt
  cases h : lot[j]? with
  | none => exact Int.le_refl _
  | some o =>
    cases o with
    | none => exact Int.le_refl _
    | some n => exact R.ge n (List.mem_of_getElem? h)
theorem lot_gone {lot : List (Option Int)} {s : Nat} (h : s < lot.length) : cutV (lot.map vO) none (some (s : Int)) ++ [V.non] ++ cutV (lot.map vO) (some ((s : Int) + 1)) none = (lot.set s none).map vO := by
  unfold cutV
  have e : ((s : Int) + 1) = ((s + 1 : Nat) : Int) := rfl
  rw [e, HT.sIx_none, HT.sIx_nat, HT.sIx_nat, HT.sIx_none, List.length_map, List.set_eq_take_append_cons_drop, if_pos h]
  rw [Nat.min_eq_left (by omega), Nat.min_eq_left (by omega), List.drop_zero, Nat.sub_zero, List.take_of_length_le (l := List.drop (s + 1) (lot.map vO)) (by rw [List.length_drop, List.length_map] <;> omega), List.map_append, List.map_cons, List.append_assoc, List.map_take, List.map_drop]
  rfl
theorem lates_empty {ws : List (Int × Int)} {row : List Nat} {lot : List (Option Int)} (h : ∀ j ∈ row, (lot[j]?).getD none = none) : stepsN ws row lot = [] := by
  unfold stepsN
  rw [comingN_away h] <;> rfl
theorem os_get {ms : List (Option Int)} {i : Nat} {y : V} (h : (ms.map vO)[i]? = some y) : ∃ z, ms[i]? = some z ∧ y = vO z := by
  rw [List.getElem?_map] at h
  cases e : ms[i]? with
  | none =>
    rw [e] at h
    cases h
  | some z =>
    rw [e] at h
    exact ⟨z, rfl, (Option.some.inj h).symm⟩
theorem slice_read {K : PySem.W.Frag} {H : Hp} {a : Addr} {xs : List V} {lo hi : Option Int} {Q : VK} (ha : SqT K H a xs) (k : ∀ r H', Ex H H' → SqT K H' r (cutV xs lo hi) → Q (.ref r) H') : rSlA K (.ref a) lo hi H Q := by
  refine ⟨a, xs, rfl, ha, fun e => k a H (Ex.refl H) ?_, fun _ p np => k p _ (Ex.new np) (SqT.of upd_same)⟩
  unfold cutV
  rw [e.1, e.2, List.drop_zero, Nat.sub_zero, List.take_length]
  exact ha
theorem len_half {lot : List (Option Int)} {j : Nat} (h : 0 ≤ lenAt lot j) : lenAt (lot.map halfO) j ≤ lenAt lot j := by
  unfold lenAt at h ⊢
  rw [at_map halfO rfl]
  cases e : (lot[j]?).getD none with
  | none => exact Int.le_refl _
  | some n =>
    rw [e] at h
    have h' : 0 ≤ n := h
    show n / 2 ≤ n
    omega
theorem len_more {row : List Nat} {lot : List (Option Int)} {j : Nat} (h : j ∈ comingN row lot) : lenAt lot j + 1 ≤ lenAt (lot.map moreO) j := by
  obtain ⟨_, n, e⟩ := comingN_mem h
  unfold lenAt
  rw [at_map moreO rfl, e]
  exact Int.le_refl _
theorem len_gone {lot : List (Option Int)} {s j : Nat} (h : j ≠ s) : lenAt (lot.set s none) j = lenAt lot j := by
  unfold lenAt
  rw [at_set, if_neg h]
theorem rep_read {K : PySem.W.Frag} {H : Hp} {a : Addr} {k : Int} {Q : VK} (ha : SqT K H a [.non]) (h1 : 1 ≤ k) (h2 : k ≤ 1000) (q : ∀ r H', Ex H H' → SqT K H' r ((List.replicate k.toNat (none : Option Int)).map vO) → Q (.ref r) H') : rRep1 K (.ref a) (.int k) H Q :=
  ⟨a, k, [.non], rfl, rfl, ha, by simp, h1, h2, by decide, fun e => q a H (Ex.refl H) (by rw [e]; exact ha), fun _ p np => q p _ (Ex.new np) (SqT.of (by rw [upd_same, flat_none]))⟩
theorem rgV_nats (n : Nat) : rgV 0 (n : Int) = (List.range n).map vNat := by
  unfold rgV
  rw [Int.sub_zero, Int.toNat_natCast]
  congr 1
  funext i
  rw [Int.zero_add] <;> rfl
theorem right_bare {ws : List (Int × Int)} {row : List Nat} (h1 : ∀ j ∈ row, j < ws.length) (h2 : row.Nodup) : Right ws row (List.replicate ws.length (none : Option Int)) := by
  refine ⟨h1, h2, List.length_replicate .., fun m hm => ?_, fun j hj => ?_⟩
  · rw [List.mem_replicate] at hm
    cases hm.2
  · refine absurd ?_ hj
    by_cases hjn : j < ws.length
    · rw [List.getElem?_replicate, if_pos hjn] <;> rfl
    · rw [List.getElem?_replicate, if_neg hjn] <;> rfl
theorem steps_bare {ws : List (Int × Int)} {row : List Nat} (n : Nat) : stepsN ws row (List.replicate n (none : Option Int)) = [] := by
  refine lates_empty fun j _ => ?_
  by_cases hjn : j < n
  · rw [List.getElem?_replicate, if_pos hjn] <;> rfl
  · rw [List.getElem?_replicate, if_neg hjn] <;> rfl
theorem slice_readN {K : PySem.W.Frag} {σ : L2.St} {H : Hp} {a : Addr} {xs : List V} {lo : Option Int} {Q : VK} (ha : SqT K H a xs) (k : ∀ r H', Ex H H' → SqT K H' r (cutV xs lo none) → Q (.ref r) H') : tNoPart σ H fun u H3 => rSlA K (.ref a) lo u H3 Q := slice_read ha k
/-! ### lateness by stretches -/
def fstAt (ws : List (Int × Int)) (j : Nat) : Int := (winAt ws j).1
def lstAt (ws : List (Int × Int)) (j : Nat) : Int := (winAt ws j).2
/-- of the stretches that begin at this hour with the head of the row: how late each one ends -/
def fromF (ws : List (Int × Int)) (lot : List (Option Int)) : Int → List Nat → List Int
  | _, [] => []
  | h, j :: r => (h + lenAt lot j - lstAt ws j) :: fromF ws lot (h + lenAt lot j) r
/-- of all stretches -/
def strsF (ws : List (Int × Int)) (lot : List (Option Int)) : List Nat → List Int
  | [] => []
  | j :: r => fromF ws lot (fstAt ws j) (j :: r) ++ strsF ws lot r
theorem lates_cons (ws : List (Int × Int)) (lot : List (Option Int)) (h : Int) (j : Nat) (r : List Nat) : latesN ws (stepsF ws lot h (j :: r)) = ((if (winAt ws j).1 > h then (winAt ws j).1 else h) + lenAt lot j - lstAt ws j) :: latesN ws (stepsF ws lot ((if (winAt ws j).1 > h then (winAt ws j).1 else h) + lenAt lot j) r) := rfl
theorem lates_str {ws : List (Int × Int)} {lot : List (Option Int)} : ∀ (l : List Nat) (h x : Int), x ∈ latesN ws (stepsF ws lot h l) → x ∈ fromF ws lot h l ∨ x ∈ strsF ws lot l
  | [], _, _, hx => by cases hx
  | j :: r, h, x, hx => by
    have ih := lates_str (ws := ws) (lot := lot) r ((if (winAt ws j).1 > h then (winAt ws j).1 else h) + lenAt lot j) x
    by_cases c : (winAt ws j).1 > h
    · rw [if_pos c] at ih
      refine .inr (List.mem_append.mpr ?_)
      have e : latesN ws (stepsF ws lot h (j :: r)) = ((winAt ws j).1 + lenAt lot j - lstAt ws j) :: latesN ws (stepsF ws lot ((winAt ws j).1 + lenAt lot j) r) := by
        rw [lates_cons, if_pos c]
      rw [e] at hx
      rcases List.mem_cons.mp hx with e | hx
      · rw [e]
        exact .inl (List.mem_cons_self ..)
      · rcases ih hx with h1 | h1
        · exact .inl (List.mem_cons_of_mem _ h1)
        · exact .inr h1
    · rw [if_neg c] at ih
      have e : latesN ws (stepsF ws lot h (j :: r)) = (h + lenAt lot j - lstAt ws j) :: latesN ws (stepsF ws lot (h + lenAt lot j) r) := by
        rw [lates_cons, if_neg c]
      rw [e] at hx
      rcases List.mem_cons.mp hx with e | hx
      · rw [e]
        exact .inl (List.mem_cons_self ..)
      · rcases ih hx with h1 | h1
        · exact .inl (List.mem_cons_of_mem _ h1)
        · exact .inr (List.mem_append_right _ h1)
theorem from_le {ws : List (Int × Int)} {lot : List (Option Int)} : ∀ (l : List Nat) (h h' y : Int), (h' ≤ h ∨ ∃ j r, l = j :: r ∧ h' ≤ fstAt ws j) → y ∈ fromF ws lot h' l → ∃ x ∈ latesN ws (stepsF ws lot h l), y ≤ x
  | [], _, _, _, _, hy => by cases hy
  | j :: r, h, h', y, hh, hy => by
    have m : h' + lenAt lot j ≤ (if (winAt ws j).1 > h then (winAt ws j).1 else h) + lenAt lot j := by
      have hh' : h' ≤ h ∨ h' ≤ (winAt ws j).1 := by
        rcases hh with a | ⟨i, s, e, a⟩
        · exact .inl a
        · cases e
          exact .inr a
      split <;> omega
    rcases List.mem_cons.mp hy with e | hy
    · refine ⟨_, List.mem_cons_self .., ?_⟩
      rw [e]
      exact Int.sub_le_sub_right m _
    · obtain ⟨x, hx, e⟩ := from_le r _ _ y (.inl m) hy
      exact ⟨x, List.mem_cons_of_mem _ hx, e⟩
theorem str_le {ws : List (Int × Int)} {lot : List (Option Int)} : ∀ (l : List Nat) (h y : Int), y ∈ strsF ws lot l → ∃ x ∈ latesN ws (stepsF ws lot h l), y ≤ x
  | [], _, _, hy => by cases hy
  | j :: r, h, y, hy => by
    rcases List.mem_append.mp hy with hy | hy
    · exact from_le (j :: r) h _ y (.inr ⟨j, r, rfl, Int.le_refl _⟩) hy
    · obtain ⟨x, hx, e⟩ := str_le r _ y hy
      exact ⟨x, List.mem_cons_of_mem _ hx, e⟩
theorem from_mono {ws : List (Int × Int)} {lot : List (Option Int)} : ∀ (l : List Nat) (h h' x : Int), h ≤ h' → x ∈ fromF ws lot h l → ∃ y ∈ fromF ws lot h' l, x ≤ y
  | [], _, _, _, _, hx => by cases hx
  | j :: r, h, h', x, hh, hx => by
    rcases List.mem_cons.mp hx with e | hx
    · exact ⟨_, List.mem_cons_self .., by rw [e]; omega⟩
    · obtain ⟨y, hy, e⟩ := from_mono r _ (h' + lenAt lot j) x (by omega) hx
      exact ⟨y, List.mem_cons_of_mem _ hy, e⟩
/-- lateness is the greatest of the stretches -/
theorem due_strs {ws : List (Int × Int)} {row : List Nat} {lot : List (Option Int)} (h0 : ∀ j ∈ row, 0 ≤ fstAt ws j) : dueN ws row lot = maxL (strsF ws lot (comingN row lot)) := by
  cases hd : dueN ws row lot with
  | none =>
    rw [due_none.mp hd]
    rfl
  | some M =>
    obtain ⟨m1, m2⟩ := maxL_some hd
    have up : ∀ y ∈ strsF ws lot (comingN row lot), y ≤ M := fun y hy => by
      obtain ⟨x, hx, e⟩ := str_le (comingN row lot) 0 y hy
      exact Int.le_trans e (m2 x hx)
    refine (maxL_of ?_ up).symm
    rcases lates_str _ _ _ m1 with h1 | h1
    · -- a stretch from hour 0 is no later than the same from its own first hour
      cases hc : comingN row lot with
      | nil =>
        rw [hc] at h1
        cases h1
      | cons j r =>
        rw [hc] at h1 up
        have hj : j ∈ row := (comingN_mem (row := row) (lot := lot) (by rw [hc]; exact List.mem_cons_self ..)).1
        obtain ⟨y, hy, e⟩ := from_mono (j :: r) 0 (fstAt ws j) M (h0 j hj) h1
        have hy' : y ∈ strsF ws lot (j :: r) := List.mem_append_left _ hy
        have := up y hy'
        have ey : y = M := by omega
        rw [ey] at hy'
        exact hy'
    · exact h1
def loadN (lot : List (Option Int)) (l : List Nat) : Int := (l.map (lenAt lot)).sum
theorem fromF_get {ws : List (Int × Int)} {lot : List (Option Int)} : ∀ (l : List Nat) (h : Int) (t : Nat) (ht : t < l.length), (fromF ws lot h l)[t]? = some (h + loadN lot (l.take (t + 1)) - lstAt ws l[t])
  | j :: r, h, 0, _ => by
    show some _ = some _
    simp [loadN]
  | j :: r, h, t + 1, ht => by
    have ht' : t < r.length := by simpa using ht
    show (fromF ws lot (h + lenAt lot j) r)[t]? = _
    rw [fromF_get r _ t ht']
    simp only [List.take_succ_cons, List.getElem_cons_succ, loadN, List.map_cons, List.sum_cons]
    congr 1
    omega
theorem fromF_len {ws : List (Int × Int)} {lot : List (Option Int)} : ∀ (l : List Nat) (h : Int), (fromF ws lot h l).length = l.length
  | [], _ => rfl
  | j :: r, h => by
    show (fromF ws lot _ r).length + 1 = r.length + 1
    rw [fromF_len r]
/-- the stretches whose heads are the first i works -/
def strsTo (ws : List (Int × Int)) (lot : List (Option Int)) (row : List Nat) : Nat → List Int
  | 0 => []
  | i + 1 => strsTo ws lot row i ++ fromF ws lot (fstAt ws (row.getD i 0)) (row.drop i)
theorem strsTo_cons {ws : List (Int × Int)} {lot : List (Option Int)} (j : Nat) (r : List Nat) : ∀ i : Nat, strsTo ws lot (j :: r) (i + 1) = fromF ws lot (fstAt ws j) (j :: r) ++ strsTo ws lot r i
  | 0 => by simp [strsTo]
  | i + 1 => by
    show strsTo ws lot (j :: r) (i + 1) ++ fromF ws lot (fstAt ws (r.getD i 0)) (r.drop i) = fromF ws lot (fstAt ws j) (j :: r) ++ (strsTo ws lot r i ++ fromF ws lot (fstAt ws (r.getD i 0)) (r.drop i))
    rw [strsTo_cons j r i, List.append_assoc]
theorem strsTo_all {ws : List (Int × Int)} {lot : List (Option Int)} : ∀ row : List Nat, strsTo ws lot row row.length = strsF ws lot row
  | [] => rfl
  | j :: r => by
    show strsTo ws lot (j :: r) (r.length + 1) = _
    rw [strsTo_cons, strsTo_all r] <;> rfl
/-! ### broken stretches -/
def brkFrom (ws : List (Int × Int)) (lot : List (Option Int)) (one : Nat) : Int → List Nat → List (Int × Int)
  | _, [] => []
  | h, j :: r => (if h + lenAt lot j > lstAt ws j then [((one : Int), (j : Int))] else []) ++ brkFrom ws lot one (h + lenAt lot j) r
def brkF (ws : List (Int × Int)) (lot : List (Option Int)) : List Nat → List (Int × Int)
  | [] => []
  | j :: r => brkFrom ws lot j (fstAt ws j) (j :: r) ++ brkF ws lot r
theorem brkFrom_len {ws : List (Int × Int)} {lot : List (Option Int)} {one : Nat} : ∀ (l : List Nat) (h : Int), (brkFrom ws lot one h l).length ≤ l.length
  | [], _ => Nat.le_refl _
  | j :: r, h => by
    have := brkFrom_len (ws := ws) (lot := lot) (one := one) r (h + lenAt lot j)
    show ((if h + lenAt lot j > lstAt ws j then [((one : Int), (j : Int))] else []) ++ brkFrom ws lot one (h + lenAt lot j) r).length ≤ r.length + 1
    rw [List.length_append]
    split <;> simp <;> omega
theorem brkF_len {ws : List (Int × Int)} {lot : List (Option Int)} {m : Nat} : ∀ l : List Nat, l.length ≤ m → (brkF ws lot l).length ≤ l.length * m
  | [], _ => Nat.zero_le _
  | j :: r, h => by
    have h1 := brkFrom_len (ws := ws) (lot := lot) (one := j) (j :: r) (fstAt ws j)
    have h' : r.length + 1 ≤ m := by simpa using h
    have h2 := brkF_len (ws := ws) (lot := lot) (m := m) r (by omega)
    show (brkFrom ws lot j (fstAt ws j) (j :: r) ++ brkF ws lot r).length ≤ (r.length + 1) * m
    rw [List.length_append, Nat.succ_mul]
    simp only [List.length_cons] at h1
    omega
/-- refs to pairs: just these pairs -/
structure BrkAt (H : Hp) (ys : List V) (bs : List (Int × Int)) : Prop where
  all : ∀ y ∈ ys, ∃ a q, y = V.ref a ∧ H a = some (.tup [.int q.1, .int q.2]) ∧ q ∈ bs
  has : ∀ q ∈ bs, ∃ a, V.ref a ∈ ys ∧ H a = some (.tup [.int q.1, .int q.2])
theorem BrkAt.mono {H H' : Hp} {ys : List V} {bs : List (Int × Int)} (h : BrkAt H ys bs) (e : Ex H H') : BrkAt H' ys bs := by
  refine ⟨fun y hy => ?_, fun q hq => ?_⟩
  · obtain ⟨a, q, h1, h2, h3⟩ := h.all y hy
    exact ⟨a, q, h1, e _ _ h2, h3⟩
  · obtain ⟨a, h1, h2⟩ := h.has q hq
    exact ⟨a, h1, e _ _ h2⟩
theorem Grows.brk {K : PySem.W.Frag} {H : Hp} {as : List Addr} {ps : List (Int × Int)} {ys : List V} (h2 : as.length = ps.length) (h3 : ∀ (i : Nat) (a : Addr) (q : Int × Int), as[i]? = some a → ps[i]? = some q → H a = some (.tup [.int q.1, .int q.2])) (hp : ys.Perm (as.map V.ref)) : BrkAt H ys ps := by
  refine ⟨fun y hy => ?_, fun q hq => ?_⟩
  · obtain ⟨a, ha, rfl⟩ := List.mem_map.mp (hp.mem_iff.mp hy)
    obtain ⟨i, hi, e⟩ := List.mem_iff_getElem.mp ha
    have hi' : i < ps.length := by omega
    exact ⟨a, ps[i], rfl, h3 i a _ (by rw [List.getElem?_eq_getElem hi, e]) (List.getElem?_eq_getElem hi'), List.getElem_mem hi'⟩
  · obtain ⟨i, hi, e⟩ := List.mem_iff_getElem.mp hq
    have hi' : i < as.length := by omega
    exact ⟨as[i], hp.mem_iff.mpr (List.mem_map_of_mem (List.getElem_mem hi')), h3 i _ q (List.getElem?_eq_getElem hi') (by rw [List.getElem?_eq_getElem hi, e])⟩
theorem Grows.ext {K : PySem.W.Frag} {H H' : Hp} {f : Addr} {ps : List (Int × Int)} (h : Grows K H f ps) (e : Ex H H') : Grows K H' f ps := by
  obtain ⟨as, h1, h2, h3⟩ := h.ex
  exact ⟨⟨as, e _ _ h1, h2, fun i a q x y => e _ _ (h3 i a q x y)⟩⟩
theorem cut_drop (l : List Nat) (i : Nat) : cutV (l.map vNat) (some (i : Int)) none = (l.drop i).map vNat := by
  unfold cutV
  rw [HT.sIx_none, HT.sIx_nat, List.length_map, List.map_drop]
  by_cases h : i ≤ l.length
  · rw [Nat.min_eq_left h, List.take_of_length_le (by rw [List.length_drop, List.length_map] <;> omega)]
  · rw [Nat.min_eq_right (by omega), Nat.sub_self, List.take_zero, List.drop_of_length_le (by rw [List.length_map]; omega)]
theorem cutL_read {K : PySem.W.Frag} {σ : L2.St} {H : Hp} {a : Addr} {xs : List V} {lo : Option Int} {Q : VK} (ha : SqL K H a xs) (k : ∀ r, H r = none → Q (.ref r) (L2.upd H r (.lst (cutV xs lo none)))) : tNoPart σ H fun u H3 => rSlL K (.ref a) lo u H3 Q := ⟨a, xs, rfl, ha, k⟩
theorem free_ex {H H' : Hp} {a : Addr} (e : Ex H H') (n : H' a = none) : H a = none := by
  cases h : H a with
  | none => rfl
  | some o =>
    rw [e _ _ h] at n
    cases n
abbrev sp_broken (K : PySem.W.Frag) (A : Ad) : Sp := fun vs H Q E => Sp3 vs fun x y z => RunOn K A H x y z fun ws row lot => Right ws row lot ∧ ∀ (l : Addr) (ys : List V) (H' : Hp), H l = none → Ex H H' → H' l = some (.lst ys) → ys.length ≤ 1000000 → BrkAt H' ys (brkF ws lot (comingN row lot)) → Q (.ref l) H'
/-! ### a late work has a stretch -/
theorem brk_str {ws : List (Int × Int)} {lot : List (Option Int)} {one : Nat} : ∀ (l : List Nat) (h : Int), brkFrom ws lot one h l = [] ↔ ∀ y ∈ fromF ws lot h l, y ≤ 0
  | [], _ => ⟨fun _ y hy => (by cases hy), fun _ => rfl⟩
  | j :: r, h => by
    have ih := brk_str (ws := ws) (lot := lot) (one := one) r (h + lenAt lot j)
    show (if h + lenAt lot j > lstAt ws j then [((one : Int), (j : Int))] else []) ++ brkFrom ws lot one (h + lenAt lot j) r = [] ↔ ∀ y ∈ (h + lenAt lot j - lstAt ws j) :: fromF ws lot (h + lenAt lot j) r, y ≤ 0
    rw [List.append_eq_nil_iff, ih, List.forall_mem_cons]
    by_cases c : h + lenAt lot j > lstAt ws j
    · rw [if_pos c]
      exact ⟨fun z => (by cases z.1), fun z => absurd z.1 (by omega)⟩
    · rw [if_neg c]
      exact ⟨fun z => ⟨by omega, z.2⟩, fun z => ⟨rfl, z.2⟩⟩
theorem brkF_str {ws : List (Int × Int)} {lot : List (Option Int)} : ∀ l : List Nat, brkF ws lot l = [] ↔ ∀ y ∈ strsF ws lot l, y ≤ 0
  | [] => ⟨fun _ y hy => (by cases hy), fun _ => rfl⟩
  | j :: r => by
    have ih := brkF_str (ws := ws) (lot := lot) r
    show brkFrom ws lot j (fstAt ws j) (j :: r) ++ brkF ws lot r = [] ↔ ∀ y ∈ fromF ws lot (fstAt ws j) (j :: r) ++ strsF ws lot r, y ≤ 0
    rw [List.append_eq_nil_iff, ih, brk_str, List.forall_mem_append]
theorem serves_brk {ws : List (Int × Int)} {row : List Nat} {lot : List (Option Int)} (h0 : ∀ j ∈ row, 0 ≤ fstAt ws j) : servesB ws (stepsN ws row lot) = decide (brkF ws lot (comingN row lot) = []) := by
  rw [serves_due, due_strs h0]
  cases hm : maxL (strsF ws lot (comingN row lot)) with
  | none =>
    have e := maxL_none.mp hm
    refine (decide_eq_true ((brkF_str _).mpr fun y hy => ?_)).symm
    rw [e] at hy
    cases hy
  | some m =>
    obtain ⟨m1, m2⟩ := maxL_some hm
    show decide (m ≤ 0) = _
    apply decide_eq_decide.mpr
    rw [brkF_str]
    exact ⟨fun h y hy => Int.le_trans (m2 y hy) h, fun h => h m m1⟩
theorem brk_mono {ws : List (Int × Int)} {lot : List (Option Int)} {one : Nat} : ∀ (l : List Nat) (h h' : Int) (x : Int × Int), h ≤ h' → x ∈ brkFrom ws lot one h l → x ∈ brkFrom ws lot one h' l
  | [], _, _, _, _, hx => by cases hx
  | j :: r, h, h', x, hh, hx => by
    rcases List.mem_append.mp hx with hx | hx
    · refine List.mem_append_left _ ?_
      by_cases c : h + lenAt lot j > lstAt ws j
      · rw [if_pos c] at hx
        rw [if_pos (by omega)]
        exact hx
      · rw [if_neg c] at hx
        cases hx
    · exact List.mem_append_right _ (brk_mono r _ _ x (by omega) hx)
theorem late_has {ws : List (Int × Int)} {lot : List (Option Int)} : ∀ (l : List Nat) (h : Int) (q : Int × Int × Int), q ∈ stepsF ws lot h l → q.2.2 > (winAt ws q.1.toNat).2 →
    (∀ one : Nat, ((one : Int), q.1) ∈ brkFrom ws lot one h l) ∨ ∃ q' ∈ stepsF ws lot h l, q'.2.1 = (winAt ws q'.1.toNat).1 ∧ (q'.1, q.1) ∈ brkF ws lot l
  | [], _, _, hq, _ => by cases hq
  | j :: r, h, q, hq, hl => by
    have ih := late_has (ws := ws) (lot := lot) r ((if (winAt ws j).1 > h then (winAt ws j).1 else h) + lenAt lot j) q
    rcases List.mem_cons.mp hq with e | hq
    · subst e
      have hl' : (if (winAt ws j).1 > h then (winAt ws j).1 else h) + lenAt lot j > lstAt ws j := hl
      by_cases c : (winAt ws j).1 > h
      · rw [if_pos c] at hl'
        refine .inr ⟨_, List.mem_cons_self .., ?_, ?_⟩
        · show (if (winAt ws j).1 > h then (winAt ws j).1 else h) = (winAt ws j).1
          rw [if_pos c]
        · refine List.mem_append_left _ (List.mem_append_left _ ?_)
          rw [if_pos (show fstAt ws j + lenAt lot j > lstAt ws j from hl')]
          exact List.mem_singleton.mpr rfl
      · rw [if_neg c] at hl'
        refine .inl fun one => List.mem_append_left _ ?_
        rw [if_pos hl']
        exact List.mem_singleton.mpr rfl
    · rcases ih hq hl with h1 | ⟨q', h1, h2, h3⟩
      · by_cases c : (winAt ws j).1 > h
        · rw [if_pos c] at h1
          refine .inr ⟨_, List.mem_cons_self .., ?_, List.mem_append_left _ (List.mem_append_right _ (h1 j))⟩
          show (if (winAt ws j).1 > h then (winAt ws j).1 else h) = (winAt ws j).1
          rw [if_pos c]
        · rw [if_neg c] at h1
          exact .inl fun one => List.mem_append_right _ (h1 one)
      · exact .inr ⟨q', List.mem_cons_of_mem _ h1, h2, List.mem_append_right _ h3⟩
theorem late_stretch {ws : List (Int × Int)} {row : List Nat} {lot : List (Option Int)} (h0 : ∀ j ∈ row, 0 ≤ fstAt ws j) {q : Int × Int × Int} (hq : q ∈ stepsN ws row lot) (hl : q.2.2 > (winAt ws q.1.toNat).2) :
    ∃ q' ∈ stepsN ws row lot, q'.2.1 = (winAt ws q'.1.toNat).1 ∧ (q'.1, q.1) ∈ brkF ws lot (comingN row lot) := by
  rcases late_has _ _ _ hq hl with h1 | h1
  · unfold stepsN at hq ⊢
    cases hc : comingN row lot with
    | nil =>
      rw [hc] at hq
      cases hq
    | cons j r =>
      rw [hc] at h1
      have hj := h0 j (comingN_mem (row := row) (lot := lot) (by rw [hc]; exact List.mem_cons_self ..)).1
      refine ⟨_, List.mem_cons_self .., ?_, List.mem_append_left _ (brk_mono _ _ _ _ hj (h1 j))⟩
      show (if (winAt ws j).1 > 0 then (winAt ws j).1 else 0) = (winAt ws j).1
      have hj' : 0 ≤ (winAt ws j).1 := hj
      split <;> omega
  · exact h1
/-! ### a list of pairs against [] -/
def dPair (q : Int × Int) : PyData := .tuple [.int q.1, .int q.2]
theorem BrkAt.data {K : PySem.W.Frag} {H : Hp} {bs : List (Int × Int)} : ∀ {ys : List V}, BrkAt H ys bs → ∃ qs : List (Int × Int), DpAll K H ys (qs.map dPair) ∧ qs.length = ys.length
  | [], _ => ⟨[], .nil, rfl⟩
  | y :: r, h => by
    obtain ⟨a, q, rfl, h2, h3⟩ := h.all y (List.mem_cons_self ..)
    have go : ∀ r : List V, (∀ y ∈ r, ∃ a q, y = V.ref a ∧ H a = some (.tup [.int q.1, .int q.2]) ∧ q ∈ bs) → ∃ qs : List (Int × Int), DpAll K H r (qs.map dPair) ∧ qs.length = r.length := by
      intro r
      induction r with
      | nil => exact fun _ => ⟨[], .nil, rfl⟩
      | cons y s ih =>
        intro g
        obtain ⟨a, q, rfl, h2, _⟩ := g y (List.mem_cons_self ..)
        obtain ⟨qs, d, e⟩ := ih fun z hz => g z (List.mem_cons_of_mem _ hz)
        exact ⟨q :: qs, .cons (.tup (SqT.of h2) (.cons (.int _) (.cons (.int _) .nil))) d, congrArg (· + 1) e⟩
    exact go _ h.all
theorem lay_pairs : ∀ ts : List (Int × Int), PyData.canLayAll0 (ts.map dPair) = true
  | [] => by simp only [List.map_nil, PyData.canLayAll0]
  | q :: r => by
    simp only [List.map_cons, PyData.canLayAll0, dPair, PyData.canLay0, lay_pairs r]
    rfl
theorem deep_pairs : ∀ ts : List (Int × Int), PyData.depthAll (ts.map dPair) ≤ 1
  | [] => by simp only [List.map_nil, PyData.depthAll]; omega
  | q :: r => by
    have := deep_pairs r
    simp only [List.map_cons, PyData.depthAll, dPair, PyData.depth]
    omega
theorem shaped_pairs (ts : List (Int × Int)) : SeqAt.shaped (.list (ts.map dPair)) = true := by
  have h := deep_pairs ts
  unfold SeqAt.shaped
  have e1 : PyData.canLay0 (.list (ts.map dPair)) = true := by simp only [PyData.canLay0, lay_pairs]
  rw [e1, Bool.true_and]
  apply decide_eq_true
  simp only [PyData.depth]
  omega
theorem cut_mid (l : List Nat) (i t : Nat) (h : i + t < l.length) : cutV (l.map vNat) (some (i : Int)) (some ((i : Int) + (t : Int) + 1)) = ((l.drop i).take (t + 1)).map vNat := by
  have e : (i : Int) + (t : Int) + 1 = ((i + t + 1 : Nat) : Int) := by omega
  unfold cutV
  rw [e, HT.sIx_nat, HT.sIx_nat, List.length_map, Nat.min_eq_left (by omega), Nat.min_eq_left (by omega), show i + t + 1 - i = t + 1 by omega, List.map_take, List.map_drop]
theorem eqv_nil : ∀ qs : List (Int × Int), PyData.eqv (.list (qs.map dPair)) (.list []) = decide (qs = [])
  | [] => by simp [PyData.eqv, PyData.eqvAll]
  | q :: r => by simp [PyData.eqv, PyData.eqvAll]
theorem BrkAt.nil_iff {H : Hp} {ys : List V} {bs : List (Int × Int)} (h : BrkAt H ys bs) : ys = [] ↔ bs = [] := by
  constructor
  · intro e
    cases hb : bs with
    | nil => rfl
    | cons q r =>
      obtain ⟨a, h1, _⟩ := h.has q (by rw [hb]; exact List.mem_cons_self ..)
      rw [e] at h1
      cases h1
  · intro e
    cases hy : ys with
    | nil => rfl
    | cons y r =>
      obtain ⟨_, _, _, _, h3⟩ := h.all y (by rw [hy]; exact List.mem_cons_self ..)
      rw [e] at h3
      cases h3
theorem strsTo_len {ws : List (Int × Int)} {lot : List (Option Int)} {row : List Nat} : ∀ i : Nat, (strsTo ws lot row i).length ≤ i * row.length
  | 0 => Nat.zero_le _
  | i + 1 => by
    have := strsTo_len (ws := ws) (lot := lot) (row := row) i
    show (strsTo ws lot row i ++ fromF ws lot (fstAt ws (row.getD i 0)) (row.drop i)).length ≤ (i + 1) * row.length
    rw [List.length_append, fromF_len, List.length_drop, Nat.succ_mul]
    omega
/-! ### turned about -/
theorem from_iff {ws : List (Int × Int)} {lot : List (Option Int)} {x : Int} : ∀ (l : List Nat) (h : Int), x ∈ fromF ws lot h l ↔ ∃ m q b, l = m ++ q ∧ m.getLast? = some b ∧ x = h + loadN lot m - lstAt ws b
  | [], h => by
    refine ⟨fun hx => (by cases hx), fun ⟨m, q, b, e, hb, _⟩ => ?_⟩
    rw [(List.append_eq_nil_iff.mp e.symm).1] at hb
    cases hb
  | j :: r, h => by
    have ih := from_iff (ws := ws) (lot := lot) (x := x) r (h + lenAt lot j)
    constructor
    · intro hx
      rcases List.mem_cons.mp hx with e | hx
      · exact ⟨[j], r, j, rfl, rfl, by rw [e]; simp [loadN]⟩
      · obtain ⟨m, q, b, e, hb, hx⟩ := ih.mp hx
        refine ⟨j :: m, q, b, by rw [e] <;> rfl, by rw [List.getLast?_cons, hb] <;> rfl, ?_⟩
        rw [hx]
        simp only [loadN, List.map_cons, List.sum_cons]
        omega
    · rintro ⟨m, q, b, e, hb, hx⟩
      cases m with
      | nil => cases hb
      | cons i m =>
        obtain ⟨rfl, rfl⟩ := List.cons.inj e
        rw [List.getLast?_cons] at hb
        cases hm : m.getLast? with
        | none =>
          rw [hm] at hb
          cases hb
          rw [List.getLast?_eq_none_iff.mp hm] at hx
          refine List.mem_cons.mpr (.inl ?_)
          rw [hx]
          simp [loadN]
        | some b' =>
          rw [hm] at hb
          cases hb
          refine List.mem_cons_of_mem _ (ih.mpr ⟨m, q, _, rfl, hm, ?_⟩)
          rw [hx]
          simp only [loadN, List.map_cons, List.sum_cons, Option.getD_some]
          omega
theorem strs_iff {ws : List (Int × Int)} {lot : List (Option Int)} {x : Int} : ∀ l : List Nat, x ∈ strsF ws lot l ↔ ∃ p m q a b, l = p ++ (m ++ q) ∧ m.head? = some a ∧ m.getLast? = some b ∧ x = fstAt ws a + loadN lot m - lstAt ws b
  | [] => by
    refine ⟨fun hx => (by cases hx), fun ⟨p, m, q, a, b, e, ha, _⟩ => ?_⟩
    rw [(List.append_eq_nil_iff.mp (List.append_eq_nil_iff.mp e.symm).2).1] at ha
    cases ha
  | j :: r => by
    have ih := strs_iff (ws := ws) (lot := lot) (x := x) r
    constructor
    · intro hx
      rcases List.mem_append.mp hx with hx | hx
      · obtain ⟨m, q, b, e, hb, hy⟩ := (from_iff _ _).mp hx
        cases m with
        | nil => cases hb
        | cons i m =>
          obtain ⟨rfl, rfl⟩ := List.cons.inj e
          exact ⟨[], j :: m, q, j, b, rfl, rfl, hb, hy⟩
      · obtain ⟨p, m, q, a, b, e, ha, hb, hx⟩ := ih.mp hx
        exact ⟨j :: p, m, q, a, b, by rw [e] <;> rfl, ha, hb, hx⟩
    · rintro ⟨p, m, q, a, b, e, ha, hb, hx⟩
      cases p with
      | nil =>
        refine List.mem_append_left _ ((from_iff _ _).mpr ⟨m, q, b, e, hb, ?_⟩)
        cases m with
        | nil => cases hb
        | cons i m =>
          obtain ⟨rfl, rfl⟩ := List.cons.inj e
          cases ha
          exact hx
      | cons i p =>
        obtain ⟨rfl, rfl⟩ := List.cons.inj e
        exact List.mem_append_right _ (ih.mpr ⟨p, m, q, a, b, rfl, ha, hb, hx⟩)
theorem maxL_same {l m : List Int} (h : ∀ x, x ∈ l ↔ x ∈ m) : maxL l = maxL m := by
  cases e : maxL m with
  | none =>
    rw [maxL_none] at e ⊢
    refine List.eq_nil_iff_forall_not_mem.mpr fun x hx => ?_
    rw [h, e] at hx
    cases hx
  | some k =>
    obtain ⟨h1, h2⟩ := maxL_some e
    exact maxL_of ((h k).mpr h1) fun x hx => h2 x ((h x).mp hx)
theorem loadN_rev (lot : List (Option Int)) (m : List Nat) : loadN lot m.reverse = loadN lot m := by
  unfold loadN
  rw [List.map_reverse, List.sum_reverse]
theorem coming_rev (row : List Nat) (lot : List (Option Int)) : comingN row.reverse lot = (comingN row lot).reverse := List.filter_reverse ..
theorem due_turn {ws ws' : List (Int × Int)} {row : List Nat} {lot : List (Option Int)} {u : Int} (h0 : ∀ j ∈ row, 0 ≤ fstAt ws j) (h1 : ∀ j ∈ row, lstAt ws j ≤ u) (hf : ∀ j ∈ row, fstAt ws' j = u - lstAt ws j) (hl : ∀ j ∈ row, lstAt ws' j = u - fstAt ws j) :
    dueN ws' row.reverse lot = dueN ws row lot := by
  rw [due_strs h0, due_strs (fun j hj => by
    have hj := List.mem_reverse.mp hj
    rw [hf j hj]
    have := h1 j hj
    omega), coming_rev]
  have sub : ∀ j ∈ comingN row lot, j ∈ row := fun j hj => (comingN_mem hj).1
  refine maxL_same fun x => ?_
  rw [strs_iff, strs_iff]
  constructor
  · rintro ⟨p, m, q, a, b, e, ha, hb, hx⟩
    have e' : comingN row lot = q.reverse ++ (m.reverse ++ p.reverse) := by
      rw [← List.reverse_reverse (comingN row lot), e]
      simp
    have am : a ∈ m := List.mem_of_head? ha
    have bm : b ∈ m := List.mem_of_getLast? hb
    have ar : a ∈ row := sub a (by rw [e']; simp [am])
    have br : b ∈ row := sub b (by rw [e']; simp [bm])
    refine ⟨q.reverse, m.reverse, p.reverse, b, a, e', by rw [List.head?_reverse]; exact hb, by rw [List.getLast?_reverse]; exact ha, ?_⟩
    rw [hx, loadN_rev, hf a ar, hl b br]
    omega
  · rintro ⟨p, m, q, a, b, e, ha, hb, hx⟩
    have am : a ∈ m := List.mem_of_head? ha
    have bm : b ∈ m := List.mem_of_getLast? hb
    have ar : a ∈ row := sub a (by rw [e]; simp [am])
    have br : b ∈ row := sub b (by rw [e]; simp [bm])
    refine ⟨q.reverse, m.reverse, p.reverse, b, a, by rw [e]; simp, by rw [List.head?_reverse]; exact hb, by rw [List.getLast?_reverse]; exact ha, ?_⟩
    rw [hx, loadN_rev, hf b br, hl a ar]
    omega
/-! ### mirrored, shifted -/
def mirW (u : Int) (ws : List (Int × Int)) : List (Int × Int) := ws.map fun q => (u - q.2, u - q.1)
def shW (k : Int) (ws : List (Int × Int)) : List (Int × Int) := ws.map fun q => (q.1 + k, q.2 + k)
structure MaxW (u : Int) (ws : List (Int × Int)) : Prop where
  mem : ∃ q ∈ ws, q.2 = u
  le : ∀ q ∈ ws, q.2 ≤ u
structure MinW (u : Int) (ws : List (Int × Int)) : Prop where
  mem : ∃ q ∈ ws, q.1 = u
  le : ∀ q ∈ ws, u ≤ q.1
theorem MaxW.eq {u v : Int} {ws : List (Int × Int)} (a : MaxW u ws) (b : MaxW v ws) : u = v := by
  obtain ⟨q, h1, h2⟩ := a.mem
  obtain ⟨r, h3, h4⟩ := b.mem
  have := a.le r h3
  have := b.le q h1
  omega
theorem MinW.eq {u v : Int} {ws : List (Int × Int)} (a : MinW u ws) (b : MinW v ws) : u = v := by
  obtain ⟨q, h1, h2⟩ := a.mem
  obtain ⟨r, h3, h4⟩ := b.mem
  have := a.le r h3
  have := b.le q h1
  omega
theorem max_mir {u low : Int} {ws : List (Int × Int)} (b : MinW low ws) : MaxW (u - low) (mirW u ws) := by
  obtain ⟨q, h1, h2⟩ := b.mem
  refine ⟨⟨_, List.mem_map_of_mem h1, by rw [h2]⟩, fun r hr => ?_⟩
  obtain ⟨p, hp, rfl⟩ := List.mem_map.mp hr
  have := b.le p hp
  show u - p.1 ≤ u - low
  omega
theorem max_sh {u k : Int} {ws : List (Int × Int)} (b : MaxW u ws) : MaxW (u + k) (shW k ws) := by
  obtain ⟨q, h1, h2⟩ := b.mem
  refine ⟨⟨_, List.mem_map_of_mem h1, by rw [h2]⟩, fun r hr => ?_⟩
  obtain ⟨p, hp, rfl⟩ := List.mem_map.mp hr
  have := b.le p hp
  show p.2 + k ≤ u + k
  omega
theorem mir_mir (u v : Int) (ws : List (Int × Int)) : mirW v (mirW u ws) = shW (v - u) ws := by
  unfold mirW shW
  rw [List.map_map]
  refine List.map_congr_left fun q _ => ?_
  refine Prod.ext ?_ ?_
  · show v - (u - q.1) = q.1 + (v - u)
    omega
  · show v - (u - q.2) = q.2 + (v - u)
    omega
theorem mir_sh (v k : Int) (ws : List (Int × Int)) : mirW v (shW k ws) = mirW (v - k) ws := by
  unfold mirW shW
  rw [List.map_map]
  refine List.map_congr_left fun q _ => ?_
  refine Prod.ext ?_ ?_
  · show v - (q.2 + k) = v - k - q.2
    omega
  · show v - (q.1 + k) = v - k - q.1
    omega
theorem winAt_map {f : Int × Int → Int × Int} {ws : List (Int × Int)} {j : Nat} (h : j < ws.length) : winAt (ws.map f) j = f (winAt ws j) := by
  unfold winAt
  rw [List.getD_eq_getElem?_getD, List.getD_eq_getElem?_getD, List.getElem?_map, List.getElem?_eq_getElem h] <;> rfl
theorem winAt_mem {ws : List (Int × Int)} {j : Nat} (h : j < ws.length) : winAt ws j ∈ ws := by
  unfold winAt
  rw [List.getD_eq_getElem?_getD, List.getElem?_eq_getElem h]
  exact List.getElem_mem h
/-! ### lists of pairs laid one by one -/
/-- refs to pairs -/
def PairsAt (K : PySem.W.Frag) (H : Hp) (as : List Addr) (ps : List (Int × Int)) : Prop := as.length = ps.length ∧ ∀ (i : Nat) (a : Addr) (q : Int × Int), as[i]? = some a → ps[i]? = some q → SqT K H a [.int q.1, .int q.2]
theorem PairsAt.mono {K : PySem.W.Frag} {H H' : Hp} {as : List Addr} {ps : List (Int × Int)} (h : PairsAt K H as ps) (e : Ex H H') : PairsAt K H' as ps := ⟨h.1, fun i a q x y => ex_t e (h.2 i a q x y)⟩
theorem PairsAt.nil {K : PySem.W.Frag} {H : Hp} : PairsAt K H [] [] := ⟨rfl, fun i a q x => by simp at x⟩
theorem PairsAt.add {K : PySem.W.Frag} {H : Hp} {as : List Addr} {ps : List (Int × Int)} {r : Addr} {q : Int × Int} (h : PairsAt K H as ps) (hr : SqT K H r [.int q.1, .int q.2]) : PairsAt K H (as ++ [r]) (ps ++ [q]) := by
  obtain ⟨h2, h3⟩ := h
  refine ⟨by rw [List.length_append, List.length_append, h2] <;> rfl, fun i a q' x y => ?_⟩
  by_cases hi : i < as.length
  · rw [List.getElem?_append_left hi] at x
    rw [List.getElem?_append_left (by omega)] at y
    exact h3 i a q' x y
  · rw [List.getElem?_append_right (by omega)] at x
    rw [List.getElem?_append_right (by omega)] at y
    have e0 : i - as.length = 0 := by
      have := (List.getElem?_eq_some_iff.mp x).1
      simp at this
      omega
    rw [e0] at x
    rw [← h2, e0] at y
    cases (Option.some.inj x)
    cases (Option.some.inj y)
    exact hr
theorem WinAt.of {K : PySem.W.Frag} {H : Hp} {w : Addr} {as : List Addr} {ps : List (Int × Int)} (h : SqT K H w (as.map V.ref)) (p : PairsAt K H as ps) (hl : ps.length ≤ 1000) : WinAt K H w ps := ⟨hl, as, h, p.1, p.2⟩
theorem sqt_upd {K : PySem.W.Frag} {H : Hp} {D : Addr} {ys zs : List V} {a : Addr} {xs : List V} (hD : H D = some (.lst ys)) (h : SqT K H a xs) : SqT K (L2.upd H D (.lst zs)) a xs := by
  have ne : ∀ {o : HO}, H a = some o → (∀ us, o ≠ .lst us) → a ≠ D := fun {o} e n z => by
    rw [z, hD] at e
    exact n _ (Option.some.inj e).symm
  rcases h with (h | ⟨o, h⟩) | h
  · exact .inl (.inl (by rw [upd_ne (ne h (fun us z => by cases z))]; exact h))
  · exact .inl (.inr ⟨o, by rw [upd_ne (ne h (fun us z => by cases z))]; exact h⟩)
  · exact .inr h
theorem PairsAt.upd {K : PySem.W.Frag} {H : Hp} {D : Addr} {ys zs : List V} {as : List Addr} {ps : List (Int × Int)} (h : PairsAt K H as ps) (hD : H D = some (.lst ys)) : PairsAt K (L2.upd H D (.lst zs)) as ps := ⟨h.1, fun i a q x y => sqt_upd hD (h.2 i a q x y)⟩
theorem dp_wins {K : PySem.W.Frag} {H : Hp} {w : Addr} {ws : List (Int × Int)} (h : WinAt K H w ws) : Dp K H (.ref w) (.tuple (ws.map dPair)) := by
  obtain ⟨_, as, h1, h2, h3⟩ := h
  refine .tup h1 ?_
  clear h1
  induction ws generalizing as with
  | nil =>
    cases as with
    | nil => exact .nil
    | cons _ _ => simp at h2
  | cons q r ih =>
    cases as with
    | nil => simp at h2
    | cons a s =>
      refine .cons (.tup (h3 0 a q rfl rfl) (.cons (.int _) (.cons (.int _) .nil))) (ih ?_ s (by simpa using h2) fun i a q x y => h3 (i + 1) a q x y)
      have : (q :: r).length ≤ 1000 := by assumption
      simp at this
      omega
theorem shaped_wins (ws : List (Int × Int)) : SeqAt.shaped (.tuple (ws.map dPair)) = true := by
  have h := deep_pairs ws
  unfold SeqAt.shaped
  have e1 : PyData.canLay0 (.tuple (ws.map dPair)) = true := by simp only [PyData.canLay0, lay_pairs]
  rw [e1, Bool.true_and]
  apply decide_eq_true
  simp only [PyData.depth]
  omega
theorem eqvAll_pairs : ∀ l m : List (Int × Int), PyData.eqvAll (l.map dPair) (m.map dPair) = decide (l = m)
  | [], [] => by simp [PyData.eqvAll]
  | [], _ :: _ => by simp [PyData.eqvAll]
  | _ :: _, [] => by simp [PyData.eqvAll]
  | (a, b) :: l, (c, d) :: m => by
    simp only [List.map_cons, PyData.eqvAll, dPair, PyData.eqv, eqvAll_pairs l m]
    by_cases h1 : a = c <;> by_cases h2 : b = d <;> by_cases h3 : l = m <;> simp [h1, h2, h3]
theorem eqv_wins (l m : List (Int × Int)) : PyData.eqv (.tuple (l.map dPair)) (.tuple (m.map dPair)) = decide (l = m) := by
  simp only [PyData.eqv, eqvAll_pairs]
/-! ### the defs of books -/
abbrev sp_unbounded (K : PySem.W.Frag) (A : Ad) : Sp := fun vs H Q _ => Sp1 vs fun x => ∃ (l : Addr) (as : List Addr) (ws : List (Int × Int)), x = .ref l ∧ (SqL K H l (as.map V.ref) ∨ SqT K H l (as.map V.ref)) ∧ PairsAt K H as ws ∧ ws.length ≤ 1000 ∧
  ∀ (b w : Addr) (H' : Hp), H b = none → Ex H H' → BookAt A.C_Book H' b w → WinAt K H' w ws → Q (.ref b) H'
abbrev sp_last_of_all (K : PySem.W.Frag) (A : Ad) : Sp := fun vs H Q _ => Sp1 vs fun x => ∃ (b w : Addr) (ws : List (Int × Int)), x = .ref b ∧ BookAt A.C_Book H b w ∧ WinAt K H w ws ∧ 0 < ws.length ∧ ∀ (u : Int) (H' : Hp), MaxW u ws → Ex H H' → Q (.int u) H'
abbrev sp_mirrored (K : PySem.W.Frag) (A : Ad) : Sp := fun vs H Q _ => Sp1 vs fun x => ∃ (b w : Addr) (ws : List (Int × Int)), x = .ref b ∧ BookAt A.C_Book H b w ∧ WinAt K H w ws ∧ 0 < ws.length ∧
  ∀ (b2 w2 : Addr) (u : Int) (H' : Hp), H b2 = none → MaxW u ws → Ex H H' → BookAt A.C_Book H' b2 w2 → WinAt K H' w2 (mirW u ws) → Q (.ref b2) H'
def byD (ws : List (Int × Int)) : Da → Bool | .int z => ws.all (fun q => decide (0 ≤ q.1 + z)) | _ => false
abbrev sp_NoNumber_init (K : PySem.W.Frag) (A : Ad) : Sp := sp_pass
abbrev sp_shifted (K : PySem.W.Frag) (A : Ad) : Sp := fun vs H Q E => Sp2 vs fun x y => ∃ (b w : Addr) (ws : List (Int × Int)) (d : Da), x = .ref b ∧ BookAt A.C_Book H b w ∧ WinAt K H w ws ∧ 0 < ws.length ∧ Rp K H y d ∧
  (byD ws d = false → ∀ H', Ex H H' → E (.ref A.C_NoNumber) none H') ∧
  ∀ z : Int, d = .int z → byD ws d = true → ∀ (b2 w2 : Addr) (H' : Hp), H b2 = none → Ex H H' → BookAt A.C_Book H' b2 w2 → WinAt K H' w2 (shW z ws) → Q (.ref b2) H'
abbrev sp_Book_eq (K : PySem.W.Frag) (A : Ad) : Sp := fun vs H Q _ => Sp2 vs fun x y => ∃ (a wa b wb : Addr) (us ws : List (Int × Int)), x = .ref a ∧ y = .ref b ∧ BookAt A.C_Book H a wa ∧ WinAt K H wa us ∧ BookAt A.C_Book H b wb ∧ WinAt K H wb ws ∧ Q (.bl (decide (us = ws))) H
theorem shW_len (k : Int) (ws : List (Int × Int)) : (shW k ws).length = ws.length := List.length_map ..
theorem mirW_len (k : Int) (ws : List (Int × Int)) : (mirW k ws).length = ws.length := List.length_map ..
theorem win_step {K : PySem.W.Frag} {H : Hp} {ws : List (Int × Int)} {was : List Addr} (h2 : was.length = ws.length) (h3 : ∀ (i : Nat) (a : Addr) (q : Int × Int), was[i]? = some a → ws[i]? = some q → SqT K H a [.int q.1, .int q.2]) {i : Nat} {y : V} (hi : (was.map V.ref)[i]? = some y) :
    ∃ a q, y = .ref a ∧ SqT K H a [.int q.1, .int q.2] ∧ ws.take (i + 1) = ws.take i ++ [q] ∧ i < ws.length ∧ q ∈ ws := by
  have hia : i < was.length := by
    have := (List.getElem?_eq_some_iff.mp hi).1
    rw [List.length_map] at this
    exact this
  have hiw : i < ws.length := by omega
  rw [List.getElem?_map, List.getElem?_eq_getElem hia] at hi
  exact ⟨was[i], ws[i], (Option.some.inj hi).symm, h3 i _ _ (List.getElem?_eq_getElem hia) (List.getElem?_eq_getElem hiw), List.take_succ_eq_append_getElem hiw, hiw, List.getElem_mem hiw⟩
/-! ### groups, parts, joined books -/
def upD (ds : List Da) : Bool := decide ((ds.map daInt).Pairwise (· ≤ ·))
def groupD (n : Nat) : Da → Bool
  | .tup ds => rowD n (.tup ds) && upD ds
  | _ => false
def partD (n : Nat) : Da → Bool
  | .tup ds => groupD n (.tup ds) && !ds.isEmpty
  | _ => false
abbrev sp_NoGroup_init (K : PySem.W.Frag) (A : Ad) : Sp := sp_pass
abbrev sp_is_group (K : PySem.W.Frag) (A : Ad) : Sp := fun vs H Q _ => Sp2 vs fun x y => OnBook K A H x y fun ws d => ∀ H', Ex H H' → Q (.bl (groupD ws.length d)) H'
def partW (ws : List (Int × Int)) (row : List Nat) : List (Int × Int) := row.map (winAt ws)
abbrev sp_part (K : PySem.W.Frag) (A : Ad) : Sp := fun vs H Q E => Sp2 vs fun x y => OnBook K A H x y fun ws d =>
  (partD ws.length d = false → ∀ H', Ex H H' → E (.ref A.C_NoGroup) none H') ∧
  ∀ row : List Nat, d = .tup (row.map dNat) → partD ws.length d = true → ∀ (b2 w2 : Addr) (H' : Hp), H b2 = none → Ex H H' → BookAt A.C_Book H' b2 w2 → WinAt K H' w2 (partW ws row) → Q (.ref b2) H'
abbrev sp_joined (K : PySem.W.Frag) (A : Ad) : Sp := fun vs H Q _ => Sp2 vs fun x y => ∃ (a wa b wb : Addr) (us ws : List (Int × Int)), x = .ref a ∧ y = .ref b ∧ BookAt A.C_Book H a wa ∧ WinAt K H wa us ∧ BookAt A.C_Book H b wb ∧ WinAt K H wb ws ∧ us.length + ws.length ≤ 1000 ∧
  ∀ (b2 w2 : Addr) (H' : Hp), H b2 = none → Ex H H' → BookAt A.C_Book H' b2 w2 → WinAt K H' w2 (us ++ ws) → Q (.ref b2) H'
theorem PairsAt.append {K : PySem.W.Frag} {H : Hp} {as bs : List Addr} {ps qs : List (Int × Int)} (h : PairsAt K H as ps) (g : PairsAt K H bs qs) : PairsAt K H (as ++ bs) (ps ++ qs) := by
  obtain ⟨h2, h3⟩ := h
  obtain ⟨g2, g3⟩ := g
  refine ⟨by rw [List.length_append, List.length_append, h2, g2], fun i a q x y => ?_⟩
  by_cases hi : i < as.length
  · rw [List.getElem?_append_left hi] at x
    rw [List.getElem?_append_left (by omega)] at y
    exact h3 i a q x y
  · rw [List.getElem?_append_right (by omega)] at x
    rw [List.getElem?_append_right (by omega)] at y
    rw [h2] at x
    exact g3 _ a q x y
/-- the list of a row's works is ascending just if sorting leaves it -/
theorem up_iff {ns ms : List Int} (hp : ms.Perm ns) (hs : ms.Pairwise (· ≤ ·)) : decide (ns = ms) = decide (ns.Pairwise (· ≤ ·)) := by
  apply decide_eq_decide.mpr
  constructor
  · intro e
    rw [e]
    exact hs
  · intro h
    exact List.Perm.eq_of_pairwise (le := (· ≤ ·)) (fun a b _ _ h1 h2 => Int.le_antisymm h1 h2) h hs hp.symm
def dIntL (l : List Int) : PyData := .list (l.map .int)
theorem shaped_intL (l : List Int) : SeqAt.shaped (dIntL l) = true := by
  unfold SeqAt.shaped dIntL
  simp only [PyData.canLay0, PyData.depth, lay_ints, deep_ints]
  decide
theorem eqv_intL (l m : List Int) : PyData.eqv (dIntL l) (dIntL m) = decide (l = m) := by
  unfold dIntL
  simp only [PyData.eqv, eqvAll_ints]
theorem partD_row {ws : List (Int × Int)} {row : List Nat} (h1 : ∀ j ∈ row, j < ws.length) (h2 : row.Pairwise (· < ·)) (h3 : row ≠ []) : partD ws.length (.tup (row.map dNat)) = true := by
  have e1 : rowD ws.length (.tup (row.map dNat)) = true := by
    simp only [rowD, Bool.and_eq_true, decide_eq_true_eq, List.all_eq_true]
    refine ⟨fun x hx => ?_, ?_⟩
    · obtain ⟨j, hj, rfl⟩ := List.mem_map.mp hx
      have := h1 j hj
      simp [dNat, workD, this]
    · rw [da_row]
      refine List.pairwise_map.mpr (h2.imp fun h e => ?_)
      omega
  have e2 : upD (row.map dNat) = true := by
    unfold upD
    rw [da_row]
    refine decide_eq_true (List.pairwise_map.mpr (h2.imp fun h => ?_))
    omega
  have e3 : (!(row.map dNat).isEmpty) = true := by
    cases row with
    | nil => exact absurd rfl h3
    | cons a b => rfl
  simp only [partD, groupD, e1, e2, e3, Bool.and_self]
theorem partD_nats {n : Nat} {d : Da} (h : partD n d = true) : ∃ row : List Nat, d = .tup (row.map dNat) ∧ ∀ j ∈ row, j < n := by
  cases d with
  | tup ds =>
    simp only [partD, groupD, rowD, Bool.and_eq_true, List.all_eq_true] at h
    have h1 := h.1.1.1
    refine ⟨ds.map fun d => (daInt d).toNat, ?_, fun j hj => ?_⟩
    · rw [List.map_map]
      congr 1
      symm
      refine (List.map_congr_left fun d hd => ?_).trans (List.map_id _)
      obtain ⟨i, rfl, _⟩ := workD_int (h1 d hd)
      rfl
    · obtain ⟨d, hd, rfl⟩ := List.mem_map.mp hj
      obtain ⟨i, rfl, hi⟩ := workD_int (h1 d hd)
      exact hi
  | _ => cases h
theorem nats_inj {r s : List Nat} (h : r.map dNat = s.map dNat) : r = s := by
  induction r generalizing s with
  | nil =>
    cases s with
    | nil => rfl
    | cons _ _ => cases h
  | cons a r ih =>
    cases s with
    | nil => cases h
    | cons b s =>
      obtain ⟨h1, h2⟩ := List.cons.inj h
      have e := Da.int.inj h1
      rw [ih h2, show a = b by omega]
theorem ex_kept {H H1 H2 : Hp} {p c : Addr} (np : H p = none) (nc : H c = none) (e : Ex H H1) (k : Kept p c H1 H2) : Ex H H2 := fun a o h => k a o (fun z => by
  rw [z, np] at h
  cases h) (fun z => by
  rw [z, nc] at h
  cases h) (e a o h)
structure SpFlagLaw (K : PySem.W.Frag) (vs : List V) (H : Hp) (Q : VK) : Prop where
  ex : ∃ (a : Addr) (ns : List Int), vs = [.ref a] ∧ SqL K H a (ns.map V.int) ∧ ns.length ≤ 63 ∧ ∀ H', Ex H H' → Q (.bl true) H'
theorem SpFlagLaw.len {K : PySem.W.Frag} {vs : List V} {H : Hp} {Q : VK} (h : SpFlagLaw K vs H Q) : vs.length = 1 := by
  obtain ⟨a, ns, rfl, _⟩ := h.ex
  rfl
abbrev sp_l_main (K : PySem.W.Frag) (A : Ad) : Sp := fun vs H Q _ => SpFlagLaw K vs H Q
abbrev sp_l_more (K : PySem.W.Frag) (A : Ad) : Sp := fun vs H Q _ => SpFlagLaw K vs H Q
abbrev sp_l_someU (K : PySem.W.Frag) (A : Ad) : Sp := fun vs H Q _ => Sp2 vs fun x y => ∃ (p c : Addr) (n : Nat), x = .ref p ∧ y = .int (n : Int) ∧ PoolAt H p c ∧ n ≤ 1000 ∧
  ∀ (w : Addr) (out : List Nat) (H' : Hp), H w = none → (∀ j ∈ out, j < n) → out.Pairwise (· < ·) → H' w = some (.tup (out.map vNat)) → PoolAt H' p c → Kept p c H H' → Q (.ref w) H'
/-- let, or which error -/
def toldD (x y : Bool) : PyData := .list [.bool x, .bool y]
abbrev sp_l_told5 (K : PySem.W.Frag) (A : Ad) : Sp := fun vs H Q _ => Sp3 vs fun x y z => ∃ (k : Int) (b w : Addr) (ws : List (Int × Int)) (d : Da), x = .int k ∧ y = .ref b ∧ BookAt A.C_Book H b w ∧ WinAt K H w ws ∧ 0 < ws.length ∧ Rp K H z d ∧ smallD d ∧
  ((if k = 0 then partD ws.length d else byD ws d) = true → ∀ H', Ex H H' → Q (.str "let") H') ∧
  ((if k = 0 then partD ws.length d else byD ws d) = false → ∀ l H', Ex H H' → H' l = some (.lst [.bl (decide (k = 0)), .bl (decide (k ≠ 0))]) → Q (.ref l) H')
theorem pair_nums {ws : List (Int × Int)} {j : Nat} (h : j < ws.length) : winAt ws j = ws[j] := by
  unfold winAt
  rw [List.getD_eq_getElem?_getD, List.getElem?_eq_getElem h] <;> rfl
theorem rpAll_nats {K : PySem.W.Frag} {H : Hp} : ∀ {row : List Nat} {xs : List V}, RpAll K H xs (row.map dNat) → xs = row.map vNat
  | [], _, h => by
    cases h
    rfl
  | j :: r, _, h => by
    cases h with
    | cons h1 h2 =>
      cases h1
      rw [rpAll_nats h2]
      rfl
theorem WinAt.pairs {K : PySem.W.Frag} {H : Hp} {w : Addr} {ws : List (Int × Int)} (h : WinAt K H w ws) : ∃ as : List Addr, SqT K H w (as.map V.ref) ∧ PairsAt K H as ws := by
  obtain ⟨_, as, h1, h2, h3⟩ := h
  exact ⟨as, h1, h2, h3⟩
theorem cat_wins {K : PySem.W.Frag} {H : Hp} {a b : Addr} {us ws : List (Int × Int)} {Q : VK} (ha : WinAt K H a us) (hb : WinAt K H b ws) (hl : us.length + ws.length ≤ 1000) (k : ∀ r H', Ex H H' → WinAt K H' r (us ++ ws) → Q (.ref r) H') : rCatA K (.ref a) (.ref b) H Q := by
  obtain ⟨as, a1, a2⟩ := ha.pairs
  obtain ⟨bs, b1, b2⟩ := hb.pairs
  have e1 := a2.1
  have e2 := b2.1
  refine cat_read a1 b1 (by rw [List.length_map, List.length_map]; omega) fun r H' e h => k r H' e ?_
  rw [← List.map_append] at h
  exact WinAt.of h (PairsAt.append (a2.mono e) (b2.mono e)) (by rw [List.length_append]; exact hl)
theorem rep_wins {K : PySem.W.Frag} {H : Hp} {a : Addr} {us : List (Int × Int)} {Q : VK} (ha : WinAt K H a us) (h0 : us ≠ []) (hl : us.length + us.length ≤ 1000) (k : ∀ r H', Ex H H' → WinAt K H' r (us ++ us) → Q (.ref r) H') : rRepL K (.int 2) (.ref a) H Q := by
  obtain ⟨as, a1, a2⟩ := ha.pairs
  have e1 := a2.1
  refine ⟨a, 2, _, rfl, rfl, a1, ?_, by decide, by decide, by rw [List.length_map]; omega, fun p np => k p _ (Ex.new np) ?_⟩
  · intro e
    have e0 : as = [] := List.map_eq_nil_iff.mp e
    rw [e0] at e1
    exact h0 (List.eq_nil_of_length_eq_zero e1.symm)
  · have x := Ex.new (o := .tup (List.replicate (2 : Int).toNat (as.map V.ref)).flatten) np
    refine WinAt.of (as := as ++ as) (SqT.of ?_) (PairsAt.append (a2.mono x) (a2.mono x)) (by rw [List.length_append]; exact hl)
    rw [upd_same, List.map_append]
    show some (HO.tup (as.map V.ref ++ (as.map V.ref ++ []))) = _
    rw [List.append_nil]
theorem winAt_app {us ws : List (Int × Int)} {j : Nat} (h : j < us.length) : winAt (us ++ ws) j = winAt us j := by
  unfold winAt
  rw [List.getD_eq_getElem?_getD, List.getD_eq_getElem?_getD, List.getElem?_append_left h]
theorem winAt_app2 {us ws : List (Int × Int)} (j : Nat) : winAt (us ++ ws) (us.length + j) = winAt ws j := by
  unfold winAt
  rw [List.getD_eq_getElem?_getD, List.getD_eq_getElem?_getD, List.getElem?_append_right (by omega)]
  congr 2
  omega
theorem partW_app {us ws : List (Int × Int)} {row : List Nat} (h : ∀ j ∈ row, j < us.length) : partW (us ++ ws) row = partW us row := List.map_congr_left fun j hj => winAt_app (h j hj)
theorem partW_range (ws : List (Int × Int)) : partW ws (List.range ws.length) = ws := by
  show (List.range ws.length).map (winAt ws) = ws
  refine List.ext_getElem (by simp) fun i h1 h2 => ?_
  rw [List.getElem_map, List.getElem_range, pair_nums h2]
theorem partW_rest (us ws : List (Int × Int)) : partW (us ++ ws) ((List.range ws.length).map fun i => us.length + i) = ws := by
  unfold partW
  rw [List.map_map]
  refine Eq.trans (List.map_congr_left fun j hj => ?_) (partW_range ws)
  exact winAt_app2 j
theorem partW_sh {ws : List (Int × Int)} {row : List Nat} {k : Int} (h : ∀ j ∈ row, j < ws.length) : partW (shW k ws) row = shW k (partW ws row) := by
  unfold partW shW
  rw [List.map_map]
  exact List.map_congr_left fun j hj => winAt_map (h j hj)
theorem sh_back (k : Int) (ws : List (Int × Int)) : shW (-k) (shW k ws) = ws := by
  unfold shW
  rw [List.map_map]
  refine (List.map_congr_left fun q _ => ?_).trans (List.map_id _)
  refine Prod.ext ?_ ?_
  · show q.1 + k + -k = q.1
    omega
  · show q.2 + k + -k = q.2
    omega
theorem byD_of {ws : List (Int × Int)} {z : Int} (h : ∀ q ∈ ws, 0 ≤ q.1 + z) : byD ws (.int z) = true := by
  simp only [byD, List.all_eq_true, decide_eq_true_eq]
  exact h
theorem rgV_from (n k : Nat) : rgV (n : Int) ((n : Int) + (k : Int)) = (((List.range k).map fun i => n + i).map vNat) := by
  unfold rgV
  rw [show ((n : Int) + (k : Int) - (n : Int)).toNat = k by omega, List.map_map]
  rfl
theorem RpAll.append {K : PySem.W.Frag} {H : Hp} : ∀ {vs us : List V} {ds es : List Da}, RpAll K H vs ds → RpAll K H us es → RpAll K H (vs ++ us) (ds ++ es)
  | _, _, _, _, .nil, g => g
  | _, _, _, _, .cons h r, g => .cons h (RpAll.append r g)
theorem rpAll_row {K : PySem.W.Frag} {H : Hp} : ∀ row : List Nat, RpAll K H (row.map vNat) (row.map dNat)
  | [] => .nil
  | j :: r => .cons (.int _) (rpAll_row r)
def BadD (n : Nat) (d : Da) : Prop := smallD d ∧ partD n d = false
theorem bad_work {n : Nat} {ds : List Da} (h0 : ds.length ≤ 1000) (h : ds.all (workD n) = false) : BadD n (.tup ds) := ⟨h0, by simp only [partD, groupD, rowD, h, Bool.false_and]⟩
theorem bad_twice {n : Nat} {ds : List Da} (h0 : ds.length ≤ 1000) (h : ¬ (ds.map daInt).Nodup) : BadD n (.tup ds) := ⟨h0, by simp only [partD, groupD, rowD, decide_eq_false h, Bool.and_false, Bool.false_and]⟩
theorem bad_up {n : Nat} {ds : List Da} (h0 : ds.length ≤ 1000) (h : ¬ (ds.map daInt).Pairwise (· ≤ ·)) : BadD n (.tup ds) := ⟨h0, by simp only [partD, groupD, upD, decide_eq_false h, Bool.and_false, Bool.false_and]⟩
theorem bad_nil (n : Nat) : BadD n (.tup []) := ⟨Nat.zero_le _, by simp [partD]⟩
theorem byD_bad {ws : List (Int × Int)} {z : Int} (h : ∃ q ∈ ws, q.1 + z < 0) : byD ws (.int z) = false := by
  obtain ⟨q, hq, h⟩ := h
  simp only [byD]
  rw [List.all_eq_false]
  exact ⟨q, hq, by simp; omega⟩
/-! ### runs moved, renamed, one behind another -/
def mvT (f : Nat → Nat) (k : Int) (q : Int × Int × Int) : Int × Int × Int := (((f q.1.toNat : Nat) : Int), q.2.1 + k, q.2.2 + k)
structure Alike (ws ws' : List (Int × Int)) (lot lot' : List (Option Int)) (f : Nat → Nat) (k : Int) (j : Nat) : Prop where
  fst : fstAt ws' (f j) = fstAt ws j + k
  lst : lstAt ws' (f j) = lstAt ws j + k
  len : lenAt lot' (f j) = lenAt lot j
theorem steps_mv {ws ws' : List (Int × Int)} {lot lot' : List (Option Int)} {f : Nat → Nat} {k : Int} : ∀ (l : List Nat) (h h' : Int), (h' = h + k ∨ ∃ j r, l = j :: r ∧ h ≤ fstAt ws j ∧ h' ≤ fstAt ws j + k) → (∀ j ∈ l, Alike ws ws' lot lot' f k j) →
    stepsF ws' lot' h' (l.map f) = (stepsF ws lot h l).map (mvT f k)
  | [], _, _, _, _ => rfl
  | j :: r, h, h', hh, al => by
    obtain ⟨a1, a2, a3⟩ := al j (List.mem_cons_self ..)
    have hb : (if (winAt ws' (f j)).1 > h' then (winAt ws' (f j)).1 else h') = (if (winAt ws j).1 > h then (winAt ws j).1 else h) + k := by
      have a1' : (winAt ws' (f j)).1 = (winAt ws j).1 + k := a1
      rw [a1']
      rcases hh with e | ⟨i, s, e, g1, g2⟩
      · rw [e]
        split <;> split <;> omega
      · obtain ⟨rfl, rfl⟩ := List.cons.inj e
        have g1' : h ≤ (winAt ws j).1 := g1
        have g2' : h' ≤ (winAt ws j).1 + k := g2
        split <;> split <;> omega
    show _ :: stepsF ws' lot' _ (r.map f) = mvT f k _ :: (stepsF ws lot _ r).map (mvT f k)
    rw [hb, a3]
    have e1 : ((if (winAt ws j).1 > h then (winAt ws j).1 else h) + k + lenAt lot j) = ((if (winAt ws j).1 > h then (winAt ws j).1 else h) + lenAt lot j) + k := by omega
    rw [e1, steps_mv r _ _ (.inl rfl) fun i hi => al i (List.mem_cons_of_mem _ hi)]
    rfl
theorem stepsF_mem' {ws : List (Int × Int)} {lot : List (Option Int)} : ∀ {l : List Nat} {h : Int} {q : Int × Int × Int}, q ∈ stepsF ws lot h l → ∃ j ∈ l, q.1 = (j : Int) := stepsF_mem
theorem late_mv {ws ws' : List (Int × Int)} {lot lot' : List (Option Int)} {f : Nat → Nat} {k : Int} {l : List Nat} {h : Int} (al : ∀ j ∈ l, Alike ws ws' lot lot' f k j) : latesN ws' ((stepsF ws lot h l).map (mvT f k)) = latesN ws (stepsF ws lot h l) := by
  unfold latesN
  rw [List.map_map]
  refine List.map_congr_left fun q hq => ?_
  obtain ⟨j, hj, e⟩ := stepsF_mem hq
  have a2 := (al j hj).lst
  have e1 : (mvT f k q).1.toNat = f j := by
    show (((f q.1.toNat : Nat) : Int)).toNat = f j
    rw [e, Int.toNat_natCast, Int.toNat_natCast]
  have e2 : q.1.toNat = j := by rw [e, Int.toNat_natCast]
  show (q.2.2 + k) - (winAt ws' (mvT f k q).1.toNat).2 = q.2.2 - (winAt ws q.1.toNat).2
  rw [e1, e2]
  have a2' : (winAt ws' (f j)).2 = (winAt ws j).2 + k := a2
  rw [a2']
  omega
theorem intime_mv {ws ws' : List (Int × Int)} {lot lot' : List (Option Int)} {f : Nat → Nat} {k : Int} {l : List Nat} {h : Int} (al : ∀ j ∈ l, Alike ws ws' lot lot' f k j) : ((stepsF ws lot h l).map (mvT f k)).map (inTime ws') = (stepsF ws lot h l).map (inTime ws) := by
  rw [List.map_map]
  refine List.map_congr_left fun q hq => ?_
  obtain ⟨j, hj, e⟩ := stepsF_mem hq
  have a2 := (al j hj).lst
  have e1 : (mvT f k q).1.toNat = f j := by
    show (((f q.1.toNat : Nat) : Int)).toNat = f j
    rw [e, Int.toNat_natCast, Int.toNat_natCast]
  have e2 : q.1.toNat = j := by rw [e, Int.toNat_natCast]
  have a2' : (winAt ws' (f j)).2 = (winAt ws j).2 + k := a2
  show decide ((q.2.2 + k) ≤ (winAt ws' (mvT f k q).1.toNat).2) = decide (q.2.2 ≤ (winAt ws q.1.toNat).2)
  rw [e1, e2, a2']
  exact decide_eq_decide.mpr (by omega)
/-- the hour behind the run -/
def endF (ws : List (Int × Int)) (lot : List (Option Int)) : Int → List Nat → Int
  | h, [] => h
  | h, j :: r => endF ws lot ((if (winAt ws j).1 > h then (winAt ws j).1 else h) + lenAt lot j) r
theorem stepsF_app {ws : List (Int × Int)} {lot : List (Option Int)} : ∀ (l m : List Nat) (h : Int), stepsF ws lot h (l ++ m) = stepsF ws lot h l ++ stepsF ws lot (endF ws lot h l) m
  | [], _, _ => rfl
  | j :: r, m, h => by
    show _ :: stepsF ws lot _ (r ++ m) = _ :: (stepsF ws lot _ r ++ stepsF ws lot _ m)
    rw [stepsF_app r m]
    rfl
theorem endF_le {ws : List (Int × Int)} {lot : List (Option Int)} {M : Int} : ∀ (l : List Nat) (h : Int), h ≤ M → (∀ j ∈ l, fstAt ws j ≤ M) → (∀ j ∈ l, 0 ≤ lenAt lot j) → endF ws lot h l ≤ M + loadN lot l
  | [], h, hm, _, _ => by
    show h ≤ M + 0
    omega
  | j :: r, h, hm, hf, hl => by
    have f0 : (winAt ws j).1 ≤ M := hf j (List.mem_cons_self ..)
    have l0 := hl j (List.mem_cons_self ..)
    have ih := endF_le (ws := ws) (lot := lot) (M := M + lenAt lot j) r ((if (winAt ws j).1 > h then (winAt ws j).1 else h) + lenAt lot j) (by split <;> omega) (fun i hi => by have := hf i (List.mem_cons_of_mem _ hi); omega) (fun i hi => hl i (List.mem_cons_of_mem _ hi))
    show endF ws lot _ r ≤ M + loadN lot (j :: r)
    have e : loadN lot (j :: r) = lenAt lot j + loadN lot r := by simp [loadN]
    rw [e]
    omega
theorem load_pos {lot : List (Option Int)} (h0 : ∀ j, 0 ≤ lenAt lot j) : ∀ m : List Nat, 0 ≤ loadN lot m
  | [] => Int.le_refl _
  | a :: r => by
    have ih := load_pos h0 r
    have := h0 a
    have e : loadN lot (a :: r) = lenAt lot a + loadN lot r := by simp [loadN]
    omega
theorem sum_perm {l m : List Int} (h : l.Perm m) : l.sum = m.sum := by
  induction h with
  | nil => rfl
  | cons x _ ih => rw [List.sum_cons, List.sum_cons, ih]
  | swap x y l =>
    rw [List.sum_cons, List.sum_cons, List.sum_cons, List.sum_cons]
    omega
  | trans _ _ ih1 ih2 => rw [ih1, ih2]
theorem load_sub {lot : List (Option Int)} (h0 : ∀ j, 0 ≤ lenAt lot j) : ∀ {l m : List Nat}, l.Nodup → (∀ j ∈ l, j ∈ m) → loadN lot l ≤ loadN lot m
  | [], m, _, _ => load_pos h0 m
  | x :: r, m, nd, hs => by
    have hx := hs x (List.mem_cons_self ..)
    obtain ⟨n1, n2⟩ := List.nodup_cons.mp nd
    have ih := load_sub h0 (l := r) (m := m.erase x) n2 fun k hk => (List.mem_erase_of_ne (fun e : k = x => n1 (by rw [← e]; exact hk))).mpr (hs k (List.mem_cons_of_mem _ hk))
    have p := List.perm_cons_erase hx
    have e1 : loadN lot m = loadN lot (x :: m.erase x) := by
      unfold loadN
      exact sum_perm (p.map (lenAt lot))
    have e2 : loadN lot (x :: m.erase x) = lenAt lot x + loadN lot (m.erase x) := by simp [loadN]
    have e3 : loadN lot (x :: r) = lenAt lot x + loadN lot r := by simp [loadN]
    omega
theorem load_range : ∀ lot : List (Option Int), loadN lot (List.range lot.length) = (lot.filterMap id).sum
  | [] => rfl
  | o :: r => by
    have ih := load_range r
    unfold loadN at ih ⊢
    rw [List.length_cons, List.range_succ_eq_map, List.map_cons, List.map_map, List.sum_cons]
    have e : (List.range r.length).map (lenAt (o :: r) ∘ Nat.succ) = (List.range r.length).map (lenAt r) := by
      refine List.map_congr_left fun j _ => ?_
      rfl
    rw [e, ih]
    cases o with
    | none =>
      show (0 : Int) + _ = _
      rw [Int.zero_add]
      rfl
    | some n =>
      show n + _ = _
      rw [List.filterMap_cons]
      show n + _ = (n :: List.filterMap id r).sum
      rw [List.sum_cons]
theorem brk_sh {ws ws' : List (Int × Int)} {lot : List (Option Int)} {k : Int} {one : Nat} : ∀ (l : List Nat) (h : Int), (∀ j ∈ l, lstAt ws' j = lstAt ws j + k) → brkFrom ws' lot one (h + k) l = brkFrom ws lot one h l
  | [], _, _ => rfl
  | j :: r, h, hl => by
    have e := hl j (List.mem_cons_self ..)
    show (if h + k + lenAt lot j > lstAt ws' j then [((one : Int), (j : Int))] else []) ++ brkFrom ws' lot one (h + k + lenAt lot j) r = (if h + lenAt lot j > lstAt ws j then [((one : Int), (j : Int))] else []) ++ brkFrom ws lot one (h + lenAt lot j) r
    rw [show h + k + lenAt lot j = h + lenAt lot j + k by omega, brk_sh r _ fun i hi => hl i (List.mem_cons_of_mem _ hi), e]
    by_cases c : h + lenAt lot j > lstAt ws j
    · rw [if_pos c, if_pos (by omega)]
    · rw [if_neg c, if_neg (by omega)]
theorem brkF_sh {ws ws' : List (Int × Int)} {lot : List (Option Int)} {k : Int} : ∀ l : List Nat, (∀ j ∈ l, fstAt ws' j = fstAt ws j + k) → (∀ j ∈ l, lstAt ws' j = lstAt ws j + k) → brkF ws' lot l = brkF ws lot l
  | [], _, _ => rfl
  | j :: r, hf, hl => by
    show brkFrom ws' lot j (fstAt ws' j) (j :: r) ++ brkF ws' lot r = brkFrom ws lot j (fstAt ws j) (j :: r) ++ brkF ws lot r
    rw [hf j (List.mem_cons_self ..), brk_sh (j :: r) _ hl, brkF_sh r (fun i hi => hf i (List.mem_cons_of_mem _ hi)) fun i hi => hl i (List.mem_cons_of_mem _ hi)]
/-! ### the room of a work -/
def backF (ws : List (Int × Int)) (lot : List (Option Int)) (h : Int) (l : List Nat) : Int := l.foldl (fun h j => (if lstAt ws j < h then lstAt ws j else h) - lenAt lot j) h
def latestN (ws : List (Int × Int)) (lot : List (Option Int)) (l : List Nat) (w : Nat) : Int :=
  if lstAt ws w < backF ws lot (lstAt ws (l.getLast?.getD 0)) (l.drop (l.idxOf w + 1)).reverse then lstAt ws w else backF ws lot (lstAt ws (l.getLast?.getD 0)) (l.drop (l.idxOf w + 1)).reverse
def bareL (lot : List (Option Int)) (w : Nat) : List (Option Int) := lot.set w (some 0)
def begsN (ws : List (Int × Int)) (row : List Nat) (lot : List (Option Int)) (w : Nat) : List Int := ((stepsN ws row (bareL lot w)).filter fun q => decide (q.1 = (w : Int))).map fun q => q.2.1
def roomN (ws : List (Int × Int)) (row : List Nat) (lot : List (Option Int)) (w : Nat) : Option Int :=
  if servesB ws (stepsN ws row (bareL lot w)) = true then some (latestN ws lot (comingN row lot) w - (begsN ws row lot w).headD 0) else none
theorem back_sh {ws ws' : List (Int × Int)} {lot : List (Option Int)} {k : Int} : ∀ (l : List Nat) (h : Int), (∀ j ∈ l, lstAt ws' j = lstAt ws j + k) → backF ws' lot (h + k) l = backF ws lot h l + k
  | [], _, _ => rfl
  | j :: r, h, hl => by
    have e := hl j (List.mem_cons_self ..)
    show backF ws' lot ((if lstAt ws' j < h + k then lstAt ws' j else h + k) - lenAt lot j) r = backF ws lot ((if lstAt ws j < h then lstAt ws j else h) - lenAt lot j) r + k
    rw [← back_sh r _ fun i hi => hl i (List.mem_cons_of_mem _ hi), e]
    congr 1
    split <;> split <;> omega
theorem latest_sh {ws ws' : List (Int × Int)} {lot : List (Option Int)} {k : Int} {l : List Nat} {w : Nat} (hw : w ∈ l) (hl : ∀ j ∈ l, lstAt ws' j = lstAt ws j + k) : latestN ws' lot l w = latestN ws lot l w + k := by
  unfold latestN
  have hne : l ≠ [] := fun e => by
    rw [e] at hw
    cases hw
  have hg : l.getLast?.getD 0 ∈ l := by
    cases hgl : l.getLast? with
    | none => exact absurd (List.getLast?_eq_none_iff.mp hgl) hne
    | some b => exact List.mem_of_getLast? hgl
  have hd : ∀ j ∈ (l.drop (l.idxOf w + 1)).reverse, j ∈ l := fun j hj => List.mem_of_mem_drop (List.mem_reverse.mp hj)
  rw [hl _ hg, back_sh _ _ fun j hj => hl j (hd j hj), hl w hw]
  split <;> split <;> omega
theorem comingN_bare {row : List Nat} {lot : List (Option Int)} {w : Nat} (h : (lot[w]?).getD none ≠ none) : comingN row (bareL lot w) = comingN row lot := by
  unfold comingN bareL
  congr 1
  funext j
  by_cases e : w = j
  · subst e
    have hw : w < lot.length := by
      apply Classical.byContradiction
      intro n
      rw [List.getElem?_eq_none (by omega)] at h
      exact h rfl
    rw [List.getElem?_set_self hw]
    cases hh : (lot[w]?).getD none with
    | none => exact absurd hh h
    | some n => rfl
  · rw [List.getElem?_set_ne e]
/-! ### pairs in order -/
theorem pairs_uniq {ps qs bs : List (Int × Int)} (h1 : ps.Perm bs) (h2 : qs.Perm bs) (s1 : ps.Pairwise fun p q => SrtO.lexB q p = false) (s2 : qs.Pairwise fun p q => SrtO.lexB q p = false) : ps = qs := by
  refine List.Perm.eq_of_pairwise (fun a b _ _ g1 g2 => ?_) s1 s2 (h1.trans h2.symm)
  have a1 := SrtO.lexB_no.mp g1
  have a2 := SrtO.lexB_no.mp g2
  refine Prod.ext ?_ ?_ <;> omega
abbrev sp_brokenO (K : PySem.W.Frag) (A : Ad) : Sp := fun vs H Q E => Sp3 vs fun x y z => RunOn K A H x y z fun ws row lot => Right ws row lot ∧ ∀ (l : Addr) (as : List Addr) (qs : List (Int × Int)) (H' : Hp), H l = none → Ex H H' → H' l = some (.lst (as.map V.ref)) → PairsAt K H' as qs → qs.Perm (brkF ws lot (comingN row lot)) → (qs.Pairwise fun p q => SrtO.lexB q p = false) → Q (.ref l) H'
theorem dp_pairsL {K : PySem.W.Frag} {H : Hp} {l : Addr} {as : List Addr} {qs : List (Int × Int)} (h : SqL K H l (as.map V.ref)) (p : PairsAt K H as qs) : Dp K H (.ref l) (.list (qs.map dPair)) := by
  refine .lst h ?_
  clear h
  obtain ⟨h2, h3⟩ := p
  induction qs generalizing as with
  | nil =>
    cases as with
    | nil => exact .nil
    | cons _ _ => simp at h2
  | cons q r ih =>
    cases as with
    | nil => simp at h2
    | cons a s => exact .cons (.tup (h3 0 a q rfl rfl) (.cons (.int _) (.cons (.int _) .nil))) (ih (by simpa using h2) fun i a q x y => h3 (i + 1) a q x y)
theorem eqv_pairsL (l m : List (Int × Int)) : PyData.eqv (.list (l.map dPair)) (.list (m.map dPair)) = decide (l = m) := by
  simp only [PyData.eqv, eqvAll_pairs]
def pairOf (H : Hp) : V → Int × Int
  | .ref a => match H a with
    | some (.tup [.int i, .int j]) => (i, j)
    | _ => (0, 0)
  | _ => (0, 0)
theorem Grows.srt {K : PySem.W.Frag} {H : Hp} {as : List Addr} {ps : List (Int × Int)} {ys : List V} (h2 : as.length = ps.length) (h3 : ∀ (i : Nat) (a : Addr) (q : Int × Int), as[i]? = some a → ps[i]? = some q → H a = some (.tup [.int q.1, .int q.2])) (hs : SrtO.Srtd (ltP (pairOf H)) ys) (hp : ys.Perm (as.map V.ref)) :
    ∃ (bs : List Addr) (qs : List (Int × Int)), ys = bs.map V.ref ∧ PairsAt K H bs qs ∧ qs.Perm ps ∧ qs.Pairwise fun p q => SrtO.lexB q p = false := by
  have hk : (as.map V.ref).map (pairOf H) = ps := by
    rw [List.map_map]
    refine List.ext_getElem (by rw [List.length_map, h2]) fun i g1 g2 => ?_
    rw [List.length_map] at g1
    rw [List.getElem_map]
    have e := h3 i as[i] ps[i] (List.getElem?_eq_getElem g1) (List.getElem?_eq_getElem g2)
    show pairOf H (.ref as[i]) = ps[i]
    simp only [pairOf, e]
  have hr : ∃ bs : List Addr, ys = bs.map V.ref ∧ ∀ b ∈ bs, b ∈ as := by
    have : ∀ y ∈ ys, ∃ a ∈ as, y = V.ref a := fun y hy => by
      obtain ⟨a, ha, e⟩ := List.mem_map.mp (hp.mem_iff.mp hy)
      exact ⟨a, ha, e.symm⟩
    clear hp hs hk
    induction ys with
    | nil => exact ⟨[], rfl, fun b hb => by cases hb⟩
    | cons y r ih =>
      obtain ⟨a, ha, rfl⟩ := this _ (List.mem_cons_self ..)
      obtain ⟨bs, rfl, g⟩ := ih fun z hz => this z (List.mem_cons_of_mem _ hz)
      exact ⟨a :: bs, rfl, fun b hb => by
        rcases List.mem_cons.mp hb with e | hb
        · rw [e]; exact ha
        · exact g b hb⟩
  obtain ⟨bs, rfl, hb⟩ := hr
  refine ⟨bs, (bs.map V.ref).map (pairOf H), rfl, ⟨by rw [List.length_map, List.length_map], fun i a q x y => ?_⟩, ?_, List.pairwise_map.mpr hs⟩
  · rw [List.getElem?_map, List.getElem?_map, x] at y
    have hm := hb a (List.mem_of_getElem? x)
    obtain ⟨n, hn, en⟩ := List.mem_iff_getElem.mp hm
    have e := h3 n a ps[n] (by rw [List.getElem?_eq_getElem hn, en]) (List.getElem?_eq_getElem (by omega))
    have y' : pairOf H (.ref a) = q := Option.some.inj y
    have e2 : pairOf H (.ref a) = ps[n] := by simp only [pairOf, e]
    rw [← y', e2]
    exact SqT.of e
  · rw [← hk]
    exact hp.map _
structure Sp4 (vs : List V) (P : V → V → V → V → Prop) : Prop where
  ex : ∃ x y z u, vs = [x, y, z, u] ∧ P x y z u
theorem Sp4.len {vs : List V} {P : V → V → V → V → Prop} (h : Sp4 vs P) : vs.length = 4 := by
  obtain ⟨x, y, z, u, rfl, _⟩ := h.ex
  rfl
abbrev sp_latest_end (K : PySem.W.Frag) (A : Ad) : Sp := fun vs H Q _ => Sp4 vs fun x y z u => ∃ w : Nat, u = .int (w : Int) ∧ RunOn K A H x y z fun ws row lot => w ∈ comingN row lot ∧ ∀ H', Ex H H' → Q (.int (latestN ws lot (comingN row lot) w)) H'
abbrev sp_room (K : PySem.W.Frag) (A : Ad) : Sp := fun vs H Q E => Sp4 vs fun x y z u => ∃ w : Nat, u = .int (w : Int) ∧ RunOn K A H x y z fun ws row lot => Right ws row lot ∧ w ∈ comingN row lot ∧ ∀ H', Ex H H' → Q (vO (roomN ws row lot w)) H'
abbrev sp_l_moved (K : PySem.W.Frag) (A : Ad) : Sp := fun vs H Q _ => Sp2 vs fun x y => ∃ (l : Addr) (as : List Addr) (ts : List (Int × Int × Int)) (k : Int), x = .ref l ∧ y = .int k ∧ SqT K H l (as.map V.ref) ∧ TrisAt K H as ts ∧ ts.length ≤ 1000 ∧
  ∀ (l2 : Addr) (bs : List Addr) (H' : Hp), H l2 = none → Ex H H' → H' l2 = some (.tup (bs.map V.ref)) → TrisAt K H' bs (ts.map fun q => (q.1, q.2.1 + k, q.2.2 + k)) → Q (.ref l2) H'
theorem atI_end {l : List Nat} (h : l ≠ []) : atI (l.map vNat) (-1) = some (vNat (l.getLast?.getD 0)) := by
  obtain ⟨r, a, rfl⟩ : ∃ r a, l = r ++ [a] := ⟨l.dropLast, l.getLast h, (List.dropLast_concat_getLast h).symm⟩
  rw [List.map_append, List.getLast?_append]
  exact atI_last _ _
theorem lot_put {lot : List (Option Int)} {s : Nat} {d : Int} (h : s < lot.length) : cutV (lot.map vO) none (some (s : Int)) ++ [V.int d] ++ cutV (lot.map vO) (some ((s : Int) + 1)) none = (lot.set s (some d)).map vO := by
  unfold cutV
  have e : ((s : Int) + 1) = ((s + 1 : Nat) : Int) := rfl
  rw [e, HT.sIx_none, HT.sIx_nat, HT.sIx_nat, HT.sIx_none, List.length_map, List.set_eq_take_append_cons_drop, if_pos h]
  rw [Nat.min_eq_left (by omega), Nat.min_eq_left (by omega), List.drop_zero, Nat.sub_zero, List.take_of_length_le (l := List.drop (s + 1) (lot.map vO)) (by rw [List.length_drop, List.length_map] <;> omega), List.map_append, List.map_cons, List.append_assoc, List.map_take, List.map_drop]
  rfl
theorem steps_has {ws : List (Int × Int)} {lot : List (Option Int)} : ∀ {l : List Nat} {h : Int} {w : Nat}, w ∈ l → ∃ q ∈ stepsF ws lot h l, q.1 = (w : Int)
  | j :: r, h, w, hw => by
    rcases List.mem_cons.mp hw with e | hw
    · rw [e]
      exact ⟨_, List.mem_cons_self .., rfl⟩
    · obtain ⟨q, hq, e⟩ := steps_has (ws := ws) (lot := lot) (h := (if (winAt ws j).1 > h then (winAt ws j).1 else h) + lenAt lot j) hw
      exact ⟨q, List.mem_cons_of_mem _ hq, e⟩
theorem Right.put {ws : List (Int × Int)} {row : List Nat} {lot : List (Option Int)} (R : Right ws row lot) {w : Nat} {d : Int} (hd : 0 ≤ d) (hw : w ∈ row) : Right ws row (lot.set w (some d)) := by
  refine ⟨R.lt, R.nd, by rw [List.length_set]; exact R.sz, fun n hn => ?_, fun j hj => ?_⟩
  · rcases List.mem_or_eq_of_mem_set hn with h | h
    · exact R.ge n h
    · cases h
      exact hd
  · by_cases e : w = j
    · rw [← e]
      exact hw
    · rw [List.getElem?_set_ne e] at hj
      exact R.isin j hj
/-! ### k14: what follows of runs -/
theorem shW_fst {ws : List (Int × Int)} {k : Int} {j : Nat} (h : j < ws.length) : fstAt (shW k ws) j = fstAt ws j + k := by
  unfold fstAt shW
  rw [winAt_map h]
theorem shW_lst {ws : List (Int × Int)} {k : Int} {j : Nat} (h : j < ws.length) : lstAt (shW k ws) j = lstAt ws j + k := by
  unfold lstAt shW
  rw [winAt_map h]
theorem alike_sh {ws : List (Int × Int)} {lot : List (Option Int)} {k : Int} {j : Nat} (h : j < ws.length) : Alike ws (shW k ws) lot lot id k j := ⟨shW_fst h, shW_lst h, rfl⟩
def plusT (n k : Int) (q : Int × Int × Int) : Int × Int × Int := (q.1 + n, q.2.1 + k, q.2.2 + k)
theorem mv_plus {ws : List (Int × Int)} {lot : List (Option Int)} {l : List Nat} {h : Int} {f : Nat → Nat} {n : Nat} {k : Int} (hf : ∀ j ∈ l, f j = j + n) : (stepsF ws lot h l).map (mvT f k) = (stepsF ws lot h l).map (plusT n k) := by
  refine List.map_congr_left fun q hq => ?_
  obtain ⟨j, hj, e⟩ := stepsF_mem hq
  have e1 : (((f q.1.toNat : Nat) : Int)) = q.1 + (n : Int) := by
    rw [e, Int.toNat_natCast, hf j hj]
    omega
  show ((((f q.1.toNat : Nat) : Int)), q.2.1 + k, q.2.2 + k) = (q.1 + (n : Int), q.2.1 + k, q.2.2 + k)
  rw [e1]
theorem stepsN_sh {ws : List (Int × Int)} {row : List Nat} {lot : List (Option Int)} {k : Int} (h1 : ∀ j ∈ row, j < ws.length) (h0 : ∀ j ∈ row, 0 ≤ fstAt ws j) (hk : 0 ≤ k) : stepsN (shW k ws) row lot = (stepsN ws row lot).map (plusT 0 k) := by
  unfold stepsN
  have sub : ∀ j ∈ comingN row lot, j ∈ row := fun j hj => (comingN_mem hj).1
  have m := mv_plus (ws := ws) (lot := lot) (l := comingN row lot) (h := 0) (f := id) (n := 0) (k := k) (fun j _ => rfl)
  have m' : (stepsF ws lot 0 (comingN row lot)).map (mvT id k) = (stepsF ws lot 0 (comingN row lot)).map (plusT 0 k) := m
  rw [← m']
  cases hc : comingN row lot with
  | nil => rfl
  | cons j r =>
    rw [hc] at sub
    have hj := h0 j (sub j (List.mem_cons_self ..))
    have key := steps_mv (f := id) (k := k) (ws := ws) (ws' := shW k ws) (lot := lot) (lot' := lot) (j :: r) 0 0 (.inr ⟨j, r, rfl, hj, by omega⟩) fun i hi => alike_sh (h1 i (sub i hi))
    rw [List.map_id] at key
    exact key
theorem late_plus {ws : List (Int × Int)} {lot : List (Option Int)} {k : Int} {l : List Nat} {h : Int} (h1 : ∀ j ∈ l, j < ws.length) : latesN (shW k ws) ((stepsF ws lot h l).map (plusT 0 k)) = latesN ws (stepsF ws lot h l) := by
  have m : (stepsF ws lot h l).map (mvT id k) = (stepsF ws lot h l).map (plusT 0 k) := mv_plus (n := 0) fun j _ => rfl
  rw [← m]
  exact late_mv (lot' := lot) fun j hj => alike_sh (h1 j hj)
theorem due_sh {ws : List (Int × Int)} {row : List Nat} {lot : List (Option Int)} {k : Int} (h1 : ∀ j ∈ row, j < ws.length) (h0 : ∀ j ∈ row, 0 ≤ fstAt ws j) (hk : 0 ≤ k) : dueN (shW k ws) row lot = dueN ws row lot := by
  unfold dueN
  rw [stepsN_sh h1 h0 hk]
  unfold stepsN
  rw [late_plus fun j hj => h1 j (comingN_mem hj).1]
theorem brk_sh' {ws : List (Int × Int)} {row : List Nat} {lot : List (Option Int)} {k : Int} (h1 : ∀ j ∈ row, j < ws.length) : brkF (shW k ws) lot (comingN row lot) = brkF ws lot (comingN row lot) :=
  brkF_sh _ (fun j hj => shW_fst (h1 j (comingN_mem hj).1)) fun j hj => shW_lst (h1 j (comingN_mem hj).1)
theorem begs_sh {ws : List (Int × Int)} {row : List Nat} {lot : List (Option Int)} {k : Int} {w : Nat} (h1 : ∀ j ∈ row, j < ws.length) (h0 : ∀ j ∈ row, 0 ≤ fstAt ws j) (hk : 0 ≤ k) : begsN (shW k ws) row lot w = (begsN ws row lot w).map (· + k) := by
  unfold begsN
  rw [stepsN_sh h1 h0 hk, List.filter_map, List.map_map, List.map_map]
  have e : ((fun q : Int × Int × Int => decide (q.1 = (w : Int))) ∘ plusT 0 k) = fun q => decide (q.1 = (w : Int)) := by
    funext q
    show decide (q.1 + 0 = (w : Int)) = _
    rw [Int.add_zero]
  rw [e]
  rfl
theorem begs_some {ws : List (Int × Int)} {row : List Nat} {lot : List (Option Int)} {w : Nat} (hw : w ∈ comingN row lot) : ∃ g r, begsN ws row lot w = g :: r := by
  have cb : comingN row (bareL lot w) = comingN row lot := comingN_bare (by
    obtain ⟨_, n, e⟩ := comingN_mem hw
    rw [e]
    simp)
  obtain ⟨q, hq, e⟩ := steps_has (ws := ws) (lot := bareL lot w) (h := 0) (w := w) (l := comingN row (bareL lot w)) (by rw [cb]; exact hw)
  have hq' : q.2.1 ∈ begsN ws row lot w := List.mem_map.mpr ⟨q, List.mem_filter.mpr ⟨hq, decide_eq_true e⟩, rfl⟩
  cases hh : begsN ws row lot w with
  | nil =>
    rw [hh] at hq'
    cases hq'
  | cons g r => exact ⟨g, r, rfl⟩
theorem room_sh {ws : List (Int × Int)} {row : List Nat} {lot : List (Option Int)} {k : Int} {w : Nat} (h1 : ∀ j ∈ row, j < ws.length) (h0 : ∀ j ∈ row, 0 ≤ fstAt ws j) (hk : 0 ≤ k) (hw : w ∈ comingN row lot) : roomN (shW k ws) row lot w = roomN ws row lot w := by
  obtain ⟨g, r, hg⟩ := begs_some (ws := ws) hw
  have hl := latest_sh (ws := ws) (ws' := shW k ws) (lot := lot) (k := k) hw fun j hj => shW_lst (h1 j (comingN_mem hj).1)
  unfold roomN
  have e : latestN ws lot (comingN row lot) w + k - (List.map (· + k) (g :: r)).headD 0 = latestN ws lot (comingN row lot) w - (g :: r).headD 0 := by
    show latestN ws lot (comingN row lot) w + k - (g + k) = latestN ws lot (comingN row lot) w - g
    omega
  rw [serves_due, serves_due, due_sh h1 h0 hk, begs_sh h1 h0 hk, hg, hl, e]
theorem lot_app1 {lot lot2 : List (Option Int)} {j : Nat} (h : j < lot.length) : (lot ++ lot2)[j]? = lot[j]? := List.getElem?_append_left h
theorem lot_app2 {lot lot2 : List (Option Int)} {j : Nat} : (lot ++ lot2)[j + lot.length]? = lot2[j]? := by
  rw [List.getElem?_append_right (by omega)]
  congr 1
  omega
theorem coming_twice {row : List Nat} {lot : List (Option Int)} (h1 : ∀ j ∈ row, j < lot.length) : comingN (row ++ row.map (· + lot.length)) (lot ++ lot) = comingN row lot ++ (comingN row lot).map (· + lot.length) := by
  rw [comingN_app]
  congr 1
  · unfold comingN
    refine List.filter_congr fun j hj => ?_
    rw [lot_app1 (h1 j hj)]
  · unfold comingN
    rw [List.filter_map]
    congr 1
    refine List.filter_congr fun j hj => ?_
    show (((lot ++ lot)[j + lot.length]?).getD none).isSome = _
    rw [lot_app2]
theorem steps_twice {ws : List (Int × Int)} {row : List Nat} {lot : List (Option Int)} {far M : Int} (R : Right ws row lot) (h0 : ∀ j ∈ row, 0 ≤ fstAt ws j) (hM : ∀ j ∈ row, fstAt ws j ≤ M) (hM0 : 0 ≤ M) (hf : M + (lot.filterMap id).sum ≤ far) :
    stepsN (ws ++ shW far ws) (row ++ row.map (· + lot.length)) (lot ++ lot) = stepsN ws row lot ++ (stepsN ws row lot).map (plusT lot.length far) := by
  have h1 : ∀ j ∈ row, j < lot.length := fun j hj => by
    rw [R.sz]
    exact R.lt j hj
  have sub : ∀ j ∈ comingN row lot, j ∈ row := fun j hj => (comingN_mem hj).1
  unfold stepsN
  rw [coming_twice h1, stepsF_app]
  have al1 : ∀ j ∈ comingN row lot, Alike ws (ws ++ shW far ws) lot (lot ++ lot) id 0 j := fun j hj => by
    have hj' := R.lt j (sub j hj)
    refine ⟨?_, ?_, ?_⟩
    · show (winAt (ws ++ shW far ws) j).1 = (winAt ws j).1 + 0
      rw [winAt_app hj', Int.add_zero]
    · show (winAt (ws ++ shW far ws) j).2 = (winAt ws j).2 + 0
      rw [winAt_app hj', Int.add_zero]
    · unfold lenAt
      show ((((lot ++ lot)[j]?).getD none).getD 0) = _
      rw [lot_app1 (h1 j (sub j hj))]
  have al2 : ∀ j ∈ comingN row lot, Alike ws (ws ++ shW far ws) lot (lot ++ lot) (· + lot.length) far j := fun j hj => by
    have hj' := R.lt j (sub j hj)
    have e : winAt (ws ++ shW far ws) (j + lot.length) = winAt (shW far ws) j := by
      rw [R.sz, Nat.add_comm]
      exact winAt_app2 j
    refine ⟨?_, ?_, ?_⟩
    · show (winAt (ws ++ shW far ws) (j + lot.length)).1 = fstAt ws j + far
      rw [e]
      exact shW_fst hj'
    · show (winAt (ws ++ shW far ws) (j + lot.length)).2 = lstAt ws j + far
      rw [e]
      exact shW_lst hj'
    · unfold lenAt
      show ((((lot ++ lot)[j + lot.length]?).getD none).getD 0) = _
      rw [lot_app2]
  have s1 : stepsF (ws ++ shW far ws) (lot ++ lot) 0 (comingN row lot) = stepsF ws lot 0 (comingN row lot) := by
    have key := steps_mv (comingN row lot) 0 0 (.inl rfl) al1
    rw [List.map_id] at key
    rw [key]
    have m : (stepsF ws lot 0 (comingN row lot)).map (mvT id 0) = (stepsF ws lot 0 (comingN row lot)).map (plusT 0 0) := mv_plus (n := 0) fun j _ => rfl
    rw [m]
    refine (List.map_congr_left fun q _ => ?_).trans (List.map_id _)
    show (q.1 + 0, q.2.1 + 0, q.2.2 + 0) = q
    rw [Int.add_zero, Int.add_zero, Int.add_zero]
  rw [s1]
  congr 1
  have m := mv_plus (ws := ws) (lot := lot) (l := comingN row lot) (h := 0) (f := (· + lot.length)) (n := lot.length) (k := far) fun j _ => rfl
  rw [← m]
  have eF : endF (ws ++ shW far ws) (lot ++ lot) 0 (comingN row lot) ≤ M + loadN (lot ++ lot) (comingN row lot) := endF_le _ _ hM0 (fun j hj => by
    have := (al1 j hj).fst
    have e : fstAt (ws ++ shW far ws) j = fstAt ws j := by
      rw [← Int.add_zero (fstAt ws j)]
      exact this
    rw [e]
    exact hM j (sub j hj)) fun j hj => by
    have := (al1 j hj).len
    have e : lenAt (lot ++ lot) j = lenAt lot j := this
    rw [e]
    exact R.len0 j
  have e3 : loadN (lot ++ lot) (comingN row lot) = loadN lot (comingN row lot) := by
    unfold loadN
    congr 1
    exact List.map_congr_left fun j hj => (al1 j hj).len
  have e4 : loadN lot (comingN row lot) ≤ loadN lot (List.range lot.length) := load_sub R.len0 (List.Pairwise.filter _ R.nd) fun j hj => List.mem_range.mpr (h1 j (sub j hj))
  rw [load_range] at e4
  rw [e3] at eF
  cases hc : comingN row lot with
  | nil => rfl
  | cons j r =>
    rw [hc] at al2 eF sub e4
    have hj := h0 j (sub j (List.mem_cons_self ..))
    exact steps_mv (j :: r) 0 _ (.inr ⟨j, r, rfl, hj, by omega⟩) al2
theorem serves_twice {ws : List (Int × Int)} {row : List Nat} {lot : List (Option Int)} {far : Int} (R : Right ws row lot) : servesB (ws ++ shW far ws) (stepsN ws row lot ++ (stepsN ws row lot).map (plusT lot.length far)) = servesB ws (stepsN ws row lot) := by
  have sub : ∀ j ∈ comingN row lot, j ∈ row := fun j hj => (comingN_mem hj).1
  unfold servesB
  rw [List.map_append, List.all_append]
  have a : (stepsN ws row lot).map (inTime (ws ++ shW far ws)) = (stepsN ws row lot).map (inTime ws) := by
    refine List.map_congr_left fun q hq => ?_
    obtain ⟨j, hj, e⟩ := stepsF_mem hq
    unfold inTime
    rw [e, Int.toNat_natCast, winAt_app (R.lt j (sub j hj))]
  have b : ((stepsN ws row lot).map (plusT lot.length far)).map (inTime (ws ++ shW far ws)) = (stepsN ws row lot).map (inTime ws) := by
    rw [List.map_map]
    refine List.map_congr_left fun q hq => ?_
    obtain ⟨j, hj, e⟩ := stepsF_mem hq
    have hj' := R.lt j (sub j hj)
    have e1 : (plusT lot.length far q).1.toNat = ws.length + j := by
      show (q.1 + (lot.length : Int)).toNat = _
      rw [e, R.sz]
      omega
    have e2 : (winAt (shW far ws) j).2 = (winAt ws j).2 + far := shW_lst hj'
    show decide ((q.2.2 + far) ≤ (winAt (ws ++ shW far ws) (plusT lot.length far q).1.toNat).2) = decide (q.2.2 ≤ (winAt ws q.1.toNat).2)
    rw [e1, winAt_app2, e2, e, Int.toNat_natCast]
    exact decide_eq_decide.mpr (by omega)
  rw [a, b, Bool.and_self]
theorem right_twice {ws : List (Int × Int)} {row : List Nat} {lot : List (Option Int)} {far : Int} (R : Right ws row lot) : Right (ws ++ shW far ws) (row ++ row.map (· + lot.length)) (lot ++ lot) := by
  refine ⟨fun j hj => ?_, ?_, by rw [List.length_append, List.length_append, shW_len, R.sz], fun m hm => ?_, fun j hj => ?_⟩
  · rw [List.length_append, shW_len]
    rcases List.mem_append.mp hj with hj | hj
    · have := R.lt j hj
      omega
    · obtain ⟨i, hi, rfl⟩ := List.mem_map.mp hj
      have := R.lt i hi
      have := R.sz
      omega
  · rw [List.nodup_append]
    refine ⟨R.nd, List.pairwise_map.mpr (R.nd.imp fun h e => h (by omega)), fun a ha b hb e => ?_⟩
    obtain ⟨i, hi, rfl⟩ := List.mem_map.mp hb
    have := R.lt a ha
    have := R.sz
    omega
  · rcases List.mem_append.mp hm with hm | hm <;> exact R.ge m hm
  · by_cases h : j < lot.length
    · rw [lot_app1 h] at hj
      exact List.mem_append_left _ (R.isin j hj)
    · obtain ⟨i, rfl⟩ : ∃ i, j = i + lot.length := ⟨j - lot.length, by omega⟩
      rw [lot_app2] at hj
      exact List.mem_append_right _ (List.mem_map_of_mem (R.isin i hj))
/-! ### a part with its works renumbered -/
def lotAt (lot : List (Option Int)) (j : Nat) : Option Int := (lot[j]?).getD none
theorem part_win {ws : List (Int × Int)} {grp : List Nat} {j : Nat} (hj : j ∈ grp) : winAt (partW ws grp) (grp.idxOf j) = winAt ws j := by
  have h := List.idxOf_lt_length_iff.mpr hj
  unfold winAt partW
  rw [List.getD_eq_getElem?_getD, List.getElem?_map, List.getElem?_eq_getElem h, List.getElem_idxOf h]
  rfl
theorem part_lot {lot : List (Option Int)} {grp : List Nat} {j : Nat} (hj : j ∈ grp) : ((grp.map (lotAt lot))[grp.idxOf j]?).getD none = lotAt lot j := by
  have h := List.idxOf_lt_length_iff.mpr hj
  rw [List.getElem?_map, List.getElem?_eq_getElem h, List.getElem_idxOf h]
  rfl
theorem steps_part {ws : List (Int × Int)} {row grp : List Nat} {lot : List (Option Int)} (hs : ∀ j ∈ row, j ∈ grp) : stepsN (partW ws grp) (row.map grp.idxOf) (grp.map (lotAt lot)) = (stepsN ws row lot).map fun q => (((grp.idxOf q.1.toNat : Nat) : Int), q.2.1, q.2.2) := by
  have c : comingN (row.map grp.idxOf) (grp.map (lotAt lot)) = (comingN row lot).map grp.idxOf := by
    unfold comingN
    rw [List.filter_map]
    congr 1
    refine List.filter_congr fun j hj => ?_
    show (((grp.map (lotAt lot))[grp.idxOf j]?).getD none).isSome = _
    rw [part_lot (hs j hj)]
    rfl
  unfold stepsN
  rw [c]
  have key := steps_mv (ws := ws) (ws' := partW ws grp) (lot := lot) (lot' := grp.map (lotAt lot)) (f := grp.idxOf) (k := 0) (comingN row lot) 0 0 (.inl rfl) fun j hj => by
    have hj' := hs j (comingN_mem hj).1
    refine ⟨?_, ?_, ?_⟩
    · show (winAt (partW ws grp) (grp.idxOf j)).1 = (winAt ws j).1 + 0
      rw [part_win hj', Int.add_zero]
    · show (winAt (partW ws grp) (grp.idxOf j)).2 = (winAt ws j).2 + 0
      rw [part_win hj', Int.add_zero]
    · unfold lenAt
      rw [part_lot hj']
      rfl
  rw [key]
  refine List.map_congr_left fun q _ => ?_
  show ((((grp.idxOf q.1.toNat : Nat) : Int)), q.2.1 + 0, q.2.2 + 0) = _
  rw [Int.add_zero, Int.add_zero]
theorem right_part {ws : List (Int × Int)} {row grp : List Nat} {lot : List (Option Int)} (R : Right ws row lot) (hp : grp.Perm row) : Right (partW ws grp) (row.map grp.idxOf) (grp.map (lotAt lot)) := by
  have gnd : grp.Nodup := hp.nodup_iff.mpr R.nd
  refine ⟨fun j hj => ?_, ?_, by unfold partW; rw [List.length_map, List.length_map], fun m hm => ?_, fun j hj => ?_⟩
  · obtain ⟨i, hi, rfl⟩ := List.mem_map.mp hj
    unfold partW
    rw [List.length_map]
    exact List.idxOf_lt_length_iff.mpr (hp.mem_iff.mpr hi)
  · refine List.pairwise_map.mpr (R.nd.imp_of_mem fun {a b} ha hb h e => h ?_)
    have h1 := List.idxOf_lt_length_iff.mpr (hp.mem_iff.mpr ha)
    have h2 := List.idxOf_lt_length_iff.mpr (hp.mem_iff.mpr hb)
    have g1 := List.getElem_idxOf h1
    have g2 := List.getElem_idxOf h2
    rw [← g1, ← g2]
    congr 1
  · obtain ⟨i, hi, e⟩ := List.mem_map.mp hm
    unfold lotAt at e
    cases hh : lot[i]? with
    | none =>
      rw [hh] at e
      cases e
    | some o =>
      rw [hh] at e
      cases e
      exact R.ge m (List.mem_of_getElem? hh)
  · by_cases h : j < grp.length
    · refine List.mem_map.mpr ⟨grp[j], hp.mem_iff.mp (List.getElem_mem h), ?_⟩
      exact List.Nodup.idxOf_getElem gnd j h
    · rw [List.getElem?_eq_none (by rw [List.length_map]; omega)] at hj
      exact absurd rfl hj
theorem TrisAt.append {K : PySem.W.Frag} {H : Hp} {as bs : List Addr} {ts us : List (Int × Int × Int)} (h : TrisAt K H as ts) (g : TrisAt K H bs us) : TrisAt K H (as ++ bs) (ts ++ us) := by
  obtain ⟨h2, h3⟩ := h
  obtain ⟨g2, g3⟩ := g
  refine ⟨by rw [List.length_append, List.length_append, h2, g2], fun i a q x y => ?_⟩
  by_cases hi : i < as.length
  · rw [List.getElem?_append_left hi] at x
    rw [List.getElem?_append_left (by omega)] at y
    exact h3 i a q x y
  · rw [List.getElem?_append_right (by omega)] at x
    rw [List.getElem?_append_right (by omega)] at y
    rw [h2] at x
    exact g3 _ a q x y
theorem to_nats {ms : List Int} {row : List Nat} (hp : ms.Perm (row.map fun j => ((j : Nat) : Int))) : ∃ grp : List Nat, ms = grp.map (fun j => ((j : Nat) : Int)) ∧ grp.Perm row := by
  refine ⟨ms.map Int.toNat, ?_, ?_⟩
  · rw [List.map_map]
    refine ((List.map_congr_left fun z hz => ?_).trans (List.map_id _)).symm
    obtain ⟨j, _, e⟩ := List.mem_map.mp (hp.mem_iff.mp hz)
    show ((z.toNat : Nat) : Int) = z
    rw [← e, Int.toNat_natCast]
  · have := hp.map Int.toNat
    rw [List.map_map] at this
    have e : (row.map (Int.toNat ∘ fun j => ((j : Nat) : Int))) = row := by
      refine (List.map_congr_left fun j _ => ?_).trans (List.map_id _)
      exact Int.toNat_natCast j
    rw [e] at this
    exact this
/-! ### the greatest length of a work -/
section
variable {ws : List (Int × Int)} {lot lot' : List (Option Int)}
/-- all in time, from this hour on -/
def okF (ws : List (Int × Int)) (lot : List (Option Int)) : Int → List Nat → Bool
  | _, [] => true
  | h, j :: r => decide ((if fstAt ws j > h then fstAt ws j else h) + lenAt lot j ≤ lstAt ws j) && okF ws lot ((if fstAt ws j > h then fstAt ws j else h) + lenAt lot j) r
theorem okF_cons {h : Int} {j : Nat} {r : List Nat} : okF ws lot h (j :: r) = true ↔ (if fstAt ws j > h then fstAt ws j else h) + lenAt lot j ≤ lstAt ws j ∧ okF ws lot ((if fstAt ws j > h then fstAt ws j else h) + lenAt lot j) r = true := by
  show (decide _ && _) = true ↔ _
  rw [Bool.and_eq_true, decide_eq_true_iff]
theorem serves_ok : ∀ (l : List Nat) (h : Int), servesB ws (stepsF ws lot h l) = okF ws lot h l
  | [], _ => rfl
  | j :: r, h => by
    have ih := serves_ok r ((if fstAt ws j > h then fstAt ws j else h) + lenAt lot j)
    show (decide _ && servesB ws (stepsF ws lot ((if fstAt ws j > h then fstAt ws j else h) + lenAt lot j) r)) = _
    rw [ih]
    rfl
theorem okF_app : ∀ (l m : List Nat) (h : Int), okF ws lot h (l ++ m) = (okF ws lot h l && okF ws lot (endF ws lot h l) m)
  | [], _, _ => rfl
  | j :: r, m, h => by
    have ih := okF_app r m ((if fstAt ws j > h then fstAt ws j else h) + lenAt lot j)
    show (decide _ && okF ws lot ((if fstAt ws j > h then fstAt ws j else h) + lenAt lot j) (r ++ m)) = ((decide _ && okF ws lot ((if fstAt ws j > h then fstAt ws j else h) + lenAt lot j) r) && okF ws lot (endF ws lot ((if fstAt ws j > h then fstAt ws j else h) + lenAt lot j) r) m)
    rw [ih, Bool.and_assoc]
theorem okF_congr : ∀ (l : List Nat) (h : Int), (∀ j ∈ l, lenAt lot' j = lenAt lot j) → okF ws lot' h l = okF ws lot h l
  | [], _, _ => rfl
  | j :: r, h, e => by
    have e0 := e j (List.mem_cons_self ..)
    have ih := okF_congr r ((if fstAt ws j > h then fstAt ws j else h) + lenAt lot j) fun i hi => e i (List.mem_cons_of_mem _ hi)
    show (decide (_ + lenAt lot' j ≤ _) && okF ws lot' (_ + lenAt lot' j) r) = (decide _ && okF ws lot ((if fstAt ws j > h then fstAt ws j else h) + lenAt lot j) r)
    rw [e0, ih]
theorem endF_congr : ∀ (l : List Nat) (h : Int), (∀ j ∈ l, lenAt lot' j = lenAt lot j) → endF ws lot' h l = endF ws lot h l
  | [], _, _ => rfl
  | j :: r, h, e => by
    have e0 := e j (List.mem_cons_self ..)
    have ih := endF_congr r ((if fstAt ws j > h then fstAt ws j else h) + lenAt lot j) fun i hi => e i (List.mem_cons_of_mem _ hi)
    show endF ws lot' ((if fstAt ws j > h then fstAt ws j else h) + lenAt lot' j) r = endF ws lot ((if fstAt ws j > h then fstAt ws j else h) + lenAt lot j) r
    rw [e0, ih]
theorem ok_mono : ∀ (l : List Nat) (t0 t : Int), t0 ≤ t → okF ws lot t l = true → okF ws lot t0 l = true
  | [], _, _, _, _ => rfl
  | j :: r, t0, t, ht, h => by
    obtain ⟨h1, h2⟩ := okF_cons.mp h
    have le : (if fstAt ws j > t0 then fstAt ws j else t0) + lenAt lot j ≤ (if fstAt ws j > t then fstAt ws j else t) + lenAt lot j := by
      split <;> split <;> omega
    exact okF_cons.mpr ⟨Int.le_trans le h1, ok_mono r _ _ le h2⟩
/-- the hour by which the first of these must begin -/
def needF (ws : List (Int × Int)) (lot : List (Option Int)) (T : Int) : List Nat → Int
  | [] => T
  | j :: r => (if lstAt ws j < needF ws lot T r then lstAt ws j else needF ws lot T r) - lenAt lot j
theorem back_need {T : Int} : ∀ l : List Nat, backF ws lot T l.reverse = needF ws lot T l
  | [] => rfl
  | j :: r => by
    have ih := back_need (T := T) r
    unfold backF at ih ⊢
    rw [List.reverse_cons, List.foldl_append, ih]
    rfl
theorem need_congr {T : Int} : ∀ l : List Nat, (∀ j ∈ l, lenAt lot' j = lenAt lot j) → needF ws lot' T l = needF ws lot T l
  | [], _ => rfl
  | j :: r, e => by
    have e0 := e j (List.mem_cons_self ..)
    have ih := need_congr (T := T) r fun i hi => e i (List.mem_cons_of_mem _ hi)
    show (if lstAt ws j < needF ws lot' T r then lstAt ws j else needF ws lot' T r) - lenAt lot' j = (if lstAt ws j < needF ws lot T r then lstAt ws j else needF ws lot T r) - lenAt lot j
    rw [e0, ih]
theorem ok_need : ∀ (r : List Nat) (j : Nat) (t0 t : Int), okF ws lot t0 (j :: r) = true → t0 ≤ t → (okF ws lot t (j :: r) = true ↔ t ≤ needF ws lot (lstAt ws ((j :: r).getLast?.getD 0)) (j :: r))
  | [], j, t0, t, h, ht => by
    obtain ⟨h1, _⟩ := okF_cons.mp h
    rw [okF_cons]
    show _ ∧ true = true ↔ t ≤ (if lstAt ws j < lstAt ws j then lstAt ws j else lstAt ws j) - lenAt lot j
    rw [if_neg (Int.lt_irrefl _)]
    revert h1
    split <;> split <;> intro h1 <;> constructor <;> intro h2 <;> first | omega | exact ⟨by omega, rfl⟩
  | k :: r, j, t0, t, h, ht => by
    obtain ⟨h1, h2⟩ := okF_cons.mp h
    have e : (j :: k :: r).getLast? = (k :: r).getLast? := List.getLast?_cons_cons
    have le : (if fstAt ws j > t0 then fstAt ws j else t0) + lenAt lot j ≤ (if fstAt ws j > t then fstAt ws j else t) + lenAt lot j := by
      split <;> split <;> omega
    have i0 := (ok_need r k _ _ h2 (Int.le_refl _)).mp h2
    have i1 := ok_need r k _ _ h2 le
    rw [okF_cons, i1, e]
    show _ ∧ _ ↔ t ≤ (if lstAt ws j < needF ws lot (lstAt ws ((k :: r).getLast?.getD 0)) (k :: r) then lstAt ws j else needF ws lot (lstAt ws ((k :: r).getLast?.getD 0)) (k :: r)) - lenAt lot j
    generalize needF ws lot (lstAt ws ((k :: r).getLast?.getD 0)) (k :: r) = N at i0 ⊢
    clear i1 le e h2 h
    revert h1 i0
    split <;> split <;> split <;> intro h1 i0 <;> constructor <;> intro h2 <;> first | omega | exact ⟨by omega, by omega⟩
end
theorem mid_of {l : List Nat} {w : Nat} (nd : l.Nodup) (hw : w ∈ l) : ∃ pre suf, l = pre ++ w :: suf ∧ w ∉ pre ∧ w ∉ suf := by
  obtain ⟨pre, suf, rfl⟩ := List.append_of_mem hw
  obtain ⟨_, n2, n3⟩ := List.nodup_append.mp nd
  exact ⟨pre, suf, rfl, fun h => n3 w h w (List.mem_cons_self ..) rfl, (List.nodup_cons.mp n2).1⟩
theorem idx_mid {w : Nat} {suf : List Nat} : ∀ pre : List Nat, w ∉ pre → (pre ++ w :: suf).drop ((pre ++ w :: suf).idxOf w + 1) = suf
  | [], _ => by
    show (w :: suf).drop ((w :: suf).idxOf w + 1) = suf
    rw [List.idxOf_cons_self] <;> rfl
  | j :: r, h => by
    have ih := idx_mid (suf := suf) r fun z => h (List.mem_cons_of_mem _ z)
    have ne : j ≠ w := fun e => h (by rw [e]; exact List.mem_cons_self ..)
    show (j :: (r ++ w :: suf)).drop ((j :: (r ++ w :: suf)).idxOf w + 1) = suf
    have nb : (j == w) = false := beq_eq_false_iff_ne.mpr ne
    rw [List.idxOf_cons, nb]
    exact ih
theorem last_mid {w : Nat} {suf pre : List Nat} : (pre ++ w :: suf).getLast? = (w :: suf).getLast? := by
  rw [List.getLast?_append]
  cases h : (w :: suf).getLast? with
  | none => exact absurd (List.getLast?_eq_none_iff.mp h) (by simp)
  | some b => rfl
section
variable {ws : List (Int × Int)} {lot : List (Option Int)} {row pre suf : List Nat} {w : Nat} {d : Int}
theorem len_put_self (hw : w < lot.length) : lenAt (lot.set w (some d)) w = d := by
  unfold lenAt
  rw [List.getElem?_set_self hw]
  rfl
theorem len_put_ne {j : Nat} (h : j ≠ w) : lenAt (lot.set w (some d)) j = lenAt lot j := by
  unfold lenAt
  rw [List.getElem?_set_ne h.symm]
theorem lot_self {n : Int} (h : (lot[w]?).getD none = some n) : lot.set w (some n) = lot := by
  refine List.ext_getElem? fun j => ?_
  by_cases e : w = j
  · subst e
    cases hh : lot[w]? with
    | none =>
      rw [hh] at h
      cases h
    | some o =>
      rw [hh] at h
      have e0 : o = some n := h
      rw [List.getElem?_set_self (List.getElem?_eq_some_iff.mp hh).1, e0]
  · rw [List.getElem?_set_ne e]
theorem bare_put : bareL (lot.set w (some d)) w = bareL lot w := List.set_set ..
theorem there_put (hw : w < lot.length) : ((lot.set w (some d))[w]?).getD none ≠ none := by
  rw [List.getElem?_set_self hw]
  show some d ≠ none
  simp
theorem coming_put (h : (lot[w]?).getD none ≠ none) (hw : w < lot.length) : comingN row (lot.set w (some d)) = comingN row lot := by
  rw [← comingN_bare (lot := lot.set w (some d)) (w := w) (there_put hw), bare_put, comingN_bare h]
theorem latest_need (hl : w < lot.length) (h1 : w ∉ pre) (h2 : w ∉ suf) : latestN ws lot (pre ++ w :: suf) w = needF ws (bareL lot w) (lstAt ws ((w :: suf).getLast?.getD 0)) (w :: suf) := by
  unfold latestN
  rw [idx_mid pre h1, last_mid, back_need]
  show _ = (if lstAt ws w < needF ws (bareL lot w) _ suf then lstAt ws w else needF ws (bareL lot w) _ suf) - lenAt (bareL lot w) w
  have e : lenAt (bareL lot w) w = 0 := len_put_self hl
  rw [need_congr (lot := lot) (lot' := bareL lot w) suf fun j hj => len_put_ne fun e => h2 (by rw [← e]; exact hj), e, Int.sub_zero]
theorem begs_head (e : comingN row (bareL lot w) = pre ++ w :: suf) (h1 : w ∉ pre) : (begsN ws row lot w).headD 0 = (if fstAt ws w > endF ws (bareL lot w) 0 pre then fstAt ws w else endF ws (bareL lot w) 0 pre) := by
  unfold begsN stepsN
  rw [e, stepsF_app, List.filter_append]
  have n0 : (stepsF ws (bareL lot w) 0 pre).filter (fun q => decide (q.1 = (w : Int))) = [] := by
    refine List.filter_eq_nil_iff.mpr fun q hq => ?_
    obtain ⟨j, hj, ej⟩ := stepsF_mem hq
    intro z
    have z' := of_decide_eq_true z
    rw [ej] at z'
    have : j = w := by omega
    exact h1 (by rw [← this]; exact hj)
  rw [n0, List.nil_append]
  show (((((w : Nat) : Int), (if fstAt ws w > endF ws (bareL lot w) 0 pre then fstAt ws w else endF ws (bareL lot w) 0 pre), _) :: stepsF ws (bareL lot w) _ suf).filter _ |>.map _).headD 0 = _
  rw [List.filter_cons_of_pos (by exact decide_eq_true rfl)]
  rfl
theorem room_own (R : Right ws row lot) (hw : w ∈ comingN row lot) : roomN ws row (lot.set w (some d)) w = roomN ws row lot w := by
  obtain ⟨hr, n, hn⟩ := comingN_mem hw
  have hl : w < lot.length := by rw [R.sz]; exact R.lt w hr
  obtain ⟨pre, suf, e, h1, h2⟩ := mid_of (l := comingN row lot) (List.Pairwise.filter _ R.nd) hw
  have ec : comingN row (lot.set w (some d)) = comingN row lot := coming_put (by rw [hn]; simp) hl
  unfold roomN begsN
  rw [bare_put, ec, e, latest_need (lot := lot.set w (some d)) (by rw [List.length_set]; exact hl) h1 h2, latest_need hl h1 h2, bare_put]
/-- what the room says -/
def RoomIs (ws : List (Int × Int)) (row : List Nat) (lot : List (Option Int)) (w : Nat) : Option Int → Prop
  | none => ∀ d : Int, 0 ≤ d → servesB ws (stepsN ws row (lot.set w (some d))) = false
  | some r => 0 ≤ r ∧ ∀ d : Int, 0 ≤ d → servesB ws (stepsN ws row (lot.set w (some d))) = decide (d ≤ r)
theorem room_is (R : Right ws row lot) (hw : w ∈ comingN row lot) : RoomIs ws row lot w (roomN ws row lot w) := by
  obtain ⟨hr, n, hn⟩ := comingN_mem hw
  have hl : w < lot.length := by rw [R.sz]; exact R.lt w hr
  have hn' : (lot[w]?).getD none ≠ none := by rw [hn]; simp
  obtain ⟨pre, suf, e, h1, h2⟩ := mid_of (l := comingN row lot) (List.Pairwise.filter _ R.nd) hw
  have eb : comingN row (bareL lot w) = pre ++ w :: suf := (comingN_bare hn').trans e
  have l0 : lenAt (bareL lot w) w = 0 := len_put_self hl
  have pe : ∀ d : Int, ∀ j ∈ pre, lenAt (lot.set w (some d)) j = lenAt (bareL lot w) j := fun d j hj => by
    have ne : j ≠ w := fun z => h1 (by rw [← z]; exact hj)
    rw [len_put_ne ne]
    exact (len_put_ne ne).symm
  have se : ∀ d : Int, ∀ j ∈ suf, lenAt (lot.set w (some d)) j = lenAt (bareL lot w) j := fun d j hj => by
    have ne : j ≠ w := fun z => h2 (by rw [← z]; exact hj)
    rw [len_put_ne ne]
    exact (len_put_ne ne).symm
  obtain ⟨b, hb⟩ : ∃ b, b = (if fstAt ws w > endF ws (bareL lot w) 0 pre then fstAt ws w else endF ws (bareL lot w) 0 pre) := ⟨_, rfl⟩
  have hbf : fstAt ws w ≤ b := by rw [hb]; split <;> omega
  have key : ∀ d : Int, servesB ws (stepsN ws row (lot.set w (some d))) = (okF ws (bareL lot w) 0 pre && (decide (b + d ≤ lstAt ws w) && okF ws (bareL lot w) (b + d) suf)) := fun d => by
    unfold stepsN
    rw [coming_put hn' hl, e, serves_ok, okF_app, okF_congr pre 0 (pe d), endF_congr pre 0 (pe d)]
    show (_ && (decide ((if fstAt ws w > endF ws (bareL lot w) 0 pre then fstAt ws w else endF ws (bareL lot w) 0 pre) + lenAt (lot.set w (some d)) w ≤ lstAt ws w) && okF ws (lot.set w (some d)) ((if fstAt ws w > endF ws (bareL lot w) 0 pre then fstAt ws w else endF ws (bareL lot w) 0 pre) + lenAt (lot.set w (some d)) w) suf)) = _
    rw [len_put_self hl, ← hb, okF_congr suf _ (se d)]
  have bareOk : ∀ d : Int, 0 ≤ d → (okF ws (bareL lot w) (b + d) (w :: suf) = true ↔ b + d ≤ lstAt ws w ∧ okF ws (bareL lot w) (b + d) suf = true) := fun d hd => by
    rw [okF_cons, l0, if_neg (by omega), Int.add_zero]
  have keyB : ∀ d : Int, 0 ≤ d → (servesB ws (stepsN ws row (lot.set w (some d))) = true ↔ okF ws (bareL lot w) 0 pre = true ∧ okF ws (bareL lot w) (b + d) (w :: suf) = true) := fun d hd => by
    rw [key d, bareOk d hd, Bool.and_eq_true, Bool.and_eq_true, decide_eq_true_iff]
  have k0 := keyB 0 (Int.le_refl 0)
  rw [Int.add_zero] at k0
  have hsb : servesB ws (stepsN ws row (bareL lot w)) = servesB ws (stepsN ws row (lot.set w (some 0))) := rfl
  unfold roomN
  cases hs : servesB ws (stepsN ws row (bareL lot w)) with
  | false =>
    rw [if_neg Bool.false_ne_true]
    intro d hd
    cases hh : servesB ws (stepsN ws row (lot.set w (some d))) with
    | false => rfl
    | true =>
      obtain ⟨a1, a2⟩ := (keyB d hd).mp hh
      have := k0.mpr ⟨a1, ok_mono _ _ _ (by omega) a2⟩
      rw [hsb, this] at hs
      cases hs
  | true =>
    rw [if_pos rfl]
    obtain ⟨a1, a2⟩ := k0.mp (by rw [← hsb]; exact hs)
    have nd : ∀ d : Int, 0 ≤ d → _ := fun d hd => ok_need (ws := ws) (lot := bareL lot w) suf w b (b + d) a2 (by omega)
    have e1 : latestN ws lot (comingN row lot) w - (begsN ws row lot w).headD 0 = needF ws (bareL lot w) (lstAt ws ((w :: suf).getLast?.getD 0)) (w :: suf) - b := by
      rw [e, latest_need hl h1 h2, begs_head eb h1, ← hb]
    rw [e1]
    generalize needF ws (bareL lot w) (lstAt ws ((w :: suf).getLast?.getD 0)) (w :: suf) = N at nd
    refine ⟨?_, fun d hd => ?_⟩
    · have := (nd 0 (Int.le_refl 0)).mp (by rw [Int.add_zero]; exact a2)
      omega
    · rw [Bool.eq_iff_iff, keyB d hd, nd d hd, decide_eq_true_iff]
      constructor
      · rintro ⟨_, h⟩
        omega
      · intro h
        exact ⟨a1, by omega⟩
end
/-! ### what raises: the def's word -/
structure BadRun (K : PySem.W.Frag) (A : Ad) (H : Hp) (x y z : V) (PR PL : Hp → Prop) : Prop where
  ex : ∃ (b w : Addr) (ws : List (Int × Int)) (r l : Da), x = .ref b ∧ BookAt A.C_Book H b w ∧ WinAt K H w ws ∧ Rp K H y r ∧ Rp K H z l ∧ smallD r ∧ smallD l ∧ runD ws.length r l ≠ 0 ∧
    (runD ws.length r l = 1 → ∀ H', Ex H H' → PR H') ∧ (runD ws.length r l = 2 → ∀ H', Ex H H' → PL H')
theorem BadRun.imp {K : PySem.W.Frag} {A : Ad} {H : Hp} {x y z : V} {PR PL PR' PL' : Hp → Prop} (h : BadRun K A H x y z PR PL) (f : ∀ H', PR H' → PR' H') (g : ∀ H', PL H' → PL' H') : BadRun K A H x y z PR' PL' := by
  obtain ⟨b, w, ws, r, l, h1, h2, h3, h4, h5, h6, h7, h8, h9, h10⟩ := h.ex
  exact ⟨b, w, ws, r, l, h1, h2, h3, h4, h5, h6, h7, h8, fun q H' e => f _ (h9 q H' e), fun q H' e => g _ (h10 q H' e)⟩
abbrev sp_runB (K : PySem.W.Frag) (A : Ad) : Sp := fun vs H Q E => Sp3 vs fun x y z => BadRun K A H x y z (E (.ref A.C_NoRow) none) (E (.ref A.C_NoLot) none) ∨ RunOn K A H x y z fun ws row lot => Right ws row lot ∧ ∀ (l : Addr) (as : List Addr) (H' : Hp), H l = none → Ex H H' → H' l = some (.tup (as.map V.ref)) → TrisAt K H' as (stepsN ws row lot) → Q (.ref l) H'
abbrev sp_servesB (K : PySem.W.Frag) (A : Ad) : Sp := fun vs H Q E => Sp3 vs fun x y z => BadRun K A H x y z (E (.ref A.C_NoRow) none) (E (.ref A.C_NoLot) none) ∨ RunOn K A H x y z fun ws row lot => Right ws row lot ∧ ∀ H', Ex H H' → Q (.bl (servesB ws (stepsN ws row lot))) H'
abbrev sp_latenessB (K : PySem.W.Frag) (A : Ad) : Sp := fun vs H Q E => Sp3 vs fun x y z => BadRun K A H x y z (E (.ref A.C_NoRow) none) (E (.ref A.C_NoLot) none) ∨ RunOn K A H x y z fun ws row lot => Right ws row lot ∧ ∀ H', Ex H H' → Q (vO (maxL (latesN ws (stepsN ws row lot)))) H'
abbrev sp_brokenB (K : PySem.W.Frag) (A : Ad) : Sp := fun vs H Q E => Sp3 vs fun x y z => BadRun K A H x y z (E (.ref A.C_NoRow) none) (E (.ref A.C_NoLot) none) ∨ RunOn K A H x y z fun ws row lot => Right ws row lot ∧ ∀ (l : Addr) (ys : List V) (H' : Hp), H l = none → Ex H H' → H' l = some (.lst ys) → ys.length ≤ 1000000 → BrkAt H' ys (brkF ws lot (comingN row lot)) → Q (.ref l) H'
abbrev sp_is_broken (K : PySem.W.Frag) (A : Ad) : Sp := fun vs H Q E => Sp4 vs fun x y z u => BadRun K A H x y z (E (.ref A.C_NoRow) none) (E (.ref A.C_NoLot) none) ∨ ∃ d : Da, Rp K H u d ∧ pairD d = false ∧ RunOn K A H x y z fun ws row lot => Right ws row lot ∧ ∀ H', Ex H H' → Q (.bl false) H'
/-- no work that is there -/
def BadWork (ws : List (Int × Int)) (lot : List (Option Int)) (d : Da) : Prop := workD ws.length d = false ∨ ∃ w : Nat, d = .int (w : Int) ∧ w < ws.length ∧ (lot[w]?).getD none = none
abbrev sp_roomB (K : PySem.W.Frag) (A : Ad) : Sp := fun vs H Q E => Sp4 vs fun x y z u => BadRun K A H x y z (E (.ref A.C_NoRow) none) (E (.ref A.C_NoLot) none) ∨ (∃ d : Da, Rp K H u d ∧ RunOn K A H x y z fun ws row lot => Right ws row lot ∧ BadWork ws lot d ∧ ∀ H', Ex H H' → E (.ref A.C_NoWork) none H') ∨
  ∃ w : Nat, u = .int (w : Int) ∧ RunOn K A H x y z fun ws row lot => Right ws row lot ∧ w ∈ comingN row lot ∧ ∀ H', Ex H H' → Q (vO (roomN ws row lot w)) H'
structure Sp5 (vs : List V) (P : V → V → V → V → V → Prop) : Prop where
  ex : ∃ k x y z u, vs = [k, x, y, z, u] ∧ P k x y z u
theorem Sp5.len {vs : List V} {P : V → V → V → V → V → Prop} (h : Sp5 vs P) : vs.length = 5 := by
  obtain ⟨k, x, y, z, u, rfl, _⟩ := h.ex
  rfl
abbrev sp_l_told12 (K : PySem.W.Frag) (A : Ad) : Sp := fun vs H Q _ => Sp5 vs fun k x y z u => ∃ (n : Int) (d : Da), k = .int n ∧ 0 ≤ n ∧ n ≤ 5 ∧ Rp K H u d ∧ pairD d = false ∧ (BadRun K A H x y z (Q (.str "row")) (Q (.str "lot")) ∨
  RunOn K A H x y z fun ws row lot => Right ws row lot ∧ ((∃ w : Nat, d = .int (w : Int) ∧ w ∈ comingN row lot ∧ ∀ H', Ex H H' → Q (.str "let") H') ∨ (BadWork ws lot d ∧ ∀ H', Ex H H' → Q (.str (if n = 5 then "work" else "let")) H')))
abbrev sp_l_is_late (K : PySem.W.Frag) (A : Ad) : Sp := fun vs H Q _ => Sp3 vs fun x y z => ∃ (w a c : Addr) (ws : List (Int × Int)) (row : List Nat) (lot : List (Option Int)), x = .ref w ∧ y = .ref a ∧ z = .ref c ∧ WinAt K H w ws ∧ SqT K H a (row.map vNat) ∧ SqT K H c (lot.map vO) ∧
  (∀ j ∈ row, j < ws.length) ∧ lot.length = ws.length ∧ row.length ≤ 1000 ∧ ∀ H', Ex H H' → Q (.bl (!servesB ws (stepsN ws row lot))) H'
abbrev sp_l_with (K : PySem.W.Frag) (A : Ad) : Sp := fun vs H Q _ => Sp3 vs fun x y z => ∃ (c : Addr) (lot : List (Option Int)) (w : Nat) (d : Int), x = .ref c ∧ y = .int (w : Int) ∧ z = .int d ∧ SqT K H c (lot.map vO) ∧ w < lot.length ∧ lot.length ≤ 900 ∧
  ∀ (r : Addr) (H' : Hp), Ex H H' → SqT K H' r ((lot.set w (some d)).map vO) → Q (.ref r) H'
/-! ### what stays told through draws -/
def RpS (K : PySem.W.Frag) (p c : Addr) (H : Hp) (v : V) (d : Da) : Prop := ∀ H', Kept p c H H' → Rp K H' v d
inductive RpAllS (K : PySem.W.Frag) (p c : Addr) (H : Hp) : List V → List Da → Prop
  | nil : RpAllS K p c H [] []
  | cons {v : V} {d : Da} {vs : List V} {ds : List Da} : RpS K p c H v d → RpAllS K p c H vs ds → RpAllS K p c H (v :: vs) (d :: ds)
section
variable {K : PySem.W.Frag} {p c : Addr} {H H1 : Hp}
theorem RpS.kept {v : V} {d : Da} (h : RpS K p c H v d) (k : Kept p c H H1) : RpS K p c H1 v d := fun H' k' => h H' (k.trans k')
theorem RpS.now {v : V} {d : Da} (h : RpS K p c H v d) : Rp K H v d := h H (Kept.refl p c H)
theorem RpS.non : RpS K p c H .non .non := fun _ _ => .non
theorem RpS.bl (b : Bool) : RpS K p c H (.bl b) (.bl b) := fun _ _ => .bl b
theorem RpS.int (i : Int) : RpS K p c H (.int i) (.int i) := fun _ _ => .int i
theorem RpS.str (x : Str) : RpS K p c H (.str x) (.str x) := fun _ _ => .str x
theorem RpS.lst {a : Addr} {xs : List V} (h : H a = some (.lst xs)) (h1 : a ≠ p) (h2 : a ≠ c) : RpS K p c H (.ref a) .lst := fun _ k => .lst (SqL.of (k _ _ h1 h2 h))
theorem RpS.dic {a : Addr} {kvs : List (Key × V)} (h : H a = some (.dK kvs)) (h1 : a ≠ p) (h2 : a ≠ c) : RpS K p c H (.ref a) .dic := fun _ k => .dic (k _ _ h1 h2 h)
theorem RpAllS.all {vs : List V} {ds : List Da} (h : RpAllS K p c H vs ds) : ∀ H', Kept p c H H' → RpAll K H' vs ds := by
  induction h with
  | nil => exact fun _ _ => .nil
  | cons a _ ih => exact fun H' k => .cons (a H' k) (ih H' k)
theorem RpS.tup {a : Addr} {xs : List V} {ds : List Da} (P : PoolAt H p c) (h : SqT K H a xs) (r : RpAllS K p c H xs ds) : RpS K p c H (.ref a) (.tup ds) := fun H' k => .tup (sqt_kept h P k) (r.all H' k)
theorem RpAllS.get {vs : List V} {ds : List Da} (h : RpAllS K p c H vs ds) : ∀ {i : Nat} {v : V}, vs[i]? = some v → ∃ d, ds[i]? = some d ∧ RpS K p c H v d := by
  induction h with
  | nil => intro i v e; cases e
  | @cons v0 d0 vs ds a _ ih =>
    intro i v e
    cases i with
    | zero =>
      cases Option.some.inj e
      exact ⟨d0, rfl, a⟩
    | succ i => exact ih e
theorem RpAllS.length {vs : List V} {ds : List Da} (h : RpAllS K p c H vs ds) : vs.length = ds.length := by
  induction h with
  | nil => rfl
  | cons _ _ ih => simp [ih]
theorem RpAllS.lot (lot : List (Option Int)) : RpAllS K p c H (lot.map vO) (lot.map dO) := by
  induction lot with
  | nil => exact .nil
  | cons o r ih =>
    refine .cons ?_ ih
    cases o with
    | none => exact .non
    | some n => exact .int n
theorem RpAllS.set {vs : List V} {ds : List Da} {v : V} {d : Da} (h : RpAllS K p c H vs ds) (hv : RpS K p c H v d) : ∀ i : Nat, RpAllS K p c H (vs.set i v) (ds.set i d) := by
  induction h with
  | nil => exact fun i => .nil
  | cons a r ih =>
    intro i
    cases i with
    | zero => exact .cons hv r
    | succ i => exact .cons a (ih i)
theorem RpAllS.app {vs us : List V} {ds es : List Da} (h : RpAllS K p c H vs ds) (g : RpAllS K p c H us es) : RpAllS K p c H (vs ++ us) (ds ++ es) := by
  induction h with
  | nil => exact g
  | cons a r ih => exact .cons a ih
end
abbrev sp_l_no_row (K : PySem.W.Frag) (A : Ad) : Sp := fun vs H Q _ => Sp2 vs fun x y => ∃ (p c : Addr) (n : Nat), x = .ref p ∧ y = .int (n : Int) ∧ PoolAt H p c ∧ 2 ≤ n ∧ n ≤ 900 ∧
  ∀ (v : V) (d : Da) (H' : Hp), PoolAt H' p c → Kept p c H H' → RpS K p c H' v d → smallD d → rowD n d = false → Q v H'
abbrev sp_l_no_lot (K : PySem.W.Frag) (A : Ad) : Sp := fun vs H Q _ => Sp2 vs fun x y => ∃ (p c a : Addr) (lot : List (Option Int)), x = .ref p ∧ y = .ref a ∧ PoolAt H p c ∧ SqT K H a (lot.map vO) ∧ 2 ≤ lot.length ∧ lot.length ≤ 900 ∧
  ∀ (v : V) (d : Da) (H' : Hp), PoolAt H' p c → Kept p c H H' → RpS K p c H' v d → smallD d → lotD lot.length d = false → Q v H'
theorem put_gen {xs : List V} {s : Nat} {v : V} (h : s < xs.length) : cutV xs none (some (s : Int)) ++ [v] ++ cutV xs (some ((s : Int) + 1)) none = xs.set s v := by
  unfold cutV
  have e : ((s : Int) + 1) = ((s + 1 : Nat) : Int) := rfl
  rw [e, HT.sIx_none, HT.sIx_nat, HT.sIx_nat, HT.sIx_none, List.set_eq_take_append_cons_drop, if_pos h]
  rw [Nat.min_eq_left (by omega), Nat.min_eq_left (by omega), List.drop_zero, Nat.sub_zero, List.take_of_length_le (l := List.drop (s + 1) xs) (by rw [List.length_drop] <;> omega), List.append_assoc]
  rfl
theorem cut_tail {xs : List V} (h : 1 ≤ xs.length) : cutV xs (some 1) none = xs.drop 1 := by
  unfold cutV
  have e : (1 : Int) = ((1 : Nat) : Int) := rfl
  rw [e, HT.sIx_nat, HT.sIx_none, Nat.min_eq_left (by omega), List.take_of_length_le (by rw [List.length_drop] <;> omega)]
theorem bad_rowW {n : Nat} {ds : List Da} (h : ds.all (workD n) = false) : rowD n (.tup ds) = false := by simp only [rowD, h, Bool.false_and]
theorem bad_rowT {n : Nat} {ds : List Da} (h : ¬ (ds.map daInt).Nodup) : rowD n (.tup ds) = false := by simp only [rowD, decide_eq_false h, Bool.and_false]
theorem bad_lotN {n : Nat} {ds : List Da} (h : ds.length ≠ n) : lotD n (.tup ds) = false := by simp only [lotD, decide_eq_false h, Bool.false_and]
theorem bad_lotS {ds : List Da} {n s : Nat} {d : Da} (hs : s < ds.length) (h : lenD d = false) : lotD n (.tup (ds.set s d)) = false := by
  have : (ds.set s d).all lenD = false := List.all_eq_false.mpr ⟨d, List.mem_set hs .., by rw [h]; exact Bool.false_ne_true⟩
  simp only [lotD, this, Bool.and_false]
theorem runD_row {n : Nat} {r l : Da} (h : rowD n r = false) : runD n r l = 1 := by simp [runD, h]
theorem runD_lot {n : Nat} {r l : Da} (h : rowD n r = true) (h2 : lotD n l = false) : runD n r l = 2 := by simp [runD, h, h2]
theorem runD_in {n : Nat} {r l : Da} (h : rowD n r = true) (h2 : allInD l r = false) : runD n r l = 2 := by simp [runD, h, h2]
theorem cut_head {xs : List V} {k : Nat} (h : k ≤ xs.length) : cutV xs none (some (k : Int)) = xs.take k := by
  unfold cutV
  rw [HT.sIx_none, HT.sIx_nat, Nat.min_eq_left h, List.drop_zero, Nat.sub_zero]
theorem rowD_right {ws : List (Int × Int)} {row : List Nat} (h1 : ∀ j ∈ row, j < ws.length) (h2 : row.Nodup) : rowD ws.length (.tup (row.map dNat)) = true := by
  simp only [rowD, Bool.and_eq_true, decide_eq_true_eq, List.all_eq_true]
  refine ⟨fun x hx => ?_, ?_⟩
  · obtain ⟨j, hj, rfl⟩ := List.mem_map.mp hx
    have := h1 j hj
    simp [dNat, workD, this]
  · rw [da_row]
    refine List.pairwise_map.mpr (h2.imp fun h e => h ?_)
    omega
theorem lacks {row : List Nat} {lot : List (Option Int)} {k : Nat} (hk : k ≤ lot.length) (hn : k ∉ row) : allInD (.tup ((lot.take k ++ [some 3]).map dO)) (.tup (row.map dNat)) = false := by
  have hlen : (lot.take k).length = k := by rw [List.length_take]; omega
  simp only [allInD]
  refine List.all_eq_false.mpr ⟨k, List.mem_range.mpr (by rw [List.length_map, List.length_append, hlen]; show k < k + 1; omega), ?_⟩
  unfold inAt
  rw [da_row, List.getElem?_map, List.getElem?_append_right (by omega), hlen, Nat.sub_self]
  have : ¬ ((k : Int) ∈ row.map fun j => ((j : Nat) : Int)) := fun h => by
    obtain ⟨j, hj, e⟩ := List.mem_map.mp h
    have : j = k := by omega
    exact hn (by rw [← this]; exact hj)
  rw [decide_eq_false this]
  exact Bool.false_ne_true
/-! ### k10: things beside pairs, shown -/
mutual
theorem dp_mono {K : PySem.W.Frag} {H H' : Hp} (e : Ex H H') : ∀ {v : V} {d : PyData}, Dp K H v d → Dp K H' v d
  | _, _, .non => .non
  | _, _, .bl b => .bl b
  | _, _, .int i => .int i
  | _, _, .str x => .str x
  | _, _, .lst h r => .lst (ex_l e h) (dpAll_mono e r)
  | _, _, .tup h r => .tup (ex_t e h) (dpAll_mono e r)
theorem dpAll_mono {K : PySem.W.Frag} {H H' : Hp} (e : Ex H H') : ∀ {vs : List V} {ds : List PyData}, DpAll K H vs ds → DpAll K H' vs ds
  | _, _, .nil => .nil
  | _, _, .cons h r => .cons (dp_mono e h) (dpAll_mono e r)
end
abbrev sp_l_broken (K : PySem.W.Frag) (A : Ad) : Sp := fun vs H Q _ => Sp3 vs fun x y z => ∃ (w a c : Addr) (ws : List (Int × Int)) (row : List Nat) (lot : List (Option Int)), x = .ref w ∧ y = .ref a ∧ z = .ref c ∧ WinAt K H w ws ∧ SqT K H a (row.map vNat) ∧ SqT K H c (lot.map vO) ∧
  (∀ j ∈ row, j < ws.length) ∧ lot.length = ws.length ∧ row.length ≤ 1000 ∧ ∀ (l : Addr) (as : List Addr) (qs : List (Int × Int)) (H' : Hp), H l = none → Ex H H' → H' l = some (.lst (as.map V.ref)) → PairsAt K H' as qs → qs.Perm (brkF ws lot (comingN row lot)) → (qs.Pairwise fun p q => SrtO.lexB q p = false) → Q (.ref l) H'
def isBrk (bs : List (Int × Int)) : Da → Bool
  | .tup [.int i, .int j] => decide ((i, j) ∈ bs)
  | _ => false
/-- a pair of ints, a flag and 0, other data, a dict -/
inductive Th (K : PySem.W.Frag) (H : Hp) : V → Prop
  | pair {a : Addr} {i j : Int} : SqT K H a [.int i, .int j] → Th K H (.ref a)
  | flag {a : Addr} : SqT K H a [.bl true, .int 0] → Th K H (.ref a)
  | other {v : V} {d : Da} {e : PyData} : Rp K H v d → Dp K H v e → SeqAt.shaped e = true → (∀ q, PyData.eqv (dPair q) e = false) → (∀ bs, isBrk bs d = false) → Th K H v
  | dic {a : Addr} {kvs : List (Key × V)} : H a = some (.dK kvs) → Th K H (.ref a)
theorem Th.mono {K : PySem.W.Frag} {H H' : Hp} {v : V} (e : Ex H H') : Th K H v → Th K H' v
  | .pair h => .pair (ex_t e h)
  | .flag h => .flag (ex_t e h)
  | .other h1 h2 h3 h4 h5 => .other (h1.mono e) (dp_mono e h2) h3 h4 h5
  | .dic h => .dic (e _ _ h)
abbrev sp_is_brokenT (K : PySem.W.Frag) (A : Ad) : Sp := fun vs H Q E => Sp4 vs fun x y z u => RunOn K A H x y z fun ws row lot => Right ws row lot ∧ ∃ d, Rp K H u d ∧ ∀ H', Ex H H' → Q (.bl (isBrk (brkF ws lot (comingN row lot)) d)) H'
def shP (q : Int × Int) : Str := tupleText [toString q.1, toString q.2]
theorem shP_eq (q : Int × Int) : (dPair q).shown = shP q := by simp only [dPair, PyData.shown, PyData.shownAll, shP]
theorem shF_eq : (PyData.tuple [.bool true, .int 0]).shown = tupleText ["True", "0"] := by
  simp only [PyData.shown, PyData.shownAll]
  rfl
theorem shP_all : ∀ i : Fin 41, ∀ j : Fin 41, (shP ((i.val : Int), (j.val : Int))).length ≤ 100 ∧ shP ((i.val : Int), (j.val : Int)) ≠ tupleText ["True", "0"] := by decide +kernel
theorem shF_len : (tupleText ["True", "0"]).length ≤ 100 := by decide +kernel
theorem shP_ok {i j : Nat} (hi : i < 41) (hj : j < 41) : (shP ((i : Int), (j : Int))).length ≤ 100 ∧ shP ((i : Int), (j : Int)) ≠ tupleText ["True", "0"] := shP_all ⟨i, hi⟩ ⟨j, hj⟩
theorem lt_showable {i : Nat} (h : i < 41) : PyData.showable (.int (i : Int)) = true := by
  simp only [PyData.showable, decide_eq_true_eq, Int.natAbs_natCast]
  by_cases z : i = 0
  · subst z; decide
  · exact Nat.lt_of_lt_of_le ((Nat.log2_lt z).mpr (by omega : i < 2 ^ 6)) (by decide)
theorem repr_pair {K : PySem.W.Frag} {H : Hp} {v : V} {i j : Nat} {Q : VK} (h : Dp K H v (dPair ((i : Int), (j : Int)))) (hi : i < 41) (hj : j < 41) (k : Q (.str (shP ((i : Int), (j : Int)))) H) : rRepr K [v] H Q := by
  refine ⟨v, _, rfl, h, ?_, by simp [dPair, PyData.hasDict, PyData.hasDictAll], by simp [dPair, PyData.depth, PyData.depthAll], ?_, ?_⟩
  · simp only [dPair, PyData.showable, PyData.showableAll, Bool.and_true]
    rw [Bool.and_eq_true]
    exact ⟨lt_showable hi, lt_showable hj⟩
  · rw [shP_eq]
    have := (shP_ok hi hj).1
    have := sizeLine_eq
    omega
  · rw [shP_eq]
    exact k
theorem repr_flag {K : PySem.W.Frag} {H : Hp} {a : Addr} {Q : VK} (h : SqT K H a [.bl true, .int 0]) (k : Q (.str (tupleText ["True", "0"])) H) : rRepr K [.ref a] H Q := by
  refine ⟨.ref a, _, rfl, .tup h (.cons (.bl true) (.cons (.int 0) .nil)), by decide, by simp [PyData.hasDict, PyData.hasDictAll], by simp [PyData.depth, PyData.depthAll], ?_, ?_⟩
  · rw [shF_eq]
    have := shF_len
    have := sizeLine_eq
    omega
  · rw [shF_eq]
    exact k
theorem eqv_pair (q r : Int × Int) : PyData.eqv (dPair q) (dPair r) = decide (q = r) := by
  have e : PyData.eqv (dPair q) (dPair r) = ((q.1 == r.1) && ((q.2 == r.2) && true)) := by simp only [dPair, PyData.eqv, PyData.eqvAll]
  rw [e, Bool.eq_iff_iff]
  simp [Prod.ext_iff]
theorem eqv_flag (q : Int × Int) : PyData.eqv (dPair q) (.tuple [.bool true, .int 0]) = decide (q = (1, 0)) := by
  have e : PyData.eqv (dPair q) (.tuple [.bool true, .int 0]) = ((q.1 == 1) && ((q.2 == 0) && true)) := by simp only [dPair, PyData.eqv, PyData.eqvAll]; rfl
  rw [e, Bool.eq_iff_iff]
  simp [Prod.ext_iff]
theorem any_pairs (qs : List (Int × Int)) (r : Int × Int) : ((qs.map dPair).any fun z => PyData.eqv z (dPair r)) = decide (r ∈ qs) := by
  rw [Bool.eq_iff_iff]
  simp only [List.any_map, List.any_eq_true, Function.comp, eqv_pair, decide_eq_true_eq]
  exact ⟨fun ⟨q, h1, h2⟩ => h2 ▸ h1, fun h => ⟨r, h, rfl⟩⟩
theorem any_flag (qs : List (Int × Int)) : ((qs.map dPair).any fun z => PyData.eqv z (.tuple [.bool true, .int 0])) = decide (((1, 0) : Int × Int) ∈ qs) := by
  rw [Bool.eq_iff_iff]
  simp only [List.any_map, List.any_eq_true, Function.comp, eqv_flag, decide_eq_true_eq]
  exact ⟨fun ⟨q, h1, h2⟩ => h2 ▸ h1, fun h => ⟨_, h, rfl⟩⟩
theorem any_none (qs : List (Int × Int)) {e : PyData} (h : ∀ q, PyData.eqv (dPair q) e = false) : ((qs.map dPair).any fun z => PyData.eqv z e) = false := by
  rw [List.any_map, List.any_eq_false]
  intro q _
  show ¬ PyData.eqv (dPair q) e = true
  rw [h q]
  exact Bool.false_ne_true
theorem shaped_pair (r : Int × Int) : SeqAt.shaped (dPair r) = true := by
  have := shaped_pairs [r]
  unfold SeqAt.shaped at this ⊢
  rw [Bool.and_eq_true] at this ⊢
  obtain ⟨h1, h2⟩ := this
  simp only [List.map_cons, List.map_nil, PyData.canLay0, PyData.canLayAll0, Bool.and_true] at h1
  refine ⟨h1, ?_⟩
  simp only [dPair, PyData.depth, PyData.depthAll]
  decide
theorem brkFrom_mem {ws : List (Int × Int)} {lot : List (Option Int)} {one : Nat} {q : Int × Int} : ∀ {l : List Nat} {h : Int}, q ∈ brkFrom ws lot one h l → q.1 = (one : Int) ∧ ∃ j ∈ l, q.2 = (j : Int)
  | j :: r, h, hq => by
    rcases List.mem_append.mp (show q ∈ (if h + lenAt lot j > lstAt ws j then [((one : Int), (j : Int))] else []) ++ brkFrom ws lot one (h + lenAt lot j) r from hq) with hq | hq
    · split at hq
      · cases List.mem_singleton.mp hq
        exact ⟨rfl, j, List.mem_cons_self .., rfl⟩
      · cases hq
    · obtain ⟨h1, j', h2, h3⟩ := brkFrom_mem hq
      exact ⟨h1, j', List.mem_cons_of_mem _ h2, h3⟩
theorem brkF_mem {ws : List (Int × Int)} {lot : List (Option Int)} {q : Int × Int} : ∀ {l : List Nat}, q ∈ brkF ws lot l → ∃ i ∈ l, ∃ j ∈ l, q = ((i : Int), (j : Int))
  | j :: r, hq => by
    rcases List.mem_append.mp (show q ∈ brkFrom ws lot j (fstAt ws j) (j :: r) ++ brkF ws lot r from hq) with hq | hq
    · obtain ⟨h1, k, h2, h3⟩ := brkFrom_mem hq
      exact ⟨j, List.mem_cons_self .., k, h2, Prod.ext h1 h3⟩
    · obtain ⟨i, h1, k, h2, h3⟩ := brkF_mem hq
      exact ⟨i, List.mem_cons_of_mem _ h1, k, List.mem_cons_of_mem _ h2, h3⟩
theorem isBrk_no {bs : List (Int × Int)} {d : Da} (h : ∀ i j, d ≠ .tup [.int i, .int j]) : isBrk bs d = false := by
  unfold isBrk
  split
  · exact absurd rfl (h _ _)
  · rfl
theorem mem_cutV {xs : List V} {lo hi : Option Int} {x : V} (h : x ∈ cutV xs lo hi) : x ∈ xs := List.mem_of_mem_drop (List.mem_of_mem_take h)
theorem cutV_len (xs : List V) (lo hi : Option Int) : (cutV xs lo hi).length ≤ xs.length := by
  unfold cutV
  rw [List.length_take, List.length_drop]
  omega
theorem cut3 (xs : List V) : (cutV xs none (some 3)).length ≤ 3 := by
  unfold cutV
  rw [HT.sIx_none, List.length_take]
  have : HT.sIx xs.length xs.length (some 3) = min 3 xs.length := HT.sIx_nat xs.length xs.length 3
  rw [this]
  omega
theorem eqv_pairs_self (qs : List (Int × Int)) : PyData.eqv (.list (qs.map dPair)) (.list (qs.map dPair)) = true := SeqAt.eqv_refl _ (by
  have := shaped_pairs qs
  unfold SeqAt.shaped at this
  rw [Bool.and_eq_true] at this
  exact this.1)
theorem flat_strs (qs : List (Int × Int)) : (qs.map fun q => V.str (shP q)).all flatV = true := by
  rw [List.all_eq_true]
  intro x hx
  obtain ⟨q, _, rfl⟩ := List.mem_map.mp hx
  rfl
theorem inV_yes {qs : List (Int × Int)} {q : Int × Int} (h : q ∈ qs) : inV (.str (shP q)) (qs.map fun q => V.str (shP q)) = true := by
  unfold inV
  rw [List.any_eq_true]
  refine ⟨_, List.mem_map_of_mem h, ?_⟩
  simp [eqV]
theorem inV_not {qs : List (Int × Int)} {s : Str} (h : ∀ q ∈ qs, shP q ≠ s) : inV (.str s) (qs.map fun q => V.str (shP q)) = false := by
  unfold inV
  rw [List.any_eq_false]
  intro x hx
  obtain ⟨q, hq, rfl⟩ := List.mem_map.mp hx
  simpa [eqV] using h q hq
theorem no_beh {H1 H2 : Hp} {a : Addr} {o : HO} (h : H1 a = none) (g : H2 a = some o) (e : Ex H2 H1) : False := by
  rw [e _ _ g] at h
  cases h
theorem pair_shown {i j : Nat} (hi : i < 41) (hj : j < 41) : (dPair ((i : Int), (j : Int))).showable = true ∧ (dPair ((i : Int), (j : Int))).hasDict = false ∧ (dPair ((i : Int), (j : Int))).depth ≤ 60 ∧ (dPair ((i : Int), (j : Int))).shown.length ≤ sizeLine := by
  refine ⟨?_, by simp [dPair, PyData.hasDict, PyData.hasDictAll], by simp [dPair, PyData.depth, PyData.depthAll], ?_⟩
  · simp only [dPair, PyData.showable, PyData.showableAll, Bool.and_true]
    rw [Bool.and_eq_true]
    exact ⟨lt_showable hi, lt_showable hj⟩
  · rw [shP_eq]
    have := (shP_ok hi hj).1
    have := sizeLine_eq
    omega
theorem flag_shown : (PyData.tuple [.bool true, .int 0]).showable = true ∧ (PyData.tuple [.bool true, .int 0]).hasDict = false ∧ (PyData.tuple [.bool true, .int 0]).depth ≤ 60 ∧ (PyData.tuple [.bool true, .int 0]).shown.length ≤ sizeLine := by
  refine ⟨by decide, by simp [PyData.hasDict, PyData.hasDictAll], by simp [PyData.depth, PyData.depthAll], ?_⟩
  rw [shF_eq]
  have := shF_len
  have := sizeLine_eq
  omega
/-! ### things told whole: what is kept, how long it is shown -/
mutual
def dOf : PyData → Da
  | .none => .non
  | .bool b => .bl b
  | .int i => .int i
  | .str x => .str x
  | .list _ => .lst
  | .dict _ => .dic
  | .tuple xs => .tup (dOfs xs)
def dOfs : List PyData → List Da
  | [] => []
  | x :: r => dOf x :: dOfs r
end
theorem dOfs_map : ∀ xs : List PyData, dOfs xs = xs.map dOf
  | [] => by simp only [dOfs, List.map_nil]
  | x :: r => by simp only [dOfs, List.map_cons, dOfs_map r]
mutual
theorem tg_rp {K : PySem.W.Frag} {H : Hp} : ∀ {v : V} {d : PyData}, Tg K H v d → Rp K H v (dOf d)
  | _, _, .non => by simp only [dOf]; exact .non
  | _, _, .bl b => by simp only [dOf]; exact .bl b
  | _, _, .int i => by simp only [dOf]; exact .int i
  | _, _, .str x => by simp only [dOf]; exact .str x
  | _, _, .lst h _ => by simp only [dOf]; exact .lst h
  | _, _, .dic h _ => by simp only [dOf]; exact .dic h
  | _, _, .tup h r => by simp only [dOf]; exact .tup h (tgAll_rp r)
theorem tgAll_rp {K : PySem.W.Frag} {H : Hp} : ∀ {vs : List V} {ds : List PyData}, TgAll K H vs ds → RpAll K H vs (dOfs ds)
  | _, _, .nil => by simp only [dOfs]; exact .nil
  | _, _, .cons a r => by simp only [dOfs]; exact .cons (tg_rp a) (tgAll_rp r)
end
mutual
theorem tg_mono {K : PySem.W.Frag} {H H' : Hp} (e : Ex H H') : ∀ {v : V} {d : PyData}, Tg K H v d → Tg K H' v d
  | _, _, .non => .non
  | _, _, .bl b => .bl b
  | _, _, .int i => .int i
  | _, _, .str x => .str x
  | _, _, .lst h r => .lst (ex_l e h) (tgAll_mono e r)
  | _, _, .dic h r => .dic (e _ _ h) (tgAll_mono e r)
  | _, _, .tup h r => .tup (ex_t e h) (tgAll_mono e r)
theorem tgAll_mono {K : PySem.W.Frag} {H H' : Hp} (e : Ex H H') : ∀ {vs : List V} {ds : List PyData}, TgAll K H vs ds → TgAll K H' vs ds
  | _, _, .nil => .nil
  | _, _, .cons a r => .cons (tg_mono e a) (tgAll_mono e r)
end
mutual
inductive TgS (K : PySem.W.Frag) (p c : Addr) (H : Hp) : V → PyData → Prop
  | non : TgS K p c H .non .none
  | bl (b : Bool) : TgS K p c H (.bl b) (.bool b)
  | int (i : Int) : TgS K p c H (.int i) (.int i)
  | str (x : Str) : TgS K p c H (.str x) (.str x)
  | lst {a : Addr} {xs : List V} {ds : List PyData} : H a = some (.lst xs) → a ≠ p → a ≠ c → TgsS K p c H xs ds → TgS K p c H (.ref a) (.list ds)
  | tup {a : Addr} {xs : List V} {ds : List PyData} : SqT K H a xs → TgsS K p c H xs ds → TgS K p c H (.ref a) (.tuple ds)
  | dic {a : Addr} {kvs : List (Key × V)} {ds : List PyData} : H a = some (.dK kvs) → a ≠ p → a ≠ c → TgsS K p c H (kvs.map (·.2)) ds → TgS K p c H (.ref a) (.dict ((kvs.map fun kv => keyD kv.1).zip ds))
inductive TgsS (K : PySem.W.Frag) (p c : Addr) (H : Hp) : List V → List PyData → Prop
  | nil : TgsS K p c H [] []
  | cons {v : V} {vs : List V} {d : PyData} {ds : List PyData} : TgS K p c H v d → TgsS K p c H vs ds → TgsS K p c H (v :: vs) (d :: ds)
end
section
variable {K : PySem.W.Frag} {p c : Addr} {H H1 : Hp}
mutual
theorem TgS.kept (P : PoolAt H p c) (k : Kept p c H H1) : ∀ {v : V} {d : PyData}, TgS K p c H v d → TgS K p c H1 v d
  | _, _, .non => .non
  | _, _, .bl b => .bl b
  | _, _, .int i => .int i
  | _, _, .str x => .str x
  | _, _, .lst h n1 n2 r => .lst (k _ _ n1 n2 h) n1 n2 (TgsS.kept P k r)
  | _, _, .tup h r => .tup (sqt_kept h P k) (TgsS.kept P k r)
  | _, _, .dic h n1 n2 r => .dic (k _ _ n1 n2 h) n1 n2 (TgsS.kept P k r)
theorem TgsS.kept (P : PoolAt H p c) (k : Kept p c H H1) : ∀ {vs : List V} {ds : List PyData}, TgsS K p c H vs ds → TgsS K p c H1 vs ds
  | _, _, .nil => .nil
  | _, _, .cons a r => .cons (TgS.kept P k a) (TgsS.kept P k r)
end
mutual
theorem TgS.now : ∀ {v : V} {d : PyData}, TgS K p c H v d → Tg K H v d
  | _, _, .non => .non
  | _, _, .bl b => .bl b
  | _, _, .int i => .int i
  | _, _, .str x => .str x
  | _, _, .lst h _ _ r => .lst (SqL.of h) (TgsS.all r)
  | _, _, .tup h r => .tup h (TgsS.all r)
  | _, _, .dic h _ _ r => .dic h (TgsS.all r)
theorem TgsS.all : ∀ {vs : List V} {ds : List PyData}, TgsS K p c H vs ds → TgAll K H vs ds
  | _, _, .nil => .nil
  | _, _, .cons a r => .cons (TgS.now a) (TgsS.all r)
end
theorem TgsS.len : ∀ {vs : List V} {ds : List PyData}, TgsS K p c H vs ds → vs.length = ds.length
  | _, _, .nil => rfl
  | _, _, .cons _ r => congrArg (· + 1) r.len
theorem TgsS.nth : ∀ {vs : List V} {ds : List PyData}, TgsS K p c H vs ds → ∀ (i : Nat) (v : V) (d : PyData), vs[i]? = some v → ds[i]? = some d → TgS K p c H v d
  | _, _, .nil, i, v, d, h, _ => by simp at h
  | _, _, .cons a r, 0, v, d, h1, h2 => by
    cases Option.some.inj h1
    cases Option.some.inj h2
    exact a
  | _, _, .cons a r, i + 1, v, d, h1, h2 => TgsS.nth r i v d h1 h2
theorem TgsS.of : ∀ {vs : List V} {ds : List PyData}, vs.length = ds.length → (∀ (i : Nat) (v : V) (d : PyData), vs[i]? = some v → ds[i]? = some d → TgS K p c H v d) → TgsS K p c H vs ds
  | [], [], _, _ => .nil
  | v :: vs, d :: ds, h, f => .cons (f 0 v d rfl rfl) (TgsS.of (by simpa using h) fun i v d h1 h2 => f (i + 1) v d h1 h2)
  | [], _ :: _, h, _ => by simp at h
  | _ :: _, [], h, _ => by simp at h
theorem TgsS.get {vs : List V} {ds : List PyData} (h : TgsS K p c H vs ds) {i : Nat} {v : V} (e : vs[i]? = some v) : ∃ d, ds[i]? = some d ∧ TgS K p c H v d := by
  have hi := (List.getElem?_eq_some_iff.mp e).1
  have hi' : i < ds.length := by rw [← h.len]; exact hi
  exact ⟨_, List.getElem?_eq_getElem hi', h.nth i v _ e (List.getElem?_eq_getElem hi')⟩
theorem TgsS.app {us : List V} {es : List PyData} (g : TgsS K p c H us es) : ∀ {vs : List V} {ds : List PyData}, TgsS K p c H vs ds → TgsS K p c H (vs ++ us) (ds ++ es)
  | _, _, .nil => g
  | _, _, .cons a r => .cons a (TgsS.app g r)
theorem TgsS.take : ∀ {vs : List V} {ds : List PyData} (n : Nat), TgsS K p c H vs ds → TgsS K p c H (vs.take n) (ds.take n)
  | _, _, 0, _ => .nil
  | _, _, n + 1, .nil => .nil
  | _, _, n + 1, .cons a r => .cons a (TgsS.take n r)
theorem TgsS.drop : ∀ {vs : List V} {ds : List PyData} (n : Nat), TgsS K p c H vs ds → TgsS K p c H (vs.drop n) (ds.drop n)
  | _, _, 0, h => h
  | _, _, n + 1, .nil => .nil
  | _, _, n + 1, .cons a r => TgsS.drop n r
theorem TgS.inv {v : V} {ds : List PyData} (h : TgS K p c H v (.tuple ds)) : ∃ a xs, v = .ref a ∧ SqT K H a xs ∧ TgsS K p c H xs ds := by
  cases h with
  | tup h r => exact ⟨_, _, rfl, h, r⟩
end
mutual
def bdD : PyData → Bool
  | .int i => decide (i.natAbs < 10 ^ 38)
  | .str x => decide ((reprText x).length ≤ 40)
  | .list xs => bdAll xs
  | .tuple xs => bdAll xs
  | .dict kvs => bdKv kvs
  | _ => true
def bdAll : List PyData → Bool
  | [] => true
  | x :: r => bdD x && bdAll r
def bdKv : List (PyData × PyData) → Bool
  | [] => true
  | (k, v) :: r => bdD k && bdD v && bdKv r
end
mutual
def szD : PyData → Nat
  | .list xs => szAll xs + 1
  | .tuple xs => szAll xs + 1
  | .dict kvs => szKv kvs + 1
  | _ => 1
def szAll : List PyData → Nat
  | [] => 0
  | x :: r => szD x + szAll r
def szKv : List (PyData × PyData) → Nat
  | [] => 0
  | (k, v) :: r => szD k + szD v + szKv r
end
theorem piled_cons' (t : Str) (ts : List Str) : piled (t :: ts) = (t.length + 2) + piled ts := by
  simp only [piled, List.map_cons, List.sum_cons]
theorem tupleText_le (ts : List Str) : (tupleText ts).length ≤ piled ts + 3 := by
  unfold tupleText
  rw [strLen_append, strLen_append]
  have e1 : (("(" : String) : Str).length = 1 := rfl
  have e2 : ((if ts.length == 1 then ",)" else ")" : String) : Str).length ≤ 2 := by
    split <;> decide
  by_cases h : ts = []
  · subst h
    have : (Str.join ", " []).length = 0 := rfl
    have e2' : ((if ([] : List Str).length == 1 then ",)" else ")" : String) : Str).length ≤ 2 := e2
    omega
  · have := join_length_add ts h
    omega
theorem textFrom_le : ∀ (ts : List Str) (k : Nat) (acc : Str), (textFrom k acc ts).length ≤ acc.length + piled ts
  | [], k, acc => Nat.le_add_right _ _
  | t :: r, k, acc => by
    have ih := textFrom_le r (k + 1) (acc ++ (if k > 0 then ", " else "" : String) ++ t)
    show (textFrom (k + 1) (acc ++ (if k > 0 then ", " else "" : String) ++ t) r).length ≤ _
    rw [strLen_append, strLen_append] at ih
    have e : ((if k > 0 then ", " else "" : String) : Str).length ≤ 2 := by
      split <;> decide
    rw [piled_cons']
    omega
theorem listText_le (ts : List Str) : (listText ts).length ≤ piled ts + 2 := by
  have h := textFrom_le ts 0 "["
  unfold listText
  rw [strLen_append]
  have e1 : (("[" : String) : Str).length = 1 := rfl
  have e2 : (("]" : String) : Str).length = 1 := rfl
  omega
theorem dictText_le (ts : List Str) : (dictText ts).length ≤ piled ts + 2 := by
  unfold dictText
  rw [strLen_append, strLen_append]
  have e1 : (("{" : String) : Str).length = 1 := rfl
  have e2 : (("}" : String) : Str).length = 1 := rfl
  by_cases h : ts = []
  · subst h
    have : (Str.join ", " []).length = 0 := rfl
    omega
  · have := join_length_add ts h
    omega
mutual
theorem shown_le : ∀ d : PyData, bdD d = true → d.shown.length + 4 ≤ 50 * szD d
  | .none, _ => by simp only [PyData.shown, szD]; decide
  | .bool b, _ => by
    simp only [PyData.shown, szD]
    cases b <;> decide
  | .int i, h => by
    simp only [bdD, decide_eq_true_eq] at h
    simp only [PyData.shown, szD]
    have := int_text_length_le10 (a := i) (k := 38) (by decide) h
    show (Str.ofString (toString i)).length + 4 ≤ 50 * 1
    rw [PySem.ofString_length]
    omega
  | .str x, h => by
    simp only [bdD, decide_eq_true_eq] at h
    simp only [PyData.shown, szD]
    omega
  | .list xs, h => by
    simp only [bdD] at h
    have h1 := shownAll_le xs h
    have h2 := listText_le (PyData.shownAll xs)
    simp only [PyData.shown, szD]
    omega
  | .tuple xs, h => by
    simp only [bdD] at h
    have h1 := shownAll_le xs h
    have h2 := tupleText_le (PyData.shownAll xs)
    simp only [PyData.shown, szD]
    omega
  | .dict kvs, h => by
    simp only [bdD] at h
    have h1 := shownKv_le kvs h
    have h2 := dictText_le (PyData.shownKv kvs)
    simp only [PyData.shown, szD]
    omega
theorem shownAll_le : ∀ xs : List PyData, bdAll xs = true → piled (PyData.shownAll xs) ≤ 50 * szAll xs
  | [], _ => by simp only [PyData.shownAll, szAll]; decide
  | x :: r, h => by
    simp only [bdAll, Bool.and_eq_true] at h
    have h1 := shown_le x h.1
    have h2 := shownAll_le r h.2
    simp only [PyData.shownAll, szAll]
    rw [piled_cons']
    omega
theorem shownKv_le : ∀ kvs : List (PyData × PyData), bdKv kvs = true → piled (PyData.shownKv kvs) ≤ 50 * szKv kvs
  | [], _ => by simp only [PyData.shownKv, szKv]; decide
  | (k, v) :: r, h => by
    simp only [bdKv, Bool.and_eq_true] at h
    have h1 := shown_le k h.1.1
    have h2 := shown_le v h.1.2
    have h3 := shownKv_le r h.2
    simp only [PyData.shownKv, szKv]
    rw [piled_cons', strLen_append, strLen_append]
    have e1 : ((": " : String) : Str).length = 2 := rfl
    omega
end
mutual
theorem bd_showable : ∀ d : PyData, bdD d = true → d.showable = true
  | .none, _ => by simp only [PyData.showable]
  | .bool b, _ => by simp only [PyData.showable]
  | .str x, _ => by simp only [PyData.showable]
  | .int i, h => by
    simp only [bdD, decide_eq_true_eq] at h
    simp only [PyData.showable, decide_eq_true_eq]
    by_cases z : i.natAbs = 0
    · rw [z]; decide
    · exact Nat.lt_of_lt_of_le ((Nat.log2_lt z).mpr (Nat.lt_of_lt_of_le h (by decide : 10 ^ 38 ≤ 2 ^ 127))) (by decide)
  | .list xs, h => by
    simp only [bdD] at h
    simp only [PyData.showable]
    exact bdAll_showable xs h
  | .tuple xs, h => by
    simp only [bdD] at h
    simp only [PyData.showable]
    exact bdAll_showable xs h
  | .dict kvs, h => by
    simp only [bdD] at h
    simp only [PyData.showable]
    exact bdKv_showable kvs h
theorem bdAll_showable : ∀ xs : List PyData, bdAll xs = true → PyData.showableAll xs = true
  | [], _ => by simp only [PyData.showableAll]
  | x :: r, h => by
    simp only [bdAll, Bool.and_eq_true] at h
    simp only [PyData.showableAll, Bool.and_eq_true]
    exact ⟨bd_showable x h.1, bdAll_showable r h.2⟩
theorem bdKv_showable : ∀ kvs : List (PyData × PyData), bdKv kvs = true → PyData.showableKv kvs = true
  | [], _ => by simp only [PyData.showableKv]
  | (k, v) :: r, h => by
    simp only [bdKv, Bool.and_eq_true] at h
    simp only [PyData.showableKv, Bool.and_eq_true]
    exact ⟨⟨bd_showable k h.1.1, bd_showable v h.1.2⟩, bdKv_showable r h.2⟩
end
/-- what may stand in a thing -/
structure OkI (d : PyData) : Prop where
  bd : bdD d = true
  dl : dlD d = true
  dp : d.depth ≤ 39
  sz : szD d ≤ 200
/-- a thing: an item, or a tuple of items -/
def OkT (m : Nat) (d : PyData) : Prop := OkI d ∨ ∃ ds, d = .tuple ds ∧ ds.length ≤ m ∧ ∀ x ∈ ds, OkI x
theorem okAll : ∀ {ds : List PyData}, (∀ x ∈ ds, OkI x) → bdAll ds = true ∧ dlAll ds = true ∧ PyData.depthAll ds ≤ 39 ∧ szAll ds ≤ 200 * ds.length
  | [], _ => by simp [bdAll, dlAll, PyData.depthAll, szAll]
  | x :: r, h => by
    obtain ⟨h1, h2, h3, h4⟩ := okAll (ds := r) fun y hy => h y (List.mem_cons_of_mem _ hy)
    obtain ⟨g1, g2, g3, g4⟩ := h x (List.mem_cons_self ..)
    simp only [bdAll, dlAll, PyData.depthAll, szAll, List.length_cons, h1, h2, g1, g2, Bool.and_self, true_and]
    refine ⟨Nat.max_le.mpr ⟨g3, h3⟩, ?_⟩
    rw [Nat.mul_succ]
    omega
theorem OkT.shows {m : Nat} {d : PyData} (h : OkT m d) (hm : m ≤ 1000) : dlD d = true ∧ d.showable = true ∧ d.depth ≤ 60 ∧ d.shown.length ≤ sizeLine := by
  have sl := sizeLine_eq
  rcases h with h | ⟨ds, rfl, hl, hi⟩
  · have := shown_le d h.bd
    have := h.sz
    exact ⟨h.dl, bd_showable d h.bd, by have := h.dp; omega, by omega⟩
  · obtain ⟨h1, h2, h3, h4⟩ := okAll hi
    have hb : bdD (.tuple ds) = true := by simp only [bdD]; exact h1
    have := shown_le (.tuple ds) hb
    have hs : szD (.tuple ds) = szAll ds + 1 := by simp only [szD]
    refine ⟨by simp only [dlD]; exact h2, bd_showable _ hb, by simp only [PyData.depth]; omega, ?_⟩
    omega
def nestD : Nat → PyData
  | 0 => .tuple [.int 0]
  | n + 1 => .tuple [nestD n]
theorem nest_ok : ∀ n, n ≤ 37 → bdD (nestD n) = true ∧ dlD (nestD n) = true ∧ (nestD n).depth = n + 1 ∧ szD (nestD n) = n + 2
  | 0, _ => by simp [nestD, bdD, bdAll, dlD, dlAll, PyData.depth, PyData.depthAll, szD, szAll]
  | n + 1, h => by
    obtain ⟨h1, h2, h3, h4⟩ := nest_ok n (by omega)
    simp [nestD, bdD, bdAll, dlD, dlAll, PyData.depth, PyData.depthAll, szD, szAll, h1, h2, h3, h4]
theorem OkI.nest : OkI (nestD 37) := by
  obtain ⟨h1, h2, h3, h4⟩ := nest_ok 37 (Nat.le_refl _)
  exact ⟨h1, h2, by omega, by omega⟩
theorem OkI.int {i : Int} (h : i.natAbs < 10 ^ 38) : OkI (.int i) := ⟨by simp only [bdD]; exact decide_eq_true h, by simp only [dlD], by simp only [PyData.depth]; omega, by simp only [szD]; omega⟩
/-! ### k04 -/
structure Sp0 (vs : List V) (P : Prop) : Prop where
  ex : vs = [] ∧ P
theorem Sp0.len {vs : List V} {P : Prop} (h : Sp0 vs P) : vs.length = 0 := by
  obtain ⟨rfl, _⟩ := h.ex
  rfl
def ordD (n : Nat) : Da → Bool
  | .tup ds => rowD n (.tup ds) && decide (ds.length = n)
  | _ => false
abbrev sp_is_order (K : PySem.W.Frag) (A : Ad) : Sp := fun vs H Q _ => Sp2 vs fun x y => OnBook K A H x y fun ws d => ∀ H', Ex H H' → Q (.bl (ordD ws.length d)) H'
def thereV (ds : List Da) : List V := given ds.length (fun j => !isNon (ds.getD j .non)) fun j => .int (j : Nat)
abbrev sp_there (K : PySem.W.Frag) (A : Ad) : Sp := fun vs H Q E => Sp2 vs fun x y => OnBook K A H x y fun ws d => (lotD ws.length d = false → ∀ H', Ex H H' → E (.ref A.C_NoLot) none H') ∧
  ∀ ds, d = .tup ds → lotD ws.length d = true → ∀ r H', H r = none → Ex H H' → H' r = some (.tup (thereV ds)) → Q (.ref r) H'
abbrev sp_l_deep (K : PySem.W.Frag) (A : Ad) : Sp := fun vs H Q _ => Sp0 vs (∀ a H', Ex H H' → Tg K H' (.ref a) (nestD 37) → Q (.ref a) H')
abbrev sp_l_is_row (K : PySem.W.Frag) (A : Ad) : Sp := fun vs H Q _ => Sp2 vs fun x y => ∃ (n : Nat) (d : Da), x = .int (n : Int) ∧ Rp K H y d ∧ smallD d ∧ ∀ H', Ex H H' → Q (.bl (rowD n d)) H'
abbrev sp_l_is_lot (K : PySem.W.Frag) (A : Ad) : Sp := fun vs H Q _ => Sp2 vs fun x y => ∃ (n : Nat) (d : Da), x = .int (n : Int) ∧ Rp K H y d ∧ smallD d ∧ ∀ H', Ex H H' → Q (.bl (lotD n d)) H'
abbrev sp_l_there (K : PySem.W.Frag) (A : Ad) : Sp := fun vs H Q _ => Sp2 vs fun x y => OnBook K A H x y fun ws d => (lotD ws.length d = false → ∀ H', Ex H H' → Q (.str "none") H') ∧
  ∀ ds, d = .tup ds → lotD ws.length d = true → ∀ r H', Ex H H' → H' r = some (.tup (thereV ds)) → Q (.ref r) H'
abbrev sp_l_bent (K : PySem.W.Frag) (A : Ad) : Sp := fun vs H Q _ => Sp3 vs fun x y z => ∃ (p c : Addr) (n m : Nat) (d : PyData), x = .ref p ∧ z = .int (n : Int) ∧ PoolAt H p c ∧ TgS K p c H y d ∧ OkT m d ∧ 200 ≤ m ∧ m ≤ 900 ∧ n ≤ 40 ∧
  ∀ (v : V) (d' : PyData) (H' : Hp), PoolAt H' p c → Kept p c H H' → TgS K p c H' v d' → OkT (m + 1) d' → Q v H'
theorem rp_non {K : PySem.W.Frag} {H : Hp} {v : V} {d : Da} (h : Rp K H v d) : decide (v = V.non) = isNon d := by
  cases h <;> simp [isNon]
theorem cut_from {xs : List V} (k : Nat) : cutV xs (some (k : Int)) none = xs.drop k := by
  unfold cutV
  rw [HT.sIx_none, HT.sIx_nat]
  by_cases h : k ≤ xs.length
  · rw [Nat.min_eq_left h, List.take_of_length_le (by rw [List.length_drop] <;> omega)]
  · rw [Nat.min_eq_right (by omega), Nat.sub_self, List.take_zero, List.drop_of_length_le (by omega)]
mutual
theorem TgS.of {K : PySem.W.Frag} {p c : Addr} {H : Hp} : ∀ {v : V} {d : PyData}, Tg K H v d → afD d = true → TgS K p c H v d
  | _, _, .non, _ => .non
  | _, _, .bl b, _ => .bl b
  | _, _, .int i, _ => .int i
  | _, _, .str x, _ => .str x
  | _, _, .lst _ _, h => by simp [afD] at h
  | _, _, .dic _ _, h => by simp [afD] at h
  | _, _, .tup h r, z => .tup h (TgsS.ofAll r (by simpa [afD] using z))
theorem TgsS.ofAll {K : PySem.W.Frag} {p c : Addr} {H : Hp} : ∀ {vs : List V} {ds : List PyData}, TgAll K H vs ds → afAll ds = true → TgsS K p c H vs ds
  | _, _, .nil, _ => .nil
  | _, _, .cons a r, z => by
    simp only [afAll, Bool.and_eq_true] at z
    exact .cons (TgS.of a z.1) (TgsS.ofAll r z.2)
end
theorem nest_af : ∀ n, afD (nestD n) = true
  | 0 => by simp [nestD, afD, afAll]
  | n + 1 => by simp [nestD, afD, afAll, nest_af n]
theorem TgsS.rev {K : PySem.W.Frag} {p c : Addr} {H : Hp} {vs : List V} {ds : List PyData} (h : TgsS K p c H vs ds) : TgsS K p c H vs.reverse ds.reverse := by
  refine TgsS.of (by simp [h.len]) fun i v d h1 h2 => ?_
  have hi : i < vs.length := by
    have := (List.getElem?_eq_some_iff.mp h1).1
    simpa using this
  rw [List.getElem?_reverse hi] at h1
  rw [List.getElem?_reverse (by rw [← h.len]; exact hi), ← h.len] at h2
  exact h.nth _ v d h1 h2
theorem TgsS.ints {K : PySem.W.Frag} {p c : Addr} {H : Hp} : ∀ l : List Int, TgsS K p c H (l.map V.int) (l.map PyData.int)
  | [] => .nil
  | i :: r => .cons (.int i) (TgsS.ints r)
theorem ints_ok {l : List Int} (h : ∀ i ∈ l, i.natAbs < 10 ^ 38) : ∀ x ∈ l.map PyData.int, OkI x := fun x hx => by
  obtain ⟨i, hi, rfl⟩ := List.mem_map.mp hx
  exact OkI.int (h i hi)
theorem ints_dict (l : List Int) : PyData.hasDictAll (l.map PyData.int) = false := by
  induction l with
  | nil => simp [PyData.hasDictAll]
  | cons i r ih => simp [PyData.hasDictAll, PyData.hasDict, ih]
theorem ints_sz (l : List Int) : szAll (l.map PyData.int) = l.length := by
  induction l with
  | nil => simp [szAll]
  | cons i r ih =>
    simp only [List.map_cons, szAll, szD, ih, List.length_cons]
    omega
theorem ints_depth (l : List Int) : PyData.depthAll (l.map PyData.int) = 0 := by
  induction l with
  | nil => simp [PyData.depthAll]
  | cons i r ih => simp [PyData.depthAll, PyData.depth, ih]
theorem OkI.ints {l : List Int} (h : ∀ i ∈ l, i.natAbs < 10 ^ 38) (hl : l.length ≤ 90) : OkI (.list (l.map PyData.int)) := by
  have h1 := okAll (ints_ok h)
  refine ⟨by simp only [bdD]; exact h1.1, by simp [dlD, ints_dict], by simp only [PyData.depth, ints_depth]; omega, by simp only [szD, ints_sz]; omega⟩
theorem szD_pos : ∀ d : PyData, 1 ≤ szD d
  | .none => by simp only [szD]; omega
  | .bool _ => by simp only [szD]; omega
  | .int _ => by simp only [szD]; omega
  | .str _ => by simp only [szD]; omega
  | .list _ => by simp only [szD]; omega
  | .tuple _ => by simp only [szD]; omega
  | .dict _ => by simp only [szD]; omega
theorem okI_items : ∀ {ds : List PyData}, bdAll ds = true → dlAll ds = true → PyData.depthAll ds ≤ 39 → szAll ds ≤ 200 → ds.length ≤ szAll ds ∧ ∀ x ∈ ds, OkI x
  | [], _, _, _, _ => ⟨Nat.zero_le _, fun x hx => nomatch hx⟩
  | y :: r, h1, h2, h3, h4 => by
    simp only [bdAll, Bool.and_eq_true] at h1
    simp only [dlAll, Bool.and_eq_true] at h2
    simp only [PyData.depthAll] at h3
    simp only [szAll] at h4 ⊢
    have p := szD_pos y
    obtain ⟨g1, g2⟩ := okI_items h1.2 h2.2 (Nat.le_trans (Nat.le_max_right _ _) h3) (by omega)
    refine ⟨by rw [List.length_cons]; omega, fun x hx => ?_⟩
    rcases List.mem_cons.mp hx with rfl | hx
    · exact ⟨h1.1, h2.1, Nat.le_trans (Nat.le_max_left _ _) h3, by omega⟩
    · exact g2 x hx
theorem OkT.items {m : Nat} {ds : List PyData} (h : OkT m (.tuple ds)) (hm : 200 ≤ m) : ds.length ≤ m ∧ ∀ x ∈ ds, OkI x := by
  rcases h with h | ⟨es, e, h1, h2⟩
  · obtain ⟨h1, h2, h3, h4⟩ := h
    simp only [bdD] at h1
    simp only [dlD] at h2
    simp only [PyData.depth] at h3
    simp only [szD] at h4
    obtain ⟨g1, g2⟩ := okI_items h1 h2 (by omega) (by omega)
    exact ⟨by omega, g2⟩
  · cases e
    exact ⟨h1, h2⟩
theorem OkT.tup {m : Nat} {ds : List PyData} (h1 : ds.length ≤ m) (h2 : ∀ x ∈ ds, OkI x) : OkT m (.tuple ds) := .inr ⟨ds, rfl, h1, h2⟩
theorem dOfs_len (ds : List PyData) : (dOfs ds).length = ds.length := by rw [dOfs_map, List.length_map]
theorem OkT.small {m : Nat} {d : PyData} (h : OkT m d) (h0 : 200 ≤ m) (hm : m ≤ 1000) : smallD (dOf d) := by
  cases d with
  | tuple ds =>
    have := (h.items h0).1
    simp only [dOf]
    show (dOfs ds).length ≤ 1000
    rw [dOfs_len]
    omega
  | _ => simp only [dOf]; exact True.intro
theorem OkI.simple {d : PyData} (h1 : bdD d = true) (h2 : dlD d = true) (h3 : d.depth ≤ 39) (h4 : szD d ≤ 200) : OkI d := ⟨h1, h2, h3, h4⟩
theorem rowD_no {n : Nat} {d : Da} (h : ∀ ds, d ≠ .tup ds) : rowD n d = false := by
  cases d with
  | tup ds => exact absurd rfl (h ds)
  | _ => rfl
theorem lotD_no {n : Nat} {d : Da} (h : ∀ ds, d ≠ .tup ds) : lotD n d = false := by
  cases d with
  | tup ds => exact absurd rfl (h ds)
  | _ => rfl
def pO : Option Int → PyData
  | none => .none
  | some n => .int n
theorem dOf_pO (l : List (Option Int)) : dOfs (l.map pO) = l.map dO := by
  rw [dOfs_map, List.map_map]
  refine List.map_congr_left fun o _ => ?_
  cases o <;> simp [pO, dOf, dO]
theorem TgsS.lot {K : PySem.W.Frag} {p c : Addr} {H : Hp} : ∀ l : List (Option Int), TgsS K p c H (l.map vO) (l.map pO)
  | [] => .nil
  | none :: r => .cons .non (TgsS.lot r)
  | some n :: r => .cons (.int n) (TgsS.lot r)
theorem lot_ok {l : List (Option Int)} (h : ∀ n, some n ∈ l → n.natAbs < 10 ^ 38) : ∀ x ∈ l.map pO, OkI x := fun x hx => by
  obtain ⟨o, ho, rfl⟩ := List.mem_map.mp hx
  cases o with
  | none => exact ⟨by simp [pO, bdD], by simp [pO, dlD], by simp [pO, PyData.depth], by simp [pO, szD]⟩
  | some n => exact OkI.int (h n ho)
theorem nat_ints (l : List Nat) : l.map vNat = (l.map fun j => ((j : Nat) : Int)).map V.int := by
  rw [List.map_map] <;> rfl
theorem thereV_ints (ds : List Da) : thereV ds = (((List.range ds.length).filter fun j => !isNon (ds.getD j .non)).map fun j => ((j : Nat) : Int)).map V.int := by
  unfold thereV given
  rw [List.map_map] <;> rfl
def bools (l : List Bool) : PyData := .list (l.map .bool)
theorem dp_bools {K : PySem.W.Frag} {H : Hp} {a : Addr} {l : List Bool} (h : SqL K H a (l.map V.bl)) : Dp K H (.ref a) (bools l) := by
  refine .lst h ?_
  clear h
  induction l with
  | nil => exact .nil
  | cons b r ih => exact .cons (.bl b) ih
theorem shaped_bools (l : List Bool) : SeqAt.shaped (bools l) = true := by
  have h1 : PyData.canLayAll0 (l.map PyData.bool) = true := by
    induction l with
    | nil => simp [PyData.canLayAll0]
    | cons b r ih => simp [PyData.canLayAll0, PyData.canLay0, ih]
  have h2 : PyData.depthAll (l.map PyData.bool) = 0 := by
    induction l with
    | nil => simp [PyData.depthAll]
    | cons b r ih =>
      have := ih (by
        have := h1
        simp only [List.map_cons, PyData.canLayAll0, Bool.and_eq_true] at this
        exact this.2)
      simp [PyData.depthAll, PyData.depth, this]
  unfold SeqAt.shaped bools
  rw [Bool.and_eq_true]
  exact ⟨by simp only [PyData.canLay0]; exact h1, decide_eq_true (by simp only [PyData.depth, h2]; omega)⟩
theorem eqv_bools (l : List Bool) : PyData.eqv (bools l) (bools l) = true := SeqAt.eqv_refl _ (by
  have := shaped_bools l
  unfold SeqAt.shaped at this
  rw [Bool.and_eq_true] at this
  exact this.1)
theorem ord_row {n : Nat} {d : Da} (h : rowD n d = false) : ordD n d = false := by
  cases d with
  | tup ds =>
    show (rowD n (.tup ds) && _) = false
    rw [h, Bool.false_and]
  | _ => rfl
theorem grp_row {n : Nat} {d : Da} (h : rowD n d = false) : groupD n d = false := by
  cases d with
  | tup ds =>
    show (rowD n (.tup ds) && _) = false
    rw [h, Bool.false_and]
  | _ => rfl
/-! ### k01 -/
def hourD : Da → Bool | .int z => decide (0 ≤ z) && decide (z ≤ 1000000) | _ => false
abbrev sp_l_is_hour (K : PySem.W.Frag) (A : Ad) : Sp := spJudge K hourD
abbrev sp_l_is_window (K : PySem.W.Frag) (A : Ad) : Sp := spJudge K winD
abbrev sp_l_are_windows (K : PySem.W.Frag) (A : Ad) : Sp := fun vs H Q _ => Sp1 vs fun x => ∃ d, Rp K H x d ∧ smallD d ∧ ∀ H', Ex H H' → Q (.bl (winsD d)) H'
abbrev sp_l_bent01 (K : PySem.W.Frag) (A : Ad) : Sp := fun vs H Q _ => Sp2 vs fun x y => ∃ (p c : Addr) (m : Nat) (ds : List PyData), x = .ref p ∧ PoolAt H p c ∧ TgS K p c H y (.tuple ds) ∧ OkT m (.tuple ds) ∧ 200 ≤ m ∧ m ≤ 900 ∧ 1 ≤ ds.length ∧
  ∀ (v : V) (ds' : List PyData) (H' : Hp), PoolAt H' p c → Kept p c H H' → TgS K p c H' v (.tuple ds') → OkT m (.tuple ds') → ds'.length = ds.length → Q v H'
theorem winD_hours {d1 d2 : Da} : winD (.tup [d1, d2]) = (hourD d1 && (hourD d2 && (match d1, d2 with | .int f, .int l => decide (f ≤ l) | _, _ => false))) := by
  cases d1 with
  | int f =>
    cases d2 with
    | int l =>
      simp only [winD, hourD]
      by_cases a : 0 ≤ f <;> by_cases b : f ≤ l <;> by_cases c : l ≤ 1000000 <;> by_cases e : f ≤ 1000000 <;> by_cases g : 0 ≤ l <;> simp [a, b, c, e, g] <;> omega
    | _ => simp [winD, hourD]
  | _ => simp [winD, hourD]
/-- a small item -/
structure OkS (d : PyData) : Prop where
  bd : bdD d = true
  dl : dlD d = true
  dp : d.depth ≤ 3
  sz : szD d ≤ 10
theorem okS_all : ∀ {ds : List PyData}, (∀ x ∈ ds, OkS x) → bdAll ds = true ∧ dlAll ds = true ∧ PyData.depthAll ds ≤ 3 ∧ szAll ds ≤ 10 * ds.length
  | [], _ => by simp [bdAll, dlAll, PyData.depthAll, szAll]
  | x :: r, h => by
    obtain ⟨h1, h2, h3, h4⟩ := okS_all (ds := r) fun y hy => h y (List.mem_cons_of_mem _ hy)
    obtain ⟨g1, g2, g3, g4⟩ := h x (List.mem_cons_self ..)
    simp only [bdAll, dlAll, PyData.depthAll, szAll, List.length_cons, h1, h2, g1, g2, Bool.and_self, true_and]
    refine ⟨Nat.max_le.mpr ⟨g3, h3⟩, ?_⟩
    omega
theorem OkS.tup {ds : List PyData} (h : ∀ x ∈ ds, OkS x) (hl : ds.length ≤ 10) : OkI (.tuple ds) := by
  obtain ⟨h1, h2, h3, h4⟩ := okS_all h
  refine ⟨by simp only [bdD]; exact h1, by simp only [dlD]; exact h2, by simp only [PyData.depth]; omega, by simp only [szD]; omega⟩
theorem OkS.big {d : PyData} (h : OkS d) : OkI d := ⟨h.bd, h.dl, by have := h.dp; omega, by have := h.sz; omega⟩
theorem OkS.int {i : Int} (h : i.natAbs < 10 ^ 38) : OkS (.int i) := ⟨by simp only [bdD]; exact decide_eq_true h, by simp only [dlD], by simp only [PyData.depth]; omega, by simp only [szD]; omega⟩
theorem OkS.pair {i j : Int} (h1 : i.natAbs < 10 ^ 38) (h2 : j.natAbs < 10 ^ 38) : OkS (.tuple [.int i, .int j]) := by
  refine ⟨?_, by simp [dlD, dlAll], by simp [PyData.depth, PyData.depthAll], by simp [szD, szAll]⟩
  simp only [bdD, bdAll, Bool.and_true, Bool.and_eq_true, decide_eq_true_eq]
  exact ⟨h1, h2⟩
theorem bdAll_of {ds : List PyData} (h : ∀ x ∈ ds, bdD x = true) : bdAll ds = true := by
  induction ds with
  | nil => simp [bdAll]
  | cons x r ih =>
    simp only [bdAll, Bool.and_eq_true]
    exact ⟨h x (List.mem_cons_self ..), ih fun y hy => h y (List.mem_cons_of_mem _ hy)⟩
theorem wins_facts : ∀ ws : List (Int × Int), PyData.hasDictAll (ws.map dPair) = false ∧ dlAll (ws.map dPair) = true ∧ PyData.depthAll (ws.map dPair) ≤ 1 ∧ szAll (ws.map dPair) = 3 * ws.length
  | [] => by simp [PyData.hasDictAll, dlAll, PyData.depthAll, szAll]
  | q :: r => by
    obtain ⟨h1, h2, h3, h4⟩ := wins_facts r
    simp only [List.map_cons, PyData.hasDictAll, dlAll, PyData.depthAll, szAll, dPair, PyData.hasDict, dlD, PyData.depth, szD, h1, h2, h4, List.length_cons]
    refine ⟨by simp, by simp, ?_, by omega⟩
    have : max 0 (max 0 0) = 0 := rfl
    refine Nat.max_le.mpr ⟨?_, h3⟩
    decide
theorem OkI.wins {ws : List (Int × Int)} (h : ∀ q ∈ ws, q.1.natAbs < 10 ^ 38 ∧ q.2.natAbs < 10 ^ 38) (hl : ws.length ≤ 60) : OkI (.tuple (ws.map dPair)) ∧ OkI (.list (ws.map dPair)) := by
  obtain ⟨h1, h2, h3, h4⟩ := wins_facts ws
  have hb : bdAll (ws.map dPair) = true := bdAll_of fun x hx => by
    obtain ⟨q, hq, rfl⟩ := List.mem_map.mp hx
    exact (OkS.pair (h q hq).1 (h q hq).2).bd
  exact ⟨⟨by simp only [bdD]; exact hb, by simp only [dlD]; exact h2, by simp only [PyData.depth]; omega, by simp only [szD]; omega⟩, ⟨by simp only [bdD]; exact hb, by simp only [dlD, h1]; rfl, by simp only [PyData.depth]; omega, by simp only [szD]; omega⟩⟩
theorem TgsS.pairs {K : PySem.W.Frag} {p c : Addr} {H : Hp} : ∀ {as : List Addr} {ws : List (Int × Int)}, PairsAt K H as ws → TgsS K p c H (as.map V.ref) (ws.map dPair)
  | [], [], _ => .nil
  | a :: r, q :: s, h => .cons (.tup (h.2 0 a q rfl rfl) (.cons (.int _) (.cons (.int _) .nil))) (TgsS.pairs ⟨by simpa using h.1, fun i a q x y => h.2 (i + 1) a q x y⟩)
  | [], _ :: _, h => by simp [PairsAt] at h
  | _ :: _, [], h => by simp [PairsAt] at h
theorem dPair_of {e : PyData} (h : winD (dOf e) = true) : ∃ q : Int × Int, e = dPair q := by
  cases e with
  | tuple xs =>
    simp only [dOf] at h
    match xs, h with
    | [], h => simp [dOfs, winD] at h
    | [_], h => simp [dOfs, winD] at h
    | [x, y], h =>
      simp only [dOfs] at h
      cases x <;> simp only [dOf, winD] at h <;> try cases h
      cases y <;> simp only [dOf, winD] at h <;> try cases h
      rename_i i j
      exact ⟨(i, j), rfl⟩
    | _ :: _ :: _ :: _, h => simp [dOfs, winD] at h
  | _ => simp [dOf, winD] at h
theorem dPairs_of : ∀ {es : List PyData}, (dOfs es).all winD = true → ∃ ws : List (Int × Int), es = ws.map dPair
  | [], _ => ⟨[], rfl⟩
  | e :: r, h => by
    simp only [dOfs, List.all_cons, Bool.and_eq_true] at h
    obtain ⟨q, rfl⟩ := dPair_of h.1
    obtain ⟨ws, rfl⟩ := dPairs_of h.2
    exact ⟨q :: ws, rfl⟩
theorem wins_of {d : PyData} (h : winsD (dOf d) = true) : ∃ ws : List (Int × Int), d = .tuple (ws.map dPair) ∧ ws.length ≤ 40 := by
  cases d with
  | tuple xs =>
    simp only [dOf] at h
    have h' : (decide (1 ≤ (dOfs xs).length) && decide ((dOfs xs).length ≤ 40) && (dOfs xs).all winD) = true := h
    simp only [Bool.and_eq_true, decide_eq_true_eq] at h'
    obtain ⟨ws, rfl⟩ := dPairs_of h'.2
    refine ⟨ws, rfl, ?_⟩
    have := h'.1.2
    rw [dOfs_len, List.length_map] at this
    exact this
  | _ => simp only [dOf] at h; cases h
theorem tg_pairs {K : PySem.W.Frag} {H : Hp} {v : V} {ws : List (Int × Int)} (h : Tg K H v (.tuple (ws.map dPair))) : ∃ a xs, v = .ref a ∧ SqT K H a xs ∧ Dp K H v (.tuple (ws.map dPair)) := by
  cases h with
  | @tup a xs _ hs r =>
    refine ⟨a, xs, rfl, hs, .tup hs ?_⟩
    clear hs
    induction ws generalizing xs with
    | nil =>
      cases r
      exact .nil
    | cons q s ih =>
      rw [List.map_cons] at r
      cases r with
      | cons r1 r2 =>
        refine .cons ?_ (ih r2)
        cases r1 with
        | tup h1 h2 =>
          cases h2 with
          | cons h3 h4 =>
            cases h4 with
            | cons h5 h6 =>
              cases h6
              cases h3
              cases h5
              exact .tup h1 (.cons (.int _) (.cons (.int _) .nil))
/-! ### throws -/
abbrev Tw := Str × List Nat
def twV (t : Tw) : List V := .str t.1 :: t.2.map vNat
def twR (t : Tw) : List PyData := .str t.1 :: t.2.map fun n : Nat => PyData.int (n : Int)
def twD (t : Tw) : PyData := .tuple (twR t)
def twM (a b : Nat) : Tw := (Str.ofString "middle", [a, b])
def twF (a b c : Nat) : Tw := (Str.ofString "front", [a, b, c])
def twB (a b c : Nat) : Tw := (Str.ofString "back", [a, b, c])
def midW (ws : List (Int × Int)) (j : Nat) : Int := fstAt ws j + lstAt ws j
/-- the window of b lies within that of a -/
def insW (ws : List (Int × Int)) (b a : Nat) : Bool := decide (fstAt ws a < fstAt ws b) && decide (lstAt ws b < lstAt ws a)
def midsT (ws : List (Int × Int)) (a : Nat) (l : List Nat) : List Tw := (l.filter fun b => decide (midW ws a > midW ws b)).map (twM a)
def frontT (ws : List (Int × Int)) (a : Nat) (behind : List Nat) (b : Nat) : List Tw := if insW ws b a = true then (behind.filter fun c => decide (fstAt ws c < midW ws b - fstAt ws a)).map (twF a b) else []
def backT (ws : List (Int × Int)) (a : Nat) (ahead : List Nat) (b : Nat) : List Tw := if insW ws b a = true then (ahead.filter fun c => decide (lstAt ws c > midW ws b - lstAt ws a)).map (twB a b) else []
def overT (ws : List (Int × Int)) (ahead : List Nat) (a : Nat) (behind : List Nat) : List Tw := ahead.flatMap (frontT ws a behind) ++ behind.flatMap (backT ws a ahead)
/-- the throws of the works behind, those ahead given -/
def rowT (ws : List (Int × Int)) : List Nat → List Nat → List Tw
  | _, [] => []
  | ahead, a :: r => (midsT ws a r ++ overT ws ahead a r) ++ rowT ws (ahead ++ [a]) r
/-- as the law goes: of the i-th work a, over the j-th work b -/
def lawC (ws : List (Int × Int)) (ahead : List Nat) (a : Nat) (behind : List Nat) (j b : Nat) : List Tw :=
  (if (decide (ahead.length < j) && decide (midW ws a > midW ws b)) = true then [twM a b] else []) ++
  (if (decide (ahead.length ≠ j) && insW ws b a) = true then
    (behind.filter fun c => decide (j < ahead.length) && decide (fstAt ws c < midW ws b - fstAt ws a)).map (twF a b) ++
    (ahead.filter fun c => decide (ahead.length < j) && decide (lstAt ws c > midW ws b - lstAt ws a)).map (twB a b) else [])
def lawIn (ws : List (Int × Int)) (ahead : List Nat) (a : Nat) (behind : List Nat) : Nat → List Nat → List Tw
  | _, [] => []
  | j, b :: r => lawC ws ahead a behind j b ++ lawIn ws ahead a behind (j + 1) r
def lawOut (ws : List (Int × Int)) (row : List Nat) : List Nat → List Nat → List Tw
  | _, [] => []
  | ahead, a :: r => lawIn ws ahead a r 0 row ++ lawOut ws row (ahead ++ [a]) r
theorem filter_no {α : Type} (l : List α) : l.filter (fun _ => false) = [] := List.filter_eq_nil_iff.mpr fun _ _ => Bool.false_ne_true
theorem lawIn_app (ws : List (Int × Int)) (ahead : List Nat) (a : Nat) (behind : List Nat) : ∀ (l m : List Nat) (j : Nat), lawIn ws ahead a behind j (l ++ m) = lawIn ws ahead a behind j l ++ lawIn ws ahead a behind (j + l.length) m
  | [], m, j => by simp [lawIn]
  | x :: l, m, j => by
    show lawC ws ahead a behind j x ++ lawIn ws ahead a behind (j + 1) (l ++ m) = (lawC ws ahead a behind j x ++ lawIn ws ahead a behind (j + 1) l) ++ _
    rw [lawIn_app ws ahead a behind l m (j + 1), List.append_assoc, List.length_cons]
    have : j + 1 + l.length = j + (l.length + 1) := by omega
    rw [this]
theorem lawIn_low (ws : List (Int × Int)) (ahead : List Nat) (a : Nat) (behind : List Nat) : ∀ (l : List Nat) (j : Nat), j + l.length ≤ ahead.length → lawIn ws ahead a behind j l = l.flatMap (frontT ws a behind)
  | [], _, _ => rfl
  | b :: l, j, h => by
    rw [List.length_cons] at h
    have c1 : decide (ahead.length < j) = false := decide_eq_false (by omega)
    have c2 : decide (ahead.length ≠ j) = true := decide_eq_true (by omega)
    have c3 : decide (j < ahead.length) = true := decide_eq_true (by omega)
    show lawC ws ahead a behind j b ++ lawIn ws ahead a behind (j + 1) l = _
    rw [lawIn_low ws ahead a behind l (j + 1) (by omega), List.flatMap_cons]
    unfold lawC frontT
    simp only [c1, c2, c3, Bool.false_and, Bool.true_and, Bool.false_eq_true, if_false, List.nil_append, filter_no, List.map_nil, List.append_nil]
theorem lawIn_high (ws : List (Int × Int)) (ahead : List Nat) (a : Nat) (behind : List Nat) : ∀ (l : List Nat) (j : Nat), ahead.length < j → (lawIn ws ahead a behind j l).Perm (midsT ws a l ++ l.flatMap (backT ws a ahead))
  | [], _, _ => List.Perm.refl _
  | b :: l, j, h => by
    have c1 : decide (ahead.length < j) = true := decide_eq_true h
    have c2 : decide (ahead.length ≠ j) = true := decide_eq_true (by omega)
    have c3 : decide (j < ahead.length) = false := decide_eq_false (by omega)
    have ih := lawIn_high ws ahead a behind l (j + 1) (by omega)
    have e1 : midsT ws a (b :: l) = (if decide (midW ws a > midW ws b) = true then [twM a b] else []) ++ midsT ws a l := by
      unfold midsT
      rw [List.filter_cons]
      split <;> rfl
    have e2 : lawC ws ahead a behind j b = (if decide (midW ws a > midW ws b) = true then [twM a b] else []) ++ backT ws a ahead b := by
      unfold lawC backT
      simp only [c1, c2, c3, Bool.false_and, Bool.true_and, filter_no, List.map_nil, List.nil_append]
    show (lawC ws ahead a behind j b ++ lawIn ws ahead a behind (j + 1) l).Perm _
    rw [e1, e2, List.flatMap_cons, List.append_assoc, List.append_assoc]
    refine List.Perm.append_left _ ?_
    refine (List.Perm.append_left _ ih).trans ?_
    rw [← List.append_assoc, ← List.append_assoc]
    exact List.Perm.append_right _ List.perm_append_comm
theorem lawIn_perm (ws : List (Int × Int)) (ahead : List Nat) (a : Nat) (behind : List Nat) : (lawIn ws ahead a behind 0 (ahead ++ a :: behind)).Perm (midsT ws a behind ++ overT ws ahead a behind) := by
  rw [lawIn_app, lawIn_low _ _ _ _ _ _ (by omega)]
  have e : lawIn ws ahead a behind (0 + ahead.length) (a :: behind) = lawIn ws ahead a behind (ahead.length + 1) behind := by
    show lawC ws ahead a behind (0 + ahead.length) a ++ lawIn ws ahead a behind (0 + ahead.length + 1) behind = _
    rw [Nat.zero_add]
    have c1 : decide (ahead.length < ahead.length) = false := decide_eq_false (by omega)
    have c2 : decide (ahead.length ≠ ahead.length) = false := decide_eq_false (by omega)
    unfold lawC
    simp only [c1, c2, Bool.false_and, Bool.false_eq_true, if_false, List.nil_append]
  rw [e]
  refine (List.Perm.append_left _ (lawIn_high ws ahead a behind behind _ (Nat.lt_succ_self _))).trans ?_
  unfold overT
  rw [← List.append_assoc, ← List.append_assoc]
  exact List.Perm.append_right _ List.perm_append_comm
theorem lawOut_perm (ws : List (Int × Int)) (row : List Nat) : ∀ (ahead r : List Nat), ahead ++ r = row → (lawOut ws row ahead r).Perm (rowT ws ahead r)
  | _, [], _ => List.Perm.refl _
  | ahead, a :: r, h => by
    refine List.Perm.append ?_ (lawOut_perm ws row (ahead ++ [a]) r (by rw [← h]; simp))
    rw [← h]
    exact lawIn_perm ws ahead a r
/-! sorted -/
def srtT (ts : List Tw) : List Tw := ts.mergeSort (PySem.W.dataLe false twD)
theorem twLe_trans (x y z : Tw) (h1 : PySem.W.dataLe false twD x y = true) (h2 : PySem.W.dataLe false twD y z = true) : PySem.W.dataLe false twD x z = true := by
  have e1 : PySem.W.dataLt (twD y) (twD x) = false := by simpa [PySem.W.dataLe_eq] using h1
  have e2 : PySem.W.dataLt (twD z) (twD y) = false := by simpa [PySem.W.dataLe_eq] using h2
  have e3 : PySem.W.dataLt (twD z) (twD x) = false := by
    cases e : PySem.W.dataLt (twD z) (twD x) with
    | false => rfl
    | true =>
      rcases PyProof.Rows.lex_negTrans (O := PyProof.Rows.itemOrd) _ (PySem.W.keyToks (twD y)) _ e with q | q
      · exact q.symm.trans e2
      · exact q.symm.trans e1
  simpa [PySem.W.dataLe_eq] using e3
theorem twLe_total (x y : Tw) : (PySem.W.dataLe false twD x y || PySem.W.dataLe false twD y x) = true := by
  cases h1 : PySem.W.dataLe false twD x y with
  | true => rfl
  | false =>
    have e1 : PySem.W.dataLt (twD y) (twD x) = true := by simpa [PySem.W.dataLe_eq] using h1
    have e2 : PySem.W.dataLt (twD x) (twD y) = false := by
      cases e : PySem.W.dataLt (twD x) (twD y) with
      | false => rfl
      | true => exact (PyProof.Rows.lex_trans (O := PyProof.Rows.itemOrd) _ _ _ e e1).symm.trans (PyProof.Rows.lex_irrefl (O := PyProof.Rows.itemOrd) _)
    have : PySem.W.dataLe false twD y x = true := by simpa [PySem.W.dataLe_eq] using e2
    rw [this] <;> rfl
theorem eqvR_ints : ∀ (l m : List Nat), PyData.eqvAll (l.map fun n : Nat => PyData.int (n : Int)) (m.map fun n : Nat => PyData.int (n : Int)) = decide (l = m)
  | [], [] => rfl
  | [], _ :: _ => by simp [PyData.eqvAll]
  | _ :: _, [] => by simp [PyData.eqvAll]
  | x :: l, y :: m => by
    rw [List.map_cons, List.map_cons, PyData.eqvAll, eqvR_ints l m]
    simp only [PyData.eqv]
    rw [Bool.eq_iff_iff]
    simp only [Bool.and_eq_true, beq_iff_eq, decide_eq_true_eq, List.cons.injEq]
    exact and_congr ⟨fun h => by omega, fun h => by rw [h]⟩ Iff.rfl
theorem eqv_tw (x y : Tw) : PyData.eqv (twD x) (twD y) = decide (x = y) := by
  unfold twD twR
  rw [PyData.eqv, PyData.eqvAll, eqvR_ints]
  simp only [PyData.eqv]
  rw [Bool.eq_iff_iff]
  simp [Prod.ext_iff]
theorem alike_tw (x y : Tw) : PySem.W.alike (twD x) (twD y) = true := by
  have q : ∀ l m : List Nat, PySem.W.alikeAll (l.map fun n : Nat => PyData.int (n : Int)) (m.map fun n : Nat => PyData.int (n : Int)) = true := fun l m => by
    have := PySem.W.alike_ints (l.map fun n : Nat => (n : Int)) (m.map fun n : Nat => (n : Int))
    simpa [List.map_map, Function.comp_def] using this
  unfold twD twR
  rw [PySem.W.alike, PySem.W.alikeAll, q]
  simp [PySem.W.alike]
theorem ints_toks : ∀ (l m : List Nat), PySem.W.keyToksAll (l.map fun n : Nat => PyData.int (n : Int)) = PySem.W.keyToksAll (m.map fun n : Nat => PyData.int (n : Int)) → l = m
  | [], [], _ => rfl
  | [], y :: m, h => by
    rw [List.map_nil, List.map_cons, PySem.W.keyToksAll, PySem.W.keyToksAll] at h
    simp at h
  | x :: l, [], h => by
    rw [List.map_nil, List.map_cons, PySem.W.keyToksAll, PySem.W.keyToksAll] at h
    simp at h
  | x :: l, y :: m, h => by
    rw [List.map_cons, List.map_cons, PySem.W.keyToksAll, PySem.W.keyToksAll, PySem.W.keyToks, PySem.W.keyToks] at h
    have h1 := (List.cons.inj h).2
    have h2 : (Sum.inl (x : Int) : Int ⊕ List Nat) = Sum.inl (y : Int) := (List.cons.inj h1).1
    have h3 := (List.cons.inj h1).2
    rw [ints_toks l m h3]
    have := Sum.inl.inj h2
    have e : x = y := by omega
    rw [e]
theorem tw_toks {x y : Tw} (h : PySem.W.keyToks (twD x) = PySem.W.keyToks (twD y)) : x = y := by
  unfold twD twR at h
  rw [PySem.W.keyToks, PySem.W.keyToks, PySem.W.keyToksAll, PySem.W.keyToksAll, PySem.W.keyToks, PySem.W.keyToks] at h
  have h1 := (List.cons.inj h).2
  have h2 := (List.cons.inj h1).1
  have h3 := (List.cons.inj h1).2
  exact Prod.ext (PySem.W.str_of_cps (Sum.inr.inj h2)) (ints_toks _ _ h3)
theorem twLe_anti (x y : Tw) (h1 : PySem.W.dataLe false twD x y = true) (h2 : PySem.W.dataLe false twD y x = true) : x = y := by
  have e1 : PySem.W.dataLt (twD y) (twD x) = false := by simpa [PySem.W.dataLe_eq] using h1
  have e2 : PySem.W.dataLt (twD x) (twD y) = false := by simpa [PySem.W.dataLe_eq] using h2
  exact tw_toks (PyProof.Rows.lex_total (O := PyProof.Rows.itemOrd) _ _ e2 e1)
theorem one_sorted {α : Type} {le : α → α → Bool} (anti : ∀ x y, le x y = true → le y x = true → x = y) : ∀ {l m : List α}, l.Pairwise (fun x y => le x y = true) → m.Pairwise (fun x y => le x y = true) → l.Perm m → l = m
  | [], m, _, _, h => (List.Perm.eq_nil h.symm).symm
  | x :: l, [], _, _, h => absurd h.length_eq (by simp)
  | x :: l, y :: m, hl, hm, h => by
    have e : x = y := by
      rcases List.mem_cons.mp (h.mem_iff.mp (List.mem_cons_self (a := x) (l := l))) with e | hx
      · exact e
      · rcases List.mem_cons.mp (h.mem_iff.mpr (List.mem_cons_self (a := y) (l := m))) with e | hy
        · exact e.symm
        · exact anti _ _ ((List.pairwise_cons.mp hl).1 y hy) ((List.pairwise_cons.mp hm).1 x hx)
    subst e
    rw [one_sorted anti (List.pairwise_cons.mp hl).2 (List.pairwise_cons.mp hm).2 h.cons_inv]
theorem srt_perm {ts us : List Tw} (h : ts.Perm us) : srtT ts = srtT us :=
  one_sorted twLe_anti (List.pairwise_mergeSort twLe_trans twLe_total ts) (List.pairwise_mergeSort twLe_trans twLe_total us) (((List.mergeSort_perm ts _).trans h).trans (List.mergeSort_perm us _).symm)
theorem srt_len (ts : List Tw) : (srtT ts).length = ts.length := List.length_mergeSort _
/-! the list of throws at f -/
def TwAt (H : Hp) (p : V × Tw) : Prop := ∃ a, p.1 = .ref a ∧ H a = some (.tup (twV p.2))
def TL (H : Hp) (f : Addr) (ts : List Tw) : Prop := ∃ bs : List (V × Tw), H f = some (.lst (bs.map (·.1))) ∧ (∀ p ∈ bs, TwAt H p) ∧ bs.map (·.2) = ts
theorem TwAt.ext {H H' : Hp} {p : V × Tw} (h : TwAt H p) (e : Ex H H') : TwAt H' p := by
  obtain ⟨a, h1, h2⟩ := h
  exact ⟨a, h1, e _ _ h2⟩
theorem TwAt.upd {H : Hp} {p : V × Tw} {f : Addr} {xs ys : List V} (h : TwAt H p) (hf : H f = some (.lst xs)) : TwAt (L2.upd H f (.lst ys)) p := by
  obtain ⟨a, h1, h2⟩ := h
  refine ⟨a, h1, ?_⟩
  rw [upd_ne fun z => by rw [z, hf] at h2; cases h2]
  exact h2
theorem TL.ext {H H' : Hp} {f : Addr} {ts : List Tw} (h : TL H f ts) (e : Ex H H') : TL H' f ts := by
  obtain ⟨bs, h1, h2, h3⟩ := h
  exact ⟨bs, e _ _ h1, fun p m => (h2 p m).ext e, h3⟩
theorem TL.new {H : Hp} {f : Addr} (h : H f = some (.lst [])) : TL H f [] := ⟨[], h, fun p m => by simp at m, rfl⟩
/-- another list was written -/
theorem TL.beside {H : Hp} {f g : Addr} {xs ys : List V} {ts : List Tw} (h : TL H f ts) (hg : H g = some (.lst xs)) (ne : f ≠ g) : TL (L2.upd H g (.lst ys)) f ts := by
  obtain ⟨bs, h1, h2, h3⟩ := h
  exact ⟨bs, by rw [upd_ne ne]; exact h1, fun p m => (h2 p m).upd hg, h3⟩
theorem TL.at {H : Hp} {f : Addr} {ts : List Tw} (h : TL H f ts) : ∃ xs, H f = some (.lst xs) ∧ xs.length = ts.length := by
  obtain ⟨bs, h1, h2, h3⟩ := h
  exact ⟨_, h1, by rw [List.length_map, ← h3, List.length_map]⟩
theorem TL.cat {H : Hp} {f z : Addr} {xs zs : List V} {ts us : List Tw} (h : TL H f ts) (g : TL H z us) (hx : H f = some (.lst xs)) (hz : H z = some (.lst zs)) : TL (L2.upd H f (.lst (xs ++ zs))) f (ts ++ us) := by
  obtain ⟨bs, h1, h2, h3⟩ := h
  obtain ⟨cs, g1, g2, g3⟩ := g
  have e1 : xs = bs.map (·.1) := by
    rw [hx] at h1
    injection h1 with h1
    injection h1
  have e2 : zs = cs.map (·.1) := by
    rw [hz] at g1
    injection g1 with g1
    injection g1
  refine ⟨bs ++ cs, by rw [upd_same, List.map_append, e1, e2], fun p m => ?_, by rw [List.map_append, h3, g3]⟩
  rcases List.mem_append.mp m with m | m
  · exact (h2 p m).upd hx
  · exact (g2 p m).upd hx
theorem TL.push {H : Hp} {f r : Addr} {xs : List V} {ts : List Tw} {t : Tw} (h : TL H f ts) (hx : H f = some (.lst xs)) (hr : H r = some (.tup (twV t))) : TL (L2.upd H f (.lst (xs ++ [.ref r]))) f (ts ++ [t]) := by
  obtain ⟨bs, h1, h2, h3⟩ := h
  have e1 : xs = bs.map (·.1) := by
    rw [hx] at h1
    injection h1 with h1
    injection h1
  refine ⟨bs ++ [(.ref r, t)], by rw [upd_same, List.map_append, e1] <;> rfl, fun p m => ?_, by rw [List.map_append, h3] <;> rfl⟩
  rcases List.mem_append.mp m with m | m
  · exact (h2 p m).upd hx
  · rw [List.mem_singleton.mp m]
    exact TwAt.upd ⟨r, rfl, hr⟩ hx
theorem dpAll_nats {K : PySem.W.Frag} {H : Hp} : ∀ l : List Nat, DpAll K H (l.map vNat) (l.map fun n : Nat => PyData.int (n : Int))
  | [] => .nil
  | x :: l => .cons (.int _) (dpAll_nats l)
theorem TwAt.dp {K : PySem.W.Frag} {H : Hp} {p : V × Tw} (h : TwAt H p) : Dp K H p.1 (twD p.2) := by
  obtain ⟨a, h1, h2⟩ := h
  rw [h1]
  exact .tup (SqT.of h2) (.cons (.str _) (dpAll_nats _))
theorem TL.dp {K : PySem.W.Frag} {H : Hp} {f : Addr} {ts : List Tw} (h : TL H f ts) : Dp K H (.ref f) (.list (ts.map twD)) := by
  obtain ⟨bs, h1, h2, rfl⟩ := h
  refine .lst (SqL.of h1) ?_
  clear h1
  induction bs with
  | nil => exact .nil
  | cons b r ih => exact .cons (h2 b (List.mem_cons_self ..)).dp (ih fun p m => h2 p (List.mem_cons_of_mem _ m))
theorem depth_tw (t : Tw) : (twD t).depth ≤ 60 := by
  have q : PyData.depthAll (t.2.map fun n : Nat => PyData.int (n : Int)) = 0 := by
    have := PySem.W.depth_ints (t.2.map fun n : Nat => (n : Int))
    simpa [List.map_map, Function.comp_def] using this
  unfold twD twR
  rw [PyData.depth, PyData.depthAll, q]
  simp [PyData.depth]
/-- sorted(found) -/
theorem TL.srt {K : PySem.W.Frag} {H : Hp} {f : Addr} {ts : List Tw} {Q : VK} (h : TL H f ts) (q : ∀ p H', H p = none → Ex H H' → TL H' p (srtT ts) → Q (.ref p) H') : rSortedD K [.ref f] H Q := by
  obtain ⟨bs, h1, h2, rfl⟩ := h
  refine ⟨f, V × Tw, bs, (·.1), fun p => twD p.2, rfl, SqL.of h1, fun p m => (h2 p m).dp, PySem.W.AllAlike.of fun b c => alike_tw _ _, PySem.W.Sortable.tuples fun b => ⟨_, _, rfl⟩, fun b _ => depth_tw _, fun p np => q p _ np (Ex.new np) ?_⟩
  refine ⟨bs.mergeSort (PySem.W.dataLe false fun p => twD p.2), upd_same, fun c m => ?_, ?_⟩
  · exact (h2 c ((List.mergeSort_perm bs _).mem_iff.mp m)).ext (Ex.new np)
  · exact List.map_mergeSort (fun a _ b _ => rfl)
/-! promises -/
abbrev sp_NoOrder_init (K : PySem.W.Frag) (A : Ad) : Sp := sp_pass
def RowOn (K : PySem.W.Frag) (A : Ad) (H : Hp) (x y : V) (G : List (Int × Int) → List Nat → Prop) : Prop :=
  ∃ (b w0 a : Addr) (ws : List (Int × Int)) (row : List Nat), x = .ref b ∧ y = .ref a ∧ BookAt A.C_Book H b w0 ∧ WinAt K H w0 ws ∧ SqT K H a (row.map vNat) ∧ (∀ j ∈ row, j < ws.length) ∧ row.length ≤ 200 ∧ G ws row
abbrev sp_check_order (K : PySem.W.Frag) (A : Ad) : Sp := fun vs H Q _ => Sp2 vs fun x y => OnBook K A H x y fun ws d => ordD ws.length d = true ∧ ∀ H', Ex H H' → Q .non H'
abbrev sp_thrown_over (K : PySem.W.Frag) (A : Ad) : Sp := fun vs H Q _ => Sp4 vs fun x y z u => ∃ (b w0 a1 a2 : Addr) (ws : List (Int × Int)) (ahead behind : List Nat) (i : Nat), x = .ref b ∧ y = .ref a1 ∧ z = .int (i : Int) ∧ u = .ref a2 ∧ BookAt A.C_Book H b w0 ∧ WinAt K H w0 ws ∧
  SqT K H a1 (ahead.map vNat) ∧ SqT K H a2 (behind.map vNat) ∧ (∀ j ∈ ahead, j < ws.length) ∧ (∀ j ∈ behind, j < ws.length) ∧ i < ws.length ∧ ahead.length ≤ 200 ∧ behind.length ≤ 200 ∧
  ∀ p H', H p = none → Ex H H' → TL H' p (overT ws ahead i behind) → Q (.ref p) H'
abbrev sp_row_throws (K : PySem.W.Frag) (A : Ad) : Sp := fun vs H Q _ => Sp2 vs fun x y => RowOn K A H x y fun ws row => ∀ p H', H p = none → Ex H H' → TL H' p (srtT (rowT ws [] row)) → Q (.ref p) H'
abbrev sp_throws (K : PySem.W.Frag) (A : Ad) : Sp := fun vs H Q _ => Sp2 vs fun x y => RowOn K A H x y fun ws row => row.Nodup ∧ row.length = ws.length ∧ ∀ p H', H p = none → Ex H H' → TL H' p (srtT (rowT ws [] row)) → Q (.ref p) H'
abbrev sp_is_one_order (K : PySem.W.Frag) (A : Ad) : Sp := fun vs H Q _ => Sp2 vs fun x y => RowOn K A H x y fun ws row => row.Nodup ∧ row.length = ws.length ∧ ∀ H', Ex H H' → Q (.bl (decide (rowT ws [] row = []))) H'
abbrev sp_l_within (K : PySem.W.Frag) (A : Ad) : Sp := fun vs H Q _ => Sp3 vs fun x y z => ∃ (w : Addr) (ws : List (Int × Int)) (i j : Nat), x = .ref w ∧ y = .int (i : Int) ∧ z = .int (j : Int) ∧ WinAt K H w ws ∧ i < ws.length ∧ j < ws.length ∧ Q (.bl (insW ws i j)) H
abbrev sp_l_middle (K : PySem.W.Frag) (A : Ad) : Sp := fun vs H Q _ => Sp2 vs fun x y => ∃ (w : Addr) (ws : List (Int × Int)) (i : Nat), x = .ref w ∧ y = .int (i : Int) ∧ WinAt K H w ws ∧ i < ws.length ∧ Q (.int (midW ws i)) H
abbrev sp_l_throws (K : PySem.W.Frag) (A : Ad) : Sp := fun vs H Q _ => Sp2 vs fun x y => ∃ (w a : Addr) (ws : List (Int × Int)) (row : List Nat), x = .ref w ∧ y = .ref a ∧ WinAt K H w ws ∧ SqT K H a (row.map vNat) ∧ (∀ j ∈ row, j < ws.length) ∧ row.length ≤ 200 ∧
  ∀ p H', H p = none → Ex H H' → TL H' p (srtT (rowT ws [] row)) → Q (.ref p) H'
/-- drawn orders -/
abbrev sp_l_by_middles (K : PySem.W.Frag) (A : Ad) : Sp := fun vs H Q _ => Sp3 vs fun x y z => ∃ (p c w l : Addr) (ws : List (Int × Int)) (works : List Nat), x = .ref p ∧ y = .ref w ∧ z = .ref l ∧ PoolAt H p c ∧ WinAt K H w ws ∧ H l = some (.lst (works.map vNat)) ∧ l ≠ p ∧ l ≠ c ∧ (∀ j ∈ works, j < ws.length) ∧ works.length ≤ 60 ∧
  ∀ (q : Addr) (row : List Nat) (H' : Hp), H q = none → row.Perm works → H' q = some (.tup (row.map vNat)) → PoolAt H' p c → Kept p c H H' → Q (.ref q) H'
abbrev sp_l_near_order (K : PySem.W.Frag) (A : Ad) : Sp := fun vs H Q _ => Sp2 vs fun x y => ∃ (p c w : Addr) (ws : List (Int × Int)), x = .ref p ∧ y = .ref w ∧ PoolAt H p c ∧ WinAt K H w ws ∧ 1 ≤ ws.length ∧ ws.length ≤ 60 ∧
  ∀ (q : Addr) (row : List Nat) (H' : Hp), H q = none → row.Perm (List.range ws.length) → H' q = some (.tup (row.map vNat)) → PoolAt H' p c → Kept p c H H' → Q (.ref q) H'
abbrev sp_l_nested (K : PySem.W.Frag) (A : Ad) : Sp := fun vs H Q _ => SpWin K vs H Q
abbrev sp_l_book_windows (K : PySem.W.Frag) (A : Ad) : Sp := fun vs H Q _ => Sp2 vs fun x y => ∃ (p c : Addr) (n : Int), x = .ref p ∧ y = .int n ∧ PoolAt H p c ∧ 0 ≤ n ∧ n ≤ 60 ∧
  ∀ (w : Addr) (ws : List (Int × Int)) (H' : Hp), H w = none → WinAt K H' w ws → (ws.length : Int) = n → (∀ q ∈ ws, inWin 1000000 q) → PoolAt H' p c → Kept p c H H' → Q (.ref w) H'
/-! reading the lists of throws -/
theorem filter_snoc {α : Type} {p : α → Bool} {l : List α} {i : Nat} {x : α} (h : l[i]? = some x) : (l.take (i + 1)).filter p = (l.take i).filter p ++ (if p x = true then [x] else []) := by
  have h1 := (List.getElem?_eq_some_iff.mp h).1
  have h2 := (List.getElem?_eq_some_iff.mp h).2
  rw [List.take_succ_eq_append_getElem h1, h2, List.filter_append, List.filter_cons]
  split <;> simp
theorem flat_snoc {α β : Type} {g : α → List β} {l : List α} {i : Nat} {x : α} (h : l[i]? = some x) : (l.take (i + 1)).flatMap g = (l.take i).flatMap g ++ g x := by
  have h1 := (List.getElem?_eq_some_iff.mp h).1
  have h2 := (List.getElem?_eq_some_iff.mp h).2
  rw [List.take_succ_eq_append_getElem h1, h2, List.flatMap_append, List.flatMap_cons, List.flatMap_nil, List.append_nil]
theorem flat_len {α β : Type} {g : α → List β} {m : Nat} (h : ∀ x, (g x).length ≤ m) : ∀ l : List α, (l.flatMap g).length ≤ l.length * m
  | [] => Nat.zero_le _
  | x :: l => by
    rw [List.flatMap_cons, List.length_append, List.length_cons, Nat.succ_mul]
    have := flat_len h l
    have := h x
    omega
theorem lc_tw {K : PySem.W.Frag} {a : Addr} {l : List Nat} {g : TG} {tt : TT} {te : TE} {vs : List Nat} {σ : L2.St} {H1 : Hp} {D : Addr} {Qd : Hp → Prop} (f : Nat → Tw) (p : Nat → Bool) (nD : H1 D = none) (ha : SqT K H1 a (l.map vNat)) (hl : l.length ≤ 1000)
    (hs : ∀ (c : Nat) (H : Hp) (Y : V → Hp → Prop) (N : Hp → Prop), c ∈ l → Ex H1 H → (p c = true → ∀ r H', Ex H H' → H' r = none → Y (.ref r) (L2.upd H' r (.tup (twV (f c))))) → (p c = false → ∀ H', Ex H H' → N H') →
      g (.int (c : Int)) (wipe σ vs) H fun σ2 H2 => wipe σ2 vs = wipe σ vs ∧ tt σ2 H2 fun b H3 => if b = true then te σ2 H3 Y else N H3)
    (hd : ∀ H, Ex H1 H → TL H D ((l.filter p).map f) → Qd H) :
    ∃ W : Nat → Nat → Hp → Prop, (∃ m, W 0 m (L2.upd H1 D (.lst []))) ∧ ∀ i m H, W i m H →
      ((Itt K a).stop i H ∧ Qd H) ∨ ((Itt K a).go i H ∧ ∃ Nx : Hp → Prop, (∀ H', Nx H' → ∃ m', m' < m ∧ W (i + 1) m' H') ∧ ∀ x H', (Itt K a).yld i H x H' → g x (wipe σ vs) H' fun σ2 H2 => wipe σ2 vs = wipe σ vs ∧ tt σ2 H2 fun b H3 =>
        if b = true then te σ2 H3 fun y H4 => ∃ acc, H4 D = some (.lst acc) ∧ acc.length < sizeLine ∧ Nx (L2.upd H4 D (.lst (acc ++ [y]))) else Nx H3) := by
  refine lc_tup (K := K) (a := a) (xs := l.map vNat) (fun i H' => TL H' D (((l.take i).filter p).map f) ∧ Ex H1 H') ⟨TL.new upd_same, Ex.new nD⟩ (fun i H' _ q => ex_t q.2 ha) ?_ ?_
  · rintro i y H' hi ⟨p1, p2⟩
    obtain ⟨c, hc, rfl⟩ := nats_get hi
    refine hs c H' _ _ (List.mem_of_getElem? hc) p2 (fun hp r H' e' nr => ?_) fun hp H' e' => ?_
    · have p1 := p1.ext e'
      have p2 := p2.trans e'
      obtain ⟨acc, q1, q2⟩ := p1.at
      have x2 : Ex H' (L2.upd H' r (.tup (twV (f c)))) := Ex.new nr
      have hlen : acc.length ≤ 1000 := by
        rw [q2, List.length_map]
        have := List.length_filter_le p (l.take i)
        rw [List.length_take] at this
        omega
      refine ⟨acc, x2 _ _ q1, small1000 hlen, ?_, (p2.trans x2).mut nD⟩
      have := (p1.ext x2).push (x2 _ _ q1) (t := f c) (r := r) upd_same
      rw [filter_snoc hc, if_pos hp, List.map_append]
      exact this
    · have p1 := p1.ext e'
      refine ⟨?_, p2.trans e'⟩
      rw [filter_snoc hc, if_neg (by rw [hp]; exact Bool.false_ne_true), List.append_nil]
      exact p1
  · rintro H' ⟨p1, p2⟩
    rw [List.length_map, List.take_length] at p1
    exact hd H' p2 p1
theorem midsT_len (ws : List (Int × Int)) (a : Nat) (l : List Nat) : (midsT ws a l).length ≤ l.length := by
  unfold midsT
  rw [List.length_map]
  exact List.length_filter_le _ _
theorem frontT_len (ws : List (Int × Int)) (a : Nat) (l : List Nat) (b : Nat) : (frontT ws a l b).length ≤ l.length := by
  unfold frontT
  split
  · rw [List.length_map]
    exact List.length_filter_le _ _
  · exact Nat.zero_le _
theorem backT_len (ws : List (Int × Int)) (a : Nat) (l : List Nat) (b : Nat) : (backT ws a l b).length ≤ l.length := by
  unfold backT
  split
  · rw [List.length_map]
    exact List.length_filter_le _ _
  · exact Nat.zero_le _
theorem overT_len (ws : List (Int × Int)) (l : List Nat) (a : Nat) (r : List Nat) : (overT ws l a r).length ≤ 2 * (l.length * r.length) := by
  unfold overT
  rw [List.length_append]
  have h1 := flat_len (frontT_len ws a r) l
  have h2 := flat_len (backT_len ws a l) r
  rw [Nat.mul_comm r.length] at h2
  omega
theorem rowT_len (ws : List (Int × Int)) {n : Nat} : ∀ (r l : List Nat), l.length + r.length ≤ n → (rowT ws l r).length ≤ r.length * (n + 2 * (n * n))
  | [], _, _ => Nat.zero_le _
  | a :: r, l, h => by
    rw [List.length_cons] at h
    show ((midsT ws a r ++ overT ws l a r) ++ rowT ws (l ++ [a]) r).length ≤ _
    rw [List.length_append, List.length_append, List.length_cons, Nat.succ_mul]
    have h1 := midsT_len ws a r
    have h2 := overT_len ws l a r
    have h3 := rowT_len ws (n := n) r (l ++ [a]) (by rw [List.length_append]; show l.length + 1 + r.length ≤ n; omega)
    have h4 : l.length * r.length ≤ n * n := Nat.mul_le_mul (by omega) (by omega)
    omega
theorem onWork {K : PySem.W.Frag} {A : Ad} {H : Hp} {b w0 : Addr} {ws : List (Int × Int)} {i : Nat} {E : XK} {G : List (Int × Int) → Nat → Prop} (hb : BookAt A.C_Book H b w0) (hW : WinAt K H w0 ws) (hi : i < ws.length) (g : G ws i) : OnWork K A H (.ref b) (.int (i : Int)) E G :=
  ⟨⟨b, w0, ws, .int (i : Int), rfl, hb, hW, .int _, fun z => absurd z (by simp [workD, hi]), fun j hj _ => by
    injection hj with hj
    have e : i = j := by omega
    rw [← e]
    exact g⟩⟩
theorem rowT_at {ws : List (Int × Int)} {row : List Nat} {i j : Nat} (h : row[i]? = some j) : rowT ws (row.take i) (row.drop i) = (midsT ws j (row.drop (i + 1)) ++ overT ws (row.take i) j (row.drop (i + 1))) ++ rowT ws (row.take (i + 1)) (row.drop (i + 1)) := by
  have h1 := (List.getElem?_eq_some_iff.mp h).1
  have h2 := (List.getElem?_eq_some_iff.mp h).2
  rw [drop_of h, List.take_succ_eq_append_getElem h1, h2] <;> rfl
theorem lawOut_at {ws : List (Int × Int)} {row : List Nat} {i j : Nat} (h : row[i]? = some j) : lawOut ws row (row.take i) (row.drop i) = lawIn ws (row.take i) j (row.drop (i + 1)) 0 row ++ lawOut ws row (row.take (i + 1)) (row.drop (i + 1)) := by
  have h1 := (List.getElem?_eq_some_iff.mp h).1
  have h2 := (List.getElem?_eq_some_iff.mp h).2
  rw [drop_of h, List.take_succ_eq_append_getElem h1, h2] <;> rfl
theorem lawIn_at {ws : List (Int × Int)} {ahead : List Nat} {a : Nat} {behind : List Nat} {row : List Nat} {j b : Nat} (h : row[j]? = some b) : lawIn ws ahead a behind j (row.drop j) = lawC ws ahead a behind j b ++ lawIn ws ahead a behind (j + 1) (row.drop (j + 1)) := by
  rw [drop_of h] <;> rfl
theorem prod_le {l r : Nat} (h : l + r ≤ 40) : l * r ≤ 400 := by
  have q : ∀ x : Fin 41, x.val * (40 - x.val) ≤ 400 := by decide
  have hl : l < 41 := by omega
  have hr : r ≤ 40 - l := by omega
  exact Nat.le_trans (Nat.mul_le_mul_left l hr) (q ⟨l, hl⟩)
theorem rowT_len40 (ws : List (Int × Int)) : ∀ (r l : List Nat), l.length + r.length ≤ 40 → (rowT ws l r).length ≤ r.length * 840
  | [], _, _ => Nat.zero_le _
  | a :: r, l, h => by
    rw [List.length_cons] at h
    show ((midsT ws a r ++ overT ws l a r) ++ rowT ws (l ++ [a]) r).length ≤ _
    rw [List.length_append, List.length_append, List.length_cons, Nat.succ_mul]
    have h1 := midsT_len ws a r
    have h2 := overT_len ws l a r
    have h3 := rowT_len40 ws r (l ++ [a]) (by rw [List.length_append]; show l.length + 1 + r.length ≤ 40; omega)
    have h4 := prod_le (l := l.length) (r := r.length) (by omega)
    omega
theorem lawOut_len (ws : List (Int × Int)) (row : List Nat) (h : row.length ≤ 200) : (lawOut ws row [] row).length ≤ 200 * 80200 := by
  rw [(lawOut_perm ws row [] row rfl).length_eq]
  have h1 : (rowT ws [] row).length ≤ row.length * 80200 := rowT_len ws (n := 200) row [] (by rw [List.length_nil, Nat.zero_add]; exact h)
  exact Nat.le_trans h1 (Nat.mul_le_mul_right _ h)
theorem srt_nil {ts : List Tw} : srtT ts = [] ↔ ts = [] := by
  constructor
  · intro h
    have := srt_len ts
    rw [h] at this
    exact List.eq_nil_of_length_eq_zero this.symm
  · rintro rfl
    exact List.eq_nil_of_length_eq_zero (srt_len [])
theorem eqv_tws : ∀ ts : List Tw, PyData.eqv (.list (ts.map twD)) (.list []) = decide (ts = [])
  | [] => by simp [PyData.eqv, PyData.eqvAll]
  | t :: r => by simp [PyData.eqv, PyData.eqvAll]
theorem canLay_ints : ∀ l : List Nat, PyData.canLayAll0 (l.map fun n : Nat => PyData.int (n : Int)) = true
  | [] => rfl
  | x :: l => by
    rw [List.map_cons, PyData.canLayAll0, canLay_ints l]
    simp [PyData.canLay0]
def Good (n : Nat) (t : Tw) : Prop := (t.1 = Str.ofString "middle" ∨ t.1 = Str.ofString "front" ∨ t.1 = Str.ofString "back") ∧ t.2.length ≤ 3 ∧ ∀ j ∈ t.2, j < n
theorem good_m {n a b : Nat} (ha : a < n) (hb : b < n) : Good n (twM a b) := ⟨.inl rfl, by show 2 ≤ 3; omega, fun j hj => by
  rcases List.mem_cons.mp hj with rfl | hj
  · exact ha
  · rw [List.mem_singleton.mp hj]
    exact hb⟩
theorem good_3 {n a b c : Nat} {s : Str} (hs : s = Str.ofString "front" ∨ s = Str.ofString "back") (ha : a < n) (hb : b < n) (hc : c < n) : Good n (s, [a, b, c]) := ⟨.inr hs, Nat.le_refl 3, fun j hj => by
  rcases List.mem_cons.mp hj with rfl | hj
  · exact ha
  · rcases List.mem_cons.mp hj with rfl | hj
    · exact hb
    · rw [List.mem_singleton.mp hj]
      exact hc⟩
theorem overT_good {ws : List (Int × Int)} {n a : Nat} {l r : List Nat} (hl : ∀ j ∈ l, j < n) (ha : a < n) (hr : ∀ j ∈ r, j < n) : ∀ t ∈ overT ws l a r, Good n t := by
  intro t ht
  rcases List.mem_append.mp ht with ht | ht
  · obtain ⟨b, hb, ht⟩ := List.mem_flatMap.mp ht
    unfold frontT at ht
    split at ht
    · obtain ⟨c, hc, rfl⟩ := List.mem_map.mp ht
      exact good_3 (.inl rfl) ha (hl b hb) (hr c (List.mem_filter.mp hc).1)
    · cases ht
  · obtain ⟨b, hb, ht⟩ := List.mem_flatMap.mp ht
    unfold backT at ht
    split at ht
    · obtain ⟨c, hc, rfl⟩ := List.mem_map.mp ht
      exact good_3 (.inr rfl) ha (hr b hb) (hl c (List.mem_filter.mp hc).1)
    · cases ht
theorem rowT_good {ws : List (Int × Int)} {n : Nat} : ∀ {r l : List Nat}, (∀ j ∈ l, j < n) → (∀ j ∈ r, j < n) → ∀ t ∈ rowT ws l r, Good n t
  | [], _, _, _, t, ht => by cases ht
  | a :: r, l, hl, hr, t, ht => by
    have ha := hr a (List.mem_cons_self ..)
    have hr' : ∀ j ∈ r, j < n := fun j hj => hr j (List.mem_cons_of_mem _ hj)
    rcases List.mem_append.mp ht with ht | ht
    · rcases List.mem_append.mp ht with ht | ht
      · obtain ⟨b, hb, rfl⟩ := List.mem_map.mp ht
        exact good_m ha (hr' b (List.mem_filter.mp hb).1)
      · exact overT_good hl ha hr' t ht
    · refine rowT_good (l := l ++ [a]) (fun j hj => ?_) hr' t ht
      rcases List.mem_append.mp hj with hj | hj
      · exact hl j hj
      · rw [List.mem_singleton.mp hj]
        exact ha
theorem ints_facts {n : Nat} (hn : n ≤ 1000) : ∀ l : List Nat, (∀ j ∈ l, j < n) → PyData.canLayAll0 (l.map fun n : Nat => PyData.int (n : Int)) = true ∧ bdAll (l.map fun n : Nat => PyData.int (n : Int)) = true ∧ szAll (l.map fun n : Nat => PyData.int (n : Int)) = l.length ∧ PyData.hasDictAll (l.map fun n : Nat => PyData.int (n : Int)) = false
  | [], _ => by simp [PyData.canLayAll0, bdAll, szAll, PyData.hasDictAll]
  | x :: l, h => by
    obtain ⟨h1, h2, h3, h4⟩ := ints_facts hn l fun j hj => h j (List.mem_cons_of_mem _ hj)
    have hx := h x (List.mem_cons_self ..)
    have hb : decide ((x : Int).natAbs < 10 ^ 38) = true := decide_eq_true (by rw [Int.natAbs_natCast]; omega)
    rw [List.map_cons, PyData.canLayAll0, bdAll, szAll, PyData.hasDictAll, h1, h2, h3, h4, List.length_cons]
    simp only [PyData.canLay0, bdD, szD, PyData.hasDict, hb, Bool.and_self, Bool.or_self, true_and, and_true]
    omega
theorem word_facts {s : Str} (h : s = Str.ofString "middle" ∨ s = Str.ofString "front" ∨ s = Str.ofString "back") : PyData.strOk s = true ∧ (reprText s).length ≤ 40 := by
  rcases h with rfl | rfl | rfl
  · exact ⟨by decide +kernel, by decide +kernel⟩
  · exact ⟨by decide +kernel, by decide +kernel⟩
  · exact ⟨by decide +kernel, by decide +kernel⟩
theorem tw_facts {n : Nat} (hn : n ≤ 1000) {t : Tw} (h : Good n t) : PyData.canLay0 (twD t) = true ∧ bdD (twD t) = true ∧ szD (twD t) ≤ 5 ∧ (twD t).hasDict = false := by
  obtain ⟨h1, h2, h3⟩ := h
  obtain ⟨w1, w2⟩ := word_facts h1
  obtain ⟨i1, i2, i3, i4⟩ := ints_facts hn t.2 h3
  unfold twD twR
  rw [PyData.canLay0, bdD, szD, PyData.hasDict, PyData.canLayAll0, bdAll, szAll, PyData.hasDictAll, i1, i2, i3, i4]
  simp only [PyData.canLay0, bdD, szD, PyData.hasDict, w1, decide_eq_true w2, Bool.and_self, Bool.or_self, true_and, and_true]
  omega
theorem tws_facts {n : Nat} (hn : n ≤ 1000) : ∀ ts : List Tw, (∀ t ∈ ts, Good n t) → PyData.canLayAll0 (ts.map twD) = true ∧ bdAll (ts.map twD) = true ∧ szAll (ts.map twD) ≤ 5 * ts.length ∧ PyData.hasDictAll (ts.map twD) = false ∧ PyData.depthAll (ts.map twD) ≤ 2
  | [], _ => by simp [PyData.canLayAll0, bdAll, szAll, PyData.hasDictAll, PyData.depthAll]
  | t :: ts, h => by
    obtain ⟨h1, h2, h3, h4, h5⟩ := tws_facts hn ts fun j hj => h j (List.mem_cons_of_mem _ hj)
    obtain ⟨g1, g2, g3, g4⟩ := tw_facts hn (h t (List.mem_cons_self ..))
    have g5 : (twD t).depth ≤ 2 := by
      have q : PyData.depthAll (t.2.map fun n : Nat => PyData.int (n : Int)) = 0 := by
        have := PySem.W.depth_ints (t.2.map fun n : Nat => (n : Int))
        simpa [List.map_map, Function.comp_def] using this
      unfold twD twR
      rw [PyData.depth, PyData.depthAll, q]
      simp [PyData.depth]
    rw [List.map_cons, PyData.canLayAll0, bdAll, szAll, PyData.hasDictAll, PyData.depthAll, h1, h2, h4, g1, g2, g4, List.length_cons]
    refine ⟨rfl, rfl, by omega, rfl, Nat.max_le.mpr ⟨g5, h5⟩⟩
theorem tws_shown {n : Nat} (hn : n ≤ 1000) {ts : List Tw} (h : ∀ t ∈ ts, Good n t) (hl : ts.length ≤ 60000) : dlD (.list (ts.map twD)) = true ∧ (PyData.list (ts.map twD)).showable = true ∧ (PyData.list (ts.map twD)).depth ≤ 60 ∧ (PyData.list (ts.map twD)).shown.length ≤ sizeLine ∧ SeqAt.shaped (.list (ts.map twD)) = true := by
  obtain ⟨h1, h2, h3, h4, h5⟩ := tws_facts hn ts h
  have hb : bdD (.list (ts.map twD)) = true := by rw [bdD]; exact h2
  have hs := shown_le _ hb
  have e : szD (.list (ts.map twD)) = szAll (ts.map twD) + 1 := by rw [szD]
  have hd : (PyData.list (ts.map twD)).depth ≤ 3 := by
    rw [PyData.depth]
    omega
  refine ⟨by rw [dlD, h4] <;> rfl, bd_showable _ hb, by omega, by rw [sizeLine_eq]; omega, ?_⟩
  unfold SeqAt.shaped
  rw [PyData.canLay0, h1, Bool.true_and]
  exact decide_eq_true (by omega)
theorem srt_mem {ts : List Tw} {t : Tw} : t ∈ srtT ts ↔ t ∈ ts := (List.mergeSort_perm ts _).mem_iff
theorem tgAll_nats {K : PySem.W.Frag} {H : Hp} : ∀ l : List Nat, TgAll K H (l.map vNat) (l.map fun n : Nat => PyData.int (n : Int))
  | [] => .nil
  | x :: l => .cons (.int _) (tgAll_nats l)
theorem TL.tg {K : PySem.W.Frag} {H : Hp} {f : Addr} {ts : List Tw} (h : TL H f ts) : Tg K H (.ref f) (.list (ts.map twD)) := by
  obtain ⟨bs, h1, h2, rfl⟩ := h
  refine .lst (SqL.of h1) ?_
  clear h1
  induction bs with
  | nil => exact .nil
  | cons b r ih =>
    obtain ⟨a, e, ht⟩ := h2 b (List.mem_cons_self ..)
    refine .cons ?_ (ih fun p m => h2 p (List.mem_cons_of_mem _ m))
    show Tg K H b.1 (twD b.2)
    rw [e]
    exact .tup (SqT.of ht) (.cons (.str _) (tgAll_nats _))
theorem eqv_same {d : PyData} (h : SeqAt.shaped d = true) : PyData.eqv d d = true := SeqAt.eqv_refl _ (by
  unfold SeqAt.shaped at h
  rw [Bool.and_eq_true] at h
  exact h.1)
theorem perm_classes (f : Nat → Int) : ∀ (ns : List Int) (l : List Nat), ns.Nodup → (∀ j ∈ l, f j ∈ ns) → (ns.flatMap fun m => l.filter fun j => decide (f j = m)).Perm l
  | [], l, _, h => by
    have : l = [] := List.eq_nil_iff_forall_not_mem.mpr fun j hj => by
      have := h j hj
      simp at this
    rw [this]
    exact List.Perm.refl _
  | m :: ns, l, hn, h => by
    have hn' := List.nodup_cons.mp hn
    rw [List.flatMap_cons]
    refine List.Perm.trans ?_ (List.filter_append_perm (fun j => decide (f j = m)) l)
    refine List.Perm.append_left _ ?_
    have ih := perm_classes f ns (l.filter fun j => !decide (f j = m)) hn'.2 fun j hj => by
      have h1 := List.mem_filter.mp hj
      rcases List.mem_cons.mp (h j h1.1) with e | e
      · rw [decide_eq_true e] at h1
        exact absurd h1.2 (by decide)
      · exact e
    refine List.Perm.trans ?_ ih
    have e : ∀ k ∈ ns, (l.filter fun j => decide (f j = k)) = ((l.filter fun j => !decide (f j = m)).filter fun j => decide (f j = k)) := fun k hk => by
      rw [List.filter_filter]
      refine List.filter_congr fun j _ => ?_
      by_cases c : f j = k
      · have : f j ≠ m := fun z => hn'.1 (by rw [← z, c]; exact hk)
        rw [decide_eq_true c, decide_eq_false this] <;> rfl
      · rw [decide_eq_false c, Bool.false_and]
    have e2 : (ns.flatMap fun m => l.filter fun j => decide (f j = m)) = (ns.flatMap fun k => (l.filter fun j => !decide (f j = m)).filter fun j => decide (f j = k)) := by
      rw [List.flatMap_def, List.flatMap_def, List.map_congr_left e]
    rw [e2]
theorem tws_facts_shaped {n : Nat} (hn : n ≤ 1000) {ts : List Tw} (h : ∀ t ∈ ts, Good n t) : SeqAt.shaped (.list (ts.map twD)) = true := by
  obtain ⟨h1, h2, h3, h4, h5⟩ := tws_facts hn ts h
  have hd : (PyData.list (ts.map twD)).depth ≤ 3 := by
    rw [PyData.depth]
    omega
  unfold SeqAt.shaped
  rw [PyData.canLay0, h1, Bool.true_and]
  exact decide_eq_true (by omega)
/-! ### == of a book and whatever -/
abbrev sp_Book_eqO (K : PySem.W.Frag) (A : Ad) : Sp := fun vs H Q _ => Sp2 vs fun x y => ∃ (a wa : Addr) (us : List (Int × Int)), x = .ref a ∧ BookAt A.C_Book H a wa ∧ WinAt K H wa us ∧
  ((∃ (b wb : Addr) (ws : List (Int × Int)), y = .ref b ∧ BookAt A.C_Book H b wb ∧ WinAt K H wb ws ∧ Q (.bl (decide (us = ws))) H) ∨ ∃ T i, Oth K H y T i ∧ Q (.bl false) H)
theorem PairsAt.list {K : PySem.W.Frag} {H : Hp} {as : List Addr} {ps : List (Int × Int)} (h : PairsAt K H as ps) : ∃ bs : List (Addr × (Int × Int)), as = bs.map (·.1) ∧ ps = bs.map (·.2) ∧ ∀ z ∈ bs, SqT K H z.1 [.int z.2.1, .int z.2.2] := by
  obtain ⟨h1, h2⟩ := h
  refine ⟨as.zip ps, (List.map_fst_zip (Nat.le_of_eq h1)).symm, (List.map_snd_zip (Nat.le_of_eq h1.symm)).symm, fun z hz => ?_⟩
  obtain ⟨i, hi, e⟩ := List.mem_iff_getElem.mp hz
  rw [List.getElem_zip] at e
  rw [List.length_zip] at hi
  rw [← e]
  exact h2 i _ _ (List.getElem?_eq_getElem (by omega)) (List.getElem?_eq_getElem (by omega))
theorem PairsAt.of_list {K : PySem.W.Frag} {H : Hp} {ps : List (Int × Int)} {bs : List (Addr × (Int × Int))} (e : ps = bs.map (·.2)) (h : ∀ z ∈ bs, SqT K H z.1 [.int z.2.1, .int z.2.2]) : PairsAt K H (bs.map (·.1)) ps := by
  subst e
  refine ⟨by rw [List.length_map, List.length_map], fun i a q x y => ?_⟩
  rw [List.getElem?_map] at x y
  cases hb : bs[i]? with
  | none => rw [hb] at x; cases x
  | some z =>
    rw [hb] at x y
    cases Option.some.inj x
    cases Option.some.inj y
    exact h z (List.mem_of_getElem? hb)
/-- a tuple of windows that a book may have -/
def TupW (K : PySem.W.Frag) (H : Hp) (x : V) (us : List (Int × Int)) : Prop := ∃ w, x = .ref w ∧ WinAt K H w us ∧ 1 ≤ us.length ∧ us.length ≤ 40 ∧ ∀ q ∈ us, inWin 1000000 q
theorem TupW.mono {K : PySem.W.Frag} {H H' : Hp} {x : V} {us : List (Int × Int)} (h : TupW K H x us) (e : Ex H H') : TupW K H' x us := by
  obtain ⟨w, h1, h2, h3⟩ := h
  exact ⟨w, h1, h2.mono e, h3⟩
theorem TupW.of {K : PySem.W.Frag} {H : Hp} {w : Addr} {bs : List (Addr × (Int × Int))} (h : SqT K H w (bs.map fun z => V.ref z.1)) (hz : ∀ z ∈ bs, SqT K H z.1 [.int z.2.1, .int z.2.2]) (h1 : 1 ≤ bs.length) (h2 : bs.length ≤ 40) (h3 : ∀ z ∈ bs, inWin 1000000 z.2) : TupW K H (.ref w) (bs.map (·.2)) := by
  refine ⟨w, rfl, ?_, by rw [List.length_map]; exact h1, by rw [List.length_map]; exact h2, fun q hq => ?_⟩
  · exact WinAt.of (by rw [List.map_map]; exact h) (PairsAt.of_list rfl hz) (by rw [List.length_map]; omega)
  · obtain ⟨z, m, rfl⟩ := List.mem_map.mp hq
    exact h3 z m
/-! ### regret: the values of stretches (k72) -/
/-- v is the edge of a stretch of the row with two unlike works of it: f the first hours, l the last ones -/
def RV (f l : Nat → Int) (row : List Nat) (v : Int) : Prop := ∃ (i j : Nat) (x y a b : Nat), i < j ∧ row[i]? = some x ∧ row[j]? = some y ∧ (∃ k, i ≤ k ∧ k ≤ j ∧ row[k]? = some a) ∧ (∃ k, i ≤ k ∧ k ≤ j ∧ row[k]? = some b) ∧ a ≠ b ∧ v = f x - l y - f a + l b
def IsReg (f l : Nat → Int) (row : List Nat) (r : Int) : Prop := 0 ≤ r ∧ (r = 0 ∨ RV f l row r) ∧ ∀ v, RV f l row v → v ≤ r
theorem IsReg.uniq {f l : Nat → Int} {row : List Nat} {r q : Int} (h : IsReg f l row r) (g : IsReg f l row q) : r = q := by
  obtain ⟨h1, h2, h3⟩ := h
  obtain ⟨g1, g2, g3⟩ := g
  have a : r ≤ q := by
    rcases h2 with e | e
    · omega
    · exact g3 r e
  have b : q ≤ r := by
    rcases g2 with e | e
    · omega
    · exact h3 q e
  omega
theorem rv_congr {f l f' l' : Nat → Int} {row : List Nat} {v : Int} (hf : ∀ j ∈ row, f j = f' j) (hl : ∀ j ∈ row, l j = l' j) (h : RV f l row v) : RV f' l' row v := by
  obtain ⟨i, j, x, y, a, b, h1, h2, h3, ⟨k, k1, k2, k3⟩, ⟨m, m1, m2, m3⟩, h6, h7⟩ := h
  refine ⟨i, j, x, y, a, b, h1, h2, h3, ⟨k, k1, k2, k3⟩, ⟨m, m1, m2, m3⟩, h6, ?_⟩
  rw [h7, hf x (List.mem_of_getElem? h2), hl y (List.mem_of_getElem? h3), hf a (List.mem_of_getElem? k3), hl b (List.mem_of_getElem? m3)]
theorem rv_shift {f l : Nat → Int} {row : List Nat} {v z : Int} (h : RV f l row v) : RV (fun j => f j + z) (fun j => l j + z) row v := by
  obtain ⟨i, j, x, y, a, b, h1, h2, h3, h4, h5, h6, h7⟩ := h
  exact ⟨i, j, x, y, a, b, h1, h2, h3, h4, h5, h6, by rw [h7]; show f x - l y - f a + l b = (f x + z) - (l y + z) - (f a + z) + (l b + z); omega⟩
theorem get_rev {row : List Nat} {k a : Nat} (h : row[k]? = some a) : row.reverse[row.length - 1 - k]? = some a := by
  have hk := (List.getElem?_eq_some_iff.mp h).1
  rw [List.getElem?_reverse (by omega)]
  rw [show row.length - 1 - (row.length - 1 - k) = k by omega]
  exact h
theorem rv_turn {f l : Nat → Int} {row : List Nat} {v u : Int} (h : RV f l row v) : RV (fun j => u - l j) (fun j => u - f j) row.reverse v := by
  obtain ⟨i, j, x, y, a, b, h1, h2, h3, ⟨k, k1, k2, k3⟩, ⟨m, m1, m2, m3⟩, h6, h7⟩ := h
  have hj := (List.getElem?_eq_some_iff.mp h3).1
  refine ⟨row.length - 1 - j, row.length - 1 - i, y, x, b, a, by omega, get_rev h3, get_rev h2, ⟨_, by omega, by omega, get_rev m3⟩, ⟨_, by omega, by omega, get_rev k3⟩, fun e => h6 e.symm, by rw [h7]; show f x - l y - f a + l b = (u - l y) - (u - f x) - (u - l b) + (u - f a); omega⟩
theorem IsReg.congr {f l f' l' : Nat → Int} {row : List Nat} {r : Int} (hf : ∀ j ∈ row, f j = f' j) (hl : ∀ j ∈ row, l j = l' j) (h : IsReg f l row r) : IsReg f' l' row r := by
  obtain ⟨h1, h2, h3⟩ := h
  exact ⟨h1, h2.imp id (rv_congr hf hl), fun v e => h3 v (rv_congr (fun j m => (hf j m).symm) (fun j m => (hl j m).symm) e)⟩
theorem IsReg.shift {f l : Nat → Int} {row : List Nat} {r z : Int} (h : IsReg f l row r) : IsReg (fun j => f j + z) (fun j => l j + z) row r := by
  obtain ⟨h1, h2, h3⟩ := h
  refine ⟨h1, h2.imp id rv_shift, fun v e => h3 v ?_⟩
  have := rv_shift (z := -z) e
  refine rv_congr (fun j _ => ?_) (fun j _ => ?_) this
  · show f j + z + -z = f j
    omega
  · show l j + z + -z = l j
    omega
theorem IsReg.turn {f l : Nat → Int} {row : List Nat} {r u : Int} (h : IsReg f l row r) : IsReg (fun j => u - l j) (fun j => u - f j) row.reverse r := by
  obtain ⟨h1, h2, h3⟩ := h
  refine ⟨h1, h2.imp id rv_turn, fun v e => h3 v ?_⟩
  have := rv_turn (u := u) e
  rw [List.reverse_reverse] at this
  refine rv_congr (fun j _ => ?_) (fun j _ => ?_) this
  · show u - (u - f j) = f j
    omega
  · show u - (u - l j) = l j
    omega
/-- a part of the row, its works named anew: its values are some of the row's -/
theorem rv_part {f l : Nat → Int} {row : List Nat} {p : Nat → Bool} {n : Nat → Nat} {v : Int} (inj : ∀ a ∈ row, ∀ b ∈ row, p a = true → p b = true → n a = n b → a = b) {f' l' : Nat → Int} (hf : ∀ a ∈ row, p a = true → f' (n a) = f a) (hl : ∀ a ∈ row, p a = true → l' (n a) = l a)
    (h : RV f' l' ((row.filter p).map n) v) : RV f l row v := by
  obtain ⟨i, j, x, y, a, b, h1, h2, h3, ⟨k, k1, k2, k3⟩, ⟨m, m1, m2, m3⟩, h6, h7⟩ := h
  have hs : (row.filter p).Sublist row := List.filter_sublist
  obtain ⟨is, e, mono⟩ := List.sublist_eq_map_getElem hs
  have pos : ∀ {t z : Nat}, ((row.filter p).map n)[t]? = some z → ∃ (w q : Nat) (ht : t < is.length), row[q]? = some w ∧ q = (is[t]).val ∧ n w = z ∧ p w = true ∧ w ∈ row := fun {t z} ht => by
    rw [List.getElem?_map] at ht
    cases hw : (row.filter p)[t]? with
    | none => rw [hw] at ht; cases ht
    | some w =>
      rw [hw] at ht
      have hm := List.mem_filter.mp (List.mem_of_getElem? hw)
      have hz : n w = z := Option.some.inj ht
      rw [e, List.getElem?_map] at hw
      have tl : t < is.length := by
        have := (List.getElem?_eq_some_iff.mp (show ((row.filter p).map n)[t]? = some z by rw [List.getElem?_map, e, List.getElem?_map, hw]; exact ht)).1
        rw [List.length_map, e, List.length_map] at this
        exact this
      rw [List.getElem?_eq_getElem tl] at hw
      have hw2 : row[(is[t]).val]'(is[t]).isLt = w := Option.some.inj hw
      exact ⟨w, (is[t]).val, tl, by rw [List.getElem?_eq_getElem (is[t]).isLt, ← hw2] <;> rfl, rfl, hz, hm.2, hm.1⟩
  have up : ∀ {s t : Nat} (hs : s < is.length) (ht : t < is.length), s < t → (is[s]).val < (is[t]).val := fun {s t} hs ht hst => (List.pairwise_iff_getElem.mp mono) s t hs ht hst
  obtain ⟨x0, qi, ti, x1, x2, x3, x4, x5⟩ := pos h2
  obtain ⟨y0, qj, tj, y1, y2, y3, y4, y5⟩ := pos h3
  obtain ⟨a0, qk, tk, a1, a2, a3, a4, a5⟩ := pos k3
  obtain ⟨b0, qm, tm, b1, b2, b3, b4, b5⟩ := pos m3
  have le : ∀ {s t : Nat} (hs : s < is.length) (ht : t < is.length), s ≤ t → (is[s]).val ≤ (is[t]).val := fun {s t} hs ht hst => by
    by_cases c : s = t
    · subst c
      exact Nat.le_refl _
    · exact Nat.le_of_lt (up hs ht (by omega))
  refine ⟨qi, qj, x0, y0, a0, b0, by rw [x2, y2]; exact up ti tj h1, x1, y1, ⟨qk, by rw [x2, a2]; exact le ti tk k1, by rw [a2, y2]; exact le tk tj k2, a1⟩, ⟨qm, by rw [x2, b2]; exact le ti tm m1, by rw [b2, y2]; exact le tm tj m2, b1⟩, fun z => h6 (by rw [← a3, ← b3, z]), ?_⟩
  rw [h7, ← x3, ← y3, ← a3, ← b3, hf x0 x5 x4, hl y0 y5 y4, hf a0 a5 a4, hl b0 b5 b4]
/-! ### errors as values (k00) -/
def sp_keep (K : PySem.W.Frag) (f : Str) : Sp := fun vs H Q _ => ∃ (a C : Addr) (v : V), vs = [.ref a, v] ∧ OexC K C ∧ PySem.W.findIn K (.ref C) f = some none ∧ H a = some (exo a C none) ∧ ∀ dx, H dx = none → dx ≠ a → Q .non (L2.upd (L2.upd H dx (exd dx [(f, v)])) a (exo a C (some dx)))
abbrev sp_NoPrices_init (K : PySem.W.Frag) (A : Ad) : Sp := sp_pass
abbrev sp_Over_init (K : PySem.W.Frag) (A : Ad) : Sp := sp_pass
abbrev sp_NoLength_init (K : PySem.W.Frag) (A : Ad) : Sp := sp_pass
abbrev sp_NothingDone_init (K : PySem.W.Frag) (A : Ad) : Sp := sp_pass
abbrev sp_NoLine_init (K : PySem.W.Frag) (A : Ad) : Sp := sp_pass
abbrev sp_NoBounds_init (K : PySem.W.Frag) (A : Ad) : Sp := sp_pass
abbrev sp_TooMany_init (K : PySem.W.Frag) (A : Ad) : Sp := sp_keep K "most"
abbrev sp_NoRule_init (K : PySem.W.Frag) (A : Ad) : Sp := sp_keep K "group"
abbrev sp_TooLate_init (K : PySem.W.Frag) (A : Ad) : Sp := sp_keep K "most"
abbrev sp_BadText_init (K : PySem.W.Frag) (A : Ad) : Sp := sp_keep K "line"
abbrev sp_NoName_init (K : PySem.W.Frag) (A : Ad) : Sp := sp_keep K "name"
structure Er (K : PySem.W.Frag) (CM C : Addr) : Prop where
  lk : ∃ nm q N bs sn sub ab col dd m0 m1 m2 m3 m5, K.lookup C = some (excClassObj nm q C N bs [.ref CM, .type "ValueError", .type "Exception", .type "BaseException", .type "object"] true sn sub ab col dd m0 m1 m2 m3 m5 "ValueError.__new__")
  hd : PySem.W.hasDictIn K C = true
  ty : PySem.W.typeIn K (.ref C) = some (.type "type")
theorem Er.mro {K : PySem.W.Frag} {CM C : Addr} (h : Er K CM C) (base : Value) : PySem.W.subIn K (.ref C) base = some ([Value.ref C, .ref CM, .type "ValueError", .type "Exception", .type "BaseException", .type "object"].contains base) := by
  obtain ⟨nm, q, N, bs, sn, sub, ab, col, dd, m0, m1, m2, m3, m5, hC⟩ := h.lk
  show PySem.W.mroIn K C base = _
  have hcl : PySem.W.clsIn K C = some { name := nm, bases := bs, mro := [.ref C, .ref CM, .type "ValueError", .type "Exception", .type "BaseException", .type "object"], ns := N, qualname := q, hasDict := true, slotNames := sn, subclasses := sub, abstract := ab, collection := col, hasDel := false } := by unfold PySem.W.clsIn; rw [hC] <;> rfl
  unfold PySem.W.mroIn
  rw [hcl]
  rfl
theorem Er.kit {K : PySem.W.Frag} {CM C D : Addr} (h : Er K CM C) (g : Er K CM D) (ne : D ≠ CM) : PySem.W.kitOne K (.ref C) (.ref D) = some (decide (C = D)) := by
  refine kit_own g.hd g.ty ?_ ?_
  · rw [h.mro]
    by_cases e : C = D
    · subst e
      simp
    · have e2 : D ≠ C := fun z => e z.symm
      simp [e, e2, ne]
  · rw [h.mro]
    simp
theorem Er.mid {K : PySem.W.Frag} {CM C : Addr} (h : Er K CM C) (hd : PySem.W.hasDictIn K CM = true) (ty : PySem.W.typeIn K (.ref CM) = some (.type "type")) : PySem.W.kitOne K (.ref C) (.ref CM) = some true := by
  refine kit_own hd ty ?_ ?_
  · rw [h.mro]
    simp
  · rw [h.mro]
    simp
theorem Er.val {K : PySem.W.Frag} {CM C : Addr} (h : Er K CM C) : PySem.W.kitOne K (.ref C) (.type "ValueError") = some true := by
  have e : PySem.W.kitMeta "ValueError" = true := by decide +kernel
  unfold PySem.W.kitOne
  rw [if_neg (by simp)]
  show (if PySem.W.kitMeta "ValueError" = true then PySem.W.subIn K (.ref C) (.type "ValueError") else none) = some true
  rw [if_pos e, h.mro]
  simp
/-- the 18 -/
def errs (A : Ad) : List Addr := [A.C_BadBook, A.C_NoWork, A.C_NoLot, A.C_NoGroup, A.C_NoNumber, A.C_NoRow, A.C_NoOrder, A.C_NoPrices, A.C_Over, A.C_NoLength, A.C_NothingDone, A.C_NoLine, A.C_NoBounds, A.C_TooMany, A.C_NoRule, A.C_TooLate, A.C_BadText, A.C_NoName]
structure Errs (K : PySem.W.Frag) (A : Ad) : Prop where
  er : ∀ C ∈ errs A, Er K A.C_MiddleError C
  nd : (A.C_MiddleError :: errs A).Nodup
  xc : ∀ C ∈ errs A, ExcC K C
  hd : PySem.W.hasDictIn K A.C_MiddleError = true
  ty : PySem.W.typeIn K (.ref A.C_MiddleError) = some (.type "type")
theorem Errs.kit {K : PySem.W.Frag} {A : Ad} (h : Errs K A) {C D : Addr} (hC : C ∈ errs A) (hD : D ∈ errs A) : PySem.W.kitOne K (.ref C) (.ref D) = some (decide (C = D)) :=
  (h.er C hC).kit (h.er D hD) fun e => (List.nodup_cons.mp h.nd).1 (e ▸ hD)
theorem Errs.mid {K : PySem.W.Frag} {A : Ad} (h : Errs K A) {C : Addr} (hC : C ∈ errs A) : PySem.W.kitOne K (.ref C) (.ref A.C_MiddleError) = some true := (h.er C hC).mid h.hd h.ty
/-- an error of the class at C, without a field | its field f holding v -/
def ErrAt (H : Hp) (C : Addr) (f : Option (Str × V)) (x : V) : Prop := ∃ a, x = .ref a ∧ match f with
  | none => H a = some (exo a C none)
  | some p => ∃ dx, H a = some (exo a C (some dx)) ∧ H dx = some (exd dx [p])
theorem ErrAt.mono {H H' : Hp} {C : Addr} {f : Option (Str × V)} {x : V} (h : ErrAt H C f x) (e : Ex H H') : ErrAt H' C f x := by
  obtain ⟨a, h1, h2⟩ := h
  refine ⟨a, h1, ?_⟩
  cases f with
  | none => exact e _ _ h2
  | some p =>
    obtain ⟨dx, h3, h4⟩ := h2
    exact ⟨dx, e _ _ h3, e _ _ h4⟩
theorem ErrAt.at {H : Hp} {C : Addr} {f : Option (Str × V)} {x : V} (h : ErrAt H C f x) : ∃ a d, x = .ref a ∧ H a = some (exo a C d) ∧ ∀ dx, d = some dx → ∃ fs, H dx = some (exd dx fs) := by
  obtain ⟨a, h1, h2⟩ := h
  cases f with
  | none => exact ⟨a, none, h1, h2, fun dx e => by cases e⟩
  | some p =>
    obtain ⟨dx, h3, h4⟩ := h2
    exact ⟨a, some dx, h1, h3, fun d e => by cases e; exact ⟨_, h4⟩⟩
def fldOf (v : V) : List (Option (Str × V)) := [none, none, none, none, none, none, none, none, none, none, none, none, none, some ("most", v), some ("group", v), some ("most", v), some ("line", v), some ("name", v)]
abbrev sp_l_made (K : PySem.W.Frag) (A : Ad) : Sp := fun vs H Q _ => Sp1 vs fun v => ∀ (l : Addr) (xs : List V) (H' : Hp), Ex H H' → H' l = some (.lst xs) → xs.length = 18 →
  (∀ (i : Nat) (x : V) (C : Addr) (f : Option (Str × V)), xs[i]? = some x → (errs A)[i]? = some C → (fldOf v)[i]? = some f → ErrAt H' C f x) → Q (.ref l) H'
abbrev sp_l_kinds (K : PySem.W.Frag) (A : Ad) : Sp := fun vs H Q _ => Sp1 vs fun x => ∃ (C : Addr) (f : Option (Str × V)), C ∈ errs A ∧ ErrAt H C f x ∧ ∀ (l : Addr) (H' : Hp), Ex H H' → H' l = some (.lst ((errs A).map fun D => V.bl (decide (C = D)))) → Q (.ref l) H'
/-- a thing that is told of by itself -/
def SameV (K : PySem.W.Frag) (H : Hp) (v : V) : Prop := (∃ b, TyX K H v b ∧ ∃ c, PySem.W.kitOne K b (.type "bool") = some c) ∧ ((∃ d, Dp K H v d ∧ SeqAt.shaped d = true) ∨ ∃ a kvs, v = .ref a ∧ H a = some (.dK kvs) ∧ (kvs.map (·.1)).Nodup ∧ ∀ p ∈ kvs, flatB p.2 = true)
abbrev sp_l_same (K : PySem.W.Frag) (A : Ad) : Sp := fun vs H Q _ => Sp2 vs fun x y => x = y ∧ SameV K H x ∧ Q (.bl true) H
abbrev sp_l_caught (K : PySem.W.Frag) (A : Ad) : Sp := fun vs H Q _ => Sp2 vs fun x y => ∃ i : Nat, x = .int (i : Int) ∧ i < 3 ∧ ∀ H', Ex H H' → Q (.str (if i = 1 then Str.ofString "many" else Str.ofString "middle")) H'
/-! ### lists of rows (tuples of works) -/
def RwAt (K : PySem.W.Frag) (H : Hp) (p : V × List Nat) : Prop := ∃ a, p.1 = .ref a ∧ SqT K H a (p.2.map vNat)
def RL (K : PySem.W.Frag) (H : Hp) (f : Addr) (rs : List (List Nat)) : Prop := ∃ bs : List (V × List Nat), H f = some (.lst (bs.map (·.1))) ∧ (∀ p ∈ bs, RwAt K H p) ∧ bs.map (·.2) = rs
theorem RwAt.ext {K : PySem.W.Frag} {H H' : Hp} {p : V × List Nat} (h : RwAt K H p) (e : Ex H H') : RwAt K H' p := by
  obtain ⟨a, h1, h2⟩ := h
  exact ⟨a, h1, ex_t e h2⟩
theorem RwAt.upd {K : PySem.W.Frag} {H : Hp} {p : V × List Nat} {f : Addr} {xs ys : List V} (h : RwAt K H p) (hf : H f = some (.lst xs)) : RwAt K (L2.upd H f (.lst ys)) p := by
  obtain ⟨a, h1, h2⟩ := h
  exact ⟨a, h1, sqt_upd hf h2⟩
theorem RL.ext {K : PySem.W.Frag} {H H' : Hp} {f : Addr} {ts : List (List Nat)} (h : RL K H f ts) (e : Ex H H') : RL K H' f ts := by
  obtain ⟨bs, h1, h2, h3⟩ := h
  exact ⟨bs, e _ _ h1, fun p m => (h2 p m).ext e, h3⟩
theorem RL.new {K : PySem.W.Frag} {H : Hp} {f : Addr} (h : H f = some (.lst [])) : RL K H f [] := ⟨[], h, fun p m => by simp at m, rfl⟩
theorem RL.beside {K : PySem.W.Frag} {H : Hp} {f g : Addr} {xs ys : List V} {ts : List (List Nat)} (h : RL K H f ts) (hg : H g = some (.lst xs)) (ne : f ≠ g) : RL K (L2.upd H g (.lst ys)) f ts := by
  obtain ⟨bs, h1, h2, h3⟩ := h
  exact ⟨bs, by rw [upd_ne ne]; exact h1, fun p m => (h2 p m).upd hg, h3⟩
theorem RL.at {K : PySem.W.Frag} {H : Hp} {f : Addr} {ts : List (List Nat)} (h : RL K H f ts) : ∃ xs, H f = some (.lst xs) ∧ xs.length = ts.length := by
  obtain ⟨bs, h1, h2, h3⟩ := h
  exact ⟨_, h1, by rw [List.length_map, ← h3, List.length_map]⟩
theorem RL.cat {K : PySem.W.Frag} {H : Hp} {f z : Addr} {xs zs : List V} {ts us : List (List Nat)} (h : RL K H f ts) (g : RL K H z us) (hx : H f = some (.lst xs)) (hz : H z = some (.lst zs)) : RL K (L2.upd H f (.lst (xs ++ zs))) f (ts ++ us) := by
  obtain ⟨bs, h1, h2, h3⟩ := h
  obtain ⟨cs, g1, g2, g3⟩ := g
  have e1 : xs = bs.map (·.1) := by
    rw [hx] at h1
    injection h1 with h1
    injection h1
  have e2 : zs = cs.map (·.1) := by
    rw [hz] at g1
    injection g1 with g1
    injection g1
  refine ⟨bs ++ cs, by rw [upd_same, List.map_append, e1, e2], fun p m => ?_, by rw [List.map_append, h3, g3]⟩
  rcases List.mem_append.mp m with m | m
  · exact (h2 p m).upd hx
  · exact (g2 p m).upd hx
/-- another list of both -/
theorem RL.plus {K : PySem.W.Frag} {H : Hp} {f z p : Addr} {xs zs : List V} {ts us : List (List Nat)} (h : RL K H f ts) (g : RL K H z us) (hx : H f = some (.lst xs)) (hz : H z = some (.lst zs)) (np : H p = none) : RL K (L2.upd H p (.lst (xs ++ zs))) p (ts ++ us) := by
  obtain ⟨bs, h1, h2, h3⟩ := h
  obtain ⟨cs, g1, g2, g3⟩ := g
  have e1 : xs = bs.map (·.1) := by
    rw [hx] at h1
    injection h1 with h1
    injection h1
  have e2 : zs = cs.map (·.1) := by
    rw [hz] at g1
    injection g1 with g1
    injection g1
  refine ⟨bs ++ cs, by rw [upd_same, List.map_append, e1, e2], fun q m => ?_, by rw [List.map_append, h3, g3]⟩
  rcases List.mem_append.mp m with m | m
  · exact (h2 q m).ext (Ex.new np)
  · exact (g2 q m).ext (Ex.new np)
theorem RL.push {K : PySem.W.Frag} {H : Hp} {f r : Addr} {xs : List V} {ts : List (List Nat)} {t : List Nat} (h : RL K H f ts) (hx : H f = some (.lst xs)) (hr : SqT K H r (t.map vNat)) : RL K (L2.upd H f (.lst (xs ++ [.ref r]))) f (ts ++ [t]) := by
  obtain ⟨bs, h1, h2, h3⟩ := h
  have e1 : xs = bs.map (·.1) := by
    rw [hx] at h1
    injection h1 with h1
    injection h1
  refine ⟨bs ++ [(.ref r, t)], by rw [upd_same, List.map_append, e1] <;> rfl, fun p m => ?_, by rw [List.map_append, h3] <;> rfl⟩
  rcases List.mem_append.mp m with m | m
  · exact (h2 p m).upd hx
  · rw [List.mem_singleton.mp m]
    exact RwAt.upd ⟨r, rfl, hr⟩ hx
theorem RL.one {K : PySem.W.Frag} {H : Hp} {f r : Addr} {t : List Nat} (hf : H f = some (.lst [.ref r])) (hr : SqT K H r (t.map vNat)) : RL K H f [t] :=
  ⟨[(.ref r, t)], hf, fun p m => by
    rw [List.mem_singleton.mp m]
    exact ⟨r, rfl, hr⟩, rfl⟩
abbrev rwD (t : List Nat) : PyData := .tuple (t.map fun n : Nat => PyData.int (n : Int))
theorem RwAt.dp {K : PySem.W.Frag} {H : Hp} {p : V × List Nat} (h : RwAt K H p) : Dp K H p.1 (rwD p.2) := by
  obtain ⟨a, h1, h2⟩ := h
  rw [h1]
  exact .tup h2 (dpAll_nats _)
theorem alike_nats (l m : List Nat) : PySem.W.alike (rwD l) (rwD m) = true := by
  have := PySem.W.alike_ints (l.map fun n : Nat => (n : Int)) (m.map fun n : Nat => (n : Int))
  unfold rwD
  rw [PySem.W.alike]
  simpa [List.map_map, Function.comp_def] using this
theorem depth_row (l : List Nat) : (rwD l).depth ≤ 60 := by
  have q : PyData.depthAll (l.map fun n : Nat => PyData.int (n : Int)) = 0 := by
    have := PySem.W.depth_ints (l.map fun n : Nat => (n : Int))
    simpa [List.map_map, Function.comp_def] using this
  unfold rwD
  rw [PyData.depth, q]
  omega
/-- sorted(rows) -/
theorem sortable_rows {bs : List (V × List Nat)} (h : ∀ b ∈ bs, b.2 ≠ []) : PySem.W.Sortable (bs.map fun p => rwD p.2) := .inl fun d hd => by
  obtain ⟨b, hb, rfl⟩ := List.mem_map.mp hd
  cases e : b.2 with
  | nil => exact absurd e (h b hb)
  | cons x r => exact ⟨_, _, rfl⟩
theorem RL.srt {K : PySem.W.Frag} {H : Hp} {f : Addr} {ts : List (List Nat)} {Q : VK} (h : RL K H f ts) (hs : ts.length ≤ 1 ∨ ∀ t ∈ ts, t ≠ []) (q : ∀ p H' us, H p = none → Ex H H' → us.Perm ts → RL K H' p us → Q (.ref p) H') : rSortedU K [.ref f] H Q := by
  obtain ⟨bs, h1, h2, rfl⟩ := h
  rcases hs with hs | hs
  · refine .inr ⟨f, _, rfl, SqL.of h1, by rw [List.length_map] at hs ⊢; exact hs, fun p np => q p _ _ np (Ex.new np) (List.Perm.refl _) ⟨bs, upd_same, fun c m => (h2 c m).ext (Ex.new np), rfl⟩⟩
  refine .inl ⟨f, V × List Nat, bs, (·.1), fun p => rwD p.2, rfl, SqL.of h1, fun p m => (h2 p m).dp, PySem.W.AllAlike.of fun b c => alike_nats _ _, sortable_rows fun b hb => hs _ (List.mem_map_of_mem hb), fun b _ => depth_row _, fun p np => q p _ _ np (Ex.new np) ((List.mergeSort_perm bs (PySem.W.dataLe false fun p => rwD p.2)).map (·.2)) ?_⟩
  refine ⟨bs.mergeSort (PySem.W.dataLe false fun p => rwD p.2), upd_same, fun c m => ?_, rfl⟩
  exact (h2 c ((List.mergeSort_perm bs _).mem_iff.mp m)).ext (Ex.new np)
/-- a comprehension that builds a list of rows -/
theorem lc_rows {K : PySem.W.Frag} {a : Addr} {β : Type} {val : β → V} {bs : List β} {g : TG} {tt : TT} {te : TE} {vs : List Nat} {σ : L2.St} {H1 : Hp} {D : Addr} {Qd : Hp → Prop} (f : β → List Nat) (p : β → Bool) (nD : H1 D = none) (ha : SqL K H1 a (bs.map val)) (hl : bs.length ≤ 1000)
    (hs : ∀ (c : β) (H : Hp) (Y : V → Hp → Prop) (N : Hp → Prop), c ∈ bs → Ex H1 H → (p c = true → ∀ r H', Ex H H' → SqT K H' r ((f c).map vNat) → Y (.ref r) H') → (p c = false → ∀ H', Ex H H' → N H') →
      g (val c) (wipe σ vs) H fun σ2 H2 => wipe σ2 vs = wipe σ vs ∧ tt σ2 H2 fun b H3 => if b = true then te σ2 H3 Y else N H3)
    (hd : ∀ H, Ex H1 H → RL K H D ((bs.filter p).map f) → Qd H) :
    ∃ W : Nat → Nat → Hp → Prop, (∃ m, W 0 m (L2.upd H1 D (.lst []))) ∧ ∀ i m H, W i m H →
      ((Itl K a).stop i H ∧ Qd H) ∨ ((Itl K a).go i H ∧ ∃ Nx : Hp → Prop, (∀ H', Nx H' → ∃ m', m' < m ∧ W (i + 1) m' H') ∧ ∀ x H', (Itl K a).yld i H x H' → g x (wipe σ vs) H' fun σ2 H2 => wipe σ2 vs = wipe σ vs ∧ tt σ2 H2 fun b H3 =>
        if b = true then te σ2 H3 fun y H4 => ∃ acc, H4 D = some (.lst acc) ∧ acc.length < sizeLine ∧ Nx (L2.upd H4 D (.lst (acc ++ [y]))) else Nx H3) := by
  refine lc_list (K := K) (a := a) (xs := bs.map val) (fun i H' => RL K H' D (((bs.take i).filter p).map f) ∧ Ex H1 H') ⟨RL.new upd_same, Ex.new nD⟩ (fun i H' _ q => ex_l q.2 ha) ?_ ?_
  · rintro i y H' hi ⟨p1, p2⟩
    obtain ⟨c, hc, rfl⟩ : ∃ c, bs[i]? = some c ∧ y = val c := by
      rw [List.getElem?_map] at hi
      cases e : bs[i]? with
      | none => rw [e] at hi; cases hi
      | some c => rw [e] at hi; exact ⟨c, rfl, (Option.some.inj hi).symm⟩
    refine hs c H' _ _ (List.mem_of_getElem? hc) p2 (fun hp r H' e' hr => ?_) fun hp H' e' => ?_
    · have p1 := p1.ext e'
      have p2 := p2.trans e'
      obtain ⟨acc, q1, q2⟩ := p1.at
      have hlen : acc.length ≤ 1000 := by
        rw [q2, List.length_map]
        have := List.length_filter_le p (bs.take i)
        rw [List.length_take] at this
        omega
      refine ⟨acc, q1, small1000 hlen, ?_, p2.mut nD⟩
      have := p1.push q1 hr
      rw [filter_snoc hc, if_pos hp, List.map_append]
      exact this
    · have p1 := p1.ext e'
      refine ⟨?_, p2.trans e'⟩
      rw [filter_snoc hc, if_neg (by rw [hp]; exact Bool.false_ne_true), List.append_nil]
      exact p1
  · rintro H' ⟨p1, p2⟩
    rw [List.length_map, List.take_length] at p1
    exact hd H' p2 p1
/-! all rows of some works; all groups -/
def permK (S : List Nat) : Nat → List (List Nat)
  | 0 => [[]]
  | k + 1 => (permK S k).flatMap fun r => (S.filter fun j => !decide (j ∈ r)).map fun j => r ++ [j]
theorem permK_perm {S : List Nat} : ∀ {k : Nat} {r : List Nat}, r ∈ permK S k → r.length = k ∧ ∃ z, (r ++ z).Perm S
  | 0, r, h => by
    rw [List.mem_singleton.mp h]
    exact ⟨rfl, S, List.Perm.refl _⟩
  | k + 1, r, h => by
    obtain ⟨q, hq, h⟩ := List.mem_flatMap.mp h
    obtain ⟨j, hj, rfl⟩ := List.mem_map.mp h
    obtain ⟨h1, h2⟩ := List.mem_filter.mp hj
    obtain ⟨l, z, hz⟩ := permK_perm hq
    have hn : j ∉ q := by simpa using h2
    have hjz : j ∈ z := by
      rcases List.mem_append.mp (hz.mem_iff.mpr h1) with m | m
      · exact absurd m hn
      · exact m
    refine ⟨by rw [List.length_append, l] <;> rfl, z.erase j, ?_⟩
    rw [List.append_assoc]
    exact ((List.perm_cons_erase hjz).symm.append_left q).trans hz
theorem permK_all {S : List Nat} : ∀ {k : Nat} {r : List Nat}, r.length = k → r.Nodup → (∀ j ∈ r, j ∈ S) → r ∈ permK S k
  | 0, r, h, _, _ => by
    rw [List.eq_nil_of_length_eq_zero h]
    exact List.mem_singleton.mpr rfl
  | k + 1, r, h, hn, hs => by
    obtain ⟨q, j, rfl⟩ : ∃ q j, r = q ++ [j] := by
      have hr : r ≠ [] := by intro e; rw [e] at h; cases h
      exact ⟨r.dropLast, r.getLast hr, (List.dropLast_concat_getLast hr).symm⟩
    rw [List.length_append] at h
    have hn' := List.nodup_append.mp hn
    refine List.mem_flatMap.mpr ⟨q, permK_all (by simpa using h) hn'.1 (fun i hi => hs i (List.mem_append_left _ hi)), List.mem_map.mpr ⟨j, List.mem_filter.mpr ⟨hs j (by simp), ?_⟩, rfl⟩⟩
    have : j ∉ q := fun m => hn'.2.2 j m j (List.mem_singleton.mpr rfl) rfl
    simp [this]
theorem permK_len (S : List Nat) (hS : S.length ≤ 5) : ∀ k, (permK S k).length ≤ 5 ^ k
  | 0 => Nat.le_refl 1
  | k + 1 => by
    have h1 := permK_len S hS k
    have h2 := flat_len (m := 5) (g := fun r => (S.filter fun j => !decide (j ∈ r)).map fun j => r ++ [j]) (fun r => by
      rw [List.length_map]
      exact Nat.le_trans (List.length_filter_le _ _) hS) (permK S k)
    show ((permK S k).flatMap _).length ≤ _
    rw [Nat.pow_succ]
    exact Nat.le_trans h2 (Nat.mul_le_mul_right 5 h1)
theorem permK_fin {S row r : List Nat} (hS : S.Perm row) (h : r ∈ permK S S.length) : r.Perm row := by
  obtain ⟨l, z, hz⟩ := permK_perm h
  have : z = [] := List.eq_nil_of_length_eq_zero (by
    have := hz.length_eq
    rw [List.length_append] at this
    omega)
  rw [this, List.append_nil] at hz
  exact hz.trans hS
def subG (S : List Nat) : List (List Nat) := S.foldl (fun F w => F ++ F.map (· ++ [w])) [[]]
theorem subG_snoc (S : List Nat) (w : Nat) : subG (S ++ [w]) = subG S ++ (subG S).map (· ++ [w]) := by
  unfold subG
  rw [List.foldl_append] <;> rfl
theorem snoc_ind {P : List Nat → Prop} (h0 : P []) (h1 : ∀ l x, P l → P (l ++ [x])) (l : List Nat) : P l := by
  have q : ∀ n, P (l.take n) := fun n => by
    induction n with
    | zero => rw [List.take_zero]; exact h0
    | succ n ih =>
      by_cases hn : n < l.length
      · rw [List.take_succ_eq_append_getElem hn]
        exact h1 _ _ ih
      · rw [List.take_of_length_le (by omega)]
        rw [List.take_of_length_le (by omega)] at ih
        exact ih
  have := q l.length
  rw [List.take_length] at this
  exact this
theorem subG_mem (S : List Nat) : ∀ g ∈ subG S, ∀ j ∈ g, j ∈ S := by
  refine snoc_ind (P := fun S => ∀ g ∈ subG S, ∀ j ∈ g, j ∈ S) ?_ ?_ S
  · intro g hg j hj
    rw [List.mem_singleton.mp hg] at hj
    exact hj
  · intro l x ih g hg j hj
    rw [subG_snoc] at hg
    rcases List.mem_append.mp hg with hg | hg
    · exact List.mem_append_left _ (ih g hg j hj)
    · obtain ⟨q, hq, rfl⟩ := List.mem_map.mp hg
      rcases List.mem_append.mp hj with hj | hj
      · exact List.mem_append_left _ (ih q hq j hj)
      · exact List.mem_append_right _ hj
theorem subG_all (S : List Nat) (p : Nat → Bool) : S.filter p ∈ subG S := by
  refine snoc_ind (P := fun S => S.filter p ∈ subG S) (List.mem_singleton.mpr rfl) (fun l x ih => ?_) S
  rw [subG_snoc, List.filter_append, List.filter_cons, List.filter_nil]
  split
  · exact List.mem_append_right _ (List.mem_map.mpr ⟨_, ih, rfl⟩)
  · rw [List.append_nil]
    exact List.mem_append_left _ ih
theorem subG_zero (S : List Nat) : (subG S).filter (fun g => decide (g.length = 0)) = [[]] := by
  refine snoc_ind (P := fun S => (subG S).filter (fun g => decide (g.length = 0)) = [[]]) rfl (fun l x ih => ?_) S
  rw [subG_snoc, List.filter_append, ih]
  have : ((subG l).map (· ++ [x])).filter (fun g => decide (g.length = 0)) = [] := List.filter_eq_nil_iff.mpr fun g hg => by
    obtain ⟨q, _, rfl⟩ := List.mem_map.mp hg
    simp
  rw [this, List.append_nil]
theorem subG_len (S : List Nat) : (subG S).length = 2 ^ S.length := by
  refine snoc_ind (P := fun S => (subG S).length = 2 ^ S.length) rfl (fun l x ih => ?_) S
  rw [subG_snoc, List.length_append, List.length_map, ih, List.length_append, List.length_singleton, Nat.pow_succ]
  omega
theorem ints_perm {ms : List Int} {row : List Nat} (h : ms.Perm (row.map fun j : Nat => (j : Int))) : ∃ S : List Nat, ms = S.map (fun j : Nat => (j : Int)) ∧ S.Perm row := by
  refine ⟨ms.map Int.toNat, ?_, ?_⟩
  · rw [List.map_map]
    have : ∀ z ∈ ms, ((fun j : Nat => (j : Int)) ∘ Int.toNat) z = z := fun z hz => by
      obtain ⟨j, _, rfl⟩ := List.mem_map.mp (h.mem_iff.mp hz)
      rfl
    rw [List.map_congr_left this, List.map_id']
  · have := h.map Int.toNat
    rw [List.map_map] at this
    simpa [Function.comp_def] using this
/-! ### an order without throws is beaten by no other row of its works -/
structure Still (A B : Nat → Int) (r : Nat → Nat) (S : Nat → Prop) (f l : Nat) : Prop where
  le : ∀ x, S x → A x ≤ B x
  sf : S f
  sl : S l
  lo : ∀ x, S x → r f ≤ r x
  hi : ∀ x, S x → r x ≤ r l
  inj : ∀ x y, S x → S y → r x = r y → x = y
  M : ∀ x y, S x → S y → r x < r y → A x + B x ≤ A y + B y
  F : ∀ x y z, S x → S y → S z → r x < r y → r y < r z → A y < A x → B x < B y → A x + B x - A y ≤ A z
  N : ∀ x y z, S x → S y → S z → r x < r y → r y < r z → A y < A z → B z < B y → B x ≤ A z + B z - B y
section
variable {A B : Nat → Int} {r : Nat → Nat} {S : Nat → Prop} {f l : Nat}
theorem Still.back (h : Still A B r S f l) {y z : Nat} (sy : S y) (sz : S z) (hb : B l < B y) (hr : r y < r z) : A y < A z ∧ B z < B y ∧ B z ≤ B l := by
  have m1 := h.M y z sy sz hr
  have l1 := h.le l h.sl
  have k : B z ≤ B l := by
    refine Int.not_lt.mp fun c => ?_
    have hz : r z < r l := by
      refine Nat.lt_of_le_of_ne (h.hi z sz) fun e => ?_
      rw [h.inj z l sz h.sl e] at c
      omega
    have m2 := h.M z l sz h.sl hz
    have n1 := h.N y z l sy sz h.sl hr hz (by omega) c
    omega
  omega
theorem Still.front (h : Still A B r S f l) {x z : Nat} (sx : S x) (sz : S z) (hb : A x < A f) (hr : r z < r x) : A x < A z ∧ B z < B x ∧ A f ≤ A z := by
  have m1 := h.M z x sz sx hr
  have l1 := h.le f h.sf
  have k : A f ≤ A z := by
    refine Int.not_lt.mp fun c => ?_
    have hz : r f < r z := by
      refine Nat.lt_of_le_of_ne (h.lo z sz) fun e => ?_
      rw [← h.inj f z h.sf sz e] at c
      omega
    have m2 := h.M f z h.sf sz hz
    have n1 := h.F f z x h.sf sz sx hz hr c (by omega)
    omega
  omega
theorem last_of {P : Nat → Prop} : ∀ {n : Nat}, (∃ i, i < n ∧ P i) → ∃ p, p < n ∧ P p ∧ ∀ i, p < i → i < n → ¬ P i
  | 0, h => by
    obtain ⟨i, h1, _⟩ := h
    omega
  | n + 1, h => by
    by_cases c : P n
    · exact ⟨n, by omega, c, fun i h1 h2 => by omega⟩
    · obtain ⟨i, h1, h2⟩ := h
      have hi : i < n := by
        refine Nat.lt_of_le_of_ne (by omega) fun e => c (e ▸ h2)
      obtain ⟨p, p1, p2, p3⟩ := last_of (P := P) ⟨i, hi, h2⟩
      refine ⟨p, by omega, p2, fun j h1 h2 => ?_⟩
      by_cases e : j = n
      · exact e ▸ c
      · exact p3 j h1 (by omega)
theorem first_of {P : Nat → Prop} : ∀ {n : Nat}, (∃ i, i < n ∧ P i) → ∃ p, p < n ∧ P p ∧ ∀ i, i < p → ¬ P i
  | 0, h => by
    obtain ⟨i, h1, _⟩ := h
    omega
  | n + 1, h => by
    by_cases c : ∃ i, i < n ∧ P i
    · obtain ⟨p, p1, p2, p3⟩ := first_of c
      exact ⟨p, by omega, p2, p3⟩
    · obtain ⟨i, h1, h2⟩ := h
      have hi : i = n := by
        refine Nat.le_antisymm (by omega) (Nat.not_lt.mp fun q => c ⟨i, q, h2⟩)
      exact ⟨n, by omega, hi ▸ h2, fun j hj hp => c ⟨j, hj, hp⟩⟩
variable {t : Nat → Nat} {n : Nat}
theorem Still.right (h : Still A B r S f l) (ht : ∀ i, i < n → S (t i)) (ti : ∀ i j, i < n → j < n → t i = t j → i = j) (tl : ∃ i, i < n ∧ t i = l) (tf : ∃ i, i < n ∧ t i = f) (hg : ∀ i j, i ≤ j → j < n → A (t i) ≤ B (t j)) (hn : 0 < n)
    (hb : B l < B (t (n - 1))) : B (t (n - 1)) - A (t 0) ≤ B l - A f ∨ ∃ p, p + 1 < n ∧ r (t p) < r (t (n - 1)) ∧ (∀ i, p < i → i < n → r (t (n - 1)) ≤ r (t i)) ∧ r (t (n - 1)) < r (t (p + 1)) ∧ B (t p) + B (t (n - 1)) - A (t (p + 1)) ≤ B l ∧ B (t (p + 1)) ≤ B l ∧ A (t (n - 1)) < A (t (p + 1)) ∧ B (t (p + 1)) < B (t (n - 1)) := by
  have sy := ht (n - 1) (by omega)
  obtain ⟨q, q1, q2⟩ := tl
  have yl : r (t (n - 1)) < r l := by
    refine Nat.lt_of_le_of_ne (h.hi _ sy) fun e => ?_
    rw [h.inj _ _ sy h.sl e] at hb
    omega
  obtain ⟨lb1, lb2, _⟩ := h.back sy h.sl hb yl
  by_cases c : ∃ i, i < n ∧ r (t i) < r (t (n - 1))
  · obtain ⟨p, p1, p2, p3⟩ := last_of c
    have hp : p + 1 < n := by
      refine Nat.lt_of_le_of_ne (by omega) fun e => ?_
      rw [show n - 1 = p by omega] at p2
      omega
    have pq : p < q := by
      refine Nat.not_le.mp fun z => ?_
      have k := h.N _ _ _ (ht p p1) sy h.sl p2 yl lb1 lb2
      have g := hg q p z p1
      rw [q2] at g
      omega
    have hz : r (t (n - 1)) ≤ r (t (p + 1)) := Nat.not_lt.mp (p3 (p + 1) (by omega) hp)
    have hz' : r (t (n - 1)) < r (t (p + 1)) := by
      refine Nat.lt_of_le_of_ne hz fun e => ?_
      have e1 := ti _ _ (by omega) hp (h.inj _ _ sy (ht _ hp) e)
      have e2 : q = n - 1 := by omega
      rw [← q2, e2] at yl
      omega
    obtain ⟨b1, b2, b3⟩ := h.back sy (ht _ hp) hb hz'
    have k := h.N _ _ _ (ht p p1) sy (ht _ hp) p2 hz' b1 b2
    exact .inr ⟨p, hp, p2, fun i h1 h2 => Nat.not_lt.mp (p3 i h1 h2), hz', by omega, b3, b1, b2⟩
  · refine .inl ?_
    obtain ⟨u, u1, u2⟩ := tf
    have hy : t (n - 1) = f := by
      refine h.inj _ _ sy h.sf (Nat.le_antisymm ?_ (h.lo _ sy))
      rw [← u2]
      exact Nat.not_lt.mp fun z => c ⟨u, u1, z⟩
    have s0 := ht 0 hn
    have h0 : r (t (n - 1)) < r (t 0) := by
      refine Nat.lt_of_le_of_ne (Nat.not_lt.mp fun z => c ⟨0, hn, z⟩) fun e => ?_
      have e1 := ti _ _ (by omega) hn (h.inj _ _ sy s0 e)
      have e2 : q = n - 1 := by omega
      rw [← q2, e2] at yl
      omega
    obtain ⟨b1, b2, b3⟩ := h.back sy s0 hb h0
    have m := h.M _ _ sy s0 h0
    rw [hy] at m ⊢
    omega
theorem Still.left (h : Still A B r S f l) (ht : ∀ i, i < n → S (t i)) (ti : ∀ i j, i < n → j < n → t i = t j → i = j) (tl : ∃ i, i < n ∧ t i = l) (tf : ∃ i, i < n ∧ t i = f) (hg : ∀ i j, i ≤ j → j < n → A (t i) ≤ B (t j)) (hn : 0 < n)
    (hb : A (t 0) < A f) : B (t (n - 1)) - A (t 0) ≤ B l - A f ∨ ∃ s, s + 1 < n ∧ r (t 0) < r (t (s + 1)) ∧ (∀ i, i < s + 1 → r (t i) ≤ r (t 0)) ∧ r (t s) < r (t 0) ∧ A f ≤ A (t (s + 1)) + A (t 0) - B (t s) ∧ A f ≤ A (t s) ∧ A (t 0) < A (t s) ∧ B (t s) < B (t 0) := by
  have sx := ht 0 hn
  obtain ⟨q, q1, q2⟩ := tf
  have xf : r f < r (t 0) := by
    refine Nat.lt_of_le_of_ne (h.lo _ sx) fun e => ?_
    rw [← h.inj _ _ h.sf sx e] at hb
    omega
  obtain ⟨fb1, fb2, _⟩ := h.front sx h.sf hb xf
  by_cases c : ∃ i, i < n ∧ r (t 0) < r (t i)
  · obtain ⟨p, p1, p2, p3⟩ := first_of c
    obtain ⟨s, rfl⟩ : ∃ s, p = s + 1 := by
      cases p with
      | zero => omega
      | succ s => exact ⟨s, rfl⟩
    have pq : q < s + 1 := by
      refine Nat.not_le.mp fun z => ?_
      have k := h.F _ _ _ h.sf sx (ht (s + 1) p1) xf p2 fb1 fb2
      have g := hg (s + 1) q z q1
      rw [q2] at g
      omega
    have hz : r (t s) ≤ r (t 0) := Nat.not_lt.mp (p3 s (by omega))
    have hz' : r (t s) < r (t 0) := by
      refine Nat.lt_of_le_of_ne hz fun e => ?_
      have e1 := ti _ _ (by omega) hn (h.inj _ _ (ht s (by omega)) sx e)
      have e2 : q = 0 := by omega
      rw [← q2, e2] at xf
      omega
    obtain ⟨b1, b2, b3⟩ := h.front sx (ht s (by omega)) hb hz'
    have k := h.F _ _ _ (ht s (by omega)) sx (ht _ p1) hz' p2 b1 b2
    exact .inr ⟨s, p1, p2, fun i h1 => Nat.not_lt.mp (p3 i h1), hz', by omega, b3, b1, b2⟩
  · refine .inl ?_
    obtain ⟨u, u1, u2⟩ := tl
    have hy : t 0 = l := by
      refine h.inj _ _ sx h.sl (Nat.le_antisymm (h.hi _ sx) ?_)
      rw [← u2]
      exact Nat.not_lt.mp fun z => c ⟨u, u1, z⟩
    have s0 := ht (n - 1) (by omega)
    have h0 : r (t (n - 1)) < r (t 0) := by
      refine Nat.lt_of_le_of_ne (Nat.not_lt.mp fun z => c ⟨n - 1, by omega, z⟩) fun e => ?_
      have e1 := ti _ _ (by omega) hn (h.inj _ _ s0 sx e)
      have e2 : q = 0 := by omega
      rw [← q2, e2] at xf
      omega
    obtain ⟨b1, b2, b3⟩ := h.front sx s0 hb h0
    have m := h.M _ _ s0 sx h0
    rw [hy] at m ⊢
    omega
/-- some cover of the other row is worth no more -/
theorem Still.cover (h : Still A B r S f l) (ht : ∀ i, i < n → S (t i)) (ti : ∀ i j, i < n → j < n → t i = t j → i = j) (tl : ∃ i, i < n ∧ t i = l) (tf : ∃ i, i < n ∧ t i = f) (hg : ∀ i j, i ≤ j → j < n → A (t i) ≤ B (t j)) (hn : 0 < n) :
    B (t (n - 1)) - A (t 0) ≤ B l - A f ∨ (∃ p, p + 1 < n ∧ (B (t p) - A (t 0)) + (B (t (n - 1)) - A (t (p + 1))) ≤ B l - A f) ∨
    ∃ s p, s + 1 ≤ p ∧ p + 1 < n ∧ (B (t s) - A (t 0)) + (B (t p) - A (t (s + 1))) + (B (t (n - 1)) - A (t (p + 1))) ≤ B l - A f := by
  by_cases cy : B l < B (t (n - 1))
  · rcases h.right ht ti tl tf hg hn cy with a | ⟨p, p1, p2, p3, p4, p5, p6, p7, p8⟩
    · exact .inl a
    by_cases cx : A (t 0) < A f
    · rcases h.left ht ti tl tf hg hn cx with a | ⟨s, s1, s2, s3, s4, s5, s6, s7, s8⟩
      · exact .inl a
      by_cases sp : s + 1 ≤ p
      · exact .inr (.inr ⟨s, p, sp, p1, by omega⟩)
      -- the first work stands ahead of the last one
      have sx := ht 0 hn
      have sy := ht (n - 1) (by omega)
      have ne : t 0 ≠ t (n - 1) := fun e => by
        have := ti _ _ hn (by omega) e
        omega
      have xy : r (t 0) < r (t (n - 1)) := by
        refine Nat.not_le.mp fun z => ?_
        have yx : r (t (n - 1)) < r (t 0) := Nat.lt_of_le_of_ne z fun e => ne (h.inj _ _ sx sy e.symm)
        have fy : r f < r (t (n - 1)) := Nat.lt_of_le_of_lt (h.lo _ (ht p (by omega))) p2
        have xl : r (t 0) < r l := Nat.lt_of_lt_of_le s2 (h.hi _ (ht (s + 1) s1))
        have m1 := h.M _ _ h.sf sy fy
        have m2 := h.M _ _ sx h.sl xl
        have m3 := h.M _ _ sy sx yx
        have l1 := h.le f h.sf
        have l2 := h.le l h.sl
        have k1 : A f ≤ A (t (n - 1)) := by
          refine Int.not_lt.mp fun c => ?_
          have := h.F _ _ _ h.sf sy sx fy yx c (by omega)
          omega
        have k2 : B (t 0) ≤ B l := by
          refine Int.not_lt.mp fun c => ?_
          have := h.N _ _ _ sy sx h.sl yx xl (by omega) c
          omega
        omega
      have e : s = p := by
        refine Nat.le_antisymm (Nat.not_lt.mp fun z => ?_) (by omega)
        have := s3 (p + 1) (by omega)
        omega
      subst e
      refine .inr (.inl ⟨s, p1, ?_⟩)
      have k1 := h.N _ _ _ sx sy (ht _ p1) xy p4 p7 p8
      have m1 := h.M _ _ (ht s (by omega)) sx s4
      omega
    · exact .inr (.inl ⟨p, p1, by omega⟩)
  · by_cases cx : A (t 0) < A f
    · rcases h.left ht ti tl tf hg hn cx with a | ⟨s, s1, s2, s3, s4, s5, s6, s7, s8⟩
      · exact .inl a
      · exact .inr (.inl ⟨s, s1, by omega⟩)
    · exact .inl (by omega)
end
/-! throws and the threes of a row -/
def frontX (ws : List (Int × Int)) (x y z : Nat) : Prop := insW ws x y = true ∧ fstAt ws z < midW ws x - fstAt ws y
def backX (ws : List (Int × Int)) (x y z : Nat) : Prop := insW ws z y = true ∧ lstAt ws x > midW ws z - lstAt ws y
structure Quiet (ws : List (Int × Int)) (row : List Nat) : Prop where
  M : ∀ x y, [x, y].Sublist row → midW ws x ≤ midW ws y
  F : ∀ x y z, [x, y, z].Sublist row → ¬ frontX ws x y z
  N : ∀ x y z, [x, y, z].Sublist row → ¬ backX ws x y z
theorem Quiet.sub {ws : List (Int × Int)} {row s : List Nat} (h : Quiet ws row) (hs : s.Sublist row) : Quiet ws s := ⟨fun x y q => h.M x y (q.trans hs), fun x y z q => h.F x y z (q.trans hs), fun x y z q => h.N x y z (q.trans hs)⟩
theorem one_sub {x : Nat} {l : List Nat} : [x].Sublist l ↔ x ∈ l := List.singleton_sublist
theorem two_sub {x y a : Nat} {l : List Nat} : [x, y].Sublist (a :: l) ↔ [x, y].Sublist l ∨ (x = a ∧ y ∈ l) := by
  rw [List.sublist_cons_iff]
  constructor
  · rintro (h | ⟨r, e, h⟩)
    · exact .inl h
    · injection e with e1 e2
      subst e1 e2
      exact .inr ⟨rfl, one_sub.mp h⟩
  · rintro (h | ⟨rfl, h⟩)
    · exact .inl h
    · exact .inr ⟨[y], rfl, one_sub.mpr h⟩
theorem three_sub {x y z a : Nat} {l : List Nat} : [x, y, z].Sublist (a :: l) ↔ [x, y, z].Sublist l ∨ (x = a ∧ [y, z].Sublist l) := by
  rw [List.sublist_cons_iff]
  constructor
  · rintro (h | ⟨r, e, h⟩)
    · exact .inl h
    · injection e with e1 e2
      subst e1 e2
      exact .inr ⟨rfl, h⟩
  · rintro (h | ⟨rfl, h⟩)
    · exact .inl h
    · exact .inr ⟨[y, z], rfl, h⟩
theorem midsT_nil {ws : List (Int × Int)} {a : Nat} {l : List Nat} : midsT ws a l = [] ↔ ∀ y ∈ l, midW ws a ≤ midW ws y := by
  unfold midsT
  rw [List.map_eq_nil_iff, List.filter_eq_nil_iff]
  exact ⟨fun h y hy => Int.not_lt.mp fun c => h y hy (decide_eq_true c), fun h y hy c => absurd (of_decide_eq_true c) (Int.not_lt.mpr (h y hy))⟩
theorem frontT_nil {ws : List (Int × Int)} {a b : Nat} {l : List Nat} : frontT ws a l b = [] ↔ ∀ z ∈ l, ¬ frontX ws b a z := by
  unfold frontT frontX
  by_cases c : insW ws b a = true
  · rw [if_pos c, List.map_eq_nil_iff, List.filter_eq_nil_iff]
    exact ⟨fun h y hy q => h y hy (decide_eq_true q.2), fun h y hy q => h y hy ⟨c, of_decide_eq_true q⟩⟩
  · rw [if_neg c]
    exact ⟨fun _ y _ q => c q.1, fun _ => rfl⟩
theorem backT_nil {ws : List (Int × Int)} {a b : Nat} {l : List Nat} : backT ws a l b = [] ↔ ∀ z ∈ l, ¬ backX ws z a b := by
  unfold backT backX
  by_cases c : insW ws b a = true
  · rw [if_pos c, List.map_eq_nil_iff, List.filter_eq_nil_iff]
    exact ⟨fun h y hy q => h y hy (decide_eq_true q.2), fun h y hy q => h y hy ⟨c, of_decide_eq_true q⟩⟩
  · rw [if_neg c]
    exact ⟨fun _ y _ q => c q.1, fun _ => rfl⟩
theorem flat_nil {α β : Type} {g : α → List β} {l : List α} : l.flatMap g = [] ↔ ∀ x ∈ l, g x = [] := List.flatMap_eq_nil_iff
theorem rowT_nil (ws : List (Int × Int)) : ∀ (r ahead : List Nat), rowT ws ahead r = [] ↔ (∀ x y, [x, y].Sublist r → midW ws x ≤ midW ws y) ∧ (∀ x y z, (x ∈ ahead ∧ [y, z].Sublist r) ∨ [x, y, z].Sublist r → ¬ frontX ws x y z ∧ ¬ backX ws x y z)
  | [], ahead => by
    refine ⟨fun _ => ⟨fun x y h => (nomatch h), fun x y z h => ?_⟩, fun _ => rfl⟩
    rcases h with ⟨_, h⟩ | h <;> cases h
  | a :: r, ahead => by
    show (midsT ws a r ++ (ahead.flatMap (frontT ws a r) ++ r.flatMap (backT ws a ahead))) ++ rowT ws (ahead ++ [a]) r = [] ↔ _
    rw [List.append_eq_nil_iff, List.append_eq_nil_iff, List.append_eq_nil_iff, midsT_nil, flat_nil, flat_nil, rowT_nil ws r (ahead ++ [a])]
    constructor
    · rintro ⟨⟨h1, h2, h3⟩, h4, h5⟩
      refine ⟨fun x y h => ?_, fun x y z h => ?_⟩
      · rcases two_sub.mp h with h' | ⟨e, h'⟩
        · exact h4 x y h'
        · rw [e]
          exact h1 y h'
      · rcases h with ⟨hx, h⟩ | h
        · rcases two_sub.mp h with h' | ⟨e, h'⟩
          · exact h5 x y z (.inl ⟨List.mem_append_left _ hx, h'⟩)
          · rw [e]
            exact ⟨frontT_nil.mp (h2 x hx) z h', backT_nil.mp (h3 z h') x hx⟩
        · rcases three_sub.mp h with h' | ⟨e, h'⟩
          · exact h5 x y z (.inr h')
          · exact h5 x y z (.inl ⟨List.mem_append_right _ (List.mem_singleton.mpr e), h'⟩)
    · rintro ⟨h1, h2⟩
      refine ⟨⟨fun y hy => h1 a y (two_sub.mpr (.inr ⟨rfl, hy⟩)), fun x hx => frontT_nil.mpr fun z hz => (h2 x a z (.inl ⟨hx, two_sub.mpr (.inr ⟨rfl, hz⟩)⟩)).1, fun z hz => backT_nil.mpr fun x hx => (h2 x a z (.inl ⟨hx, two_sub.mpr (.inr ⟨rfl, hz⟩)⟩)).2⟩, fun x y h => h1 x y (two_sub.mpr (.inl h)), fun x y z h => ?_⟩
      rcases h with ⟨hx, h⟩ | h
      · rcases List.mem_append.mp hx with hx | hx
        · exact h2 x y z (.inl ⟨hx, two_sub.mpr (.inl h)⟩)
        · rw [List.mem_singleton.mp hx]
          exact h2 a y z (.inr (three_sub.mpr (.inr ⟨rfl, h⟩)))
      · exact h2 x y z (.inr (three_sub.mpr (.inl h)))
theorem rowT_quiet {ws : List (Int × Int)} {row : List Nat} : rowT ws [] row = [] ↔ Quiet ws row := by
  rw [rowT_nil]
  exact ⟨fun ⟨h1, h2⟩ => ⟨h1, fun x y z h => (h2 x y z (.inr h)).1, fun x y z h => (h2 x y z (.inr h)).2⟩, fun h => ⟨h.M, fun x y z q => by
    rcases q with ⟨q, _⟩ | q
    · cases q
    · exact ⟨h.F x y z q, h.N x y z q⟩⟩⟩
/-! ### the least covers of a row -/
def wth (ws : List (Int × Int)) (row : List Nat) (a b : Nat) : Int := lstAt ws (row.getD b 0) - fstAt ws (row.getD a 0)
def Good0 (ws : List (Int × Int)) (row : List Nat) : Prop := ∀ a b, a ≤ b → b < row.length → 0 ≤ wth ws row a b
structure IsBest (ws : List (Int × Int)) (row : List Nat) (k : Nat) (bs : List Int) : Prop where
  len : bs.length = k + 1
  zero : bs.getD 0 0 = 0
  mem : ∀ e, e < k → ∃ a b, a ≤ e ∧ e ≤ b ∧ b < row.length ∧ bs.getD (e + 1) 0 = bs.getD a 0 + wth ws row a b
  le : ∀ e a b, e < k → a ≤ e → e ≤ b → b < row.length → bs.getD (e + 1) 0 ≤ bs.getD a 0 + wth ws row a b
def IsMost (ws : List (Int × Int)) (row : List Nat) (m : Int) : Prop := ∃ bs, IsBest ws row row.length bs ∧ m = bs.getD row.length 0
def bndW (ws : List (Int × Int)) (row : List Nat) : Int := lstAt ws (row.getD (row.length - 1) 0) - fstAt ws (row.getD 0 0)
def Loses (ws : List (Int × Int)) (s : List Nat) : Prop := ∃ t, t.Perm s ∧ Good0 ws t ∧ ∃ m, IsMost ws t m ∧ bndW ws s < m
def Stands (ws : List (Int × Int)) (s : List Nat) : Prop := ∀ t, t.Perm s → Good0 ws t → ∃ m, IsMost ws t m ∧ m ≤ bndW ws s
theorem ix_ne {x a : Nat} {l : List Nat} (h : ¬ x = a) : (a :: l).idxOf x = l.idxOf x + 1 := by
  rw [List.idxOf_cons]
  have : (a == x) = false := by
    rw [beq_eq_false_iff_ne]
    exact fun e => h e.symm
  rw [this] <;> rfl
theorem nodup_ix : ∀ {l : List Nat}, l.Nodup → ∀ {i j : Nat} (hi : i < l.length) (hj : j < l.length), l[i] = l[j] → i = j
  | [], _, i, j, hi, _, _ => by cases hi
  | a :: l, hn, i, j, hi, hj, e => by
    have hn := List.nodup_cons.mp hn
    cases i with
    | zero =>
      cases j with
      | zero => rfl
      | succ j =>
        have e : a = l[j]'(by simpa using hj) := e
        exact absurd (e ▸ List.getElem_mem _) hn.1
    | succ i =>
      cases j with
      | zero =>
        have e : l[i]'(by simpa using hi) = a := e
        exact absurd (e ▸ List.getElem_mem _) hn.1
      | succ j => exact congrArg Nat.succ (nodup_ix hn.2 (by simpa using hi) (by simpa using hj) e)
theorem two_of {x y : Nat} : ∀ {l : List Nat}, l.idxOf x < l.idxOf y → y ∈ l → [x, y].Sublist l
  | [], _, h => by cases h
  | a :: l, h, hy => by
    by_cases e : y = a
    · rw [e, List.idxOf_cons_self] at h
      omega
    have hy' : y ∈ l := (List.mem_cons.mp hy).resolve_left e
    by_cases f : x = a
    · exact two_sub.mpr (.inr ⟨f, hy'⟩)
    rw [ix_ne e, ix_ne f] at h
    exact two_sub.mpr (.inl (two_of (by omega) hy'))
theorem three_of {x y z : Nat} : ∀ {l : List Nat}, l.idxOf x < l.idxOf y → l.idxOf y < l.idxOf z → z ∈ l → [x, y, z].Sublist l
  | [], _, _, h => by cases h
  | a :: l, h, k, hz => by
    by_cases e : z = a
    · rw [e, List.idxOf_cons_self] at k
      omega
    by_cases f : y = a
    · rw [f, List.idxOf_cons_self] at h
      omega
    have hz' : z ∈ l := (List.mem_cons.mp hz).resolve_left e
    rw [ix_ne e, ix_ne f] at k
    by_cases g : x = a
    · exact three_sub.mpr (.inr ⟨g, two_of (by omega) hz'⟩)
    rw [ix_ne f, ix_ne g] at h
    exact three_sub.mpr (.inl (three_of (by omega) (by omega) hz'))
theorem getD_mem {l : List Nat} {i : Nat} (h : i < l.length) : l.getD i 0 ∈ l := by
  rw [List.getD_eq_getElem?_getD, List.getElem?_eq_getElem h]
  exact List.getElem_mem h
theorem getD_ix {l : List Nat} {x : Nat} (h : x ∈ l) : l.getD (l.idxOf x) 0 = x := by
  have := List.idxOf_lt_length_of_mem h
  rw [List.getD_eq_getElem?_getD, List.getElem?_eq_getElem this]
  exact List.getElem_idxOf this
theorem ix_getD {l : List Nat} (hn : l.Nodup) {i : Nat} (h : i < l.length) : l.idxOf (l.getD i 0) = i := by
  have h1 := getD_ix (getD_mem h)
  have h2 := List.idxOf_lt_length_of_mem (getD_mem h)
  rw [List.getD_eq_getElem?_getD, List.getD_eq_getElem?_getD, List.getElem?_eq_getElem h, List.getElem?_eq_getElem (by rw [List.getD_eq_getElem?_getD, List.getElem?_eq_getElem h] at h2; exact h2)] at h1
  rw [List.getD_eq_getElem?_getD, List.getElem?_eq_getElem h]
  exact nodup_ix hn _ _ h1
theorem quiet_stands {ws : List (Int × Int)} {s : List Nat} (hq : Quiet ws s) (hn : s.Nodup) (h0 : 0 < s.length) (hw : ∀ j ∈ s, fstAt ws j ≤ lstAt ws j) : ¬ Loses ws s := by
  rintro ⟨t, hp, hg, m, ⟨bs, hb, rfl⟩, hlt⟩
  have tl := hp.length_eq
  have tn : t.Nodup := hp.nodup_iff.mpr hn
  have st : Still (fstAt ws) (lstAt ws) s.idxOf (· ∈ s) (s.getD 0 0) (s.getD (s.length - 1) 0) := by
    refine ⟨hw, getD_mem h0, getD_mem (by omega), fun x _ => ?_, fun x hx => ?_, fun x y hx hy e => ?_, fun x y hx hy h => hq.M x y (two_of h hy), fun x y z hx hy hz h1 h2 h3 h4 => ?_, fun x y z hx hy hz h1 h2 h3 h4 => ?_⟩
    · rw [ix_getD hn h0]
      exact Nat.zero_le _
    · rw [ix_getD hn (by omega)]
      have := List.idxOf_lt_length_of_mem hx
      omega
    · rw [← getD_ix hx, ← getD_ix hy, e]
    · refine Int.not_lt.mp fun c => hq.F x y z (three_of h1 h2 hz) ⟨?_, c⟩
      unfold insW
      rw [decide_eq_true h3, decide_eq_true h4] <;> rfl
    · refine Int.not_lt.mp fun c => hq.N x y z (three_of h1 h2 hz) ⟨?_, c⟩
      unfold insW
      rw [decide_eq_true h3, decide_eq_true h4] <;> rfl
  have occ : ∀ x ∈ s, ∃ i, i < s.length ∧ t.getD i 0 = x := fun x hx => by
    have hx' : x ∈ t := hp.mem_iff.mpr hx
    exact ⟨t.idxOf x, by rw [← tl]; exact List.idxOf_lt_length_of_mem hx', getD_ix hx'⟩
  have cov := st.cover (t := fun i => t.getD i 0) (n := s.length) (fun i hi => hp.mem_iff.mp (getD_mem (by omega))) (fun i j hi hj e => by
    have e1 := ix_getD tn (i := i) (by omega)
    have e2 := ix_getD tn (i := j) (by omega)
    rw [← e1, ← e2]
    exact congrArg (fun x => t.idxOf x) e) (occ _ (getD_mem (by omega))) (occ _ (getD_mem h0)) (fun i j h1 h2 => by
      have := hg i j h1 (by omega)
      unfold wth at this
      omega) h0
  have z := hb.zero
  have step := hb.le
  rw [tl] at step hlt
  unfold bndW at hlt
  rcases cov with c | ⟨p, p1, c⟩ | ⟨u, p, p0, p1, c⟩
  · have s1 := step (s.length - 1) 0 (s.length - 1) (by omega) (by omega) (by omega) (by omega)
    rw [show s.length - 1 + 1 = s.length by omega] at s1
    unfold wth at s1
    omega
  · have s1 := step p 0 p (by omega) (by omega) (by omega) (by omega)
    have s2 := step (s.length - 1) (p + 1) (s.length - 1) (by omega) (by omega) (by omega) (by omega)
    rw [show s.length - 1 + 1 = s.length by omega] at s2
    unfold wth at s1 s2
    omega
  · have s1 := step u 0 u (by omega) (by omega) (by omega) (by omega)
    have s2 := step p (u + 1) p (by omega) (by omega) (by omega) (by omega)
    have s3 := step (s.length - 1) (p + 1) (s.length - 1) (by omega) (by omega) (by omega) (by omega)
    rw [show s.length - 1 + 1 = s.length by omega] at s3
    unfold wth at s1 s2 s3
    omega
theorem good_2 {ws : List (Int × Int)} {p q : Nat} (h00 : fstAt ws p ≤ lstAt ws p) (h01 : fstAt ws p ≤ lstAt ws q) (h11 : fstAt ws q ≤ lstAt ws q) : Good0 ws [p, q] := fun a b h1 h2 => by
  have h2 : b < 2 := h2
  have hb : b = 0 ∨ b = 1 := by omega
  rcases hb with rfl | rfl
  · cases Nat.le_zero.mp h1
    show 0 ≤ lstAt ws p - fstAt ws p
    omega
  · have ha : a = 0 ∨ a = 1 := by omega
    rcases ha with rfl | rfl
    · show 0 ≤ lstAt ws q - fstAt ws p
      omega
    · show 0 ≤ lstAt ws q - fstAt ws q
      omega
theorem good_3x {ws : List (Int × Int)} {p q s : Nat} (h00 : fstAt ws p ≤ lstAt ws p) (h01 : fstAt ws p ≤ lstAt ws q) (h02 : fstAt ws p ≤ lstAt ws s) (h11 : fstAt ws q ≤ lstAt ws q) (h12 : fstAt ws q ≤ lstAt ws s) (h22 : fstAt ws s ≤ lstAt ws s) : Good0 ws [p, q, s] := fun a b h1 h2 => by
  have h2 : b < 3 := h2
  have hb : b = 0 ∨ b = 1 ∨ b = 2 := by omega
  rcases hb with rfl | rfl | rfl
  · cases Nat.le_zero.mp h1
    show 0 ≤ lstAt ws p - fstAt ws p
    omega
  · have ha : a = 0 ∨ a = 1 := by omega
    rcases ha with rfl | rfl
    · show 0 ≤ lstAt ws q - fstAt ws p
      omega
    · show 0 ≤ lstAt ws q - fstAt ws q
      omega
  · have ha : a = 0 ∨ a = 1 ∨ a = 2 := by omega
    rcases ha with rfl | rfl | rfl
    · show 0 ≤ lstAt ws s - fstAt ws p
      omega
    · show 0 ≤ lstAt ws s - fstAt ws q
      omega
    · show 0 ≤ lstAt ws s - fstAt ws s
      omega
theorem most_2 {ws : List (Int × Int)} {p q : Nat} {m : Int} (h : IsMost ws [p, q] m) : ∃ b1 : Int, (b1 = lstAt ws p - fstAt ws p ∨ b1 = lstAt ws q - fstAt ws p) ∧ (m = lstAt ws q - fstAt ws p ∨ m = b1 + (lstAt ws q - fstAt ws q)) := by
  obtain ⟨bs, hb, rfl⟩ := h
  have z := hb.zero
  refine ⟨bs.getD 1 0, ?_, ?_⟩
  · obtain ⟨a, b, h1, h2, h3, e⟩ := hb.mem 0 (by show 0 < 2; decide)
    have h3 : b < 2 := h3
    cases Nat.le_zero.mp h1
    have hb : b = 0 ∨ b = 1 := by omega
    rcases hb with rfl | rfl
    · left
      have e : bs.getD 1 0 = bs.getD 0 0 + (lstAt ws p - fstAt ws p) := e
      omega
    · right
      have e : bs.getD 1 0 = bs.getD 0 0 + (lstAt ws q - fstAt ws p) := e
      omega
  · obtain ⟨a, b, h1, h2, h3, e⟩ := hb.mem 1 (by show 1 < 2; decide)
    have h3 : b < 2 := h3
    have e0 : b = 1 := by omega
    subst e0
    have ha : a = 0 ∨ a = 1 := by omega
    rcases ha with rfl | rfl
    · left
      have e : bs.getD 2 0 = bs.getD 0 0 + (lstAt ws q - fstAt ws p) := e
      show bs.getD 2 0 = _
      omega
    · right
      exact e
theorem most_3 {ws : List (Int × Int)} {p q s : Nat} {m : Int} (h : IsMost ws [p, q, s] m) : ∃ b1 b2 : Int, (b1 = lstAt ws p - fstAt ws p ∨ b1 = lstAt ws q - fstAt ws p ∨ b1 = lstAt ws s - fstAt ws p) ∧
    (b2 = lstAt ws q - fstAt ws p ∨ b2 = lstAt ws s - fstAt ws p ∨ b2 = b1 + (lstAt ws q - fstAt ws q) ∨ b2 = b1 + (lstAt ws s - fstAt ws q)) ∧
    (m = lstAt ws s - fstAt ws p ∨ m = b1 + (lstAt ws s - fstAt ws q) ∨ m = b2 + (lstAt ws s - fstAt ws s)) := by
  obtain ⟨bs, hb, rfl⟩ := h
  have z := hb.zero
  refine ⟨bs.getD 1 0, bs.getD 2 0, ?_, ?_, ?_⟩
  · obtain ⟨a, b, h1, h2, h3, e⟩ := hb.mem 0 (by show 0 < 3; decide)
    have h3 : b < 3 := h3
    cases Nat.le_zero.mp h1
    have hb : b = 0 ∨ b = 1 ∨ b = 2 := by omega
    rcases hb with rfl | rfl | rfl
    · left
      have e : bs.getD 1 0 = bs.getD 0 0 + (lstAt ws p - fstAt ws p) := e
      omega
    · right; left
      have e : bs.getD 1 0 = bs.getD 0 0 + (lstAt ws q - fstAt ws p) := e
      omega
    · right; right
      have e : bs.getD 1 0 = bs.getD 0 0 + (lstAt ws s - fstAt ws p) := e
      omega
  · obtain ⟨a, b, h1, h2, h3, e⟩ := hb.mem 1 (by show 1 < 3; decide)
    have h3 : b < 3 := h3
    have hb : b = 1 ∨ b = 2 := by omega
    have ha : a = 0 ∨ a = 1 := by omega
    rcases ha with rfl | rfl
    · rcases hb with rfl | rfl
      · left
        have e : bs.getD 2 0 = bs.getD 0 0 + (lstAt ws q - fstAt ws p) := e
        omega
      · right; left
        have e : bs.getD 2 0 = bs.getD 0 0 + (lstAt ws s - fstAt ws p) := e
        omega
    · rcases hb with rfl | rfl
      · right; right; left
        exact e
      · right; right; right
        exact e
  · obtain ⟨a, b, h1, h2, h3, e⟩ := hb.mem 2 (by show 2 < 3; decide)
    have h3 : b < 3 := h3
    have e0 : b = 2 := by omega
    subst e0
    have ha : a = 0 ∨ a = 1 ∨ a = 2 := by omega
    rcases ha with rfl | rfl | rfl
    · left
      have e : bs.getD 3 0 = bs.getD 0 0 + (lstAt ws s - fstAt ws p) := e
      show bs.getD 3 0 = _
      omega
    · right; left
      exact e
    · right; right
      exact e
theorem loud_beaten {ws : List (Int × Int)} {row : List Nat} (hw : ∀ j ∈ row, fstAt ws j ≤ lstAt ws j) (h : ¬ Quiet ws row) : ∃ s, s.Sublist row ∧ s ≠ [] ∧ ¬ Stands ws s := by
  by_cases hM : ∀ x y, [x, y].Sublist row → midW ws x ≤ midW ws y
  · have hT : ∃ x y z, [x, y, z].Sublist row ∧ (frontX ws x y z ∨ backX ws x y z) := Classical.byContradiction fun c =>
      h ⟨hM, fun x y z q f => c ⟨x, y, z, q, .inl f⟩, fun x y z q f => c ⟨x, y, z, q, .inr f⟩⟩
    obtain ⟨x, y, z, q, hT⟩ := hT
    have wx := hw x (q.subset (by simp))
    have wy := hw y (q.subset (by simp))
    have wz := hw z (q.subset (by simp))
    have m1 := hM x y (List.Sublist.trans (by simp) q)
    have m2 := hM y z (List.Sublist.trans (by simp) q)
    have i1 : ∀ a b, insW ws a b = true → fstAt ws b < fstAt ws a ∧ lstAt ws a < lstAt ws b := fun a b e => by
      unfold insW at e
      rw [Bool.and_eq_true] at e
      exact ⟨of_decide_eq_true e.1, of_decide_eq_true e.2⟩
    unfold midW at m1 m2
    refine ⟨[x, y, z], q, by simp, fun st => ?_⟩
    rcases hT with ⟨f1, f2⟩ | ⟨f1, f2⟩
    · obtain ⟨a1, a2⟩ := i1 _ _ f1
      unfold midW at f2
      obtain ⟨m, hm, hle⟩ := st [y, x, z] (List.Perm.swap x y [z]) (good_3x wy (by omega) (by omega) wx (by omega) wz)
      obtain ⟨b1, b2, e1, e2, e3⟩ := most_3 hm
      have hle : m ≤ lstAt ws z - fstAt ws x := hle
      omega
    · obtain ⟨a1, a2⟩ := i1 _ _ f1
      unfold midW at f2
      obtain ⟨m, hm, hle⟩ := st [x, z, y] ((List.Perm.swap y z []).cons x) (good_3x wx (by omega) (by omega) wz (by omega) wy)
      obtain ⟨b1, b2, e1, e2, e3⟩ := most_3 hm
      have hle : m ≤ lstAt ws z - fstAt ws x := hle
      omega
  · have hT : ∃ x y, [x, y].Sublist row ∧ midW ws y < midW ws x := Classical.byContradiction fun c =>
      hM fun x y q => Int.not_lt.mp fun f => c ⟨x, y, q, f⟩
    obtain ⟨x, y, q, hT⟩ := hT
    have wx := hw x (q.subset (by simp))
    have wy := hw y (q.subset (by simp))
    unfold midW at hT
    refine ⟨[x, y], q, by simp, fun st => ?_⟩
    obtain ⟨m, hm, hle⟩ := st [y, x] (List.Perm.swap x y []) (good_2 wy (by omega) wx)
    obtain ⟨b1, e1, e2⟩ := most_2 hm
    have hle : m ≤ lstAt ws y - fstAt ws x := hle
    omega
/-! ### k39's promises -/
theorem filter_sub {s l : List Nat} (h : s.Sublist l) (hn : l.Nodup) : l.filter (fun j => decide (j ∈ s)) = s := by
  induction h with
  | slnil => rfl
  | @cons s l a h ih =>
    have hn := List.nodup_cons.mp hn
    have : ¬ a ∈ s := fun m => hn.1 (h.subset m)
    rw [List.filter_cons, decide_eq_false this, if_neg Bool.false_ne_true]
    exact ih hn.2
  | @cons_cons s l a h ih =>
    have hn := List.nodup_cons.mp hn
    rw [List.filter_cons, decide_eq_true (List.mem_cons_self ..), if_pos rfl]
    refine congrArg _ ?_
    rw [← ih hn.2]
    refine List.filter_congr fun j hj => decide_eq_decide.mpr ?_
    rw [ih hn.2]
    exact ⟨fun m => (List.mem_cons.mp m).resolve_left fun e => hn.1 (e ▸ hj), List.mem_cons_of_mem _⟩
abbrev sp_l_orders (K : PySem.W.Frag) (A : Ad) : Sp := fun vs H Q _ => Sp1 vs fun x => ∃ (a : Addr) (row : List Nat), x = .ref a ∧ SqT K H a (row.map vNat) ∧ row.length ≤ 5 ∧
  ∀ p H' rs, H p = none → Ex H H' → RL K H' p rs → (∀ t ∈ rs, t.Perm row) → (row.Nodup → ∀ t, t.Perm row → t ∈ rs) → Q (.ref p) H'
abbrev sp_l_groups (K : PySem.W.Frag) (A : Ad) : Sp := fun vs H Q _ => Sp1 vs fun x => ∃ (a : Addr) (row : List Nat), x = .ref a ∧ SqT K H a (row.map vNat) ∧ row.length ≤ 5 ∧
  ∀ p H' gs, H p = none → Ex H H' → RL K H' p ([] :: gs) → (∀ g ∈ gs, g ≠ [] ∧ ∀ j ∈ g, j ∈ row) → (∀ q : Nat → Bool, (∃ j ∈ row, q j = true) → ∃ g ∈ gs, ∀ j ∈ row, (j ∈ g ↔ q j = true)) → Q (.ref p) H'
def OnRow (K : PySem.W.Frag) (H : Hp) (x y : V) (G : List (Int × Int) → List Nat → Prop) : Prop :=
  ∃ (w a : Addr) (ws : List (Int × Int)) (row : List Nat), x = .ref w ∧ y = .ref a ∧ WinAt K H w ws ∧ SqT K H a (row.map vNat) ∧ (∀ j ∈ row, j < ws.length) ∧ row.length ≤ 5 ∧ 0 < row.length ∧ G ws row
abbrev sp_l_most (K : PySem.W.Frag) (A : Ad) : Sp := fun vs H Q _ => Sp2 vs fun x y => OnRow K H x y fun ws row => (¬ Good0 ws row → ∀ H', Ex H H' → Q .non H') ∧ (∀ m H', Good0 ws row → IsMost ws row m → Ex H H' → Q (.int m) H')
abbrev sp_l_beaten (K : PySem.W.Frag) (A : Ad) : Sp := fun vs H Q _ => Sp2 vs fun x y => OnRow K H x y fun ws row => row.Nodup ∧ ∀ b H', Ex H H' → (b = true → Loses ws row) → (b = false → Stands ws row) → Q (.bl b) H'
abbrev sp_l_by_groups (K : PySem.W.Frag) (A : Ad) : Sp := fun vs H Q _ => Sp2 vs fun x y => OnRow K H x y fun ws row => row.Nodup ∧ ∀ b H', Ex H H' → (b = true → ∀ s, s.Sublist row → s ≠ [] → Stands ws s) → (b = false → ∃ s, s.Sublist row ∧ s ≠ [] ∧ Loses ws s) → Q (.bl b) H'
/-- the rows of so many works out of a row -/
structure Rows (row : List Nat) (i : Nat) (rs : List (List Nat)) : Prop where
  all : ∀ r ∈ rs, r.length = i ∧ ∃ z, (r ++ z).Perm row
  has : ∀ r : List Nat, r.length = i → r.Nodup → (∀ j ∈ r, j ∈ row) → r ∈ rs
  few : rs.length ≤ 5 ^ i
theorem Rows.zero (row : List Nat) : Rows row 0 [[]] := ⟨fun r h => by
  rw [List.mem_singleton.mp h]
  exact ⟨rfl, row, List.Perm.refl _⟩, fun r h _ _ => by
  rw [List.eq_nil_of_length_eq_zero h]
  exact List.mem_singleton.mpr rfl, Nat.le_refl 1⟩
structure RowsIn (row : List Nat) (i : Nat) (rs us : List (List Nat)) (t : Nat) : Prop where
  all : ∀ r ∈ us, r.length = i + 1 ∧ ∃ z, (r ++ z).Perm row
  has : ∀ r ∈ rs.take t, ∀ j ∈ row, j ∉ r → r ++ [j] ∈ us
  few : us.length ≤ t * 5
theorem RowsIn.zero (row : List Nat) (i : Nat) (rs : List (List Nat)) : RowsIn row i rs [] 0 := ⟨fun r h => (nomatch h), fun r h => (nomatch h), Nat.le_refl 0⟩
theorem RowsIn.step {row S r : List Nat} {i t : Nat} {rs us : List (List Nat)} (h : RowsIn row i rs us t) (R : Rows row i rs) (hS : S.Perm row) (hr : rs[t]? = some r) (hl : row.length ≤ 5) : RowsIn row i rs (us ++ (S.filter fun j => !decide (j ∈ r)).map fun j => r ++ [j]) (t + 1) := by
  have hm := List.mem_of_getElem? hr
  refine ⟨fun u hu => ?_, fun u hu j hj hn => ?_, ?_⟩
  · rcases List.mem_append.mp hu with hu | hu
    · exact h.all u hu
    · obtain ⟨j, hj, rfl⟩ := List.mem_map.mp hu
      obtain ⟨h1, h2⟩ := List.mem_filter.mp hj
      obtain ⟨l, z, hz⟩ := R.all r hm
      have hn : j ∉ r := by simpa using h2
      have hjz : j ∈ z := by
        rcases List.mem_append.mp (hz.mem_iff.mpr (hS.mem_iff.mp h1)) with m | m
        · exact absurd m hn
        · exact m
      refine ⟨by rw [List.length_append, l] <;> rfl, z.erase j, ?_⟩
      rw [List.append_assoc]
      exact ((List.perm_cons_erase hjz).symm.append_left r).trans hz
  · have ht := (List.getElem?_eq_some_iff.mp hr).1
    rw [List.take_succ_eq_append_getElem ht, (List.getElem?_eq_some_iff.mp hr).2] at hu
    rcases List.mem_append.mp hu with hu | hu
    · exact List.mem_append_left _ (h.has u hu j hj hn)
    · have := List.mem_singleton.mp hu
      subst this
      exact List.mem_append_right _ (List.mem_map.mpr ⟨j, List.mem_filter.mpr ⟨hS.mem_iff.mpr hj, by simp [hn]⟩, rfl⟩)
  · have h1 := h.few
    have h2 := List.length_filter_le (fun j => !decide (j ∈ r)) S
    have h3 := hS.length_eq
    rw [List.length_append, List.length_map]
    omega
theorem RowsIn.done {row : List Nat} {i : Nat} {rs us : List (List Nat)} (h : RowsIn row i rs us rs.length) (R : Rows row i rs) : Rows row (i + 1) us := by
  refine ⟨h.all, fun r hl hn hs => ?_, ?_⟩
  · obtain ⟨q, j, rfl⟩ : ∃ q j, r = q ++ [j] := by
      have hr : r ≠ [] := by intro e; rw [e] at hl; cases hl
      exact ⟨r.dropLast, r.getLast hr, (List.dropLast_concat_getLast hr).symm⟩
    rw [List.length_append] at hl
    have hn' := List.nodup_append.mp hn
    have hq := R.has q (by simpa using hl) hn'.1 fun m hm => hs m (List.mem_append_left _ hm)
    exact h.has q (by rw [List.take_length]; exact hq) j (hs j (by simp)) fun m => hn'.2.2 j m j (List.mem_singleton.mpr rfl) rfl
  · have h1 := h.few
    have h2 := R.few
    rw [Nat.pow_succ]
    exact Nat.le_trans h1 (Nat.mul_le_mul_right 5 h2)
theorem Rows.fin {row : List Nat} {rs : List (List Nat)} (R : Rows row row.length rs) : (∀ t ∈ rs, t.Perm row) ∧ (row.Nodup → ∀ t, t.Perm row → t ∈ rs) := by
  refine ⟨fun t ht => ?_, fun hn t ht => R.has t ht.length_eq (ht.nodup_iff.mpr hn) fun j hj => ht.mem_iff.mp hj⟩
  obtain ⟨l, z, hz⟩ := R.all t ht
  have : z = [] := List.eq_nil_of_length_eq_zero (by
    have := hz.length_eq
    rw [List.length_append] at this
    omega)
  rw [this, List.append_nil] at hz
  exact hz
theorem atI_lastD {l : List Nat} (h : 0 < l.length) : atI (l.map vNat) (-1) = some (vNat (l.getD (l.length - 1) 0)) := by
  have e : ixN (l.map vNat).length (-1) = some (l.length - 1) := by
    unfold ixN
    rw [List.length_map, if_neg (by decide), if_pos (by omega)]
    refine congrArg some ?_
    omega
  unfold atI
  rw [e]
  show (l.map vNat)[l.length - 1]? = _
  rw [List.getElem?_map, List.getD_eq_getElem?_getD, List.getElem?_eq_getElem (by omega)] <;> rfl
theorem atI_firstD {l : List Nat} (h : 0 < l.length) : atI (l.map vNat) 0 = some (vNat (l.getD 0 0)) := by
  cases l with
  | nil => cases h
  | cons x l => exact atI0 _ _
theorem RL.get {K : PySem.W.Frag} {bs : List (V × List Nat)} {H : Hp} {t : Nat} {y : V} (hb : ∀ p ∈ bs, RwAt K H p) (h : (bs.map (·.1))[t]? = some y) : ∃ (qa : Addr) (r : List Nat), y = .ref qa ∧ (bs.map (·.2))[t]? = some r ∧ r ∈ bs.map (·.2) ∧ SqT K H qa (r.map vNat) := by
  rw [List.getElem?_map] at h
  cases e : bs[t]? with
  | none => rw [e] at h; cases h
  | some c =>
    rw [e] at h
    cases Option.some.inj h
    obtain ⟨qa, h1, h2⟩ := hb c (List.mem_of_getElem? e)
    exact ⟨qa, c.2, h1, by rw [List.getElem?_map, e] <;> rfl, List.mem_map_of_mem (List.mem_of_getElem? e), h2⟩
/-- groups of few works first -/
structure Grps (F : List (List Nat)) (i : Nat) (gs : List (List Nat)) : Prop where
  no : i = 0 → gs = []
  hd : 0 < i → ∃ gs', gs = [] :: gs' ∧ ∀ g ∈ gs', g ≠ []
  mem : ∀ g, g ∈ gs ↔ g ∈ F ∧ g.length < i
  few : gs.length ≤ i * F.length
theorem Grps.zero (F : List (List Nat)) : Grps F 0 [] := ⟨fun _ => rfl, fun h => absurd h (Nat.lt_irrefl 0), fun g => ⟨fun h => (nomatch h), fun h => absurd h.2 (Nat.not_lt_zero _)⟩, Nat.zero_le _⟩
theorem Grps.step {S : List Nat} {i : Nat} {gs us : List (List Nat)} (h : Grps (subG S) i gs) (hu : us.Perm ((subG S).filter fun g => decide (g.length = i))) : Grps (subG S) (i + 1) (gs ++ us) := by
  have hm : ∀ g, g ∈ us ↔ g ∈ subG S ∧ g.length = i := fun g => by
    rw [hu.mem_iff, List.mem_filter]
    exact and_congr Iff.rfl decide_eq_true_iff
  refine ⟨fun z => by omega, fun _ => ?_, fun g => ?_, ?_⟩
  · by_cases c : i = 0
    · subst c
      rw [subG_zero] at hu
      rw [h.no rfl, List.perm_singleton.mp hu]
      exact ⟨[], rfl, fun g hg => (nomatch hg)⟩
    · obtain ⟨gs', e, hn⟩ := h.hd (by omega)
      refine ⟨gs' ++ us, by rw [e] <;> rfl, fun g hg => ?_⟩
      rcases List.mem_append.mp hg with hg | hg
      · exact hn g hg
      · intro z
        have := ((hm g).mp hg).2
        rw [z] at this
        exact c this.symm
  · rw [List.mem_append, h.mem, hm]
    constructor
    · rintro (⟨a, b⟩ | ⟨a, b⟩)
      · exact ⟨a, by omega⟩
      · exact ⟨a, by omega⟩
    · rintro ⟨a, b⟩
      by_cases c : g.length = i
      · exact .inr ⟨a, c⟩
      · exact .inl ⟨a, by omega⟩
  · have h1 := h.few
    have h2 := hu.length_eq
    have h3 := List.length_filter_le (fun g : List Nat => decide (g.length = i)) (subG S)
    rw [List.length_append, Nat.succ_mul]
    omega
theorem Grps.fin {S row : List Nat} {gs : List (List Nat)} (h : Grps (subG S) (row.length + 1) gs) (hS : S.Perm row) : ∃ gs', gs = [] :: gs' ∧ (∀ g ∈ gs', g ≠ [] ∧ ∀ j ∈ g, j ∈ row) ∧ (∀ q : Nat → Bool, (∃ j ∈ row, q j = true) → ∃ g ∈ gs', ∀ j ∈ row, (j ∈ g ↔ q j = true)) := by
  obtain ⟨gs', e, hn⟩ := h.hd (by omega)
  refine ⟨gs', e, fun g hg => ⟨hn g hg, fun j hj => ?_⟩, fun q ⟨j, hj, hq⟩ => ?_⟩
  · have hg' : g ∈ gs := by rw [e]; exact List.mem_cons_of_mem _ hg
    exact hS.mem_iff.mp (subG_mem S g ((h.mem g).mp hg').1 j hj)
  · have hl := List.length_filter_le q S
    have sl := hS.length_eq
    have hg := (h.mem (S.filter q)).mpr ⟨subG_all S q, by omega⟩
    rw [e] at hg
    rcases List.mem_cons.mp hg with z | hg
    · have : j ∈ S.filter q := List.mem_filter.mpr ⟨hS.mem_iff.mpr hj, hq⟩
      rw [z] at this
      cases this
    · refine ⟨_, hg, fun j hj => ?_⟩
      rw [List.mem_filter]
      exact ⟨fun z => z.2, fun z => ⟨hS.mem_iff.mpr hj, z⟩⟩
theorem subG_short (S : List Nat) : ∀ g ∈ subG S, g.length ≤ S.length := by
  refine snoc_ind (P := fun S => ∀ g ∈ subG S, g.length ≤ S.length) ?_ ?_ S
  · intro g hg
    rw [List.mem_singleton.mp hg]
    exact Nat.le_refl 0
  · intro l x ih g hg
    rw [subG_snoc] at hg
    rw [List.length_append]
    rcases List.mem_append.mp hg with hg | hg
    · exact Nat.le_trans (ih g hg) (Nat.le_add_right _ _)
    · obtain ⟨q, hq, rfl⟩ := List.mem_map.mp hg
      rw [List.length_append]
      exact Nat.add_le_add_right (ih q hq) _
/-- the lists of hours -/
def wthV (ws : List (Int × Int)) (row : List Nat) (j t : Nat) : List V := ((List.range t).map (wth ws row j)).map V.int
def Wor (ws : List (Int × Int)) (row : List Nat) (i : Nat) (H : Hp) (f : Addr) : Prop := ∃ as : List Addr, H f = some (.lst (as.map V.ref)) ∧ as.length = i ∧ ∀ j u, as[j]? = some u → u ≠ f ∧ H u = some (.lst (wthV ws row j row.length))
theorem Wor.zero {ws : List (Int × Int)} {row : List Nat} {H : Hp} {f : Addr} (h : H f = some (.lst [])) : Wor ws row 0 H f := ⟨[], h, rfl, fun j u e => (nomatch e)⟩
theorem Wor.ext {ws : List (Int × Int)} {row : List Nat} {i : Nat} {H H' : Hp} {f : Addr} (h : Wor ws row i H f) (e : Ex H H') : Wor ws row i H' f := by
  obtain ⟨as, h1, h2, h3⟩ := h
  exact ⟨as, e _ _ h1, h2, fun j u q => ⟨(h3 j u q).1, e _ _ (h3 j u q).2⟩⟩
theorem wthV_snoc (ws : List (Int × Int)) (row : List Nat) (j t : Nat) : wthV ws row j (t + 1) = wthV ws row j t ++ [.int (wth ws row j t)] := by
  unfold wthV
  rw [List.range_succ, List.map_append, List.map_append] <;> rfl
theorem wthV_len (ws : List (Int × Int)) (row : List Nat) (j t : Nat) : (wthV ws row j t).length = t := by
  unfold wthV
  rw [List.length_map, List.length_map, List.length_range]
theorem wthV_at {ws : List (Int × Int)} {row : List Nat} {j t b : Nat} (h : b < t) : atI (wthV ws row j t) (b : Int) = some (.int (wth ws row j b)) := atI_of (by
  unfold wthV
  rw [List.getElem?_map, List.getElem?_map, List.getElem?_range h] <;> rfl)
theorem wthV_drop {ws : List (Int × Int)} {row : List Nat} {j t : Nat} : (wthV ws row j t).drop j = (((List.range t).drop j).map (wth ws row j)).map V.int := by
  unfold wthV
  rw [List.map_drop, List.map_drop]
theorem mem_dropR {n i b : Nat} : b ∈ (List.range n).drop i ↔ i ≤ b ∧ b < n := by
  rw [List.mem_iff_getElem?]
  constructor
  · rintro ⟨k, h⟩
    rw [List.getElem?_drop] at h
    have h1 := (List.getElem?_eq_some_iff.mp h).1
    rw [List.length_range] at h1
    rw [List.getElem?_range h1] at h
    have := Option.some.inj h
    omega
  · rintro ⟨h1, h2⟩
    refine ⟨b - i, ?_⟩
    rw [List.getElem?_drop, List.getElem?_range (by omega)]
    exact congrArg some (by omega)
theorem Wor.push {ws : List (Int × Int)} {row : List Nat} {i : Nat} {H : Hp} {f D : Addr} {as : List Addr} (h1 : H f = some (.lst (as.map V.ref))) (h2 : as.length = i) (h3 : ∀ j u, as[j]? = some u → u ≠ f ∧ H u = some (.lst (wthV ws row j row.length))) (hf : f ≠ D) (hD : H D = some (.lst (wthV ws row i row.length))) :
    Wor ws row (i + 1) (L2.upd H f (.lst (as.map V.ref ++ [.ref D]))) f := by
  refine ⟨as ++ [D], by rw [upd_same, List.map_append] <;> rfl, by rw [List.length_append, h2] <;> rfl, fun j u e => ?_⟩
  by_cases c : j < as.length
  · rw [List.getElem?_append_left c] at e
    obtain ⟨q1, q2⟩ := h3 j u e
    rw [upd_ne q1]
    exact ⟨q1, q2⟩
  · have hj := (List.getElem?_eq_some_iff.mp e).1
    rw [List.length_append, List.length_singleton] at hj
    have hj' : j = as.length := by omega
    rw [hj', List.getElem?_append_right (Nat.le_refl _), Nat.sub_self] at e
    cases Option.some.inj e
    rw [upd_ne fun z => hf z.symm, hj', h2]
    exact ⟨fun z => hf z.symm, hD⟩
/-- the ways of the next one -/
structure Ways (ws : List (Int × Int)) (row : List Nat) (bs : List Int) (e t : Nat) (ns : List Int) : Prop where
  mem : ∀ m ∈ ns, ∃ a b, a < t ∧ e ≤ b ∧ b < row.length ∧ m = bs.getD a 0 + wth ws row a b
  all : ∀ a b, a < t → e ≤ b → b < row.length → bs.getD a 0 + wth ws row a b ∈ ns
  few : ns.length ≤ t * row.length
theorem Ways.zero {ws : List (Int × Int)} {row : List Nat} {bs : List Int} {e : Nat} : Ways ws row bs e 0 [] := ⟨fun m h => (nomatch h), fun a b h => absurd h (Nat.not_lt_zero _), Nat.zero_le _⟩
theorem Ways.step {ws : List (Int × Int)} {row : List Nat} {bs ns : List Int} {e t : Nat} (h : Ways ws row bs e t ns) (he : e ≤ row.length) : Ways ws row bs e (t + 1) (ns ++ (List.range (row.length - e)).map fun k => bs.getD t 0 + wth ws row t (e + k)) := by
  refine ⟨fun m hm => ?_, fun a b h1 h2 h3 => ?_, ?_⟩
  · rcases List.mem_append.mp hm with hm | hm
    · obtain ⟨a, b, h1, h2⟩ := h.mem m hm
      exact ⟨a, b, by omega, h2⟩
    · obtain ⟨k, hk, rfl⟩ := List.mem_map.mp hm
      have := List.mem_range.mp hk
      exact ⟨t, e + k, by omega, by omega, by omega, rfl⟩
  · by_cases c : a < t
    · exact List.mem_append_left _ (h.all a b c h2 h3)
    · have : a = t := by omega
      subst this
      refine List.mem_append_right _ (List.mem_map.mpr ⟨b - e, List.mem_range.mpr (by omega), ?_⟩)
      rw [show e + (b - e) = b by omega]
  · have := h.few
    rw [List.length_append, List.length_map, List.length_range, Nat.succ_mul]
    omega
theorem IsBest.start {ws : List (Int × Int)} {row : List Nat} : IsBest ws row 0 [0] := ⟨rfl, rfl, fun e h => absurd h (Nat.not_lt_zero _), fun e a b h => absurd h (Nat.not_lt_zero _)⟩
theorem getD_left {l : List Int} {m : Int} {i : Nat} (h : i < l.length) : (l ++ [m]).getD i 0 = l.getD i 0 := by
  rw [List.getD_eq_getElem?_getD, List.getD_eq_getElem?_getD, List.getElem?_append_left h]
theorem getD_end {l : List Int} {m : Int} {i : Nat} (h : i = l.length) : (l ++ [m]).getD i 0 = m := by
  rw [List.getD_eq_getElem?_getD, h, List.getElem?_append_right (Nat.le_refl _), Nat.sub_self] <;> rfl
theorem IsBest.step {ws : List (Int × Int)} {row : List Nat} {k : Nat} {bs : List Int} {m : Int} (h : IsBest ws row k bs) (hm : ∃ a b, a < k + 1 ∧ k ≤ b ∧ b < row.length ∧ m = bs.getD a 0 + wth ws row a b)
    (hl : ∀ a b, a < k + 1 → k ≤ b → b < row.length → m ≤ bs.getD a 0 + wth ws row a b) : IsBest ws row (k + 1) (bs ++ [m]) := by
  have L := h.len
  refine ⟨by rw [List.length_append, L] <;> rfl, by rw [getD_left (by omega)]; exact h.zero, fun e he => ?_, fun e a b he h1 h2 h3 => ?_⟩
  · by_cases c : e < k
    · obtain ⟨a, b, h1, h2, h3, h4⟩ := h.mem e c
      exact ⟨a, b, h1, h2, h3, by rw [getD_left (by omega), getD_left (by omega)]; exact h4⟩
    · have : e = k := by omega
      subst this
      obtain ⟨a, b, h1, h2, h3, h4⟩ := hm
      exact ⟨a, b, by omega, h2, h3, by rw [getD_end (by omega), getD_left (by omega)]; exact h4⟩
  · by_cases c : e < k
    · rw [getD_left (by omega), getD_left (by omega)]
      exact h.le e a b c h1 h2 h3
    · have : e = k := by omega
      subst this
      rw [getD_end (by omega), getD_left (by omega)]
      exact hl a b (by omega) h2 h3
theorem atI_getD {l : List Nat} {i : Nat} (h : i < l.length) : atI (l.map vNat) (0 + (i : Int)) = some (vNat (l.getD i 0)) := by
  rw [Int.zero_add]
  exact atI_of (by rw [List.getElem?_map, List.getD_eq_getElem?_getD, List.getElem?_eq_getElem h] <;> rfl)
theorem atI_int {l : List Int} {i : Nat} (h : i < l.length) : atI (l.map V.int) (i : Int) = some (.int (l.getD i 0)) :=
  atI_of (by rw [List.getElem?_map, List.getD_eq_getElem?_getD, List.getElem?_eq_getElem h] <;> rfl)
theorem atI_lastI {l : List Int} {n : Nat} (h : l.length = n + 1) : atI (l.map V.int) (-1) = some (.int (l.getD n 0)) := by
  have e : ixN (l.map V.int).length (-1) = some n := by
    unfold ixN
    rw [List.length_map, if_neg (by decide), if_pos (by omega)]
    refine congrArg some ?_
    omega
  unfold atI
  rw [e]
  show (l.map V.int)[n]? = _
  rw [List.getElem?_map, List.getD_eq_getElem?_getD, List.getElem?_eq_getElem (by omega)] <;> rfl
/-! ### shapes: how the works of one middle may stand -/
abbrev Shp := List Nat × List Nat × List Nat
def rowS (s : Shp) : List Nat := s.1 ++ s.2.1 ++ s.2.2
def endsN (outer : List Nat) : List (List Nat × List Nat) :=
  match outer with
  | [] => [([], [])]
  | [x] => [([x], []), ([], [x])]
  | [x, y] => [([x], [y]), ([y], [x])]
  | _ => []
def clearN (ws : List (Int × Int)) : List Nat → List Nat → List Nat → Bool
  | _, [], _ => true
  | ahead, a :: r, behind => decide (overT ws ahead a (r ++ behind) = []) && clearN ws (ahead ++ [a]) r behind
def topF (ws : List (Int × Int)) : List Nat → Int
  | [] => 0
  | [x] => fstAt ws x
  | x :: y :: r => max (fstAt ws x) (topF ws (y :: r))
theorem topF_spec (ws : List (Int × Int)) : ∀ {l : List Nat}, l ≠ [] → (∃ j ∈ l, fstAt ws j = topF ws l) ∧ ∀ j ∈ l, fstAt ws j ≤ topF ws l
  | [], h => absurd rfl h
  | [x], _ => ⟨⟨x, List.mem_singleton.mpr rfl, rfl⟩, fun j hj => by rw [List.mem_singleton.mp hj]; exact Int.le_refl _⟩
  | x :: y :: r, _ => by
    obtain ⟨⟨k, hk, ek⟩, h2⟩ := topF_spec ws (l := y :: r) (by simp)
    have e : topF ws (x :: y :: r) = max (fstAt ws x) (topF ws (y :: r)) := rfl
    refine ⟨?_, fun j hj => ?_⟩
    · by_cases c : fstAt ws x ≤ topF ws (y :: r)
      · exact ⟨k, List.mem_cons_of_mem _ hk, by rw [e]; omega⟩
      · exact ⟨x, List.mem_cons_self .., by rw [e]; omega⟩
    · rcases List.mem_cons.mp hj with rfl | hj
      · rw [e]
        omega
      · have := h2 j hj
        rw [e]
        omega
def alikeN (ws : List (Int × Int)) (block : List Nat) : List Nat := block.filter fun j => decide (fstAt ws j = topF ws block)
def outerN (ws : List (Int × Int)) (block : List Nat) : List Nat := block.filter fun j => !decide (j ∈ alikeN ws block)
def shapesN (ws : List (Int × Int)) (ahead block behind : List Nat) : List Shp := ((endsN (outerN ws block)).map fun e => (e.1, alikeN ws block, e.2)).filter fun s => clearN ws ahead (rowS s) behind
def allSh (ws : List (Int × Int)) : List Nat → List (List Nat) → List (List Shp)
  | _, [] => []
  | ahead, b :: bs => shapesN ws ahead b bs.flatten :: allSh ws (ahead ++ b) bs
/-- nothing is thrown over a by x ahead and z behind -/
def okT (ws : List (Int × Int)) (x a z : Nat) : Prop := ¬ frontX ws x a z ∧ ¬ backX ws x a z
theorem over_nil {ws : List (Int × Int)} {ahead behind : List Nat} {a : Nat} : overT ws ahead a behind = [] ↔ ∀ x ∈ ahead, ∀ z ∈ behind, okT ws x a z := by
  unfold overT
  rw [List.append_eq_nil_iff, flat_nil, flat_nil]
  exact ⟨fun ⟨h1, h2⟩ x hx z hz => ⟨frontT_nil.mp (h1 x hx) z hz, backT_nil.mp (h2 z hz) x hx⟩, fun h => ⟨fun x hx => frontT_nil.mpr fun z hz => (h x hx z hz).1, fun z hz => backT_nil.mpr fun x hx => (h x hx z hz).2⟩⟩
theorem clear_cons {ws : List (Int × Int)} {ahead r behind : List Nat} {a : Nat} : clearN ws ahead (a :: r) behind = true ↔ (∀ x ∈ ahead, ∀ z ∈ r ++ behind, okT ws x a z) ∧ clearN ws (ahead ++ [a]) r behind = true := by
  show (decide (overT ws ahead a (r ++ behind) = []) && clearN ws (ahead ++ [a]) r behind) = true ↔ _
  rw [Bool.and_eq_true, decide_eq_true_iff, over_nil]
theorem clear_split {ws : List (Int × Int)} {behind : List Nat} : ∀ {r ahead : List Nat}, clearN ws ahead r behind = true ↔ ∀ p y s, r = p ++ y :: s → ∀ x ∈ ahead ++ p, ∀ z ∈ s ++ behind, okT ws x y z
  | [], ahead => ⟨fun _ p y s e => by simp at e, fun _ => rfl⟩
  | a :: r, ahead => by
    rw [clear_cons, clear_split (r := r)]
    constructor
    · rintro ⟨h1, h2⟩ p y s e x hx z hz
      cases p with
      | nil =>
        injection e with e1 e2
        subst e1 e2
        rw [List.append_nil] at hx
        exact h1 x hx z hz
      | cons b p =>
        injection e with e1 e2
        subst e1
        exact h2 p y s e2 x (by simpa using hx) z hz
    · intro h
      refine ⟨fun x hx z hz => h [] a r rfl x (by simpa using hx) z hz, fun p y s e x hx z hz => h (a :: p) y s (by rw [e] <;> rfl) x (by simpa using hx) z hz⟩
theorem clear_app {ws : List (Int × Int)} {behind : List Nat} : ∀ {r1 r2 ahead : List Nat}, clearN ws ahead (r1 ++ r2) behind = true ↔ clearN ws ahead r1 (r2 ++ behind) = true ∧ clearN ws (ahead ++ r1) r2 behind = true
  | [], r2, ahead => by simp [clearN]
  | a :: r1, r2, ahead => by
    rw [List.cons_append, clear_cons, clear_cons, clear_app (r1 := r1), List.append_assoc, List.append_assoc, and_assoc] <;> rfl
theorem clear_congr {ws : List (Int × Int)} {a1 a2 r b1 b2 : List Nat} (ha : ∀ x, x ∈ a1 ↔ x ∈ a2) (hb : ∀ x, x ∈ b1 ↔ x ∈ b2) : clearN ws a1 r b1 = true → clearN ws a2 r b2 = true := by
  rw [clear_split, clear_split]
  intro h p y s e x hx z hz
  refine h p y s e x ?_ z ?_
  · rw [List.mem_append] at hx ⊢
    exact hx.imp (ha x).mpr id
  · rw [List.mem_append] at hz ⊢
    exact hz.imp id (hb z).mpr
theorem rowT_clear (ws : List (Int × Int)) : ∀ (r ahead : List Nat), rowT ws ahead r = [] ↔ r.Pairwise (fun x y => midW ws x ≤ midW ws y) ∧ clearN ws ahead r [] = true
  | [], ahead => ⟨fun _ => ⟨.nil, rfl⟩, fun _ => rfl⟩
  | a :: r, ahead => by
    show (midsT ws a r ++ overT ws ahead a r) ++ rowT ws (ahead ++ [a]) r = [] ↔ _
    rw [List.append_eq_nil_iff, List.append_eq_nil_iff, midsT_nil, over_nil, rowT_clear ws r (ahead ++ [a]), List.pairwise_cons, clear_cons, List.append_nil]
    exact ⟨fun ⟨⟨h1, h2⟩, h3, h4⟩ => ⟨⟨h1, h3⟩, h2, h4⟩, fun ⟨⟨h1, h3⟩, h2, h4⟩ => ⟨⟨h1, h2⟩, h3, h4⟩⟩
/-- works of one window may stand in whichever order -/
theorem clear_same {ws : List (Int × Int)} {P S a b : List Nat} {f l : Int} (hp : b.Perm a) (hw : ∀ j ∈ a, fstAt ws j = f ∧ lstAt ws j = l) (h : clearN ws P a S = true) : clearN ws P b S = true := by
  rw [clear_split] at h ⊢
  intro p y s e x hx z hz
  have hb : ∀ j ∈ b, fstAt ws j = f ∧ lstAt ws j = l := fun j hj => hw j (hp.mem_iff.mp hj)
  have yb : y ∈ b := by rw [e]; simp
  have pb : ∀ j ∈ p, j ∈ b := fun j hj => by rw [e]; exact List.mem_append_left _ hj
  have sb : ∀ j ∈ s, j ∈ b := fun j hj => by rw [e]; exact List.mem_append_right _ (List.mem_cons_of_mem _ hj)
  obtain ⟨yf, yl⟩ := hb y yb
  have nin : ∀ j ∈ b, insW ws j y ≠ true := fun j hj c => by
    unfold insW at c
    rw [Bool.and_eq_true] at c
    have := of_decide_eq_true c.1
    rw [(hb j hj).1, yf] at this
    omega
  have same : ∀ u v w u' v' w', fstAt ws u = fstAt ws u' → lstAt ws u = lstAt ws u' → fstAt ws v = fstAt ws v' → lstAt ws v = lstAt ws v' → fstAt ws w = fstAt ws w' → lstAt ws w = lstAt ws w' → okT ws u v w → okT ws u' v' w' := by
    intro u v w u' v' w' e1 e2 e3 e4 e5 e6
    unfold okT frontX backX insW midW
    rw [e1, e2, e3, e4, e5, e6]
    exact id
  have two : 2 ≤ b.length → ∃ y1 y2 r, a = y1 :: y2 :: r := fun h2 => by
    have hl := hp.length_eq
    match a, hl with
    | [], hl => rw [hl] at h2; simp at h2
    | [_], hl => rw [hl] at h2; simp at h2
    | y1 :: y2 :: r, _ => exact ⟨y1, y2, r, rfl⟩
  obtain ⟨y1, r1, ea⟩ : ∃ y1 r1, a = y1 :: r1 := by
    cases a with
    | nil => exact absurd (hp.mem_iff.mp yb) (by simp)
    | cons y1 r1 => exact ⟨y1, r1, rfl⟩
  obtain ⟨y1f, y1l⟩ := hw y1 (by rw [ea]; simp)
  have main : ∀ x z, x ∈ P → z ∈ S → okT ws x y z := fun x z hx hz => same x y1 z x y z rfl rfl (y1f.trans yf.symm) (y1l.trans yl.symm) rfl rfl (h [] y1 r1 ea x (by simpa using hx) z (List.mem_append_right _ hz))
  refine ⟨fun c => ?_, fun c => ?_⟩
  · have xP : x ∈ P := by
      rcases List.mem_append.mp hx with hx | hx
      · exact hx
      · exact absurd c.1 (nin x (pb x hx))
    rcases List.mem_append.mp hz with hz | hz
    · have h2 : 2 ≤ b.length := by
        rw [e, List.length_append, List.length_cons]
        have := List.length_pos_of_mem hz
        omega
      obtain ⟨u, v, r, ea2⟩ := two h2
      obtain ⟨uf, ul⟩ := hw u (by rw [ea2]; simp)
      obtain ⟨vf, vl⟩ := hw v (by rw [ea2]; simp)
      obtain ⟨zf, zl⟩ := hb z (sb z hz)
      exact (same x u v x y z rfl rfl (uf.trans yf.symm) (ul.trans yl.symm) (vf.trans zf.symm) (vl.trans zl.symm) (h [] u (v :: r) ea2 x (by simpa using xP) v (by simp))).1 c
    · exact (main x z xP hz).1 c
  · have zS : z ∈ S := by
      rcases List.mem_append.mp hz with hz | hz
      · exact absurd c.1 (nin z (sb z hz))
      · exact hz
    rcases List.mem_append.mp hx with hx | hx
    · exact (main x z hx zS).2 c
    · have h2 : 2 ≤ b.length := by
        rw [e, List.length_append, List.length_cons]
        have := List.length_pos_of_mem hx
        omega
      obtain ⟨u, v, r, ea2⟩ := two h2
      obtain ⟨uf, ul⟩ := hw u (by rw [ea2]; simp)
      obtain ⟨vf, vl⟩ := hw v (by rw [ea2]; simp)
      obtain ⟨xf, xl⟩ := hb x (pb x hx)
      exact (same u v z x y z (uf.trans xf.symm) (ul.trans xl.symm) (vf.trans yf.symm) (vl.trans yl.symm) rfl rfl (h [u] v r ea2 u (by simp) z (List.mem_append_right _ zS))).2 c
structure Blk (ws : List (Int × Int)) (block : List Nat) (m : Int) : Prop where
  ne : block ≠ []
  nd : block.Nodup
  mid : ∀ j ∈ block, midW ws j = m
  le : ∀ j ∈ block, fstAt ws j ≤ lstAt ws j
theorem alike_ne {ws : List (Int × Int)} {block : List Nat} {m : Int} (h : Blk ws block m) : ∃ x, x ∈ alikeN ws block := by
  obtain ⟨⟨x, hx, e⟩, _⟩ := topF_spec ws h.ne
  exact ⟨x, List.mem_filter.mpr ⟨hx, decide_eq_true e⟩⟩
theorem alike_win {ws : List (Int × Int)} {block : List Nat} {m : Int} (h : Blk ws block m) : ∀ j ∈ alikeN ws block, fstAt ws j = topF ws block ∧ lstAt ws j = m - topF ws block := fun j hj => by
  obtain ⟨h1, h2⟩ := List.mem_filter.mp hj
  have e := of_decide_eq_true h2
  have := h.mid j h1
  unfold midW at this
  exact ⟨e, by omega⟩
theorem outer_mem {ws : List (Int × Int)} {block : List Nat} {y : Nat} : y ∈ outerN ws block ↔ y ∈ block ∧ y ∉ alikeN ws block := by
  unfold outerN
  rw [List.mem_filter]
  simp
/-- who is not alike stands first or last -/
theorem outer_end {ws : List (Int × Int)} {block ahead behind row p s : List Nat} {m : Int} {y : Nat} (h : Blk ws block m) (hp : row.Perm block) (hc : clearN ws ahead row behind = true) (hy : y ∈ outerN ws block) (e : row = p ++ y :: s) : p = [] ∨ s = [] := by
  obtain ⟨x, hx⟩ := alike_ne h
  obtain ⟨xf, xl⟩ := alike_win h x hx
  obtain ⟨y1, y2⟩ := outer_mem.mp hy
  obtain ⟨_, top⟩ := topF_spec ws h.ne
  have yt := top y y1
  have yne : fstAt ws y ≠ topF ws block := fun c => y2 (List.mem_filter.mpr ⟨y1, decide_eq_true c⟩)
  have ym := h.mid y y1
  have xb := (List.mem_filter.mp hx).1
  have xle := h.le x xb
  have xr := hp.mem_iff.mpr xb
  unfold midW at ym
  have ins : insW ws x y = true := by
    unfold insW
    rw [decide_eq_true (show fstAt ws y < fstAt ws x by omega), decide_eq_true (show lstAt ws x < lstAt ws y by omega)] <;> rfl
  rw [clear_split] at hc
  have hc := hc p y s e
  rw [e] at xr
  have mz : ∀ z, z ∈ p ∨ z ∈ s → fstAt ws z + lstAt ws z = m ∧ fstAt ws z ≤ lstAt ws z := fun z hz => by
    have hz' : z ∈ block := hp.mem_iff.mp (by rw [e]; rcases hz with hz | hz <;> simp [hz])
    have := h.mid z hz'
    unfold midW at this
    exact ⟨this, h.le z hz'⟩
  cases p with
  | nil => exact .inl rfl
  | cons u p =>
    cases s with
    | nil => exact .inr rfl
    | cons v s =>
      exfalso
      obtain ⟨mv1, mv2⟩ := mz v (.inr (List.mem_cons_self ..))
      obtain ⟨mu1, mu2⟩ := mz u (.inl (List.mem_cons_self ..))
      rcases List.mem_append.mp xr with hxp | hxs
      · refine (hc x (List.mem_append_right _ hxp) v (List.mem_append_left _ (List.mem_cons_self ..))).1 ⟨ins, ?_⟩
        unfold midW
        omega
      · have hxs' : x ∈ v :: s := (List.mem_cons.mp hxs).resolve_left fun c => y2 (c ▸ hx)
        refine (hc u (List.mem_append_right _ (List.mem_cons_self ..)) x (List.mem_append_left _ hxs')).2 ⟨ins, ?_⟩
        unfold midW
        omega
theorem shape_clear {ws : List (Int × Int)} {ahead behind h t a' a : List Nat} {f l : Int} (hp : a.Perm a') (hw : ∀ j ∈ a', fstAt ws j = f ∧ lstAt ws j = l) (hc : clearN ws ahead (h ++ a' ++ t) behind = true) : clearN ws ahead (h ++ a ++ t) behind = true := by
  rw [clear_app, clear_app] at hc ⊢
  obtain ⟨⟨h1, h2⟩, h3⟩ := hc
  refine ⟨⟨clear_congr (fun _ => Iff.rfl) (fun x => ?_) h1, clear_same hp hw h2⟩, clear_congr (fun x => ?_) (fun _ => Iff.rfl) h3⟩
  · simp only [List.mem_append, hp.mem_iff]
  · simp only [List.mem_append, hp.mem_iff]
theorem parts_perm {ws : List (Int × Int)} {block : List Nat} : (alikeN ws block ++ outerN ws block).Perm block := by
  have e : block.filter (fun j => decide (j ∈ alikeN ws block)) = alikeN ws block := by
    show _ = block.filter _
    refine List.filter_congr fun j hj => decide_eq_decide.mpr ⟨fun q => of_decide_eq_true (List.mem_filter.mp q).2, fun q => List.mem_filter.mpr ⟨hj, decide_eq_true q⟩⟩
  have := List.filter_append_perm (fun j => decide (j ∈ alikeN ws block)) block
  rw [e] at this
  exact this
theorem split_mem {y : Nat} {l : List Nat} (h : y ∈ l) : ∃ p s, l = p ++ y :: s := List.append_of_mem h
theorem shape_of {ws : List (Int × Int)} {block ahead behind row : List Nat} {m : Int} (h : Blk ws block m) (hp : row.Perm block) (hc : clearN ws ahead row behind = true) :
    ∃ s ∈ shapesN ws ahead block behind, ∃ a', a'.Perm s.2.1 ∧ row = s.1 ++ a' ++ s.2.2 := by
  have ends : ∀ y p s, y ∈ outerN ws block → row = p ++ y :: s → p = [] ∨ s = [] := fun y p s hy e => outer_end h hp hc hy e
  have inr : ∀ y, y ∈ outerN ws block → y ∈ row := fun y hy => hp.mem_iff.mpr (outer_mem.mp hy).1
  have pp := hp.trans (parts_perm (ws := ws) (block := block)).symm
  have ond : (outerN ws block).Nodup := h.nd.sublist List.filter_sublist
  have win := alike_win h
  -- one shape is enough
  have done : ∀ (hd tl a' : List Nat), (hd, tl) ∈ endsN (outerN ws block) → row = hd ++ a' ++ tl → a'.Perm (alikeN ws block) → ∃ s ∈ shapesN ws ahead block behind, ∃ a', a'.Perm s.2.1 ∧ row = s.1 ++ a' ++ s.2.2 := by
    intro hd tl a' hm e ha
    refine ⟨(hd, alikeN ws block, tl), List.mem_filter.mpr ⟨List.mem_map.mpr ⟨(hd, tl), hm, rfl⟩, ?_⟩, a', ha, e⟩
    rw [e] at hc
    exact shape_clear ha.symm (fun j hj => win j (ha.mem_iff.mp hj)) hc
  generalize hO : outerN ws block = O at *
  match O, hO with
  | [], _ =>
    refine done [] [] row (List.mem_singleton.mpr rfl) (by simp) ?_
    simpa using pp
  | [y], _ =>
    obtain ⟨p, s, e⟩ := split_mem (inr y (by simp))
    rcases ends y p s (by simp) e with rfl | rfl
    · refine done [y] [] s (List.mem_cons_self ..) (by rw [e]; simp) ?_
      rw [e] at pp
      exact ((pp.trans List.perm_append_comm) : (y :: s).Perm (y :: alikeN ws block)).cons_inv
    · refine done [] [y] p (List.mem_cons_of_mem _ (List.mem_singleton.mpr rfl)) (by rw [e]; simp) ?_
      rw [e] at pp
      exact (List.perm_append_right_iff [y]).mp pp
  | [y1, y2], _ =>
    have ne : y1 ≠ y2 := fun c => by
      rw [c] at ond
      simp at ond
    obtain ⟨p, s, e⟩ := split_mem (inr y1 (by simp))
    rcases ends y1 p s (by simp) e with rfl | rfl
    · have m2 : y2 ∈ s := by
        have := inr y2 (by simp)
        rw [e] at this
        simpa [ne.symm] using this
      obtain ⟨p2, s2, rfl⟩ := split_mem m2
      have s2n : s2 = [] := by
        rcases ends y2 (y1 :: p2) s2 (by simp) (by rw [e]; simp) with z | z
        · cases z
        · exact z
      subst s2n
      refine done [y1] [y2] p2 (List.mem_cons_self ..) (by rw [e]; simp) ?_
      rw [e] at pp
      have q : (y1 :: (p2 ++ [y2])).Perm (y1 :: (alikeN ws block ++ [y2])) := by
        refine pp.trans ?_
        exact List.perm_middle (l₁ := alikeN ws block) (l₂ := [y2]) (a := y1)
      exact (List.perm_append_right_iff [y2]).mp q.cons_inv
    · have m2 : y2 ∈ p := by
        have := inr y2 (by simp)
        rw [e] at this
        simpa [ne.symm] using this
      obtain ⟨p2, s2, rfl⟩ := split_mem m2
      have p2n : p2 = [] := by
        rcases ends y2 p2 (s2 ++ [y1]) (by simp) (by rw [e]; simp) with z | z
        · exact z
        · simp at z
      subst p2n
      refine done [y2] [y1] s2 (List.mem_cons_of_mem _ (List.mem_singleton.mpr rfl)) (by rw [e]; simp) ?_
      rw [e] at pp
      have q : (y2 :: (s2 ++ [y1])).Perm (y2 :: (alikeN ws block ++ [y1])) := by
        refine pp.trans ?_
        refine (List.Perm.append_left _ (List.Perm.swap y2 y1 [])).trans ?_
        exact List.perm_middle (l₁ := alikeN ws block) (l₂ := [y1]) (a := y2)
      exact (List.perm_append_right_iff [y1]).mp q.cons_inv
  | y1 :: y2 :: y3 :: O', _ =>
    exfalso
    have n12 : y1 ≠ y2 := fun c => by
      rw [c] at ond
      simp at ond
    have n13 : y1 ≠ y3 := fun c => by
      rw [c] at ond
      simp at ond
    have n23 : y2 ≠ y3 := fun c => by
      rw [c] at ond
      simp at ond
    obtain ⟨p, s, e⟩ := split_mem (inr y1 (by simp))
    have i2 := inr y2 (by simp)
    have i3 := inr y3 (by simp)
    rcases ends y1 p s (by simp) e with rfl | rfl
    · have m2 : y2 ∈ s := by
        rw [e] at i2
        simpa [n12.symm] using i2
      obtain ⟨p2, s2, rfl⟩ := split_mem m2
      have s2n : s2 = [] := by
        rcases ends y2 (y1 :: p2) s2 (by simp) (by rw [e]; simp) with z | z
        · cases z
        · exact z
      subst s2n
      have m3 : y3 ∈ p2 := by
        rw [e] at i3
        simpa [n13.symm, n23.symm] using i3
      obtain ⟨p3, s3, rfl⟩ := split_mem m3
      rcases ends y3 (y1 :: p3) (s3 ++ [y2]) (by simp) (by rw [e]; simp) with z | z
      · cases z
      · simp at z
    · have m2 : y2 ∈ p := by
        rw [e] at i2
        simpa [n12.symm] using i2
      obtain ⟨p2, s2, rfl⟩ := split_mem m2
      have p2n : p2 = [] := by
        rcases ends y2 p2 (s2 ++ [y1]) (by simp) (by rw [e]; simp) with z | z
        · exact z
        · simp at z
      subst p2n
      have m3 : y3 ∈ s2 := by
        rw [e] at i3
        simpa [n13.symm, n23.symm] using i3
      obtain ⟨p3, s3, rfl⟩ := split_mem m3
      rcases ends y3 (y2 :: p3) (s3 ++ [y1]) (by simp) (by rw [e]; simp) with z | z
      · cases z
      · simp at z
theorem ends_perm {outer hd tl : List Nat} (h : (hd, tl) ∈ endsN outer) (a : List Nat) : (hd ++ a ++ tl).Perm (a ++ outer) := by
  match outer, h with
  | [], h =>
    rcases List.mem_singleton.mp h with ⟨rfl, rfl⟩
    simp
  | [x], h =>
    rcases List.mem_cons.mp h with z | z
    · cases z
      rw [List.append_nil]
      exact List.perm_append_comm
    · cases List.mem_singleton.mp z
      exact List.Perm.refl _
  | [x, y], h =>
    rcases List.mem_cons.mp h with z | z
    · cases z
      exact (List.perm_middle (l₁ := a) (l₂ := [y]) (a := x)).symm
    · cases List.mem_singleton.mp z
      refine List.Perm.trans ?_ (List.Perm.append_left _ (List.Perm.swap x y []))
      exact (List.perm_middle (l₁ := a) (l₂ := [x]) (a := y)).symm
theorem shape_mem {ws : List (Int × Int)} {block ahead behind : List Nat} {s : Shp} (h : s ∈ shapesN ws ahead block behind) : s.2.1 = alikeN ws block ∧ clearN ws ahead (rowS s) behind = true ∧ (rowS s).Perm block := by
  obtain ⟨h1, h2⟩ := List.mem_filter.mp h
  obtain ⟨e, he, rfl⟩ := List.mem_map.mp h1
  exact ⟨rfl, h2, (ends_perm he _).trans parts_perm⟩
/-! the order of rows -/
theorem sort_least : ∀ {a b : List Nat}, a.Pairwise (· < ·) → b.Perm a → a ≤ b
  | [], b, _, h => by
    rw [h.eq_nil]
    exact List.le_refl _
  | x :: a, [], _, h => absurd h.length_eq (by simp)
  | x :: a, y :: b, ha, h => by
    have ha' := List.pairwise_cons.mp ha
    rw [List.cons_le_cons_iff]
    rcases List.mem_cons.mp (h.mem_iff.mp (List.mem_cons_self (a := y) (l := b))) with e | hy
    · subst e
      exact .inr ⟨rfl, sort_least ha'.2 h.cons_inv⟩
    · exact .inl (ha'.1 y hy)
theorem app_le : ∀ {a b c d : List Nat}, a.length = b.length → a ≤ b → c ≤ d → a ++ c ≤ b ++ d
  | [], [], c, d, _, _, h => h
  | [], _ :: _, _, _, h, _, _ => by cases h
  | _ :: _, [], _, _, h, _, _ => by cases h
  | x :: a, y :: b, c, d, hl, h, k => by
    rw [List.cons_append, List.cons_append, List.cons_le_cons_iff]
    rcases List.cons_le_cons_iff.mp h with z | ⟨e, z⟩
    · exact .inl z
    · exact .inr ⟨e, app_le (by simpa using hl) z k⟩
theorem pre_le (h : List Nat) {a b t : List Nat} (hl : a.length = b.length) (hab : a ≤ b) : h ++ a ++ t ≤ h ++ b ++ t :=
  app_le (by rw [List.length_append, List.length_append, hl]) (app_le rfl (List.le_refl _) hab) (List.le_refl _)
def MinOf (sh : List Shp) (r : List Nat) : Prop := (∃ s ∈ sh, r = rowS s) ∧ ∀ s ∈ sh, r ≤ rowS s
abbrev Each {α β : Type} (R : α → β → Prop) (l : List α) (m : List β) : Prop := PySem.W.EachIs R l m
theorem each_flat {l m : List (List Nat)} (h : Each (fun b r => r.Perm b) l m) : ∀ x, x ∈ m.flatten ↔ x ∈ l.flatten := by
  induction h with
  | nil => exact fun _ => Iff.rfl
  | cons h1 _ ih =>
    intro x
    rw [List.flatten_cons, List.flatten_cons, List.mem_append, List.mem_append, h1.mem_iff, ih]
theorem mem_app_congr {a b c : List Nat} (h : ∀ x, x ∈ b ↔ x ∈ c) : ∀ x, x ∈ a ++ b ↔ x ∈ a ++ c := fun x => by
  rw [List.mem_append, List.mem_append, h]
theorem told_rows {ws : List (Int × Int)} : ∀ {bs : List (List Nat)} {ahead : List Nat} {rs : List (List Nat)}, (∀ b ∈ bs, (∃ m, Blk ws b m) ∧ b.Pairwise (· < ·)) → Each MinOf (allSh ws ahead bs) rs →
    clearN ws ahead rs.flatten [] = true ∧ Each (fun b r => r.Perm b) bs rs ∧ ∀ qs, Each (fun b r => r.Perm b) bs qs → clearN ws ahead qs.flatten [] = true → rs.flatten ≤ qs.flatten
  | [], _, _, _, .nil => ⟨rfl, .nil, fun qs h _ => by cases h; exact List.le_refl _⟩
  | b :: bs, ahead, _, hb, .cons (b := r) (bs := rs) h1 h2 => by
    obtain ⟨⟨m, B⟩, bsrt⟩ := hb b (List.mem_cons_self ..)
    obtain ⟨i1, i2, i3⟩ := told_rows (fun x hx => hb x (List.mem_cons_of_mem _ hx)) h2
    obtain ⟨⟨s, hs, rfl⟩, hmin⟩ := h1
    obtain ⟨_, sc, sp⟩ := shape_mem hs
    have fl := each_flat i2
    refine ⟨?_, .cons sp i2, fun qs hq hc => ?_⟩
    · rw [List.flatten_cons, clear_app]
      refine ⟨clear_congr (fun _ => Iff.rfl) (fun x => ?_) sc, clear_congr (mem_app_congr fun x => sp.mem_iff.symm) (fun _ => Iff.rfl) i1⟩
      rw [List.append_nil]
      exact (fl x).symm
    · cases hq with
      | @cons _ q _ qs hq1 hq2 =>
        have fq := each_flat hq2
        rw [List.flatten_cons, clear_app, List.append_nil] at hc
        obtain ⟨s', hs', a', ha, rfl⟩ := shape_of B hq1 (clear_congr (fun _ => Iff.rfl) fq hc.1)
        have e' := (shape_mem hs').1
        rw [List.flatten_cons, List.flatten_cons]
        refine app_le ?_ ?_ (i3 qs hq2 (clear_congr (mem_app_congr fun x => hq1.mem_iff) (fun _ => Iff.rfl) hc.2))
        · rw [sp.length_eq, hq1.length_eq]
        · refine List.le_trans (hmin s' hs') (pre_le _ ha.length_eq.symm (sort_least ?_ ha))
          rw [e']
          exact bsrt.sublist List.filter_sublist
theorem none_rows {ws : List (Int × Int)} : ∀ {bs : List (List Nat)} {ahead : List Nat}, (∀ b ∈ bs, ∃ m, Blk ws b m) → [] ∈ allSh ws ahead bs → ∀ qs, Each (fun b r => r.Perm b) bs qs → clearN ws ahead qs.flatten [] = true → False
  | [], _, _, h, _, _, _ => by cases h
  | b :: bs, ahead, hb, h, _, .cons (b := q) (bs := qs) hq1 hq2, hc => by
    have fq := each_flat hq2
    rw [List.flatten_cons, clear_app, List.append_nil] at hc
    rcases List.mem_cons.mp h with e | h
    · obtain ⟨m, B⟩ := hb b (List.mem_cons_self ..)
      obtain ⟨s', hs', _⟩ := shape_of B hq1 (clear_congr (fun _ => Iff.rfl) fq hc.1)
      rw [← e] at hs'
      cases hs'
    · exact none_rows (fun x hx => hb x (List.mem_cons_of_mem _ hx)) h qs hq2 (clear_congr (mem_app_congr fun x => hq1.mem_iff) (fun _ => Iff.rfl) hc.2)
/-! blocks -/
structure Asc (ws : List (Int × Int)) (hs : List Int) : Prop where
  up : hs.Pairwise (· < ·)
  mem : ∀ m, m ∈ hs ↔ ∃ j < ws.length, midW ws j = m
def blksN (ws : List (Int × Int)) (hs : List Int) : List (List Nat) := hs.map fun m => (List.range ws.length).filter fun j => decide (midW ws j = m)
theorem blks_ok {ws : List (Int × Int)} {hs : List Int} (h : Asc ws hs) (hw : ∀ j, fstAt ws j ≤ lstAt ws j) : ∀ b ∈ blksN ws hs, (∃ m, Blk ws b m) ∧ b.Pairwise (· < ·) := by
  intro b hb
  obtain ⟨m, hm, rfl⟩ := List.mem_map.mp hb
  obtain ⟨j, hj, e⟩ := (h.mem m).mp hm
  have srt : ((List.range ws.length).filter fun j => decide (midW ws j = m)).Pairwise (· < ·) := List.pairwise_lt_range.sublist List.filter_sublist
  refine ⟨⟨m, ?_, srt.imp fun h e => by omega, fun i hi => of_decide_eq_true (List.mem_filter.mp hi).2, fun i _ => hw i⟩, srt⟩
  intro z
  have : j ∈ (List.range ws.length).filter fun j => decide (midW ws j = m) := List.mem_filter.mpr ⟨List.mem_range.mpr hj, decide_eq_true e⟩
  rw [z] at this
  cases this
theorem low_first {ws : List (Int × Int)} {m : Int} : ∀ {l : List Nat}, l.Pairwise (fun x y => midW ws x ≤ midW ws y) → (∀ j ∈ l, m ≤ midW ws j) → l = l.filter (fun j => decide (midW ws j = m)) ++ l.filter (fun j => !decide (midW ws j = m))
  | [], _, _ => rfl
  | a :: l, hp, hm => by
    have hp' := List.pairwise_cons.mp hp
    by_cases c : midW ws a = m
    · rw [List.filter_cons, List.filter_cons, decide_eq_true c, if_pos rfl, if_neg (by simp), List.cons_append]
      exact congrArg _ (low_first hp'.2 fun j hj => hm j (List.mem_cons_of_mem _ hj))
    · have hlt : ∀ j ∈ l, midW ws j ≠ m := fun j hj => by
        have h1 := hp'.1 j hj
        have h2 := hm a (List.mem_cons_self ..)
        omega
      have e1 : l.filter (fun j => decide (midW ws j = m)) = [] := List.filter_eq_nil_iff.mpr fun j hj => by simp [hlt j hj]
      have e2 : l.filter (fun j => !decide (midW ws j = m)) = l := List.filter_eq_self.mpr fun j hj => by simp [hlt j hj]
      rw [List.filter_cons, List.filter_cons, decide_eq_false c, if_neg Bool.false_ne_true, if_pos (by rfl), e1, e2] <;> rfl
theorem by_mids {ws : List (Int × Int)} : ∀ {hs : List Int} {l : List Nat}, hs.Pairwise (· < ·) → l.Pairwise (fun x y => midW ws x ≤ midW ws y) → (∀ j ∈ l, midW ws j ∈ hs) → l = (hs.map fun m => l.filter fun j => decide (midW ws j = m)).flatten
  | [], l, _, _, hm => by
    cases l with
    | nil => rfl
    | cons a l =>
      have := hm a (List.mem_cons_self ..)
      cases this
  | m :: hs, l, hh, hp, hm => by
    have hh' := List.pairwise_cons.mp hh
    have low : ∀ j ∈ l, m ≤ midW ws j := fun j hj => by
      rcases List.mem_cons.mp (hm j hj) with e | e
      · omega
      · have := hh'.1 _ e
        omega
    have e1 := low_first hp low
    have ih := by_mids (l := l.filter fun j => !decide (midW ws j = m)) hh'.2 (hp.sublist List.filter_sublist) fun j hj => by
      obtain ⟨h1, h2⟩ := List.mem_filter.mp hj
      rcases List.mem_cons.mp (hm j h1) with e | e
      · rw [decide_eq_true e] at h2
        cases h2
      · exact e
    have e3 : (hs.map fun k => (l.filter fun j => !decide (midW ws j = m)).filter fun j => decide (midW ws j = k)) = hs.map fun k => l.filter fun j => decide (midW ws j = k) := List.map_congr_left fun k hk => by
      rw [List.filter_filter]
      refine List.filter_congr fun j _ => ?_
      by_cases c : midW ws j = k
      · have : midW ws j ≠ m := fun z => by
          have := hh'.1 k hk
          omega
        rw [decide_eq_true c, decide_eq_false this] <;> rfl
      · rw [decide_eq_false c, Bool.false_and]
    rw [List.map_cons, List.flatten_cons, ← e3, ← ih]
    exact e1
theorem each_map_of {α β γ : Type} {R : α → β → Prop} {f : γ → α} {g : γ → β} : ∀ {l : List γ}, (∀ x ∈ l, R (f x) (g x)) → Each R (l.map f) (l.map g)
  | [], _ => .nil
  | x :: l, h => .cons (h x (List.mem_cons_self ..)) (each_map_of fun y hy => h y (List.mem_cons_of_mem _ hy))
theorem quiet_rows {ws : List (Int × Int)} {hs : List Int} {row : List Nat} (h : Asc ws hs) (hp : row.Perm (List.range ws.length)) (hq : rowT ws [] row = []) : ∃ qs, Each (fun b r => r.Perm b) (blksN ws hs) qs ∧ row = qs.flatten ∧ clearN ws [] qs.flatten [] = true := by
  obtain ⟨h1, h2⟩ := (rowT_clear ws row []).mp hq
  have e := by_mids h.up h1 fun j hj => (h.mem _).mpr ⟨j, List.mem_range.mp (hp.mem_iff.mp hj), rfl⟩
  refine ⟨_, each_map_of (R := fun (b r : List Nat) => r.Perm b) fun m _ => hp.filter _, e, ?_⟩
  rw [← e]
  exact h2
/-- the least order without throws -/
def Best (ws : List (Int × Int)) (d : List Nat) : Prop := d.Perm (List.range ws.length) ∧ rowT ws [] d = [] ∧ ∀ q, q.Perm (List.range ws.length) → rowT ws [] q = [] → d ≤ q
theorem flat_up {ws : List (Int × Int)} : ∀ {hs : List Int} {rs : List (List Nat)}, hs.Pairwise (· < ·) → Each (fun m r => ∀ j ∈ r, midW ws j = m) hs rs → rs.flatten.Pairwise (fun x y => midW ws x ≤ midW ws y)
  | [], _, _, .nil => .nil
  | m :: hs, _, hh, .cons (b := r) (bs := rs) h1 h2 => by
    have hh' := List.pairwise_cons.mp hh
    have mem : ∀ {ks : List Int} {ts : List (List Nat)}, Each (fun m r => ∀ j ∈ r, midW ws j = m) ks ts → ∀ j ∈ ts.flatten, midW ws j ∈ ks := by
      intro ks ts h
      induction h with
      | nil => intro j hj; cases hj
      | cons a _ ih =>
        intro j hj
        rw [List.flatten_cons] at hj
        rcases List.mem_append.mp hj with hj | hj
        · rw [a j hj]
          exact List.mem_cons_self ..
        · exact List.mem_cons_of_mem _ (ih j hj)
    rw [List.flatten_cons, List.pairwise_append]
    refine ⟨List.Pairwise.imp_of_mem (fun {x y} hx hy _ => by rw [h1 x hx, h1 y hy]; exact Int.le_refl _) (List.pairwise_of_forall_mem_list fun x _ y _ => True.intro), flat_up hh'.2 h2, fun x hx y hy => ?_⟩
    have := hh'.1 _ (mem h2 y hy)
    rw [h1 x hx]
    omega
theorem told_best {ws : List (Int × Int)} {hs : List Int} {rs : List (List Nat)} (h : Asc ws hs) (hw : ∀ j, fstAt ws j ≤ lstAt ws j) (hr : Each MinOf (allSh ws [] (blksN ws hs)) rs) : Best ws rs.flatten := by
  obtain ⟨t1, t2, t3⟩ := told_rows (blks_ok h hw) hr
  have hperm : rs.flatten.Perm (List.range ws.length) := by
    have q : ∀ {l m : List (List Nat)}, Each (fun b r => r.Perm b) l m → m.flatten.Perm l.flatten := by
      intro l m h
      induction h with
      | nil => exact List.Perm.refl _
      | cons a _ ih =>
        rw [List.flatten_cons, List.flatten_cons]
        exact a.append ih
    refine (q t2).trans ?_
    have := perm_classes (midW ws) hs (List.range ws.length) (h.up.imp fun a b => by omega) fun j hj => (h.mem _).mpr ⟨j, List.mem_range.mp hj, rfl⟩
    rw [List.flatMap_def] at this
    exact this
  refine ⟨hperm, (rowT_clear ws _ []).mpr ⟨?_, t1⟩, fun q hq hz => ?_⟩
  · refine flat_up h.up ?_
    have q : ∀ {ks : List Int} {m : List (List Nat)}, Each (fun b r => r.Perm b) (ks.map fun m => (List.range ws.length).filter fun j => decide (midW ws j = m)) m → Each (fun m r => ∀ j ∈ r, midW ws j = m) ks m := by
      intro ks
      induction ks with
      | nil => intro m h; cases h; exact .nil
      | cons k ks ih =>
        intro m h
        cases h with
        | cons a b => exact .cons (fun j hj => of_decide_eq_true (List.mem_filter.mp (a.mem_iff.mp hj)).2) (ih b)
    exact q t2
  · obtain ⟨qs, q1, q2, q3⟩ := quiet_rows h hq hz
    rw [q2]
    exact t3 qs q1 q3
theorem told_none {ws : List (Int × Int)} {hs : List Int} (h : Asc ws hs) (hw : ∀ j, fstAt ws j ≤ lstAt ws j) (hn : [] ∈ allSh ws [] (blksN ws hs)) : ∀ q, q.Perm (List.range ws.length) → rowT ws [] q ≠ [] := fun q hq hz => by
  obtain ⟨qs, q1, q2, q3⟩ := quiet_rows h hq hz
  exact none_rows (fun b hb => (blks_ok h hw b hb).1) hn qs q1 q3
theorem permK_lens {S : List Nat} {k : Nat} {r : List Nat} (h : r ∈ permK S k) : r.length = k := (permK_perm h).1
theorem snoc_lt : ∀ {a b : List Nat} {x y : Nat}, a.length = b.length → a < b → a ++ [x] < b ++ [y]
  | [], [], _, _, _, h => absurd h (List.lt_irrefl _)
  | [], _ :: _, _, _, h, _ => by cases h
  | _ :: _, [], _, _, h, _ => by cases h
  | u :: a, v :: b, x, y, hl, h => by
    rw [List.cons_append, List.cons_append, List.cons_lt_cons_iff]
    rcases List.cons_lt_cons_iff.mp h with z | ⟨e, z⟩
    · exact .inl z
    · exact .inr ⟨e, snoc_lt (by simpa using hl) z⟩
theorem same_lt : ∀ {a : List Nat} {x y : Nat}, x < y → a ++ [x] < a ++ [y]
  | [], x, y, h => by
    show [x] < [y]
    rw [List.cons_lt_cons_iff]
    exact .inl h
  | u :: a, x, y, h => by
    rw [List.cons_append, List.cons_append, List.cons_lt_cons_iff]
    exact .inr ⟨rfl, same_lt h⟩
theorem permK_up {S : List Nat} (hS : S.Pairwise (· < ·)) : ∀ k, (permK S k).Pairwise (· < ·)
  | 0 => List.pairwise_singleton _ _
  | k + 1 => by
    show ((permK S k).flatMap _).Pairwise _
    rw [List.flatMap_def, List.pairwise_flatten]
    refine ⟨fun l hl => ?_, ?_⟩
    · obtain ⟨r, _, rfl⟩ := List.mem_map.mp hl
      rw [List.pairwise_map]
      exact (hS.sublist List.filter_sublist).imp fun h => same_lt h
    · rw [List.pairwise_map]
      refine List.Pairwise.imp_of_mem (fun {a b} ha hb h x hx y hy => ?_) (permK_up hS k)
      obtain ⟨i, _, rfl⟩ := List.mem_map.mp hx
      obtain ⟨j, _, rfl⟩ := List.mem_map.mp hy
      exact snoc_lt ((permK_lens ha).trans (permK_lens hb).symm) h
def quietL (ws : List (Int × Int)) : List (List Nat) := (permK (List.range ws.length) ws.length).filter fun r => decide (rowT ws [] r = [])
theorem quietL_mem {ws : List (Int × Int)} {q : List Nat} : q ∈ quietL ws ↔ q.Perm (List.range ws.length) ∧ rowT ws [] q = [] := by
  unfold quietL
  rw [List.mem_filter, decide_eq_true_iff]
  refine and_congr ⟨fun h => ?_, fun h => ?_⟩ Iff.rfl
  · refine permK_fin (S := List.range ws.length) (List.Perm.refl _) ?_
    rw [List.length_range]
    exact h
  · exact permK_all (by rw [h.length_eq, List.length_range]) (h.nodup_iff.mpr List.nodup_range) fun j hj => h.mem_iff.mp hj
/-- the least order without throws, or none -/
def IsDue (ws : List (Int × Int)) : Option (List Nat) → Prop
  | some d => Best ws d
  | none => ∀ q, q.Perm (List.range ws.length) → rowT ws [] q ≠ []
theorem due_first (ws : List (Int × Int)) : IsDue ws (quietL ws).head? := by
  cases e : quietL ws with
  | nil =>
    intro q h1 h2
    have := quietL_mem.mpr ⟨h1, h2⟩
    rw [e] at this
    cases this
  | cons d l =>
    have hd := quietL_mem.mp (show d ∈ quietL ws by rw [e]; exact List.mem_cons_self ..)
    refine ⟨hd.1, hd.2, fun q h1 h2 => ?_⟩
    have hq := quietL_mem.mpr ⟨h1, h2⟩
    have up : (quietL ws).Pairwise (· < ·) := (permK_up List.pairwise_lt_range _).sublist List.filter_sublist
    rw [e] at hq up
    rcases List.mem_cons.mp hq with z | z
    · rw [z]
      exact List.le_refl _
    · exact List.le_of_lt ((List.pairwise_cons.mp up).1 q z)
theorem due_one {ws : List (Int × Int)} : ∀ {o o' : Option (List Nat)}, IsDue ws o → IsDue ws o' → o = o'
  | none, none, _, _ => rfl
  | none, some d, h, h' => absurd h'.2.1 (h d h'.1)
  | some d, none, h, h' => absurd h.2.1 (h' d h.1)
  | some d, some d', h, h' => congrArg some (List.le_antisymm (h.2.2 d' h'.1 h'.2.1) (h'.2.2 d h.1 h.2.1))
/-! lists of tuples -/
structure TupR {α : Type} (R : Hp → V → α → Prop) : Prop where
  ext : ∀ {H H' : Hp} {v : V} {x : α}, R H v x → Ex H H' → R H' v x
  upd : ∀ {H : Hp} {f : Addr} {xs ys : List V} {v : V} {x : α}, R H v x → H f = some (.lst xs) → R (L2.upd H f (.lst ys)) v x
def Ls {α : Type} (R : Hp → V → α → Prop) (H : Hp) (f : Addr) (xs : List α) : Prop := ∃ bs : List (V × α), H f = some (.lst (bs.map (·.1))) ∧ (∀ p ∈ bs, R H p.1 p.2) ∧ bs.map (·.2) = xs
section
variable {α : Type} {R : Hp → V → α → Prop}
theorem Ls.ext (T : TupR R) {H H' : Hp} {f : Addr} {ts : List α} (h : Ls R H f ts) (e : Ex H H') : Ls R H' f ts := by
  obtain ⟨bs, h1, h2, h3⟩ := h
  exact ⟨bs, e _ _ h1, fun p m => T.ext (h2 p m) e, h3⟩
theorem Ls.new {H : Hp} {f : Addr} (h : H f = some (.lst [])) : Ls R H f [] := ⟨[], h, fun p m => by simp at m, rfl⟩
theorem Ls.beside (T : TupR R) {H : Hp} {f g : Addr} {xs ys : List V} {ts : List α} (h : Ls R H f ts) (hg : H g = some (.lst xs)) (ne : f ≠ g) : Ls R (L2.upd H g (.lst ys)) f ts := by
  obtain ⟨bs, h1, h2, h3⟩ := h
  exact ⟨bs, by rw [upd_ne ne]; exact h1, fun p m => T.upd (h2 p m) hg, h3⟩
theorem Ls.at {H : Hp} {f : Addr} {ts : List α} (h : Ls R H f ts) : ∃ xs, H f = some (.lst xs) ∧ xs.length = ts.length := by
  obtain ⟨bs, h1, h2, h3⟩ := h
  exact ⟨_, h1, by rw [List.length_map, ← h3, List.length_map]⟩
theorem Ls.push (T : TupR R) {H : Hp} {f : Addr} {v : V} {xs : List V} {ts : List α} {t : α} (h : Ls R H f ts) (hx : H f = some (.lst xs)) (hr : R H v t) : Ls R (L2.upd H f (.lst (xs ++ [v]))) f (ts ++ [t]) := by
  obtain ⟨bs, h1, h2, h3⟩ := h
  have e1 : xs = bs.map (·.1) := by
    rw [hx] at h1
    injection h1 with h1
    injection h1
  refine ⟨bs ++ [(v, t)], by rw [upd_same, List.map_append, e1] <;> rfl, fun p m => ?_, by rw [List.map_append, h3] <;> rfl⟩
  rcases List.mem_append.mp m with m | m
  · exact T.upd (h2 p m) hx
  · rw [List.mem_singleton.mp m]
    exact T.upd hr hx
theorem Ls.get {bs : List (V × α)} {H : Hp} {t : Nat} {y : V} (hb : ∀ p ∈ bs, R H p.1 p.2) (h : (bs.map (·.1))[t]? = some y) : ∃ r : α, (bs.map (·.2))[t]? = some r ∧ r ∈ bs.map (·.2) ∧ R H y r := by
  rw [List.getElem?_map] at h
  cases e : bs[t]? with
  | none => rw [e] at h; cases h
  | some c =>
    rw [e] at h
    cases Option.some.inj h
    exact ⟨c.2, by rw [List.getElem?_map, e] <;> rfl, List.mem_map_of_mem (List.mem_of_getElem? e), hb c (List.mem_of_getElem? e)⟩
/-- a comprehension over a list that builds tuples -/
theorem lc_ls {K : PySem.W.Frag} (T : TupR R) {a : Addr} {β : Type} {val : β → V} {bs : List β} {g : TG} {tt : TT} {te : TE} {vs : List Nat} {σ : L2.St} {H1 : Hp} {D : Addr} {Qd : Hp → Prop} (f : β → α) (p : β → Bool) (nD : H1 D = none) (ha : SqL K H1 a (bs.map val)) (hl : bs.length ≤ 1000)
    (hs : ∀ (c : β) (H : Hp) (Y : V → Hp → Prop) (N : Hp → Prop), c ∈ bs → Ex H1 H → (p c = true → ∀ v H', Ex H H' → R H' v (f c) → Y v H') → (p c = false → ∀ H', Ex H H' → N H') →
      g (val c) (wipe σ vs) H fun σ2 H2 => wipe σ2 vs = wipe σ vs ∧ tt σ2 H2 fun b H3 => if b = true then te σ2 H3 Y else N H3)
    (hd : ∀ H, Ex H1 H → Ls R H D ((bs.filter p).map f) → Qd H) :
    ∃ W : Nat → Nat → Hp → Prop, (∃ m, W 0 m (L2.upd H1 D (.lst []))) ∧ ∀ i m H, W i m H →
      ((Itl K a).stop i H ∧ Qd H) ∨ ((Itl K a).go i H ∧ ∃ Nx : Hp → Prop, (∀ H', Nx H' → ∃ m', m' < m ∧ W (i + 1) m' H') ∧ ∀ x H', (Itl K a).yld i H x H' → g x (wipe σ vs) H' fun σ2 H2 => wipe σ2 vs = wipe σ vs ∧ tt σ2 H2 fun b H3 =>
        if b = true then te σ2 H3 fun y H4 => ∃ acc, H4 D = some (.lst acc) ∧ acc.length < sizeLine ∧ Nx (L2.upd H4 D (.lst (acc ++ [y]))) else Nx H3) := by
  refine lc_list (K := K) (a := a) (xs := bs.map val) (fun i H' => Ls R H' D (((bs.take i).filter p).map f) ∧ Ex H1 H') ⟨Ls.new upd_same, Ex.new nD⟩ (fun i H' _ q => ex_l q.2 ha) ?_ ?_
  · rintro i y H' hi ⟨p1, p2⟩
    obtain ⟨c, hc, rfl⟩ : ∃ c, bs[i]? = some c ∧ y = val c := by
      rw [List.getElem?_map] at hi
      cases e : bs[i]? with
      | none => rw [e] at hi; cases hi
      | some c => rw [e] at hi; exact ⟨c, rfl, (Option.some.inj hi).symm⟩
    refine hs c H' _ _ (List.mem_of_getElem? hc) p2 (fun hp v H' e' hr => ?_) fun hp H' e' => ?_
    · have p1 := p1.ext T e'
      have p2 := p2.trans e'
      obtain ⟨acc, q1, q2⟩ := p1.at
      have hlen : acc.length ≤ 1000 := by
        rw [q2, List.length_map]
        have := List.length_filter_le p (bs.take i)
        rw [List.length_take] at this
        omega
      refine ⟨acc, q1, small1000 hlen, ?_, p2.mut nD⟩
      have := p1.push T q1 hr
      rw [filter_snoc hc, if_pos hp, List.map_append]
      exact this
    · have p1 := p1.ext T e'
      refine ⟨?_, p2.trans e'⟩
      rw [filter_snoc hc, if_neg (by rw [hp]; exact Bool.false_ne_true), List.append_nil]
      exact p1
  · rintro H' ⟨p1, p2⟩
    rw [List.length_map, List.take_length] at p1
    exact hd H' p2 p1
end
def TupAt (K : PySem.W.Frag) (H : Hp) (v : V) (r : List Nat) : Prop := ∃ a, v = .ref a ∧ SqT K H a (r.map vNat)
theorem tupAt (K : PySem.W.Frag) : TupR (TupAt K) := ⟨fun ⟨a, h1, h2⟩ e => ⟨a, h1, ex_t e h2⟩, fun ⟨a, h1, h2⟩ hf => ⟨a, h1, sqt_upd hf h2⟩⟩
theorem RL.ls {K : PySem.W.Frag} {H : Hp} {f : Addr} {rs : List (List Nat)} (h : RL K H f rs) : Ls (TupAt K) H f rs := h
theorem Ls.rl {K : PySem.W.Frag} {H : Hp} {f : Addr} {rs : List (List Nat)} (h : Ls (TupAt K) H f rs) : RL K H f rs := h
def PrAt (K : PySem.W.Frag) (H : Hp) (v : V) (e : List Nat × List Nat) : Prop := ∃ a h0 t0, v = .ref a ∧ SqT K H a [.ref h0, .ref t0] ∧ SqT K H h0 (e.1.map vNat) ∧ SqT K H t0 (e.2.map vNat)
theorem prAt (K : PySem.W.Frag) : TupR (PrAt K) := ⟨fun ⟨a, h0, t0, h1, h2, h3, h4⟩ e => ⟨a, h0, t0, h1, ex_t e h2, ex_t e h3, ex_t e h4⟩, fun ⟨a, h0, t0, h1, h2, h3, h4⟩ hf => ⟨a, h0, t0, h1, sqt_upd hf h2, sqt_upd hf h3, sqt_upd hf h4⟩⟩
def ShAt (K : PySem.W.Frag) (H : Hp) (v : V) (s : Shp) : Prop := ∃ a h0 a0 t0, v = .ref a ∧ SqT K H a [.ref h0, .ref a0, .ref t0] ∧ SqT K H h0 (s.1.map vNat) ∧ SqT K H a0 (s.2.1.map vNat) ∧ SqT K H t0 (s.2.2.map vNat)
theorem shAt (K : PySem.W.Frag) : TupR (ShAt K) := ⟨fun ⟨a, h0, a0, t0, h1, h2, h3, h4, h5⟩ e => ⟨a, h0, a0, t0, h1, ex_t e h2, ex_t e h3, ex_t e h4, ex_t e h5⟩, fun ⟨a, h0, a0, t0, h1, h2, h3, h4, h5⟩ hf => ⟨a, h0, a0, t0, h1, sqt_upd hf h2, sqt_upd hf h3, sqt_upd hf h4, sqt_upd hf h5⟩⟩
/-- the list of lists of shapes at f -/
def Lss (K : PySem.W.Frag) (H : Hp) (f : Addr) (L : List (List Shp)) : Prop := ∃ as : List Addr, H f = some (.lst (as.map V.ref)) ∧ Each (fun a ss => a ≠ f ∧ Ls (ShAt K) H a ss) as L
theorem each_imp {α β : Type} {R S : α → β → Prop} (h : ∀ a b, R a b → S a b) : ∀ {l : List α} {m : List β}, Each R l m → Each S l m
  | _, _, .nil => .nil
  | _, _, .cons a b => .cons (h _ _ a) (each_imp h b)
theorem each_app {α β : Type} {R : α → β → Prop} : ∀ {l l' : List α} {m m' : List β}, Each R l m → Each R l' m' → Each R (l ++ l') (m ++ m')
  | _, _, _, _, .nil, h => h
  | _, _, _, _, .cons a b, h => .cons a (each_app b h)
theorem each_len {α β : Type} {R : α → β → Prop} : ∀ {l : List α} {m : List β}, Each R l m → l.length = m.length
  | _, _, .nil => rfl
  | _, _, .cons _ b => by rw [List.length_cons, List.length_cons, each_len b]
theorem each_get {α β : Type} {R : α → β → Prop} : ∀ {l : List α} {m : List β} {i : Nat} {x : α}, Each R l m → l[i]? = some x → ∃ y, m[i]? = some y ∧ R x y
  | _, _, _, _, .nil, h => by simp at h
  | _, _, 0, _, .cons a _, h => by
    cases (Option.some.inj h)
    exact ⟨_, rfl, a⟩
  | _ :: l, _ :: m, i + 1, x, .cons _ b, h => each_get (l := l) (m := m) (i := i) b h
theorem Lss.ext {K : PySem.W.Frag} {H H' : Hp} {f : Addr} {L : List (List Shp)} (h : Lss K H f L) (e : Ex H H') : Lss K H' f L := by
  obtain ⟨as, h1, h2⟩ := h
  exact ⟨as, e _ _ h1, each_imp (fun a ss q => ⟨q.1, q.2.ext (shAt K) e⟩) h2⟩
theorem Lss.push {K : PySem.W.Frag} {H : Hp} {f a : Addr} {L : List (List Shp)} {ss : List Shp} {as : List Addr} (h1 : H f = some (.lst (as.map V.ref))) (h2 : Each (fun a ss => a ≠ f ∧ Ls (ShAt K) H a ss) as L) (ha : Ls (ShAt K) H a ss) (ne : a ≠ f) : Lss K (L2.upd H f (.lst (as.map V.ref ++ [.ref a]))) f (L ++ [ss]) :=
  ⟨as ++ [a], by rw [upd_same, List.map_append] <;> rfl, each_app (each_imp (fun b ss q => ⟨q.1, q.2.beside (shAt K) h1 q.1⟩) h2) (.cons ⟨ne, ha.beside (shAt K) h1 ne⟩ .nil)⟩
/-! promises -/
def OnBk (K : PySem.W.Frag) (A : Ad) (H : Hp) (x : V) (G : List (Int × Int) → Prop) : Prop := ∃ (b w0 : Addr) (ws : List (Int × Int)), x = .ref b ∧ BookAt A.C_Book H b w0 ∧ WinAt K H w0 ws ∧ 0 < ws.length ∧ ws.length ≤ 8 ∧ G ws
abbrev sp_blocks (K : PySem.W.Frag) (A : Ad) : Sp := fun vs H Q _ => Sp1 vs fun x => OnBk K A H x fun ws => ∀ p H' hs, H p = none → Ex H H' → Asc ws hs → RL K H' p (blksN ws hs) → Q (.ref p) H'
abbrev sp_joined_rows (K : PySem.W.Frag) (A : Ad) : Sp := fun vs H Q _ => Sp1 vs fun x => ∃ (f : Addr) (rs : List (List Nat)), x = .ref f ∧ RL K H f rs ∧ rs.flatten.length ≤ 1000 ∧ ∀ q H', Ex H H' → SqT K H' q (rs.flatten.map vNat) → Q (.ref q) H'
abbrev sp_ends_of_block (K : PySem.W.Frag) (A : Ad) : Sp := fun vs H Q _ => Sp1 vs fun x => ∃ (a : Addr) (row : List Nat), x = .ref a ∧ SqT K H a (row.map vNat) ∧ ∀ p H', H p = none → Ex H H' → Ls (PrAt K) H' p (endsN row) → Q (.ref p) H'
abbrev sp_has_no_throw (K : PySem.W.Frag) (A : Ad) : Sp := fun vs H Q _ => Sp4 vs fun x y z u => ∃ (b w0 a1 a2 a3 : Addr) (ws : List (Int × Int)) (ahead works behind : List Nat), x = .ref b ∧ y = .ref a1 ∧ z = .ref a2 ∧ u = .ref a3 ∧ BookAt A.C_Book H b w0 ∧ WinAt K H w0 ws ∧
  SqT K H a1 (ahead.map vNat) ∧ SqT K H a2 (works.map vNat) ∧ SqT K H a3 (behind.map vNat) ∧ (∀ j ∈ ahead, j < ws.length) ∧ (∀ j ∈ works, j < ws.length) ∧ (∀ j ∈ behind, j < ws.length) ∧ ahead.length ≤ 50 ∧ works.length ≤ 50 ∧ behind.length ≤ 50 ∧
  ∀ H', Ex H H' → Q (.bl (clearN ws ahead works behind)) H'
abbrev sp_shapes_of (K : PySem.W.Frag) (A : Ad) : Sp := fun vs H Q _ => Sp4 vs fun x y z u => ∃ (b w0 a1 a2 a3 : Addr) (ws : List (Int × Int)) (ahead block behind : List Nat), x = .ref b ∧ y = .ref a1 ∧ z = .ref a2 ∧ u = .ref a3 ∧ BookAt A.C_Book H b w0 ∧ WinAt K H w0 ws ∧
  SqT K H a1 (ahead.map vNat) ∧ SqT K H a2 (block.map vNat) ∧ SqT K H a3 (behind.map vNat) ∧ (∀ j ∈ ahead, j < ws.length) ∧ (∀ j ∈ block, j < ws.length) ∧ (∀ j ∈ behind, j < ws.length) ∧ ahead.length ≤ 50 ∧ 0 < block.length ∧ block.length ≤ 8 ∧ behind.length ≤ 50 ∧
  ∀ p H', H p = none → Ex H H' → Ls (ShAt K) H' p (shapesN ws ahead block behind) → Q (.ref p) H'
abbrev sp_row_of_shape (K : PySem.W.Frag) (A : Ad) : Sp := fun vs H Q _ => Sp1 vs fun x => ∃ s : Shp, ShAt K H x s ∧ (rowS s).length ≤ 100 ∧ ∀ q H', Ex H H' → SqT K H' q ((rowS s).map vNat) → Q (.ref q) H'
abbrev sp_all_shapes (K : PySem.W.Frag) (A : Ad) : Sp := fun vs H Q _ => Sp1 vs fun x => OnBk K A H x fun ws => ∀ p H' hs, H p = none → Ex H H' → Asc ws hs → Lss K H' p (allSh ws [] (blksN ws hs)) → Q (.ref p) H'
abbrev sp_checked_shapes (K : PySem.W.Frag) (A : Ad) : Sp := fun vs H Q _ => Sp1 vs fun x => OnBk K A H x fun ws => ∀ p H' hs, H p = none → Ex H H' → Asc ws hs → Lss K H' p (allSh ws [] (blksN ws hs)) → Q (.ref p) H'
abbrev sp_many_of_block (K : PySem.W.Frag) (A : Ad) : Sp := fun vs H Q _ => Sp1 vs fun x => ∃ (a : Addr) (ss : List Shp), x = .ref a ∧ Ls (ShAt K) H a ss ∧ ss.length ≤ 10 ∧ (∀ s ∈ ss, s.2.1.length ≤ 12) ∧ ∀ (m : Int) H', Ex H H' → (m = 0 ↔ ss = []) → 0 ≤ m → m < 18446744073709551616 → Q (.int m) H'
abbrev sp_many_of_all (K : PySem.W.Frag) (A : Ad) : Sp := fun vs H Q _ => Sp1 vs fun x => ∃ (a : Addr) (L : List (List Shp)), x = .ref a ∧ Lss K H a L ∧ (∀ ss ∈ L, ss.length ≤ 10 ∧ ∀ s ∈ ss, s.2.1.length ≤ 12) ∧ ∀ (m : Int) H', Ex H H' → (m = 0 ↔ [] ∈ L) → Q (.int m) H'
def ValO (K : PySem.W.Frag) (H : Hp) (v : V) : Option (List Nat) → Prop
  | some d => TupAt K H v d
  | none => v = .non
abbrev sp_one_order (K : PySem.W.Frag) (A : Ad) : Sp := fun vs H Q _ => Sp1 vs fun x => OnBk K A H x fun ws => (∀ j, fstAt ws j ≤ lstAt ws j) ∧ ∀ v o H', Ex H H' → IsDue ws o → ValO K H' v o → Q v H'
abbrev sp_l_orders40 (K : PySem.W.Frag) (A : Ad) : Sp := fun vs H Q _ => Sp1 vs fun x => ∃ (l : Addr) (n : Nat), x = .ref l ∧ SqL K H l ((List.range n).map vNat) ∧ n ≤ 6 ∧ ∀ p H', H p = none → Ex H H' → RL K H' p (permK (List.range n) n) → Q (.ref p) H'
abbrev sp_l_ones (K : PySem.W.Frag) (A : Ad) : Sp := fun vs H Q _ => Sp2 vs fun x y => ∃ (w l : Addr) (ws : List (Int × Int)), x = .ref w ∧ y = .ref l ∧ WinAt K H w ws ∧ SqL K H l ((List.range ws.length).map vNat) ∧ ws.length ≤ 6 ∧ ∀ p H', H p = none → Ex H H' → RL K H' p (quietL ws) → Q (.ref p) H'
abbrev sp_l_least (K : PySem.W.Frag) (A : Ad) : Sp := fun vs H Q _ => Sp1 vs fun x => ∃ (w : Addr) (ws : List (Int × Int)), x = .ref w ∧ WinAt K H w ws ∧ ws.length ≤ 6 ∧ ∀ v o H', Ex H H' → IsDue ws o → ValO K H' v o → Q v H'

end My

namespace My
open PySem PySem.Spec PyProof.Rows L2 Evl
/-! ### a comprehension with two fors -/
theorem lc2_list {K : PySem.W.Frag} {a : Addr} {xs : List V} {g g1 : TG} {tt tt1 : TT} {te : TE} {wi1 : TI} {vs vs1 : List Nat} {σ : L2.St} {H1 : Hp} {D : Addr} {Qd : Hp → Prop} (Pv : Nat → Hp → Prop) (h0 : Pv 0 (L2.upd H1 D (.lst []))) (hl : ∀ i H, i ≤ xs.length → Pv i H → SqL K H a xs)
    (hs : ∀ i x H, xs[i]? = some x → Pv i H → g x (wipe σ vs) H fun σ2 H2 => wipe σ2 vs = wipe σ vs ∧ tt σ2 H2 fun b H3 =>
      if b = true then wi1 σ2 H3 fun J1 H4 => ∃ W1 : Nat → Nat → Hp → Prop, (∃ m, W1 0 m H4) ∧ ∀ j k H, W1 j k H →
        (J1.stop j H ∧ Pv (i + 1) H) ∨ (J1.go j H ∧ ∃ Nx1 : Hp → Prop, (∀ H', Nx1 H' → ∃ k', k' < k ∧ W1 (j + 1) k' H') ∧ ∀ x H', J1.yld j H x H' → g1 x (wipe σ2 vs1) H' fun σ3 H5 => wipe σ3 vs1 = wipe σ2 vs1 ∧ tt1 σ3 H5 fun b H6 =>
          if b = true then te σ3 H6 fun y H7 => ∃ acc, H7 D = some (.lst acc) ∧ acc.length < sizeLine ∧ Nx1 (L2.upd H7 D (.lst (acc ++ [y]))) else Nx1 H6)
      else Pv (i + 1) H3) (hd : ∀ H, Pv xs.length H → Qd H) :
    ∃ W : Nat → Nat → Hp → Prop, (∃ m, W 0 m (L2.upd H1 D (.lst []))) ∧ ∀ i m H, W i m H →
      ((Itl K a).stop i H ∧ Qd H) ∨ ((Itl K a).go i H ∧ ∃ Nx : Hp → Prop, (∀ H', Nx H' → ∃ m', m' < m ∧ W (i + 1) m' H') ∧ ∀ x H', (Itl K a).yld i H x H' → g x (wipe σ vs) H' fun σ2 H2 => wipe σ2 vs = wipe σ vs ∧ tt σ2 H2 fun b H3 =>
        if b = true then wi1 σ2 H3 fun J1 H4 => ∃ W1 : Nat → Nat → Hp → Prop, (∃ m, W1 0 m H4) ∧ ∀ j k H, W1 j k H →
          (J1.stop j H ∧ Nx H) ∨ (J1.go j H ∧ ∃ Nx1 : Hp → Prop, (∀ H', Nx1 H' → ∃ k', k' < k ∧ W1 (j + 1) k' H') ∧ ∀ x H', J1.yld j H x H' → g1 x (wipe σ2 vs1) H' fun σ3 H5 => wipe σ3 vs1 = wipe σ2 vs1 ∧ tt1 σ3 H5 fun b H6 =>
            if b = true then te σ3 H6 fun y H7 => ∃ acc, H7 D = some (.lst acc) ∧ acc.length < sizeLine ∧ Nx1 (L2.upd H7 D (.lst (acc ++ [y]))) else Nx1 H6)
        else Nx H3) := by
  refine ⟨fun i m H => m = xs.length - i ∧ i ≤ xs.length ∧ Pv i H, ⟨xs.length, by simp, Nat.zero_le _, h0⟩, ?_⟩
  rintro i m H ⟨rfl, hi, p⟩
  have q := hl i H hi p
  by_cases hlt : i < xs.length
  · refine .inr ⟨⟨xs, xs[i], q, by simp [hlt]⟩, Pv (i + 1), fun H' p' => ⟨xs.length - (i + 1), by omega, rfl, hlt, p'⟩, fun x H' y => ?_⟩
    obtain ⟨e, y⟩ := y
    subst e
    exact hs i x _ (y xs q) p
  · have e : i = xs.length := by omega
    subst e
    exact .inl ⟨⟨xs, q, Nat.le_refl _⟩, hd H p⟩
theorem in_tup {K : PySem.W.Frag} {a : Addr} {xs : List V} {g1 : TG} {tt1 : TT} {te : TE} {vs1 : List Nat} {σ2 : L2.St} {H4 : Hp} {D : Addr} {Z : Hp → Prop} (Pv : Nat → Hp → Prop) (h0 : Pv 0 H4) (hl : ∀ i H, i ≤ xs.length → Pv i H → SqT K H a xs)
    (hs : ∀ i x H, xs[i]? = some x → Pv i H → g1 x (wipe σ2 vs1) H fun σ3 H5 => wipe σ3 vs1 = wipe σ2 vs1 ∧ tt1 σ3 H5 fun b H6 =>
      if b = true then te σ3 H6 fun y H7 => ∃ acc, H7 D = some (.lst acc) ∧ acc.length < sizeLine ∧ Pv (i + 1) (L2.upd H7 D (.lst (acc ++ [y]))) else Pv (i + 1) H6) (hd : ∀ H, Pv xs.length H → Z H) :
    ∃ W1 : Nat → Nat → Hp → Prop, (∃ m, W1 0 m H4) ∧ ∀ j k H, W1 j k H →
      ((Itt K a).stop j H ∧ Z H) ∨ ((Itt K a).go j H ∧ ∃ Nx1 : Hp → Prop, (∀ H', Nx1 H' → ∃ k', k' < k ∧ W1 (j + 1) k' H') ∧ ∀ x H', (Itt K a).yld j H x H' → g1 x (wipe σ2 vs1) H' fun σ3 H5 => wipe σ3 vs1 = wipe σ2 vs1 ∧ tt1 σ3 H5 fun b H6 =>
        if b = true then te σ3 H6 fun y H7 => ∃ acc, H7 D = some (.lst acc) ∧ acc.length < sizeLine ∧ Nx1 (L2.upd H7 D (.lst (acc ++ [y]))) else Nx1 H6) := by
  refine ⟨fun i m H => m = xs.length - i ∧ i ≤ xs.length ∧ Pv i H, ⟨xs.length, by simp, Nat.zero_le _, h0⟩, ?_⟩
  rintro i m H ⟨rfl, hi, p⟩
  have q := hl i H hi p
  by_cases hlt : i < xs.length
  · refine .inr ⟨⟨xs, xs[i], q, by simp [hlt]⟩, Pv (i + 1), fun H' p' => ⟨xs.length - (i + 1), by omega, rfl, hlt, p'⟩, fun x H' y => ?_⟩
    obtain ⟨e, y⟩ := y
    subst e
    exact hs i x _ (y xs q) p
  · have e : i = xs.length := by omega
    subst e
    exact .inl ⟨⟨xs, q, Nat.le_refl _⟩, hd H p⟩
theorem flatten_take {rs : List (List Nat)} {i : Nat} {r : List Nat} (h : rs[i]? = some r) : (rs.take (i + 1)).flatten = (rs.take i).flatten ++ r := by
  have h1 := (List.getElem?_eq_some_iff.mp h).1
  have h2 := (List.getElem?_eq_some_iff.mp h).2
  rw [List.take_succ_eq_append_getElem h1, h2, List.flatten_append, List.flatten_cons, List.flatten_nil, List.append_nil]
theorem flatten_part (rs : List (List Nat)) (i : Nat) : (rs.take i).flatten.length ≤ rs.flatten.length := by
  have : rs.flatten = (rs.take i).flatten ++ (rs.drop i).flatten := by rw [← List.flatten_append, List.take_append_drop]
  rw [this, List.length_append]
  omega
/-! ### rules within a comprehension within another one -/
theorem relabel_plain {sc : Scope} {e : Env} (h : (sc.names.all fun y => !(y.2 == NameKind.free)) = true) : relabel sc e = sc := by
  unfold relabel
  have : (sc.names.map fun (n, k) => if (k == NameKind.free && e.scope.kind == .function && e.kindOf n == some .cell) then (n, NameKind.cell) else (n, k)) = sc.names := by
    refine (List.map_congr_left (g := id) fun y hy => ?_).trans (List.map_id _)
    have := List.all_eq_true.mp h y hy
    obtain ⟨n, k⟩ := y
    have hk : (k == NameKind.free) = false := by simpa using this
    show (if (k == NameKind.free && e.scope.kind == .function && e.kindOf n == some .cell) = true then (n, NameKind.cell) else (n, k)) = (n, k)
    rw [hk, Bool.false_and, Bool.false_and, if_neg Bool.false_ne_true]
  rw [this]
theorem blkOk_in {X : Cx} {N : List Str} {s : Shared} {H : Hp} {sc scope : Scope} {cl : List (Str × Addr)} {C : Addr} {e : Env} {fp : List Addr} {own : List (Str × Nat)} (h : ((sc.names.all fun y => !(y.2 == NameKind.free)) && blkC N sc scope own) = true) (hN : X.N = N := by rfl) : BlkOk (X.blk s H sc (compEnvC sc cl C e) fp).N (X.blk s H sc (compEnvC sc cl C e) fp).env.scope scope own := by
  rw [Bool.and_eq_true] at h
  show BlkOk X.N (relabel sc e) scope own
  rw [relabel_plain h.1, hN]
  exact blkOk_by h.2
theorem cr_minDataB {X : Cx} {K : PySem.W.Frag} (hc : X.calm = true) (hu : X.A.units + 64 < cLine) (h : X.K = K := by rfl) : CallR X (.builtin "min") (rMinData K) := h ▸ cr_minData hc hu
theorem call_tuple_ofB {X : Cx} {K : PySem.W.Frag} (h : X.K = K := by rfl) : CallR X (.type "tuple") (fun xs H Q => ∃ p ys, xs = [.ref p] ∧ ((SqL K H p ys ∧ ∀ l, H l = none → Q (.ref l) (L2.upd H l (.tup ys))) ∨ (SqT K H p ys ∧ Q (.ref p) H))) := h ▸ call_tuple_of
theorem Ls.one {α : Type} {R : Hp → V → α → Prop} {H : Hp} {f : Addr} {v : V} {x : α} (hf : H f = some (.lst [v])) (h : R H v x) : Ls R H f [x] := ⟨[(v, x)], hf, fun p m => by
  rw [List.mem_singleton.mp m]
  exact h, rfl⟩
theorem Ls.two {α : Type} {R : Hp → V → α → Prop} {H : Hp} {f : Addr} {v w : V} {x y : α} (hf : H f = some (.lst [v, w])) (h : R H v x) (h' : R H w y) : Ls R H f [x, y] := ⟨[(v, x), (w, y)], hf, fun p m => by
  rcases List.mem_cons.mp m with e | m
  · rw [e]
    exact h
  · rw [List.mem_singleton.mp m]
    exact h', rfl⟩
theorem facN_pos (n : Nat) (hn : n ≤ 12) : 0 < (facN n : Int) := by
  have : ∀ m : Fin 13, 0 < (facN m.val : Int) := by decide +kernel
  exact this ⟨n, by omega⟩
theorem sum_pos : ∀ {l : List Int}, (∀ x ∈ l, 0 < x) → 0 ≤ l.sum ∧ (l.sum = 0 ↔ l = [])
  | [], _ => ⟨Int.le_refl _, ⟨fun _ => rfl, fun _ => rfl⟩⟩
  | x :: l, h => by
    obtain ⟨h1, h2⟩ := sum_pos (l := l) fun y hy => h y (List.mem_cons_of_mem _ hy)
    have := h x (List.mem_cons_self ..)
    rw [List.sum_cons]
    exact ⟨by omega, ⟨fun e => by omega, fun e => by cases e⟩⟩
theorem facN_le (n : Nat) (hn : n ≤ 12) : (facN n : Int) ≤ 479001600 := by
  have : ∀ m : Fin 13, (facN m.val : Int) ≤ 479001600 := by decide +kernel
  exact this ⟨n, by omega⟩
theorem sum_le {B : Int} : ∀ {l : List Int}, (∀ x ∈ l, x ≤ B) → l.sum ≤ l.length * B
  | [], _ => by
    show (0 : Int) ≤ ((0 : Nat) : Int) * B
    rw [Int.natCast_zero, Int.zero_mul] <;> exact Int.le_refl _
  | x :: l, h => by
    have h2 := sum_le (l := l) fun y hy => h y (List.mem_cons_of_mem _ hy)
    have := h x (List.mem_cons_self ..)
    have e : (((x :: l).length : Nat) : Int) * B = (l.length : Int) * B + B := by
      rw [List.length_cons, Int.natCast_add, Int.natCast_one, Int.add_mul, Int.one_mul]
    rw [List.sum_cons, e]
    omega
theorem asc_len {ws : List (Int × Int)} {hs : List Int} (h : Asc ws hs) : hs.length ≤ ws.length := by
  have q : ∀ {l : List Int} {m : List Int}, l.Nodup → (∀ x ∈ l, x ∈ m) → l.length ≤ m.length := by
    intro l
    induction l with
    | nil => intro m _ _; exact Nat.zero_le _
    | cons x l ih =>
      intro m hn hs
      have hn' := List.nodup_cons.mp hn
      have hx := hs x (List.mem_cons_self ..)
      have := ih (m := m.erase x) hn'.2 fun y hy => (List.mem_erase_of_ne fun e => hn'.1 (by rw [← e]; exact hy)).mpr (hs y (List.mem_cons_of_mem _ hy))
      rw [List.length_erase_of_mem hx] at this
      have := List.length_pos_of_mem hx
      rw [List.length_cons]
      omega
  have := q (m := (List.range ws.length).map (midW ws)) (h.up.imp fun {a b} c e => by omega) fun m hm => by
    obtain ⟨j, hj, e⟩ := (h.mem m).mp hm
    exact List.mem_map.mpr ⟨j, List.mem_range.mpr hj, e⟩
  rw [List.length_map, List.length_range] at this
  exact this
theorem asc_pos {ws : List (Int × Int)} {hs : List Int} (h : Asc ws hs) (hn : 0 < ws.length) : 0 < (blksN ws hs).length := by
  unfold blksN
  rw [List.length_map]
  exact List.length_pos_of_mem ((h.mem (midW ws 0)).mpr ⟨0, hn, rfl⟩)
theorem blks_flat {ws : List (Int × Int)} {hs : List Int} (h : Asc ws hs) : (blksN ws hs).flatten.Perm (List.range ws.length) := by
  have := perm_classes (midW ws) hs (List.range ws.length) (h.up.imp fun {a b} c e => by omega) fun j hj => (h.mem _).mpr ⟨j, List.mem_range.mp hj, rfl⟩
  rw [List.flatMap_def] at this
  exact this
theorem drop_flat {bl : List (List Nat)} {i : Nat} {r : List Nat} (h : bl[i]? = some r) : (bl.drop i).flatten = r ++ (bl.drop (i + 1)).flatten ∧ bl.drop i = r :: bl.drop (i + 1) := by
  have h1 := (List.getElem?_eq_some_iff.mp h).1
  have e : bl.drop i = r :: bl.drop (i + 1) := by
    rw [List.drop_eq_getElem_cons h1, (List.getElem?_eq_some_iff.mp h).2]
  exact ⟨by rw [e, List.flatten_cons], e⟩
theorem shapes_small {ws : List (Int × Int)} {ahead block behind : List Nat} (h : block.length ≤ 12) : (shapesN ws ahead block behind).length ≤ 10 ∧ ∀ s ∈ shapesN ws ahead block behind, s.2.1.length ≤ 12 := by
  constructor
  · unfold shapesN
    refine Nat.le_trans (List.length_filter_le _ _) ?_
    rw [List.length_map]
    generalize outerN ws block = O
    match O with
    | [] => decide
    | [_] => exact Nat.le_of_ble_eq_true rfl
    | [_, _] => exact Nat.le_of_ble_eq_true rfl
    | _ :: _ :: _ :: _ => exact Nat.zero_le _
  · intro s hs
    rw [(shape_mem hs).1]
    exact Nat.le_trans (List.length_filter_le _ _) h
theorem allSh_small {ws : List (Int × Int)} : ∀ {bs : List (List Nat)} {ahead : List Nat}, (∀ b ∈ bs, b.length ≤ 12) → ∀ ss ∈ allSh ws ahead bs, ss.length ≤ 10 ∧ ∀ s ∈ ss, s.2.1.length ≤ 12
  | [], _, _, ss, h => by cases h
  | b :: bs, ahead, hb, ss, h => by
    rcases List.mem_cons.mp h with rfl | h
    · exact shapes_small (hb b (List.mem_cons_self ..))
    · exact allSh_small (fun x hx => hb x (List.mem_cons_of_mem _ hx)) ss h
theorem allSh_len {ws : List (Int × Int)} : ∀ {bs : List (List Nat)} {ahead : List Nat}, (allSh ws ahead bs).length = bs.length
  | [], _ => rfl
  | b :: bs, ahead => congrArg Nat.succ allSh_len
/-! min of rows -/
theorem ints_lt : ∀ {a b : List Nat}, ((a.map fun n : Nat => (n : Int)) < (b.map fun n : Nat => (n : Int))) ↔ a < b
  | [], [] => ⟨fun h => absurd h (List.lt_irrefl _), fun h => absurd h (List.lt_irrefl _)⟩
  | [], _ :: _ => by
    rw [List.map_nil, List.map_cons]
    exact ⟨fun _ => List.nil_lt_cons _ _, fun _ => List.nil_lt_cons _ _⟩
  | _ :: _, [] => by
    rw [List.map_nil, List.map_cons]
    exact ⟨fun h => absurd h (List.not_lt_nil _), fun h => absurd h (List.not_lt_nil _)⟩
  | x :: a, y :: b => by
    rw [List.map_cons, List.map_cons, List.cons_lt_cons_iff, List.cons_lt_cons_iff, ints_lt]
    have e1 : ((x : Int) < (y : Int)) ↔ x < y := by omega
    have e2 : ((x : Int) = (y : Int)) ↔ x = y := by omega
    rw [e1, e2]
theorem lt_rows (a b : List Nat) : PySem.W.dataLt (rwD a) (rwD b) = decide (a < b) := by
  have e : ∀ l : List Nat, (l.map fun n : Nat => PyData.int (n : Int)) = (l.map fun n : Nat => (n : Int)).map PyData.int := fun l => by
    rw [List.map_map] <;> rfl
  show PySem.W.dataLt (.tuple _) (.tuple _) = _
  rw [PySem.W.dataLt_tuple, e, e]
  show PySem.W.rowLt _ _ = _
  rw [PySem.W.dataLt_ints]
  exact decide_eq_decide.mpr ints_lt
def minR (x : List Nat) (xs : List (List Nat)) : List Nat := xs.foldl (fun a y => if y < a then y else a) x
theorem minD_rows (xs : List (List Nat)) : ∀ x, PySem.W.minD (rwD x) (xs.map rwD) = rwD (minR x xs) := by
  unfold PySem.W.minD minR
  induction xs with
  | nil => intro x; rfl
  | cons y ys ih =>
    intro x
    rw [List.map_cons, List.foldl_cons, List.foldl_cons, lt_rows]
    by_cases c : y < x
    · rw [decide_eq_true c, if_pos rfl, if_pos c]
      exact ih y
    · rw [decide_eq_false c, if_neg Bool.false_ne_true, if_neg c]
      exact ih x
theorem minR_spec : ∀ (xs : List (List Nat)) (x : List Nat), minR x xs ≤ x ∧ ∀ y ∈ xs, minR x xs ≤ y
  | [], x => ⟨List.le_refl _, fun y h => by cases h⟩
  | y :: ys, x => by
    obtain ⟨h1, h2⟩ := minR_spec ys (if y < x then y else x)
    have e : minR x (y :: ys) = minR (if y < x then y else x) ys := rfl
    rw [e]
    by_cases c : y < x
    · rw [if_pos c] at h1 h2 ⊢
      exact ⟨List.le_trans h1 (List.le_of_lt c), fun z hz => (List.mem_cons.mp hz).elim (fun q => q ▸ h1) (h2 z)⟩
    · rw [if_neg c] at h1 h2 ⊢
      exact ⟨h1, fun z hz => (List.mem_cons.mp hz).elim (fun q => q ▸ List.le_trans h1 (List.not_lt.mp c)) (h2 z)⟩
theorem rwD_inj {a b : List Nat} (h : rwD a = rwD b) : a = b := by
  injection h with h
  induction a generalizing b with
  | nil =>
    cases b with
    | nil => rfl
    | cons y b => cases h
  | cons x a ih =>
    cases b with
    | nil => cases h
    | cons y b =>
      rw [List.map_cons, List.map_cons] at h
      injection h with h1 h2
      injection h1 with h1
      rw [ih h2]
      have : x = y := by omega
      rw [this]
theorem RL.min {K : PySem.W.Frag} {H : Hp} {f : Addr} {rs : List (List Nat)} {Q : VK} (h : RL K H f rs) (hn : rs ≠ []) (q : ∀ v r, r ∈ rs → (∀ r' ∈ rs, r ≤ r') → TupAt K H v r → Q v H) : rMinData K [.ref f] H Q := by
  obtain ⟨bs, h1, h2, rfl⟩ := h
  cases bs with
  | nil => exact absurd rfl hn
  | cons b bs =>
    refine ⟨f, V × List Nat, b, bs, (·.1), fun p => rwD p.2, rfl, SqL.of h1, fun c hc => (h2 c hc).dp, ?_, ?_, fun c hc e => ?_⟩
    · refine ⟨fun x hx y hy => ?_, fun x hx z => ?_⟩
      · obtain ⟨p, _, rfl⟩ := List.mem_map.mp hx
        obtain ⟨q, _, rfl⟩ := List.mem_map.mp hy
        exact alike_nats _ _
      · obtain ⟨p, _, rfl⟩ := List.mem_map.mp hx
        cases z
    · have dz : ∀ l : List (V × List Nat), PyData.depthAll (l.map fun p => rwD p.2) ≤ 60 := fun l => by
        induction l with
        | nil =>
          rw [List.map_nil, PyData.depthAll]
          omega
        | cons c l ih =>
          rw [List.map_cons, PyData.depthAll]
          exact Nat.max_le.mpr ⟨depth_row c.2, ih⟩
      exact dz _
    · have e1 : PySem.W.minD (rwD b.2) (bs.map fun p => rwD p.2) = rwD (minR b.2 (bs.map (·.2))) := by
        rw [← minD_rows, List.map_map] <;> rfl
      have e2 : c.2 = minR b.2 (bs.map (·.2)) := rwD_inj (e.trans e1)
      obtain ⟨m1, m2⟩ := minR_spec (bs.map (·.2)) b.2
      refine q c.1 c.2 (List.mem_map_of_mem hc) (fun r' hr' => ?_) (h2 c hc)
      rw [e2]
      rcases List.mem_cons.mp hr' with z | z
      · rw [z]
        exact m1
      · exact m2 r' z
theorem allSh_rows {ws : List (Int × Int)} : ∀ {bs : List (List Nat)} {ahead : List Nat}, (∀ b ∈ bs, b.length ≤ 12) → ∀ ss ∈ allSh ws ahead bs, ∀ s ∈ ss, (rowS s).length ≤ 12
  | [], _, _, ss, h => by cases h
  | b :: bs, ahead, hb, ss, h => by
    rcases List.mem_cons.mp h with rfl | h
    · intro s hs
      rw [(shape_mem hs).2.2.length_eq]
      exact hb b (List.mem_cons_self ..)
    · exact allSh_rows (fun x hx => hb x (List.mem_cons_of_mem _ hx)) ss h
/-! the table of middles -/
abbrev kvT (ks : List (Int × Addr)) : List (Key × V) := ks.map fun p => ((.inl p.1 : Key), V.ref p.2)
structure Tbl (ws : List (Int × Int)) (i : Nat) (H : Hp) (d : Addr) (ks : List (Int × Addr)) : Prop where
  at_ : H d = some (.dK (kvT ks))
  kn : (ks.map (·.1)).Nodup
  an : (ks.map (·.2)).Nodup
  mem : ∀ m, m ∈ ks.map (·.1) ↔ ∃ j < i, midW ws j = m
  val : ∀ p ∈ ks, p.2 ≠ d ∧ H p.2 = some (.lst (((List.range i).filter fun j => decide (midW ws j = p.1)).map vNat))
theorem val_some {m : Int} {v : V} : ∀ {ks : List (Int × Addr)}, valV (kvT ks) (.inl m) = some v → ∃ p ∈ ks, p.1 = m ∧ v = .ref p.2
  | [], h => by cases h
  | p :: ks, h => by
    by_cases c : p.1 = m
    · have e : valV (kvT (p :: ks)) (.inl m) = some (.ref p.2) := valV_pos (congrArg Sum.inl c)
      rw [e] at h
      exact ⟨p, List.mem_cons_self .., c, (Option.some.inj h).symm⟩
    · have e : valV (kvT (p :: ks)) (.inl m) = valV (kvT ks) (.inl m) := by
        unfold valV kvT
        rw [List.map_cons, List.find?_cons]
        have : decide ((.inl p.1 : Key) = .inl m) = false := decide_eq_false fun z => c (by injection z)
        rw [this]
      rw [e] at h
      obtain ⟨q, h1, h2⟩ := val_some h
      exact ⟨q, List.mem_cons_of_mem _ h1, h2⟩
theorem val_mem : ∀ {ks : List (Int × Addr)} {p : Int × Addr}, (ks.map (·.1)).Nodup → p ∈ ks → valV (kvT ks) (.inl p.1) = some (.ref p.2)
  | [], _, _, h => by cases h
  | q :: ks, p, hn, h => by
    have hn' := List.nodup_cons.mp hn
    rcases List.mem_cons.mp h with e | h
    · subst e
      exact valV_pos rfl
    · have c : q.1 ≠ p.1 := fun z => hn'.1 (show q.1 ∈ ks.map (·.1) by rw [z]; exact List.mem_map_of_mem h)
      have e : valV (kvT (q :: ks)) (.inl p.1) = valV (kvT ks) (.inl p.1) := by
        unfold valV kvT
        rw [List.map_cons, List.find?_cons]
        have : decide ((.inl q.1 : Key) = .inl p.1) = false := decide_eq_false fun z => c (by injection z)
        rw [this]
      rw [e]
      exact val_mem hn'.2 h
theorem val_no {ks : List (Int × Addr)} {m : Int} (hn : (ks.map (·.1)).Nodup) (h : valV (kvT ks) (.inl m) = none) : m ∉ ks.map (·.1) := fun z => by
  obtain ⟨p, hp, rfl⟩ := List.mem_map.mp z
  rw [val_mem hn hp] at h
  cases h
theorem filt_snoc (ws : List (Int × Int)) (i : Nat) (m : Int) : (List.range (i + 1)).filter (fun j => decide (midW ws j = m)) = (List.range i).filter (fun j => decide (midW ws j = m)) ++ (if midW ws i = m then [i] else []) := by
  rw [List.range_succ, List.filter_append, List.filter_cons, List.filter_nil]
  by_cases c : midW ws i = m
  · rw [decide_eq_true c, if_pos rfl, if_pos c]
  · rw [decide_eq_false c, if_neg Bool.false_ne_true, if_neg c]
theorem Tbl.zero {ws : List (Int × Int)} {H : Hp} {d : Addr} (h : H d = some (.dK [])) : Tbl ws 0 H d [] := ⟨h, .nil, .nil, fun m => ⟨fun z => (nomatch z), fun ⟨j, hj, _⟩ => absurd hj (Nat.not_lt_zero _)⟩, fun p h => (nomatch h)⟩
theorem Tbl.ext {ws : List (Int × Int)} {i : Nat} {H H' : Hp} {d : Addr} {ks : List (Int × Addr)} (h : Tbl ws i H d ks) (e : Ex H H') : Tbl ws i H' d ks := ⟨e _ _ h.at_, h.kn, h.an, h.mem, fun p hp => ⟨(h.val p hp).1, e _ _ (h.val p hp).2⟩⟩
theorem inj_on {α β : Type} {f : α → β} : ∀ {l : List α} {x y : α}, (l.map f).Nodup → x ∈ l → y ∈ l → f x = f y → x = y
  | [], _, _, _, h, _, _ => by cases h
  | a :: l, x, y, hn, hx, hy, e => by
    have hn' := List.nodup_cons.mp hn
    rcases List.mem_cons.mp hx with hx | hx
    · rcases List.mem_cons.mp hy with hy | hy
      · rw [hx, hy]
      · exact absurd (by rw [← hx, e]; exact List.mem_map_of_mem hy) hn'.1
    · rcases List.mem_cons.mp hy with hy | hy
      · exact absurd (by rw [← hy, ← e]; exact List.mem_map_of_mem hx) hn'.1
      · exact inj_on hn'.2 hx hy e
/-- the middle is there -/
theorem Tbl.more {ws : List (Int × Int)} {i : Nat} {H : Hp} {d : Addr} {ks : List (Int × Addr)} {p : Int × Addr} (h : Tbl ws i H d ks) (hp : p ∈ ks) (hm : p.1 = midW ws i) :
    Tbl ws (i + 1) (L2.upd H p.2 (.lst (((List.range i).filter fun j => decide (midW ws j = p.1)).map vNat ++ [vNat i]))) d ks := by
  have nd := (h.val p hp).1
  refine ⟨by rw [upd_ne fun z => nd z.symm]; exact h.at_, h.kn, h.an, fun m => ?_, fun q hq => ⟨(h.val q hq).1, ?_⟩⟩
  · rw [h.mem]
    constructor
    · rintro ⟨j, hj, e⟩
      exact ⟨j, by omega, e⟩
    · rintro ⟨j, hj, e⟩
      by_cases c : j = i
      · subst c
        exact (h.mem m).mp (by rw [← e, ← hm]; exact List.mem_map_of_mem hp)
      · exact ⟨j, by omega, e⟩
  · by_cases c : q = p
    · subst c
      rw [upd_same, filt_snoc, if_pos hm.symm, List.map_append] <;> rfl
    · have n2 : q.2 ≠ p.2 := fun z => c (inj_on h.an hq hp z)
      have n1 : midW ws i ≠ q.1 := fun z => c (inj_on h.kn hq hp (by rw [hm, z]))
      rw [upd_ne n2, filt_snoc, if_neg n1, List.append_nil]
      exact (h.val q hq).2
/-- the middle is new -/
theorem Tbl.fresh {ws : List (Int × Int)} {i : Nat} {H : Hp} {d l : Addr} {ks : List (Int × Addr)} (h : Tbl ws i H d ks) (hn : midW ws i ∉ ks.map (·.1)) (nl : H l = none) :
    Tbl ws (i + 1) (L2.upd (L2.upd (L2.upd H l (.lst [])) d (.dK (kvT ks ++ [(.inl (midW ws i), .ref l)]))) l (.lst ([] ++ [vNat i]))) d (ks ++ [(midW ws i, l)]) := by
  have ld : l ≠ d := (ne_of_none h.at_ nl).symm
  have la : l ∉ ks.map (·.2) := fun z => by
    obtain ⟨p, hp, e⟩ := List.mem_map.mp z
    have := (h.val p hp).2
    rw [e, nl] at this
    cases this
  refine ⟨by rw [upd_ne fun z => ld z.symm, upd_same]; exact congrArg (fun z => some (HO.dK z)) (by unfold kvT; rw [List.map_append] <;> rfl), ?_, ?_, fun m => ?_, fun q hq => ?_⟩
  · rw [List.map_append, List.nodup_append]
    refine ⟨h.kn, by simp, fun x hx y hy e => ?_⟩
    rw [List.map_cons, List.map_nil, List.mem_singleton] at hy
    exact hn (by
      have hy : y = midW ws i := hy
      rw [← hy, ← e]
      exact hx)
  · rw [List.map_append, List.nodup_append]
    refine ⟨h.an, by simp, fun x hx y hy e => ?_⟩
    rw [List.map_cons, List.map_nil, List.mem_singleton] at hy
    exact la (by
      have hy : y = l := hy
      rw [← hy, ← e]
      exact hx)
  · rw [List.map_append, List.mem_append, h.mem, List.map_cons, List.map_nil, List.mem_singleton]
    constructor
    · rintro (⟨j, hj, e⟩ | e)
      · exact ⟨j, by omega, e⟩
      · exact ⟨i, by omega, e.symm⟩
    · rintro ⟨j, hj, e⟩
      by_cases c : j = i
      · subst c
        exact .inr e.symm
      · exact .inl ⟨j, by omega, e⟩
  · rcases List.mem_append.mp hq with hq | hq
    · obtain ⟨n1, n2⟩ := h.val q hq
      have ql : q.2 ≠ l := fun z => la (by rw [← z]; exact List.mem_map_of_mem hq)
      have nm : midW ws i ≠ q.1 := fun z => hn (by rw [z]; exact List.mem_map_of_mem hq)
      refine ⟨n1, ?_⟩
      rw [upd_ne ql, upd_ne n1, upd_ne ql, filt_snoc, if_neg nm, List.append_nil]
      exact n2
    · rw [List.mem_singleton.mp hq]
      refine ⟨ld, ?_⟩
      have e0 : (List.range i).filter (fun j => decide (midW ws j = midW ws i)) = [] := List.filter_eq_nil_iff.mpr fun j hj z => hn ((h.mem _).mpr ⟨j, List.mem_range.mp hj, of_decide_eq_true z⟩)
      show (L2.upd _ l _) l = some (.lst (((List.range (i + 1)).filter fun j => decide (midW ws j = midW ws i)).map vNat))
      rw [upd_same, filt_snoc, if_pos rfl, e0] <;> rfl
theorem keys_few {ws : List (Int × Int)} {i : Nat} {ms : List Int} (hn : ms.Nodup) (h : ∀ m, m ∈ ms ↔ ∃ j < i, midW ws j = m) : ms.length ≤ i := by
  have q : ∀ {l : List Int} {m : List Int}, l.Nodup → (∀ x ∈ l, x ∈ m) → l.length ≤ m.length := by
    intro l
    induction l with
    | nil => intro m _ _; exact Nat.zero_le _
    | cons x l ih =>
      intro m hn hs
      have hn' := List.nodup_cons.mp hn
      have hx := hs x (List.mem_cons_self ..)
      have := ih (m := m.erase x) hn'.2 fun y hy => (List.mem_erase_of_ne fun e => hn'.1 (by rw [← e]; exact hy)).mpr (hs y (List.mem_cons_of_mem _ hy))
      rw [List.length_erase_of_mem hx] at this
      have := List.length_pos_of_mem hx
      rw [List.length_cons]
      omega
  have := q (m := (List.range i).map (midW ws)) hn fun m hm => by
    obtain ⟨j, hj, e⟩ := (h m).mp hm
    exact List.mem_map.mpr ⟨j, List.mem_range.mpr hj, e⟩
  rw [List.length_map, List.length_range] at this
  exact this
theorem permK_most {S : List Nat} {m : Nat} (hS : S.length ≤ m) : ∀ k, (permK S k).length ≤ m ^ k
  | 0 => Nat.le_refl 1
  | k + 1 => by
    have h1 := permK_most hS k
    have h2 := flat_len (m := m) (g := fun r => (S.filter fun j => !decide (j ∈ r)).map fun j => r ++ [j]) (fun r => by
      rw [List.length_map]
      exact Nat.le_trans (List.length_filter_le _ _) hS) (permK S k)
    show ((permK S k).flatMap _).length ≤ _
    rw [Nat.pow_succ]
    exact Nat.le_trans h2 (Nat.mul_le_mul_right m h1)
theorem permK_few (n : Nat) (hn : n ≤ 6) : (permK (List.range n) n).length ≤ 1000 := by
  have : ∀ m : Fin 7, (permK (List.range m.val) m.val).length ≤ 1000 := by decide +kernel
  exact this ⟨n, by omega⟩
theorem sort_one {ms ns : List Int} (h : ms.Perm ns) (h1 : ms.Pairwise (· ≤ ·)) (h2 : ns.Pairwise (· ≤ ·)) : ms = ns :=
  one_sorted (le := fun x y : Int => decide (x ≤ y)) (fun x y a b => Int.le_antisymm (of_decide_eq_true a) (of_decide_eq_true b)) (h1.imp fun {a b} h => decide_eq_true h) (h2.imp fun {a b} h => decide_eq_true h) h
theorem range_sorted (n : Nat) : ((List.range n).map fun j : Nat => (j : Int)).Pairwise (· ≤ ·) := by
  rw [List.pairwise_map]
  exact List.pairwise_lt_range.imp fun {a b} h => by omega
abbrev stepK (S : List Nat) (r : List Nat) : List (List Nat) := (S.filter fun j => !decide (j ∈ r)).map fun j => r ++ [j]
/-! what is told, as data -/
def dOptR : Option (List Nat) → PyData
  | none => .none
  | some d => rwD d
theorem ValO.ext {K : PySem.W.Frag} {H H' : Hp} {v : V} {o : Option (List Nat)} (h : ValO K H v o) (e : Ex H H') : ValO K H' v o := by
  cases o with
  | none => exact h
  | some d => exact (tupAt K).ext h e
theorem ValO.dp {K : PySem.W.Frag} {H : Hp} {v : V} {o : Option (List Nat)} (h : ValO K H v o) : Dp K H v (dOptR o) := by
  cases o with
  | none =>
    obtain rfl : v = .non := h
    exact .non
  | some d =>
    obtain ⟨a, rfl, ha⟩ := h
    exact .tup ha (dpAll_nats _)
theorem ValO.tg {K : PySem.W.Frag} {H : Hp} {v : V} {o : Option (List Nat)} (h : ValO K H v o) : Tg K H v (dOptR o) := by
  cases o with
  | none =>
    obtain rfl : v = .non := h
    exact .non
  | some d =>
    obtain ⟨a, rfl, ha⟩ := h
    exact .tup ha (tgAll_nats _)
theorem dl_ints : ∀ l : List Nat, dlAll (l.map fun n : Nat => PyData.int (n : Int)) = true
  | [] => by rw [List.map_nil, dlAll]
  | x :: l => by
    rw [List.map_cons, dlAll, dl_ints l]
    simp [dlD]
theorem opt_shown {n : Nat} (hn : n ≤ 1000) : ∀ {o : Option (List Nat)}, (∀ d, o = some d → d.length ≤ 1000 ∧ ∀ j ∈ d, j < n) → dlD (dOptR o) = true ∧ (dOptR o).showable = true ∧ (dOptR o).depth ≤ 60 ∧ (dOptR o).shown.length ≤ sizeLine ∧ SeqAt.shaped (dOptR o) = true
  | none, _ => ⟨by decide +kernel, by decide +kernel, by decide +kernel, by
      have h : (dOptR none).shown.length ≤ 100 := by decide +kernel
      rw [sizeLine_eq]
      omega, by decide +kernel⟩
  | some d, h => by
    obtain ⟨hl, hj⟩ := h d rfl
    obtain ⟨i1, i2, i3, i4⟩ := ints_facts hn d hj
    have hb : bdD (rwD d) = true := by rw [bdD]; exact i2
    have hs := shown_le _ hb
    have e : szD (rwD d) = d.length + 1 := by rw [szD, i3]
    have hd := depth_row d
    refine ⟨by
      show dlD (rwD d) = true
      rw [dlD]
      exact dl_ints d, bd_showable _ hb, hd, ?_, ?_⟩
    · show (rwD d).shown.length ≤ _
      rw [e] at hs
      rw [sizeLine_eq]
      omega
    · show SeqAt.shaped (rwD d) = true
      unfold SeqAt.shaped
      rw [PyData.canLay0, i1, Bool.true_and]
      exact decide_eq_true (by omega)
theorem due_small {ws : List (Int × Int)} {o : Option (List Nat)} (hd : IsDue ws o) (hn : ws.length ≤ 1000) : ∀ d, o = some d → d.length ≤ 1000 ∧ ∀ j ∈ d, j < ws.length := fun d e => by
  subst e
  have := hd.1.length_eq
  rw [List.length_range] at this
  exact ⟨by omega, fun j hj => List.mem_range.mp (hd.1.mem_iff.mp hj)⟩
theorem wle_of {ws : List (Int × Int)} (h : ∀ q ∈ ws, q.1 ≤ q.2) (j : Nat) : fstAt ws j ≤ lstAt ws j := by
  unfold fstAt lstAt winAt
  rw [List.getD_eq_getElem?_getD]
  cases e : ws[j]? with
  | none => exact Int.le_refl 0
  | some q => exact h q (List.mem_of_getElem? e)
/-! ### three and four works are enough -/
theorem nok {ws : List (Int × Int)} {x a z : Nat} : ¬ okT ws x a z ↔ (fstAt ws a < fstAt ws x ∧ lstAt ws x < lstAt ws a ∧ fstAt ws z < fstAt ws x + lstAt ws x - fstAt ws a) ∨ (fstAt ws a < fstAt ws z ∧ lstAt ws z < lstAt ws a ∧ lstAt ws x > fstAt ws z + lstAt ws z - lstAt ws a) := by
  have i1 : ∀ u v, insW ws u v = true ↔ fstAt ws v < fstAt ws u ∧ lstAt ws u < lstAt ws v := fun u v => by
    unfold insW
    rw [Bool.and_eq_true, decide_eq_true_iff, decide_eq_true_iff]
  unfold okT frontX backX midW
  rw [i1, i1]
  constructor
  · intro h
    refine Classical.byContradiction fun c => h ⟨fun d => c (.inl ⟨d.1.1, d.1.2, d.2⟩), fun d => c (.inr ⟨d.1.1, d.1.2, d.2⟩)⟩
  · rintro (⟨h1, h2, h3⟩ | ⟨h1, h2, h3⟩) ⟨c1, c2⟩
    · exact c1 ⟨⟨h1, h2⟩, h3⟩
    · exact c2 ⟨⟨h1, h2⟩, h3⟩
/-- w tells that a must stand ahead of b -/
def Bef (ws : List (Int × Int)) (m : Int) (w a b : Nat) : Prop := (midW ws w < m ∧ ¬ okT ws w b a) ∨ (m < midW ws w ∧ ¬ okT ws b a w)
section
variable {ws : List (Int × Int)} {m : Int} {w a N W : Nat}
theorem bef_mono1 (ma : midW ws a = m) (mN : midW ws N = m) (mW : midW ws W = m) (h1 : fstAt ws W ≤ fstAt ws N) (h2 : fstAt ws N < fstAt ws a) (h : Bef ws m w a N) : Bef ws m w a W := by
  unfold midW at ma mN mW
  rcases h with ⟨h, k⟩ | ⟨h, k⟩
  · refine .inl ⟨h, nok.mpr ?_⟩
    rcases nok.mp k with k | k
    · exact .inl (by omega)
    · exact .inr (by omega)
  · refine .inr ⟨h, nok.mpr ?_⟩
    rcases nok.mp k with k | k
    · omega
    · exact .inr (by omega)
theorem bef_mono2 (ma : midW ws a = m) (mN : midW ws N = m) (mW : midW ws W = m) (h1 : fstAt ws W ≤ fstAt ws N) (h2 : fstAt ws N < fstAt ws a) (h : Bef ws m w N a) : Bef ws m w W a := by
  unfold midW at ma mN mW
  rcases h with ⟨h, k⟩ | ⟨h, k⟩
  · refine .inl ⟨h, nok.mpr ?_⟩
    rcases nok.mp k with k | k
    · exact .inl (by omega)
    · omega
  · refine .inr ⟨h, nok.mpr ?_⟩
    rcases nok.mp k with k | k
    · exact .inl (by omega)
    · exact .inr (by omega)
theorem bef_mono3 (ma : midW ws a = m) (mN : midW ws N = m) (mW : midW ws W = m) (h1 : fstAt ws W < fstAt ws N) (h2 : fstAt ws N < fstAt ws a) (h : Bef ws m w W a) : Bef ws m w W N := by
  unfold midW at ma mN mW
  rcases h with ⟨h, k⟩ | ⟨h, k⟩
  · refine .inl ⟨h, nok.mpr ?_⟩
    rcases nok.mp k with k | k
    · exact .inl (by omega)
    · omega
  · refine .inr ⟨h, nok.mpr ?_⟩
    rcases nok.mp k with k | k
    · exact .inl (by omega)
    · exact .inr (by omega)
theorem bef_mono4 (ma : midW ws a = m) (mN : midW ws N = m) (mW : midW ws W = m) (h1 : fstAt ws W < fstAt ws N) (h2 : fstAt ws N < fstAt ws a) (h : Bef ws m w a W) : Bef ws m w N W := by
  unfold midW at ma mN mW
  rcases h with ⟨h, k⟩ | ⟨h, k⟩
  · refine .inl ⟨h, nok.mpr ?_⟩
    rcases nok.mp k with k | k
    · exact .inl (by omega)
    · exact .inr (by omega)
  · refine .inr ⟨h, nok.mpr ?_⟩
    rcases nok.mp k with k | k
    · omega
    · exact .inr (by omega)
theorem bef_same {a a' b b' : Nat} (e1 : fstAt ws a = fstAt ws a') (e2 : lstAt ws a = lstAt ws a') (e3 : fstAt ws b = fstAt ws b') (e4 : lstAt ws b = lstAt ws b') (h : Bef ws m w a b) : Bef ws m w a' b' := by
  unfold Bef okT frontX backX insW midW at h ⊢
  rw [e1, e2, e3, e4] at h
  exact h
theorem in_block {a y c : Nat} (ma : midW ws a = m) (my : midW ws y = m) (mc : midW ws c = m) (h1 : fstAt ws y < fstAt ws a) (h2 : fstAt ws a ≤ lstAt ws a) (h3 : fstAt ws c ≤ lstAt ws c) : ¬ okT ws a y c ∧ ¬ okT ws c y a := by
  unfold midW at ma my mc
  exact ⟨nok.mpr (.inl (by omega)), nok.mpr (.inr (by omega))⟩
theorem alike_okT {a x z : Nat} (hx : fstAt ws x ≤ fstAt ws a) (hz : fstAt ws z ≤ fstAt ws a) : okT ws x a z := Classical.byContradiction fun c => by
  rcases nok.mp c with c | c <;> omega
end
/-- at most four works stand in some row without throws -/
def H4 (ws : List (Int × Int)) : Prop := ∀ G : List Nat, G.length ≤ 4 → (∀ j ∈ G, j < ws.length) → ∃ r : List Nat, r.Nodup ∧ (∀ j ∈ G, j ∈ r) ∧ Quiet ws r
section
variable {ws : List (Int × Int)} {m : Int} {r : List Nat}
theorem ix_inj {x y : Nat} (hx : x ∈ r) (hy : y ∈ r) (e : r.idxOf x = r.idxOf y) : x = y := by
  rw [← getD_ix hx, ← getD_ix hy, e]
theorem quiet_mid (hq : Quiet ws r) {x y : Nat} (hx : x ∈ r) (hy : y ∈ r) (h : midW ws x < midW ws y) : r.idxOf x < r.idxOf y := by
  refine Nat.not_le.mp fun c => ?_
  rcases Nat.lt_or_eq_of_le c with c | c
  · have := hq.M y x (two_of c hx)
    omega
  · rw [ix_inj hy hx c] at h
    omega
theorem quiet_ok (hq : Quiet ws r) {x y z : Nat} (hz : z ∈ r) (h1 : r.idxOf x < r.idxOf y) (h2 : r.idxOf y < r.idxOf z) : okT ws x y z := ⟨hq.F x y z (three_of h1 h2 hz), hq.N x y z (three_of h1 h2 hz)⟩
theorem bef_ix (hq : Quiet ws r) {w a b : Nat} (hw : w ∈ r) (ha : a ∈ r) (hb : b ∈ r) (ma : midW ws a = m) (mb : midW ws b = m) (ne : a ≠ b) (h : Bef ws m w a b) : r.idxOf a < r.idxOf b := by
  refine Nat.not_le.mp fun c => ?_
  have c : r.idxOf b < r.idxOf a := Nat.lt_of_le_of_ne c fun e => ne (ix_inj hb ha e).symm
  rcases h with ⟨h, k⟩ | ⟨h, k⟩
  · exact k (quiet_ok hq ha (quiet_mid hq hw hb (by omega)) c)
  · exact k (quiet_ok hq hw c (quiet_mid hq ha hw (by omega)))
end
/-- a block among those of lesser and greater middles -/
structure Amid (ws : List (Int × Int)) (m : Int) (ahead block behind : List Nat) : Prop where
  B : Blk ws block m
  lo : ∀ x ∈ ahead, midW ws x < m ∧ x < ws.length
  hi : ∀ x ∈ behind, m < midW ws x ∧ x < ws.length
  lt : ∀ x ∈ block, x < ws.length
def Fo (ws : List (Int × Int)) (m : Int) (ahead behind : List Nat) (a b : Nat) : Prop := ∃ w, (w ∈ ahead ∨ w ∈ behind) ∧ Bef ws m w a b
section
variable {ws : List (Int × Int)} {m : Int} {ahead block behind : List Nat}
theorem Amid.out (h : Amid ws m ahead block behind) {w : Nat} (hw : w ∈ ahead ∨ w ∈ behind) : w < ws.length := hw.elim (fun q => (h.lo w q).2) (fun q => (h.hi w q).2)
theorem Amid.mid3 (h : Amid ws m ahead block behind) (H : H4 ws) {x a z : Nat} (hx : x ∈ ahead) (ha : a ∈ block) (hz : z ∈ behind) : okT ws x a z := by
  obtain ⟨r, _, hs, hq⟩ := H [x, a, z] (by simp) fun j hj => by
    rcases List.mem_cons.mp hj with rfl | hj
    · exact (h.lo _ hx).2
    · rcases List.mem_cons.mp hj with rfl | hj
      · exact h.lt _ ha
      · rw [List.mem_singleton.mp hj]
        exact (h.hi _ hz).2
  have ma := h.B.mid a ha
  have h1 := (h.lo _ hx).1
  have h2 := (h.hi _ hz).1
  exact quiet_ok hq (hs z (by simp)) (quiet_mid hq (hs x (by simp)) (hs a (by simp)) (by omega)) (quiet_mid hq (hs a (by simp)) (hs z (by simp)) (by omega))
theorem Amid.not2 (h : Amid ws m ahead block behind) (H : H4 ws) {a b : Nat} (ha : a ∈ block) (hb : b ∈ block) (ne : a ≠ b) (h1 : Fo ws m ahead behind a b) (h2 : Fo ws m ahead behind b a) : False := by
  obtain ⟨w, w1, w2⟩ := h1
  obtain ⟨v, v1, v2⟩ := h2
  obtain ⟨r, _, hs, hq⟩ := H [w, v, a, b] (by simp) fun j hj => by
    simp only [List.mem_cons, List.not_mem_nil, or_false] at hj
    rcases hj with rfl | rfl | rfl | rfl
    · exact h.out w1
    · exact h.out v1
    · exact h.lt _ ha
    · exact h.lt _ hb
  have k1 := bef_ix hq (hs w (by simp)) (hs a (by simp)) (hs b (by simp)) (h.B.mid a ha) (h.B.mid b hb) ne w2
  have k2 := bef_ix hq (hs v (by simp)) (hs b (by simp)) (hs a (by simp)) (h.B.mid b hb) (h.B.mid a ha) ne.symm v2
  omega
theorem outer_fst {y a : Nat} (h : Blk ws block m) (hy : y ∈ outerN ws block) (ha : a ∈ alikeN ws block) : fstAt ws y < fstAt ws a ∧ y ≠ a := by
  obtain ⟨y1, y2⟩ := outer_mem.mp hy
  obtain ⟨_, top⟩ := topF_spec ws h.ne
  have t := top y y1
  have e := (alike_win h a ha).1
  have ne : fstAt ws y ≠ topF ws block := fun c => y2 (List.mem_filter.mpr ⟨y1, decide_eq_true c⟩)
  exact ⟨by omega, fun c => y2 (c ▸ ha)⟩
theorem alike_in {a : Nat} (ha : a ∈ alikeN ws block) : a ∈ block := (List.mem_filter.mp ha).1
theorem outer_in {a : Nat} (ha : a ∈ outerN ws block) : a ∈ block := (List.mem_filter.mp ha).1
/-- two who are not alike on one side of one that is -/
theorem side {r : List Nat} {y1 y2 a : Nat} (h : Blk ws block m) (hq : Quiet ws r) (h1 : y1 ∈ outerN ws block) (h2 : y2 ∈ outerN ws block) (ha : a ∈ alikeN ws block) (ne : y1 ≠ y2) (r1 : y1 ∈ r) (r2 : y2 ∈ r) (ra : a ∈ r) :
    ¬ (r.idxOf a < r.idxOf y1 ∧ r.idxOf a < r.idxOf y2) ∧ ¬ (r.idxOf y1 < r.idxOf a ∧ r.idxOf y2 < r.idxOf a) := by
  obtain ⟨f1, _⟩ := outer_fst h h1 ha
  obtain ⟨f2, _⟩ := outer_fst h h2 ha
  have ma := h.mid a (alike_in ha)
  have m1 := h.mid y1 (outer_in h1)
  have m2 := h.mid y2 (outer_in h2)
  have la := h.le a (alike_in ha)
  have l1 := h.le y1 (outer_in h1)
  have l2 := h.le y2 (outer_in h2)
  have nei : r.idxOf y1 ≠ r.idxOf y2 := fun e => ne (ix_inj r1 r2 e)
  constructor
  · rintro ⟨c1, c2⟩
    rcases Nat.lt_or_gt_of_ne nei with c | c
    · exact (in_block ma m1 m2 f1 la l2).1 (quiet_ok hq r2 c1 c)
    · exact (in_block ma m2 m1 f2 la l1).1 (quiet_ok hq r1 c2 c)
  · rintro ⟨c1, c2⟩
    rcases Nat.lt_or_gt_of_ne nei with c | c
    · exact (in_block ma m2 m1 f2 la l1).2 (quiet_ok hq ra c c2)
    · exact (in_block ma m1 m2 f1 la l2).2 (quiet_ok hq ra c c1)
theorem Amid.not3 (h : Amid ws m ahead block behind) (H : H4 ws) {w a y1 y2 : Nat} (hw : w ∈ ahead ∨ w ∈ behind) (ha : a ∈ alikeN ws block) (h1 : y1 ∈ outerN ws block) (h2 : y2 ∈ outerN ws block) (ne : y1 ≠ y2) :
    ¬ (Bef ws m w a y1 ∧ Bef ws m w a y2) ∧ ¬ (Bef ws m w y1 a ∧ Bef ws m w y2 a) := by
  obtain ⟨r, _, hs, hq⟩ := H [w, a, y1, y2] (by simp) fun j hj => by
    simp only [List.mem_cons, List.not_mem_nil, or_false] at hj
    rcases hj with rfl | rfl | rfl | rfl
    · exact h.out hw
    · exact h.lt _ (alike_in ha)
    · exact h.lt _ (outer_in h1)
    · exact h.lt _ (outer_in h2)
  have ma := h.B.mid a (alike_in ha)
  have m1 := h.B.mid y1 (outer_in h1)
  have m2 := h.B.mid y2 (outer_in h2)
  have n1 := (outer_fst h.B h1 ha).2
  have n2 := (outer_fst h.B h2 ha).2
  have sd := side h.B hq h1 h2 ha ne (hs y1 (by simp)) (hs y2 (by simp)) (hs a (by simp))
  exact ⟨fun ⟨c1, c2⟩ => sd.1 ⟨bef_ix hq (hs w (by simp)) (hs a (by simp)) (hs y1 (by simp)) ma m1 n1.symm c1, bef_ix hq (hs w (by simp)) (hs a (by simp)) (hs y2 (by simp)) ma m2 n2.symm c2⟩,
    fun ⟨c1, c2⟩ => sd.2 ⟨bef_ix hq (hs w (by simp)) (hs y1 (by simp)) (hs a (by simp)) m1 ma n1 c1, bef_ix hq (hs w (by simp)) (hs y2 (by simp)) (hs a (by simp)) m2 ma n2 c2⟩⟩
theorem Amid.no3 (h : Amid ws m ahead block behind) (H : H4 ws) {a y1 y2 y3 : Nat} (ha : a ∈ alikeN ws block) (h1 : y1 ∈ outerN ws block) (h2 : y2 ∈ outerN ws block) (h3 : y3 ∈ outerN ws block) (n12 : y1 ≠ y2) (n13 : y1 ≠ y3) (n23 : y2 ≠ y3) : False := by
  obtain ⟨r, _, hs, hq⟩ := H [a, y1, y2, y3] (by simp) fun j hj => by
    simp only [List.mem_cons, List.not_mem_nil, or_false] at hj
    rcases hj with rfl | rfl | rfl | rfl
    · exact h.lt _ (alike_in ha)
    · exact h.lt _ (outer_in h1)
    · exact h.lt _ (outer_in h2)
    · exact h.lt _ (outer_in h3)
  have s12 := side h.B hq h1 h2 ha n12 (hs y1 (by simp)) (hs y2 (by simp)) (hs a (by simp))
  have s13 := side h.B hq h1 h3 ha n13 (hs y1 (by simp)) (hs y3 (by simp)) (hs a (by simp))
  have s23 := side h.B hq h2 h3 ha n23 (hs y2 (by simp)) (hs y3 (by simp)) (hs a (by simp))
  have e1 : r.idxOf y1 ≠ r.idxOf a := fun e => (outer_fst h.B h1 ha).2 (ix_inj (hs y1 (by simp)) (hs a (by simp)) e)
  have e2 : r.idxOf y2 ≠ r.idxOf a := fun e => (outer_fst h.B h2 ha).2 (ix_inj (hs y2 (by simp)) (hs a (by simp)) e)
  have e3 : r.idxOf y3 ≠ r.idxOf a := fun e => (outer_fst h.B h3 ha).2 (ix_inj (hs y3 (by simp)) (hs a (by simp)) e)
  omega
/-- nothing is forced among those alike -/
theorem Amid.calm (h : Amid ws m ahead block behind) (H : H4 ws) {a b : Nat} (ha : a ∈ alikeN ws block) (hb : b ∈ alikeN ws block) (ne : a ≠ b) : ¬ Fo ws m ahead behind a b := fun f => by
  obtain ⟨a1, a2⟩ := alike_win h.B a ha
  obtain ⟨b1, b2⟩ := alike_win h.B b hb
  refine h.not2 H (alike_in ha) (alike_in hb) ne f ?_
  obtain ⟨w, w1, w2⟩ := f
  exact ⟨w, w1, bef_same (a1.trans b1.symm) (a2.trans b2.symm) (b1.trans a1.symm) (b2.trans a2.symm) w2⟩
/-- a shape that keeps what is forced -/
theorem Amid.shape (h : Amid ws m ahead block behind) (H : H4 ws) {hd tl : List Nat} (l1 : hd.length ≤ 1) (l2 : tl.length ≤ 1) (pm : (hd ++ alikeN ws block ++ tl).Perm block)
    (k1 : ∀ u ∈ hd, ∀ z ∈ alikeN ws block ++ tl, ¬ Fo ws m ahead behind z u) (k2 : ∀ v ∈ tl, ∀ a ∈ alikeN ws block, ¬ Fo ws m ahead behind v a) : clearN ws ahead (hd ++ alikeN ws block ++ tl) behind = true := by
  have inb : ∀ x, x ∈ hd ∨ x ∈ alikeN ws block ∨ x ∈ tl → x ∈ block := fun x hx => pm.mem_iff.mp (by
    rw [List.mem_append, List.mem_append, or_assoc]
    exact hx)
  have nd := pm.nodup_iff.mpr h.B.nd
  have topx : ∀ x ∈ block, ∀ a ∈ alikeN ws block, fstAt ws x ≤ fstAt ws a := fun x hx a ha => by
    rw [(alike_win h.B a ha).1]
    exact (topF_spec ws h.B.ne).2 x hx
  -- from what is not forced
  have fA : ∀ x ∈ ahead, ∀ a z, ¬ Fo ws m ahead behind z a → okT ws x a z := fun x hx a z nf => Classical.byContradiction fun c => nf ⟨x, .inl hx, .inl ⟨(h.lo x hx).1, c⟩⟩
  have fB : ∀ z ∈ behind, ∀ x a, ¬ Fo ws m ahead behind a x → okT ws x a z := fun z hz x a nf => Classical.byContradiction fun c => nf ⟨z, .inr hz, .inr ⟨(h.hi z hz).1, c⟩⟩
  have i3 : ∀ x ∈ ahead, ∀ a ∈ block, ∀ z ∈ behind, okT ws x a z := fun x hx a ha z hz => h.mid3 H hx ha hz
  rw [clear_app, clear_app]
  refine ⟨⟨?_, ?_⟩, ?_⟩
  · match hd, l1 with
    | [], _ => rfl
    | [u], _ =>
      rw [clear_cons]
      refine ⟨fun x hx z hz => ?_, rfl⟩
      rw [List.nil_append] at hz
      rw [← List.append_assoc] at hz
      rcases List.mem_append.mp hz with hz | hz
      · exact fA x hx u z (k1 u (List.mem_singleton.mpr rfl) z hz)
      · exact i3 x hx u (inb u (.inl (List.mem_singleton.mpr rfl))) z hz
  · rw [clear_split]
    intro p a s e x hx z hz
    have ha : a ∈ alikeN ws block := by rw [e]; simp
    have pa : ∀ j ∈ p, j ∈ alikeN ws block := fun j hj => by rw [e]; exact List.mem_append_left _ hj
    have sa : ∀ j ∈ s, j ∈ alikeN ws block := fun j hj => by rw [e]; exact List.mem_append_right _ (List.mem_cons_of_mem _ hj)
    have nda : (alikeN ws block).Nodup := h.B.nd.sublist List.filter_sublist
    rw [e] at nda
    have na := List.nodup_append.mp nda
    have ps : ∀ j ∈ p, j ≠ a := fun j hj => na.2.2 j hj a (List.mem_cons_self ..)
    have ss : ∀ j ∈ s, j ≠ a := fun j hj c => (List.nodup_cons.mp na.2.1).1 (c ▸ hj)
    rw [List.mem_append, List.mem_append] at hx
    rw [List.mem_append, List.mem_append] at hz
    rcases hx with (hx | hx) | hx
    · rcases hz with hz | hz | hz
      · exact fA x hx a z (h.calm H (sa z hz) ha (ss z hz))
      · exact fA x hx a z (k2 z hz a ha)
      · exact i3 x hx a (alike_in ha) z hz
    · rcases hz with hz | hz | hz
      · exact alike_okT (topx x (inb x (.inl hx)) a ha) (topx z (alike_in (sa z hz)) a ha)
      · exact alike_okT (topx x (inb x (.inl hx)) a ha) (topx z (inb z (.inr (.inr hz))) a ha)
      · exact fB z hz x a (k1 x hx a (List.mem_append_left _ ha))
    · rcases hz with hz | hz | hz
      · exact alike_okT (topx x (alike_in (pa x hx)) a ha) (topx z (alike_in (sa z hz)) a ha)
      · exact alike_okT (topx x (alike_in (pa x hx)) a ha) (topx z (inb z (.inr (.inr hz))) a ha)
      · exact fB z hz x a (h.calm H ha (pa x hx) (ps x hx).symm)
  · match tl, l2 with
    | [], _ => rfl
    | [v], _ =>
      rw [clear_cons]
      refine ⟨fun x hx z hz => ?_, rfl⟩
      rw [List.nil_append] at hz
      rw [List.mem_append, List.mem_append] at hx
      rcases hx with hx | hx | hx
      · exact i3 x hx v (inb v (.inr (.inr (List.mem_singleton.mpr rfl)))) z hz
      · exact fB z hz x v (k1 x hx v (List.mem_append_right _ (List.mem_singleton.mpr rfl)))
      · exact fB z hz x v (k2 v (List.mem_singleton.mpr rfl) x hx)
/-- the block may stand in some way -/
theorem Amid.stands (h : Amid ws m ahead block behind) (H : H4 ws) : ∃ r : List Nat, r.Perm block ∧ clearN ws ahead r behind = true := by
  obtain ⟨a0, ha0⟩ := alike_ne h.B
  have parts := parts_perm (ws := ws) (block := block)
  have ond : (outerN ws block).Nodup := h.B.nd.sublist List.filter_sublist
  -- forced by one of those alike, forced by all
  have allA : ∀ a ∈ alikeN ws block, ∀ y, (Fo ws m ahead behind a y → Fo ws m ahead behind a0 y) ∧ (Fo ws m ahead behind y a → Fo ws m ahead behind y a0) := fun a ha y => by
    obtain ⟨a1, a2⟩ := alike_win h.B a ha
    obtain ⟨b1, b2⟩ := alike_win h.B a0 ha0
    exact ⟨fun ⟨w, w1, w2⟩ => ⟨w, w1, bef_same (a1.trans b1.symm) (a2.trans b2.symm) rfl rfl w2⟩, fun ⟨w, w1, w2⟩ => ⟨w, w1, bef_same rfl rfl (a1.trans b1.symm) (a2.trans b2.symm) w2⟩⟩
  have omid : ∀ y ∈ outerN ws block, midW ws y = m := fun y hy => h.B.mid y (outer_in hy)
  have amid := h.B.mid a0 (alike_in ha0)
  have ofst : ∀ y ∈ outerN ws block, fstAt ws y < fstAt ws a0 ∧ y ≠ a0 := fun y hy => outer_fst h.B hy ha0
  have oin : ∀ y ∈ outerN ws block, y ∈ block := fun y hy => outer_in hy
  have n3 : ∀ {w y1 y2 : Nat}, (w ∈ ahead ∨ w ∈ behind) → y1 ∈ outerN ws block → y2 ∈ outerN ws block → y1 ≠ y2 → ¬ (Bef ws m w a0 y1 ∧ Bef ws m w a0 y2) ∧ ¬ (Bef ws m w y1 a0 ∧ Bef ws m w y2 a0) := fun hw h1 h2 ne => h.not3 H hw ha0 h1 h2 ne
  have no3 : ∀ {y1 y2 y3 : Nat}, y1 ∈ outerN ws block → y2 ∈ outerN ws block → y3 ∈ outerN ws block → y1 ≠ y2 → y1 ≠ y3 → y2 ≠ y3 → False := fun h1 h2 h3 a b c => h.no3 H ha0 h1 h2 h3 a b c
  generalize hO : outerN ws block = O at *
  match O, hO with
  | [], _ =>
    rw [List.append_nil] at parts
    exact ⟨_, by simpa using parts, h.shape H (hd := []) (tl := []) (by simp) (by simp) (by simpa using parts) (fun u hu => (nomatch hu)) (fun v hv => (nomatch hv))⟩
  | [y], _ =>
    have yo : y ∈ [y] := List.mem_singleton.mpr rfl
    by_cases c : Fo ws m ahead behind a0 y
    · refine ⟨_, ?_, h.shape H (hd := []) (tl := [y]) (by simp) (by simp) (by simpa using parts) (fun u hu => (nomatch hu)) (fun v hv a ha f => ?_)⟩
      · simpa using parts
      · rw [List.mem_singleton.mp hv] at f
        exact h.not2 H (alike_in ha0) (oin y yo) (ofst y yo).2.symm c ((allA a ha y).2 f)
    · have pm : ([y] ++ alikeN ws block ++ []).Perm block := by
        rw [List.append_nil]
        exact (List.perm_append_comm).trans parts
      refine ⟨_, pm, h.shape H (hd := [y]) (tl := []) (by simp) (by simp) pm (fun u hu z hz f => ?_) (fun v hv => (nomatch hv))⟩
      rw [List.mem_singleton.mp hu] at f
      rw [List.append_nil] at hz
      exact c ((allA z hz y).1 f)
  | [y1, y2], _ =>
    have ne : y1 ≠ y2 := fun c => by
      rw [c] at ond
      simp at ond
    -- the narrower one and the wider one
    obtain ⟨N, W, hN, hW, nw, wide, pmO⟩ : ∃ N W, N ∈ [y1, y2] ∧ W ∈ [y1, y2] ∧ N ≠ W ∧ fstAt ws W ≤ fstAt ws N ∧ ([N, W] : List Nat).Perm [y1, y2] := by
      by_cases c : fstAt ws y2 ≤ fstAt ws y1
      · exact ⟨y1, y2, by simp, by simp, ne, c, List.Perm.refl _⟩
      · exact ⟨y2, y1, by simp, by simp, ne.symm, by omega, List.Perm.swap _ _ _⟩
    have calmN : ¬ Fo ws m ahead behind a0 N ∧ ¬ Fo ws m ahead behind N a0 := by
      constructor
      · rintro ⟨w, w1, w2⟩
        exact (n3 w1 hN hW nw).1 ⟨w2, bef_mono1 amid (omid N hN) (omid W hW) wide (ofst N hN).1 w2⟩
      · rintro ⟨w, w1, w2⟩
        exact (n3 w1 hN hW nw).2 ⟨w2, bef_mono2 amid (omid N hN) (omid W hW) wide (ofst N hN).1 w2⟩
    -- what is forced for the wider one by those alike is so by the narrower one
    have up : (Fo ws m ahead behind W a0 → Fo ws m ahead behind W N) ∧ (Fo ws m ahead behind a0 W → Fo ws m ahead behind N W) := by
      by_cases st : fstAt ws W < fstAt ws N
      · exact ⟨fun ⟨w, w1, w2⟩ => ⟨w, w1, bef_mono3 amid (omid N hN) (omid W hW) st (ofst N hN).1 w2⟩, fun ⟨w, w1, w2⟩ => ⟨w, w1, bef_mono4 amid (omid N hN) (omid W hW) st (ofst N hN).1 w2⟩⟩
      · have le : fstAt ws N ≤ fstAt ws W := by omega
        constructor
        · rintro ⟨w, w1, w2⟩
          exact absurd ⟨w2, bef_mono2 amid (omid W hW) (omid N hN) le (ofst W hW).1 w2⟩ (n3 w1 hW hN nw.symm).2
        · rintro ⟨w, w1, w2⟩
          exact absurd ⟨w2, bef_mono1 amid (omid W hW) (omid N hN) le (ofst W hW).1 w2⟩ (n3 w1 hW hN nw.symm).1
    have pmAll : (alikeN ws block ++ [N, W]).Perm block := (pmO.append_left _).trans parts
    by_cases c : Fo ws m ahead behind W N
    · have noNW : ¬ Fo ws m ahead behind N W := fun f => h.not2 H (oin W hW) (oin N hN) nw.symm c f
      have pm : ([W] ++ alikeN ws block ++ [N]).Perm block := by
        refine List.Perm.trans ?_ pmAll
        refine List.Perm.trans ?_ (List.Perm.append_left _ (List.Perm.swap N W []))
        exact (List.perm_middle (l₁ := alikeN ws block) (l₂ := [N]) (a := W)).symm
      refine ⟨_, pm, h.shape H (by simp) (by simp) pm (fun u hu z hz f => ?_) (fun v hv a ha f => ?_)⟩
      · rw [List.mem_singleton.mp hu] at f
        rcases List.mem_append.mp hz with hz | hz
        · exact noNW (up.2 ((allA z hz W).1 f))
        · rw [List.mem_singleton.mp hz] at f
          exact noNW f
      · rw [List.mem_singleton.mp hv] at f
        exact calmN.2 ((allA a ha N).2 f)
    · have pm : ([N] ++ alikeN ws block ++ [W]).Perm block := by
        refine List.Perm.trans ?_ pmAll
        exact (List.perm_middle (l₁ := alikeN ws block) (l₂ := [W]) (a := N)).symm
      refine ⟨_, pm, h.shape H (by simp) (by simp) pm (fun u hu z hz f => ?_) (fun v hv a ha f => ?_)⟩
      · rw [List.mem_singleton.mp hu] at f
        rcases List.mem_append.mp hz with hz | hz
        · exact calmN.1 ((allA z hz N).1 f)
        · rw [List.mem_singleton.mp hz] at f
          exact c f
      · rw [List.mem_singleton.mp hv] at f
        exact c (up.1 ((allA a ha W).2 f))
  | y1 :: y2 :: y3 :: O', _ =>
    refine (no3 (y1 := y1) (y2 := y2) (y3 := y3) (by simp) (by simp) (by simp) (fun c => ?_) (fun c => ?_) (fun c => ?_)).elim
    · rw [c] at ond
      simp at ond
    · rw [c] at ond
      simp at ond
    · rw [c] at ond
      simp at ond
end
/-! ### k49 -/
theorem perm_ext_iff' : ∀ {l m : List Nat}, l.Nodup → m.Nodup → (∀ x, x ∈ l ↔ x ∈ m) → l.Perm m
  | [], m, _, _, h => by
    cases m with
    | nil => exact List.Perm.refl _
    | cons y m => exact absurd ((h y).mpr (List.mem_cons_self ..)) (by simp)
  | x :: l, m, hl, hm, h => by
    have hl' := List.nodup_cons.mp hl
    have hx := (h x).mp (List.mem_cons_self ..)
    refine List.Perm.trans ?_ (List.perm_cons_erase hx).symm
    refine (perm_ext_iff' hl'.2 (hm.erase x) fun y => ?_).cons x
    rw [hm.mem_erase_iff]
    constructor
    · intro hy
      exact ⟨fun e => hl'.1 (e ▸ hy), (h y).mp (List.mem_cons_of_mem _ hy)⟩
    · rintro ⟨n, hy⟩
      exact (List.mem_cons.mp ((h y).mpr hy)).resolve_left n
theorem all_stand {ws : List (Int × Int)} : ∀ {bs : List (List Nat)} {ahead : List Nat}, (∀ pre b post, bs = pre ++ b :: post → ∃ r : List Nat, r.Perm b ∧ clearN ws (ahead ++ pre.flatten) r post.flatten = true) → ∃ rs, Each (fun b r => r.Perm b) bs rs ∧ clearN ws ahead rs.flatten [] = true
  | [], _, _ => ⟨[], .nil, rfl⟩
  | b :: bs, ahead, h => by
    obtain ⟨r, hr, hc⟩ := h [] b bs rfl
    obtain ⟨rs, h1, h2⟩ := all_stand (ahead := ahead ++ b) fun pre b' post e => by
      obtain ⟨r', h1, h2⟩ := h (b :: pre) b' post (congrArg (List.cons b) e)
      refine ⟨r', h1, ?_⟩
      rw [List.flatten_cons, ← List.append_assoc] at h2
      exact h2
    have fl := each_flat h1
    refine ⟨r :: rs, .cons hr h1, ?_⟩
    rw [List.flatten_cons, clear_app]
    rw [List.flatten_nil, List.append_nil] at hc
    refine ⟨clear_congr (fun _ => Iff.rfl) (fun x => ?_) hc, clear_congr (mem_app_congr fun x => hr.mem_iff.symm) (fun _ => Iff.rfl) h2⟩
    rw [List.append_nil]
    exact (fl x).symm
theorem rows_quiet {ws : List (Int × Int)} {hs : List Int} {rs : List (List Nat)} (h : Asc ws hs) (t2 : Each (fun b r => r.Perm b) (blksN ws hs) rs) (t1 : clearN ws [] rs.flatten [] = true) : rs.flatten.Perm (List.range ws.length) ∧ rowT ws [] rs.flatten = [] := by
  have hperm : rs.flatten.Perm (List.range ws.length) := by
    have q : ∀ {l m : List (List Nat)}, Each (fun b r => r.Perm b) l m → m.flatten.Perm l.flatten := by
      intro l m h
      induction h with
      | nil => exact List.Perm.refl _
      | cons a _ ih =>
        rw [List.flatten_cons, List.flatten_cons]
        exact a.append ih
    exact (q t2).trans (blks_flat h)
  refine ⟨hperm, (rowT_clear ws _ []).mpr ⟨?_, t1⟩⟩
  refine flat_up h.up ?_
  have q : ∀ {ks : List Int} {m : List (List Nat)}, Each (fun b r => r.Perm b) (ks.map fun m => (List.range ws.length).filter fun j => decide (midW ws j = m)) m → Each (fun m r => ∀ j ∈ r, midW ws j = m) ks m := by
    intro ks
    induction ks with
    | nil => intro m h; cases h; exact .nil
    | cons k ks ih =>
      intro m h
      cases h with
      | cons a b => exact .cons (fun j hj => of_decide_eq_true (List.mem_filter.mp (a.mem_iff.mp hj)).2) (ih b)
  exact q t2
theorem ins_up : ∀ {l : List Int} (x : Int), l.Pairwise (· < ·) → ∃ l' : List Int, l'.Pairwise (· < ·) ∧ ∀ y, y ∈ l' ↔ y = x ∨ y ∈ l
  | [], x, _ => ⟨[x], List.pairwise_singleton _ _, fun y => by simp⟩
  | a :: l, x, h => by
    have h' := List.pairwise_cons.mp h
    by_cases c : x < a
    · refine ⟨x :: a :: l, List.pairwise_cons.mpr ⟨fun y hy => ?_, h⟩, fun y => by simp⟩
      rcases List.mem_cons.mp hy with rfl | hy
      · exact c
      · have := h'.1 y hy
        omega
    · by_cases e : x = a
      · exact ⟨a :: l, h, fun y => by rw [e]; simp⟩
      · obtain ⟨l', h1, h2⟩ := ins_up x h'.2
        refine ⟨a :: l', List.pairwise_cons.mpr ⟨fun y hy => ?_, h1⟩, fun y => ?_⟩
        · rcases (h2 y).mp hy with rfl | hy
          · omega
          · exact h'.1 y hy
        · rw [List.mem_cons, h2, List.mem_cons]
          constructor
          · rintro (q | q | q)
            · exact .inr (.inl q)
            · exact .inl q
            · exact .inr (.inr q)
          · rintro (q | q | q)
            · exact .inr (.inl q)
            · exact .inl q
            · exact .inr (.inr q)
theorem up_of : ∀ ms : List Int, ∃ hs : List Int, hs.Pairwise (· < ·) ∧ ∀ y, y ∈ hs ↔ y ∈ ms
  | [] => ⟨[], .nil, fun _ => Iff.rfl⟩
  | x :: ms => by
    obtain ⟨hs, h1, h2⟩ := up_of ms
    obtain ⟨l', h3, h4⟩ := ins_up x h1
    exact ⟨l', h3, fun y => by rw [h4, h2, List.mem_cons]⟩
theorem asc_is (ws : List (Int × Int)) : ∃ hs, Asc ws hs := by
  obtain ⟨hs, h1, h2⟩ := up_of ((List.range ws.length).map (midW ws))
  refine ⟨hs, h1, fun m => ?_⟩
  rw [h2, List.mem_map]
  exact ⟨fun ⟨j, a, b⟩ => ⟨j, List.mem_range.mp a, b⟩, fun ⟨j, a, b⟩ => ⟨j, List.mem_range.mpr a, b⟩⟩
/-- where all threes and fours have one, all have one -/
theorem four_enough {ws : List (Int × Int)} (hw : ∀ j, fstAt ws j ≤ lstAt ws j) (H : H4 ws) : ∃ q : List Nat, q.Perm (List.range ws.length) ∧ rowT ws [] q = [] := by
  obtain ⟨hs, asc⟩ := asc_is ws
  have ok := blks_ok asc hw
  obtain ⟨rs, h1, h2⟩ := all_stand (ws := ws) (bs := blksN ws hs) (ahead := []) fun pre b post e => by
    rw [List.nil_append]
    unfold blksN at e
    obtain ⟨h1, hr, e1, e2, e3⟩ := List.map_eq_append_iff.mp e
    obtain ⟨m, h2, e4, e5, e6⟩ := List.map_eq_cons_iff.mp e3
    subst e1 e4
    have up := List.pairwise_append.mp asc.up
    have up2 := List.pairwise_cons.mp up.2.1
    have mb : b ∈ blksN ws (h1 ++ m :: h2) := by
      unfold blksN
      rw [e]
      simp
    obtain ⟨⟨m', B⟩, _⟩ := ok b mb
    have hm : ∀ j ∈ b, midW ws j = m ∧ j < ws.length := fun j hj => by
      rw [← e5] at hj
      obtain ⟨a1, a2⟩ := List.mem_filter.mp hj
      exact ⟨of_decide_eq_true a2, List.mem_range.mp a1⟩
    have em : m' = m := by
      obtain ⟨j, hj⟩ : ∃ j, j ∈ b := List.exists_mem_of_ne_nil _ B.ne
      rw [← B.mid j hj, (hm j hj).1]
    subst em
    have fl : ∀ (ks : List Int) (l : List (List Nat)), (ks.map fun m => (List.range ws.length).filter fun j => decide (midW ws j = m)) = l → ∀ x ∈ l.flatten, midW ws x ∈ ks ∧ x < ws.length := fun ks l el x hx => by
      obtain ⟨r, hr, hxr⟩ := List.mem_flatten.mp hx
      rw [← el] at hr
      obtain ⟨k, hk, rfl⟩ := List.mem_map.mp hr
      obtain ⟨a1, a2⟩ := List.mem_filter.mp hxr
      exact ⟨by rw [of_decide_eq_true a2]; exact hk, List.mem_range.mp a1⟩
    refine Amid.stands (m := m') ⟨B, fun x hx => ?_, fun x hx => ?_, fun x hx => (hm x hx).2⟩ H
    · obtain ⟨a1, a2⟩ := fl h1 pre e2 x hx
      exact ⟨up.2.2 _ a1 m' (List.mem_cons_self ..), a2⟩
    · obtain ⟨a1, a2⟩ := fl h2 post e6 x hx
      exact ⟨up2.1 _ a1, a2⟩
  exact ⟨_, (rows_quiet asc h1 h2).1, (rows_quiet asc h1 h2).2⟩
/-- some works have a row without throws -/
def HasOne (ws : List (Int × Int)) (g : List Nat) : Prop := ∃ q : List Nat, q.Perm g ∧ rowT ws [] q = []
theorem HasOne.sub {ws : List (Int × Int)} {d g : List Nat} (hd : rowT ws [] d = []) (hn : d.Nodup) (hg : g.Nodup) (hs : ∀ j ∈ g, j ∈ d) : (d.filter fun j => decide (j ∈ g)).Perm g ∧ rowT ws [] (d.filter fun j => decide (j ∈ g)) = [] := by
  refine ⟨?_, rowT_quiet.mpr ((rowT_quiet.mp hd).sub List.filter_sublist)⟩
  exact perm_ext_iff' (hn.sublist List.filter_sublist) hg fun j => by
    rw [List.mem_filter, decide_eq_true_iff]
    exact ⟨fun q => q.2, fun q => ⟨hs j q, q⟩⟩
theorem h4_of {ws : List (Int × Int)} (h3 : ∀ g : List Nat, g.Nodup → g.length = 3 → (∀ j ∈ g, j < ws.length) → HasOne ws g) (h4 : ∀ g : List Nat, g.Nodup → g.length = 4 → (∀ j ∈ g, j < ws.length) → HasOne ws g) : H4 ws := by
  have nodup : ∀ g : List Nat, g.Nodup → g.length ≤ 4 → (∀ j ∈ g, j < ws.length) → ∃ r : List Nat, r.Nodup ∧ (∀ j ∈ g, j ∈ r) ∧ Quiet ws r := fun g hn hl hs => by
    have fin : HasOne ws g → ∃ r : List Nat, r.Nodup ∧ (∀ j ∈ g, j ∈ r) ∧ Quiet ws r := fun ⟨q, hp, hq⟩ => ⟨q, hp.nodup_iff.mpr hn, fun j hj => hp.mem_iff.mpr hj, rowT_quiet.mp hq⟩
    match g, hn, hl, hs with
    | [], _, _, _ => exact ⟨[], .nil, fun j hj => (nomatch hj), ⟨fun x y h => (nomatch h), fun x y z h => (nomatch h), fun x y z h => (nomatch h)⟩⟩
    | [a], hn, _, _ => exact fin ⟨[a], List.Perm.refl _, (rowT_clear ws [a] []).mpr ⟨List.pairwise_singleton _ _, by rw [clear_cons]; exact ⟨fun x hx => (nomatch hx), rfl⟩⟩⟩
    | [a, b], hn, _, _ =>
      have two : ∀ u v, midW ws u ≤ midW ws v → rowT ws [] [u, v] = [] := fun u v e => (rowT_clear ws [u, v] []).mpr ⟨List.pairwise_cons.mpr ⟨fun y hy => by rw [List.mem_singleton.mp hy]; exact e, List.pairwise_singleton _ _⟩, by
        rw [clear_cons, clear_cons]
        exact ⟨fun x hx => (nomatch hx), fun x _ z hz => (nomatch hz), rfl⟩⟩
      by_cases c : midW ws a ≤ midW ws b
      · exact fin ⟨[a, b], List.Perm.refl _, two a b c⟩
      · exact fin ⟨[b, a], List.Perm.swap _ _ _, two b a (by omega)⟩
    | [a, b, c], hn, _, hs => exact fin (h3 _ hn rfl hs)
    | [a, b, c, d], hn, _, hs => exact fin (h4 _ hn rfl hs)
  intro G hl hs
  have dd : ∀ G : List Nat, ∃ g : List Nat, g.Nodup ∧ g.length ≤ G.length ∧ ∀ j, j ∈ g ↔ j ∈ G := by
    intro G
    induction G with
    | nil => exact ⟨[], .nil, Nat.le_refl _, fun _ => Iff.rfl⟩
    | cons x G ih =>
      obtain ⟨g, h1, h2, h3⟩ := ih
      by_cases c : x ∈ g
      · refine ⟨g, h1, by rw [List.length_cons]; omega, fun j => ?_⟩
        rw [List.mem_cons, h3]
        exact ⟨.inr, fun q => q.elim (fun e => e ▸ (h3 x).mp c) id⟩
      · exact ⟨x :: g, List.nodup_cons.mpr ⟨c, h1⟩, by rw [List.length_cons, List.length_cons]; omega, fun j => by rw [List.mem_cons, List.mem_cons, h3]⟩
  obtain ⟨g, h1, h2, h3'⟩ := dd G
  obtain ⟨r, k1, k2, k3⟩ := nodup g h1 (by omega) fun j hj => hs j ((h3' j).mp hj)
  exact ⟨r, k1, fun j hj => k2 j ((h3' j).mpr hj), k3⟩
/-! a part of a book -/
theorem part_at {ws : List (Int × Int)} {g : List Nat} {k : Nat} (h : k < g.length) : winAt (partW ws g) k = winAt ws (g.getD k 0) := by
  unfold partW
  show (g.map (winAt ws)).getD k (0, 0) = _
  rw [List.getD_eq_getElem?_getD, List.getElem?_map, List.getD_eq_getElem?_getD, List.getElem?_eq_getElem h] <;> rfl
theorem part_quiet {ws : List (Int × Int)} {g q : List Nat} (hq : ∀ k ∈ q, k < g.length) : Quiet (partW ws g) q ↔ Quiet ws (q.map fun k => g.getD k 0) := by
  have f1 : ∀ k ∈ q, fstAt (partW ws g) k = fstAt ws (g.getD k 0) ∧ lstAt (partW ws g) k = lstAt ws (g.getD k 0) := fun k hk => by
    unfold fstAt lstAt
    rw [part_at (hq k hk)]
    exact ⟨rfl, rfl⟩
  constructor
  · intro h
    refine ⟨fun x y hs => ?_, fun x y z hs => ?_, fun x y z hs => ?_⟩
    · obtain ⟨l, hl, e⟩ := List.sublist_map_iff.mp hs
      match l, e with
      | [u, v], e =>
        injection e with e1 e
        injection e with e2 _
        subst e1 e2
        have := h.M u v hl
        obtain ⟨a1, a2⟩ := f1 u (hl.subset (by simp))
        obtain ⟨b1, b2⟩ := f1 v (hl.subset (by simp))
        unfold midW at this ⊢
        rw [a1, a2, b1, b2] at this
        exact this
    · obtain ⟨l, hl, e⟩ := List.sublist_map_iff.mp hs
      match l, e with
      | [u, v, w], e =>
        injection e with e1 e
        injection e with e2 e
        injection e with e3 _
        subst e1 e2 e3
        have := h.F u v w hl
        obtain ⟨a1, a2⟩ := f1 u (hl.subset (by simp))
        obtain ⟨b1, b2⟩ := f1 v (hl.subset (by simp))
        obtain ⟨c1, c2⟩ := f1 w (hl.subset (by simp))
        unfold frontX insW midW at this ⊢
        rw [a1, a2, b1, b2, c1] at this
        exact this
    · obtain ⟨l, hl, e⟩ := List.sublist_map_iff.mp hs
      match l, e with
      | [u, v, w], e =>
        injection e with e1 e
        injection e with e2 e
        injection e with e3 _
        subst e1 e2 e3
        have := h.N u v w hl
        obtain ⟨a1, a2⟩ := f1 u (hl.subset (by simp))
        obtain ⟨b1, b2⟩ := f1 v (hl.subset (by simp))
        obtain ⟨c1, c2⟩ := f1 w (hl.subset (by simp))
        unfold backX insW midW at this ⊢
        rw [a2, b1, b2, c1, c2] at this
        exact this
  · intro h
    refine ⟨fun x y hs => ?_, fun x y z hs => ?_, fun x y z hs => ?_⟩
    · have := h.M _ _ (hs.map fun k => g.getD k 0)
      obtain ⟨a1, a2⟩ := f1 x (hs.subset (by simp))
      obtain ⟨b1, b2⟩ := f1 y (hs.subset (by simp))
      unfold midW at this ⊢
      rw [a1, a2, b1, b2]
      exact this
    · have := h.F _ _ _ (hs.map fun k => g.getD k 0)
      obtain ⟨a1, a2⟩ := f1 x (hs.subset (by simp))
      obtain ⟨b1, b2⟩ := f1 y (hs.subset (by simp))
      obtain ⟨c1, c2⟩ := f1 z (hs.subset (by simp))
      unfold frontX insW midW at this ⊢
      rw [a1, a2, b1, b2, c1]
      exact this
    · have := h.N _ _ _ (hs.map fun k => g.getD k 0)
      obtain ⟨a1, a2⟩ := f1 x (hs.subset (by simp))
      obtain ⟨b1, b2⟩ := f1 y (hs.subset (by simp))
      obtain ⟨c1, c2⟩ := f1 z (hs.subset (by simp))
      unfold backX insW midW at this ⊢
      rw [a2, b1, b2, c1, c2]
      exact this
theorem subG_nodup {S : List Nat} (h : S.Nodup) : ∀ g ∈ subG S, g.Nodup := by
  have q : ∀ g ∈ subG S, g.Sublist S := by
    refine snoc_ind (P := fun S => ∀ g ∈ subG S, g.Sublist S) ?_ ?_ S
    · intro g hg
      rw [List.mem_singleton.mp hg]
      exact List.Sublist.refl _
    · intro l x ih g hg
      rw [subG_snoc] at hg
      rcases List.mem_append.mp hg with hg | hg
      · exact (ih g hg).trans (List.sublist_append_left _ _)
      · obtain ⟨q, hq, rfl⟩ := List.mem_map.mp hg
        exact (ih q hq).append (List.Sublist.refl _)
  exact fun g hg => h.sublist (q g hg)
/-- a comprehension that builds a list of rows -/
theorem lc_rowsW {K : PySem.W.Frag} {a : Addr} {β : Type} {val : β → V} {bs : List β} {g : TG} {tt : TT} {te : TE} {vs : List Nat} {σ : L2.St} {H1 : Hp} {D : Addr} {Qd : Hp → Prop} (f : β → List Nat) (p : β → Bool) (nD : H1 D = none) (ha : SqL K H1 a (bs.map val)) (hl : bs.length ≤ 10000)
    (hs : ∀ (c : β) (H : Hp) (Y : V → Hp → Prop) (N : Hp → Prop), c ∈ bs → Ex H1 H → (p c = true → ∀ r H', Ex H H' → SqT K H' r ((f c).map vNat) → Y (.ref r) H') → (p c = false → ∀ H', Ex H H' → N H') →
      g (val c) (wipe σ vs) H fun σ2 H2 => wipe σ2 vs = wipe σ vs ∧ tt σ2 H2 fun b H3 => if b = true then te σ2 H3 Y else N H3)
    (hd : ∀ H, Ex H1 H → RL K H D ((bs.filter p).map f) → Qd H) :
    ∃ W : Nat → Nat → Hp → Prop, (∃ m, W 0 m (L2.upd H1 D (.lst []))) ∧ ∀ i m H, W i m H →
      ((Itl K a).stop i H ∧ Qd H) ∨ ((Itl K a).go i H ∧ ∃ Nx : Hp → Prop, (∀ H', Nx H' → ∃ m', m' < m ∧ W (i + 1) m' H') ∧ ∀ x H', (Itl K a).yld i H x H' → g x (wipe σ vs) H' fun σ2 H2 => wipe σ2 vs = wipe σ vs ∧ tt σ2 H2 fun b H3 =>
        if b = true then te σ2 H3 fun y H4 => ∃ acc, H4 D = some (.lst acc) ∧ acc.length < sizeLine ∧ Nx (L2.upd H4 D (.lst (acc ++ [y]))) else Nx H3) := by
  refine lc_list (K := K) (a := a) (xs := bs.map val) (fun i H' => RL K H' D (((bs.take i).filter p).map f) ∧ Ex H1 H') ⟨RL.new upd_same, Ex.new nD⟩ (fun i H' _ q => ex_l q.2 ha) ?_ ?_
  · rintro i y H' hi ⟨p1, p2⟩
    obtain ⟨c, hc, rfl⟩ : ∃ c, bs[i]? = some c ∧ y = val c := by
      rw [List.getElem?_map] at hi
      cases e : bs[i]? with
      | none => rw [e] at hi; cases hi
      | some c => rw [e] at hi; exact ⟨c, rfl, (Option.some.inj hi).symm⟩
    refine hs c H' _ _ (List.mem_of_getElem? hc) p2 (fun hp r H' e' hr => ?_) fun hp H' e' => ?_
    · have p1 := p1.ext e'
      have p2 := p2.trans e'
      obtain ⟨acc, q1, q2⟩ := p1.at
      have hlen : acc.length ≤ 10000 := by
        rw [q2, List.length_map]
        have := List.length_filter_le p (bs.take i)
        rw [List.length_take] at this
        omega
      refine ⟨acc, q1, (by rw [sizeLine_eq]; omega), ?_, p2.mut nD⟩
      have := p1.push q1 hr
      rw [filter_snoc hc, if_pos hp, List.map_append]
      exact this
    · have p1 := p1.ext e'
      refine ⟨?_, p2.trans e'⟩
      rw [filter_snoc hc, if_neg (by rw [hp]; exact Bool.false_ne_true), List.append_nil]
      exact p1
  · rintro H' ⟨p1, p2⟩
    rw [List.length_map, List.take_length] at p1
    exact hd H' p2 p1
abbrev sp_l_ordersL (K : PySem.W.Frag) (A : Ad) : Sp := fun vs H Q _ => Sp1 vs fun x => ∃ (a : Addr) (row : List Nat), x = .ref a ∧ SqL K H a (row.map vNat) ∧ row.length ≤ 5 ∧
  ∀ p H' rs, H p = none → Ex H H' → RL K H' p rs → (∀ t ∈ rs, t.Perm row) → (row.Nodup → ∀ t, t.Perm row → t ∈ rs) → rs.length ≤ 5 ^ row.length → Q (.ref p) H'
abbrev sp_l_groupsL (K : PySem.W.Frag) (A : Ad) : Sp := fun vs H Q _ => Sp1 vs fun x => ∃ (a : Addr) (n : Nat), x = .ref a ∧ SqL K H a ((List.range n).map vNat) ∧ n ≤ 8 ∧
  ∀ p H' gs, H p = none → Ex H H' → RL K H' p gs → (∀ g ∈ gs, g.Nodup ∧ ∀ j ∈ g, j < n) → (∀ q : Nat → Bool, ∃ g ∈ gs, ∀ j, j < n → (j ∈ g ↔ q j = true)) → gs.length ≤ 3000 → Q (.ref p) H'
abbrev sp_l_lots_of (K : PySem.W.Frag) (A : Ad) : Sp := fun vs H Q _ => Sp2 vs fun x y => ∃ (a : Addr) (n k : Nat), x = .ref a ∧ y = .int (k : Int) ∧ SqL K H a ((List.range n).map vNat) ∧ n ≤ 8 ∧ 0 < k ∧
  ∀ p H' gs, H p = none → Ex H H' → RL K H' p gs → (∀ g ∈ gs, g.Nodup ∧ g.length = k ∧ ∀ j ∈ g, j < n) → (∀ g : List Nat, g.Nodup → g.length = k → (∀ j ∈ g, j < n) → ∃ g' ∈ gs, g'.Perm g) → gs.length ≤ 3000 → Q (.ref p) H'
abbrev sp_l_has_one (K : PySem.W.Frag) (A : Ad) : Sp := fun vs H Q _ => Sp2 vs fun x y => ∃ (w a : Addr) (ws : List (Int × Int)) (row : List Nat), x = .ref w ∧ y = .ref a ∧ WinAt K H w ws ∧ SqT K H a (row.map vNat) ∧ (∀ j ∈ row, j < ws.length) ∧ row.length ≤ 4 ∧ row.Nodup ∧
  ∀ b H', Ex H H' → (b = true ↔ HasOne ws row) → Q (.bl b) H'
abbrev sp_l_thrown_windows (K : PySem.W.Frag) (A : Ad) : Sp := fun vs H Q _ => Sp2 vs fun x y => ∃ (p c : Addr) (n : Nat), x = .ref p ∧ y = .int (n : Int) ∧ PoolAt H p c ∧ 1 ≤ n ∧ n ≤ 60 ∧
  ∀ (w : Addr) (ws : List (Int × Int)) (H' : Hp), H w = none → WinAt K H' w ws → ws.length = n → (∀ q ∈ ws, inWin 1000000 q) → PoolAt H' p c → Kept p c H H' → Q (.ref w) H'
abbrev sp_l_any_windows (K : PySem.W.Frag) (A : Ad) : Sp := sp_l_thrown_windows K A
/-! rows by classes -/
structure Cat (cls : Int → List Nat) (ms : List Int) (rs : List (List Nat)) : Prop where
  all : ∀ r ∈ rs, r.Perm (ms.flatMap cls)
  has : ∀ qs, Each (fun (m : Int) (q : List Nat) => q.Perm (cls m)) ms qs → qs.flatten ∈ rs
  few : rs.length ≤ 5 ^ (ms.flatMap cls).length
theorem Cat.zero (cls : Int → List Nat) : Cat cls [] [[]] := ⟨fun r h => by rw [List.mem_singleton.mp h]; exact List.Perm.refl _, fun qs h => by cases h; exact List.mem_singleton.mpr rfl, Nat.le_refl 1⟩
structure CatIn (cls : Int → List Nat) (m : Int) (rs us : List (List Nat)) (t : Nat) : Prop where
  all : ∀ u ∈ us, ∃ r ∈ rs, ∃ o : List Nat, o.Perm (cls m) ∧ u = r ++ o
  has : ∀ r ∈ rs.take t, ∀ o : List Nat, o.Perm (cls m) → r ++ o ∈ us
  few : us.length ≤ t * 5 ^ (cls m).length
theorem CatIn.zero (cls : Int → List Nat) (m : Int) (rs : List (List Nat)) : CatIn cls m rs [] 0 := ⟨fun u h => (nomatch h), fun r h => (nomatch h), Nat.zero_le _⟩
theorem CatIn.step {cls : Int → List Nat} {m : Int} {rs us os : List (List Nat)} {t : Nat} {r : List Nat} (h : CatIn cls m rs us t) (hr : rs[t]? = some r) (h1 : ∀ o ∈ os, o.Perm (cls m)) (h2 : ∀ o : List Nat, o.Perm (cls m) → o ∈ os) (h3 : os.length ≤ 5 ^ (cls m).length) : CatIn cls m rs (us ++ os.map fun o => r ++ o) (t + 1) := by
  have hm := List.mem_of_getElem? hr
  refine ⟨fun u hu => ?_, fun r' hr' o ho => ?_, ?_⟩
  · rcases List.mem_append.mp hu with hu | hu
    · exact h.all u hu
    · obtain ⟨o, ho, rfl⟩ := List.mem_map.mp hu
      exact ⟨r, hm, o, h1 o ho, rfl⟩
  · rw [List.take_succ_eq_append_getElem (List.getElem?_eq_some_iff.mp hr).1, (List.getElem?_eq_some_iff.mp hr).2] at hr'
    rcases List.mem_append.mp hr' with hr' | hr'
    · exact List.mem_append_left _ (h.has r' hr' o ho)
    · rw [List.mem_singleton.mp hr']
      exact List.mem_append_right _ (List.mem_map.mpr ⟨o, h2 o ho, rfl⟩)
  · have := h.few
    rw [List.length_append, List.length_map, Nat.succ_mul]
    omega
theorem CatIn.done {cls : Int → List Nat} {m : Int} {ms : List Int} {rs us : List (List Nat)} (h : CatIn cls m rs us rs.length) (C : Cat cls ms rs) : Cat cls (ms ++ [m]) us := by
  refine ⟨fun u hu => ?_, fun qs hq => ?_, ?_⟩
  · obtain ⟨r, hr, o, ho, rfl⟩ := h.all u hu
    rw [List.flatMap_append, List.flatMap_cons, List.flatMap_nil, List.append_nil]
    exact (C.all r hr).append ho
  · have sp : ∀ {l : List Int} {qs : List (List Nat)}, Each (fun (m : Int) (q : List Nat) => q.Perm (cls m)) (l ++ [m]) qs → ∃ qs' o, qs = qs' ++ [o] ∧ Each (fun (m : Int) (q : List Nat) => q.Perm (cls m)) l qs' ∧ o.Perm (cls m) := by
      intro l
      induction l with
      | nil =>
        intro qs h
        cases h with
        | cons a b =>
          cases b
          exact ⟨[], _, rfl, .nil, a⟩
      | cons k l ih =>
        intro qs h
        cases h with
        | cons a b =>
          obtain ⟨qs', o, rfl, h1, h2⟩ := ih b
          exact ⟨_ :: qs', o, rfl, .cons a h1, h2⟩
    obtain ⟨qs', o, rfl, h1, h2⟩ := sp hq
    rw [List.flatten_append, List.flatten_cons, List.flatten_nil, List.append_nil]
    exact h.has _ (by rw [List.take_length]; exact C.has qs' h1) o h2
  · have h1 := h.few
    have h2 := C.few
    rw [List.flatMap_append, List.flatMap_cons, List.flatMap_nil, List.append_nil, List.length_append, Nat.pow_add]
    exact Nat.le_trans h1 (Nat.mul_le_mul_right _ h2)
theorem cat_one {ws : List (Int × Int)} {row : List Nat} {ns : List Int} {rs : List (List Nat)} (up : ns.Pairwise (· < ·)) (hm : ∀ j ∈ row, midW ws j ∈ ns) (C : Cat (fun m => row.filter fun j => decide (midW ws j = m)) ns rs) : (∃ r ∈ rs, rowT ws [] r = []) ↔ HasOne ws row := by
  constructor
  · rintro ⟨r, hr, hz⟩
    refine ⟨r, (C.all r hr).trans ?_, hz⟩
    exact perm_classes (midW ws) ns row (up.imp fun {a b} c e => by omega) hm
  · rintro ⟨q, hq, hz⟩
    have e := by_mids up ((rowT_clear ws q []).mp hz).1 fun j hj => hm j (hq.mem_iff.mp hj)
    refine ⟨q, ?_, hz⟩
    rw [e]
    refine C.has _ ?_
    have : ∀ l : List Int, Each (fun (m : Int) (q : List Nat) => q.Perm (row.filter fun j => decide (midW ws j = m))) l (l.map fun m => q.filter fun j => decide (midW ws j = m)) := fun l => by
      induction l with
      | nil => exact .nil
      | cons m l ih => exact .cons (hq.filter _) ih
    exact this ns
/-! k49's law -/
noncomputable def oneB (ws : List (Int × Int)) (g : List Nat) : Bool := @decide (HasOne ws g) (Classical.propDecidable _)
theorem oneB_iff {ws : List (Int × Int)} {g : List Nat} : oneB ws g = true ↔ HasOne ws g := by
  unfold oneB
  exact @decide_eq_true_iff _ (Classical.propDecidable _)
theorem HasOne.perm {ws : List (Int × Int)} {g g' : List Nat} (h : HasOne ws g) (p : g.Perm g') : HasOne ws g' := by
  obtain ⟨q, h1, h2⟩ := h
  exact ⟨q, h1.trans p, h2⟩
def AllOf (ws : List (Int × Int)) (k : Nat) : Prop := ∀ g : List Nat, g.Nodup → g.length = k → (∀ j ∈ g, j < ws.length) → HasOne ws g
theorem none_bad {ws : List (Int × Int)} {k : Nat} {gs : List (List Nat)} (h1 : ∀ g ∈ gs, g.Nodup ∧ g.length = k ∧ ∀ j ∈ g, j < ws.length) (h2 : ∀ g : List Nat, g.Nodup → g.length = k → (∀ j ∈ g, j < ws.length) → ∃ g' ∈ gs, g'.Perm g) : gs.filter (fun g => !oneB ws g) = [] ↔ AllOf ws k := by
  rw [List.filter_eq_nil_iff]
  constructor
  · intro h g g1 g2 g3
    obtain ⟨g', m, p⟩ := h2 g g1 g2 g3
    have := h g' m
    have e : oneB ws g' = true := by
      cases c : oneB ws g' with
      | true => rfl
      | false => rw [c] at this; exact absurd rfl this
    exact (oneB_iff.mp e).perm p
  · intro h g hg c
    obtain ⟨g1, g2, g3⟩ := h1 g hg
    rw [oneB_iff.mpr (h g g1 g2 g3)] at c
    cases c
theorem due_four {ws : List (Int × Int)} {o : Option (List Nat)} (hw : ∀ j, fstAt ws j ≤ lstAt ws j) (du : IsDue ws o) : o = none ↔ ¬ (AllOf ws 3 ∧ AllOf ws 4) := by
  cases o with
  | none =>
    refine ⟨fun _ ⟨a3, a4⟩ => ?_, fun _ => rfl⟩
    obtain ⟨q, h1, h2⟩ := four_enough hw (h4_of a3 a4)
    exact du q h1 h2
  | some d =>
    refine ⟨fun z => (nomatch z), fun h => absurd ?_ h⟩
    have hn : d.Nodup := du.1.nodup_iff.mpr List.nodup_range
    have all : ∀ g : List Nat, g.Nodup → (∀ j ∈ g, j < ws.length) → HasOne ws g := fun g g1 g3 => by
      obtain ⟨h1, h2⟩ := HasOne.sub du.2.1 hn g1 fun j hj => du.1.mem_iff.mpr (List.mem_range.mpr (g3 j hj))
      exact ⟨_, h1, h2⟩
    exact ⟨fun g g1 _ g3 => all g g1 g3, fun g g1 _ g3 => all g g1 g3⟩
theorem map_ix {g : List Nat} : ∀ {q : List Nat}, (∀ j ∈ q, j ∈ g) → (q.map g.idxOf).map (fun k => g.getD k 0) = q := by
  intro q h
  rw [List.map_map]
  conv => rhs; rw [← List.map_id q]
  exact List.map_congr_left fun j hj => getD_ix (h j hj)
theorem ix_perm {g q : List Nat} (hn : g.Nodup) (hp : q.Perm g) : (q.map g.idxOf).Perm (List.range g.length) := by
  have e : g.map g.idxOf = List.range g.length := by
    refine List.ext_getElem (by rw [List.length_map, List.length_range]) fun i h1 h2 => ?_
    rw [List.length_map] at h1
    rw [List.getElem_map, List.getElem_range]
    have := ix_getD hn h1
    rw [List.getD_eq_getElem?_getD, List.getElem?_eq_getElem h1] at this
    exact this
  rw [← e]
  exact hp.map _
theorem part_one {ws : List (Int × Int)} {g : List Nat} (hn : g.Nodup) {o : Option (List Nat)} (du : IsDue (partW ws g) o) : o ≠ none ↔ HasOne ws g := by
  have plen : (partW ws g).length = g.length := by unfold partW; rw [List.length_map]
  cases o with
  | none =>
    refine ⟨fun z => absurd rfl z, fun ⟨q, h1, h2⟩ => ?_⟩
    refine absurd ?_ (du (q.map g.idxOf) (by rw [plen]; exact ix_perm hn h1))
    refine rowT_quiet.mpr ((part_quiet fun k hk => ?_).mpr ?_)
    · obtain ⟨j, hj, rfl⟩ := List.mem_map.mp hk
      exact List.idxOf_lt_length_of_mem (h1.mem_iff.mp hj)
    · rw [map_ix fun j hj => h1.mem_iff.mp hj]
      exact rowT_quiet.mp h2
  | some d =>
    refine ⟨fun _ => ?_, fun _ => fun z => (nomatch z)⟩
    obtain ⟨h1, h2, _⟩ := du
    rw [plen] at h1
    refine ⟨d.map fun k => g.getD k 0, ?_, rowT_quiet.mpr ((part_quiet fun k hk => List.mem_range.mp (h1.mem_iff.mp hk)).mp (rowT_quiet.mp h2))⟩
    refine (h1.map fun k => g.getD k 0).trans ?_
    have e : (List.range g.length).map (fun k => g.getD k 0) = g := by
      refine List.ext_getElem (by rw [List.length_map, List.length_range]) fun i h1 h2 => ?_
      rw [List.getElem_map, List.getElem_range, List.getD_eq_getElem?_getD, List.getElem?_eq_getElem h2] <;> rfl
    rw [e]
theorem part_row {ws : List (Int × Int)} {d g : List Nat} (hd : rowT ws [] d = []) (hn : d.Nodup) (hg : g.Nodup) (hs : ∀ j ∈ g, j ∈ d) : ((d.filter fun j => decide (j ∈ g)).map g.idxOf).Perm (List.range g.length) ∧ rowT (partW ws g) [] ((d.filter fun j => decide (j ∈ g)).map g.idxOf) = [] := by
  obtain ⟨h1, h2⟩ := HasOne.sub hd hn hg hs
  refine ⟨ix_perm hg h1, rowT_quiet.mpr ((part_quiet fun k hk => ?_).mpr ?_)⟩
  · obtain ⟨j, hj, rfl⟩ := List.mem_map.mp hk
    exact List.idxOf_lt_length_of_mem (h1.mem_iff.mp hj)
  · rw [map_ix fun j hj => h1.mem_iff.mp hj]
    exact rowT_quiet.mp h2
/-! welcome windows (k93): the math -/
theorem quiet_mv {ws us : List (Int × Int)} {z : Int} {row : List Nat} (h : ∀ k ∈ row, fstAt ws k = fstAt us k + z ∧ lstAt ws k = lstAt us k + z) (q : Quiet us row) : Quiet ws row := by
  have three : ∀ {x y w : Nat}, [x, y, w].Sublist row → x ∈ row ∧ y ∈ row ∧ w ∈ row := fun s => ⟨s.subset (by simp), s.subset (by simp), s.subset (by simp)⟩
  have two : ∀ {x y : Nat}, [x, y].Sublist row → x ∈ row ∧ y ∈ row := fun s => ⟨s.subset (by simp), s.subset (by simp)⟩
  have mid : ∀ {x : Nat}, x ∈ row → midW ws x = midW us x + 2 * z := fun {x} hx => by
    have := h x hx
    unfold midW
    omega
  have ins : ∀ {x y : Nat}, x ∈ row → y ∈ row → insW ws x y = insW us x y := fun {x y} hx hy => by
    have h1 := h x hx
    have h2 := h y hy
    unfold insW
    rw [h1.1, h1.2, h2.1, h2.2]
    rw [show decide (fstAt us y + z < fstAt us x + z) = decide (fstAt us y < fstAt us x) from decide_eq_decide.mpr (by omega), show decide (lstAt us x + z < lstAt us y + z) = decide (lstAt us x < lstAt us y) from decide_eq_decide.mpr (by omega)]
  refine ⟨fun x y s => ?_, fun x y w s => ?_, fun x y w s => ?_⟩
  · obtain ⟨a, b⟩ := two s
    have := q.M x y s
    rw [mid a, mid b]
    omega
  · obtain ⟨a, b, c⟩ := three s
    have := q.F x y w s
    unfold frontX at this ⊢
    rw [ins a b, mid a, (h y b).1, (h w c).1]
    rintro ⟨k1, k2⟩
    exact this ⟨k1, by omega⟩
  · obtain ⟨a, b, c⟩ := three s
    have := q.N x y w s
    unfold backX at this ⊢
    rw [ins c b, mid c, (h x a).2, (h y b).2]
    rintro ⟨k1, k2⟩
    exact this ⟨k1, by omega⟩
theorem one_mv {ws us : List (Int × Int)} {z : Int} {g : List Nat} (h : ∀ k ∈ g, fstAt ws k = fstAt us k + z ∧ lstAt ws k = lstAt us k + z) (q : HasOne us g) : HasOne ws g := by
  obtain ⟨r, hp, hr⟩ := q
  exact ⟨r, hp, rowT_quiet.mpr (quiet_mv (fun k hk => h k (hp.mem_iff.mp hk)) (rowT_quiet.mp hr))⟩
theorem app_at {ws : List (Int × Int)} {q : Int × Int} {k : Nat} (h : k < ws.length) : fstAt (ws ++ [q]) k = fstAt ws k ∧ lstAt (ws ++ [q]) k = lstAt ws k := by
  unfold fstAt lstAt winAt
  rw [List.getD_eq_getElem?_getD, List.getD_eq_getElem?_getD, List.getElem?_append_left h]
  exact ⟨rfl, rfl⟩
theorem one_less {ws : List (Int × Int)} {q : Int × Int} (h : HasOne (ws ++ [q]) (List.range (ws.length + 1))) : HasOne ws (List.range ws.length) := by
  obtain ⟨d, hp, hd⟩ := h
  obtain ⟨h1, h2⟩ := HasOne.sub (g := List.range ws.length) hd (hp.nodup_iff.mpr List.nodup_range) List.nodup_range fun j hj => hp.mem_iff.mpr (List.mem_range.mpr (by have := List.mem_range.mp hj; omega))
  exact one_mv (z := 0) (us := ws ++ [q]) (fun k hk => by
    have := app_at (q := q) (List.mem_range.mp hk)
    omega) ⟨_, h1, h2⟩
/-- all windows up to an hour, ascending -/
def prs (m : Nat) : List (Int × Int) := (List.range (m + 1)).flatMap fun f => (List.range (m + 1 - f)).map fun k => ((f : Int), ((f + k : Nat) : Int))
noncomputable def welc (ws : List (Int × Int)) (m : Nat) : List (Int × Int) := (prs m).filter fun q => oneB (ws ++ [q]) (List.range (ws.length + 1))
theorem mem_prs {m : Nat} {q : Int × Int} : q ∈ prs m ↔ 0 ≤ q.1 ∧ q.1 ≤ q.2 ∧ q.2 ≤ m := by
  unfold prs
  rw [List.mem_flatMap]
  constructor
  · rintro ⟨f, hf, hq⟩
    obtain ⟨k, hk, rfl⟩ := List.mem_map.mp hq
    have := List.mem_range.mp hf
    have := List.mem_range.mp hk
    exact ⟨by show (0 : Int) ≤ (f : Int); omega, by show (f : Int) ≤ ((f + k : Nat) : Int); omega, by show ((f + k : Nat) : Int) ≤ m; omega⟩
  · rintro ⟨h1, h2, h3⟩
    refine ⟨q.1.toNat, List.mem_range.mpr (by omega), List.mem_map.mpr ⟨(q.2 - q.1).toNat, List.mem_range.mpr (by omega), ?_⟩⟩
    refine Prod.ext ?_ ?_
    · show ((q.1.toNat : Nat) : Int) = q.1
      omega
    · show ((q.1.toNat + (q.2 - q.1).toNat : Nat) : Int) = q.2
      omega
theorem flat_filter {α β : Type} {p : β → Bool} {f : α → List β} : ∀ {l : List α}, (l.flatMap f).filter p = l.flatMap fun a => (f a).filter p
  | [] => rfl
  | a :: l => by rw [List.flatMap_cons, List.flatMap_cons, List.filter_append, flat_filter]
theorem range_filter {n m : Nat} (h : n ≤ m) {p : Nat → Bool} (hp : ∀ k, k < m → (p k = true ↔ k < n)) : (List.range m).filter p = List.range n := by
  obtain ⟨d, rfl⟩ := Nat.le.dest h
  rw [List.range_add, List.filter_append, List.filter_eq_self.mpr (fun k hk => (hp k (by have := List.mem_range.mp hk; omega)).mpr (List.mem_range.mp hk)), List.filter_eq_nil_iff.mpr ?_, List.append_nil]
  intro k hk c
  obtain ⟨j, hj, rfl⟩ := List.mem_map.mp hk
  have := (hp (n + j) (by have := List.mem_range.mp hj; omega)).mp c
  omega
theorem flat_nils {α β : Type} {f : α → List β} : ∀ {l : List α}, (∀ a ∈ l, f a = []) → l.flatMap f = []
  | [], _ => rfl
  | a :: l, h => by rw [List.flatMap_cons, h a (List.mem_cons_self ..), flat_nils fun b hb => h b (List.mem_cons_of_mem _ hb)] <;> rfl
theorem flat_congr {α β : Type} {f g : α → List β} : ∀ {l : List α}, (∀ a ∈ l, f a = g a) → l.flatMap f = l.flatMap g
  | [], _ => rfl
  | a :: l, h => by rw [List.flatMap_cons, List.flatMap_cons, h a (List.mem_cons_self ..), flat_congr fun b hb => h b (List.mem_cons_of_mem _ hb)]
theorem prs_less {n m : Nat} (h : n ≤ m) : (prs m).filter (fun q => decide (q.2 ≤ (n : Int))) = prs n := by
  unfold prs
  rw [flat_filter]
  have e : m + 1 = (n + 1) + (m - n) := by omega
  rw [show List.range (m + 1) = List.range (n + 1) ++ (List.range (m - n)).map fun j => n + 1 + j by rw [e, List.range_add], List.flatMap_append, flat_nils (l := List.map _ _), List.append_nil]
  · refine flat_congr fun f hf => ?_
    have hf := List.mem_range.mp hf
    rw [List.filter_map]
    refine congrArg _ (range_filter (by omega) fun k hk => ?_)
    show decide (((f + k : Nat) : Int) ≤ (n : Int)) = true ↔ _
    rw [decide_eq_true_iff]
    omega
  · intro f hf
    obtain ⟨j, hj, rfl⟩ := List.mem_map.mp hf
    rw [List.filter_eq_nil_iff]
    intro q hq c
    obtain ⟨k, _, rfl⟩ := List.mem_map.mp hq
    have := of_decide_eq_true c
    have : ((n + 1 + j + k : Nat) : Int) ≤ (n : Int) := this
    omega
theorem welc_less {ws : List (Int × Int)} {n m : Nat} (h : n ≤ m) : (welc ws m).filter (fun q => decide (q.2 ≤ (n : Int))) = welc ws n := by
  unfold welc
  rw [List.filter_filter, ← prs_less h, List.filter_filter]
  exact List.filter_congr fun q _ => Bool.and_comm _ _
theorem prs_later (m : Nat) : ((prs (m + 1)).filter fun q => decide (q.1 > 0)) = (prs m).map fun q => (q.1 + 1, q.2 + 1) := by
  unfold prs
  rw [flat_filter, List.map_flatMap, List.range_succ_eq_map, List.flatMap_cons, List.filter_eq_nil_iff.mpr, List.nil_append, List.flatMap_map]
  · refine flat_congr fun f hf => ?_
    rw [List.filter_eq_self.mpr, List.map_map]
    · have e : m + 1 + 1 - f.succ = m + 1 - f := by omega
      rw [e]
      refine List.map_congr_left fun k _ => Prod.ext ?_ ?_
      · show ((f + 1 : Nat) : Int) = (f : Int) + 1
        omega
      · show ((f + 1 + k : Nat) : Int) = ((f + k : Nat) : Int) + 1
        omega
    · intro q hq
      obtain ⟨k, _, rfl⟩ := List.mem_map.mp hq
      exact decide_eq_true (by show ((f + 1 : Nat) : Int) > 0; omega)
  · intro q hq c
    obtain ⟨k, _, rfl⟩ := List.mem_map.mp hq
    have := of_decide_eq_true c
    have : ((0 : Nat) : Int) > 0 := this
    omega
theorem sh_app {ws : List (Int × Int)} {q : Int × Int} {z : Int} : shW z (ws ++ [q]) = shW z ws ++ [(q.1 + z, q.2 + z)] := by
  unfold shW
  rw [List.map_append]
  rfl
theorem one_sh {ws : List (Int × Int)} {z : Int} {g : List Nat} (hg : ∀ j ∈ g, j < ws.length) : HasOne (shW z ws) g ↔ HasOne ws g :=
  ⟨fun h => one_mv (z := -z) (fun k hk => by
      rw [shW_fst (hg k hk), shW_lst (hg k hk)]
      omega) h, fun h => one_mv (z := z) (fun k hk => ⟨shW_fst (hg k hk), shW_lst (hg k hk)⟩) h⟩
theorem oneB_of {ws us : List (Int × Int)} {g : List Nat} (h : HasOne ws g ↔ HasOne us g) : oneB ws g = oneB us g := Bool.eq_iff_iff.mpr (oneB_iff.trans (h.trans oneB_iff.symm))
theorem welc_later {ws : List (Int × Int)} {m : Nat} : (((welc (shW 1 ws) (m + 1)).filter fun q => decide (q.1 > 0)).map fun q => (q.1 - 1, q.2 - 1)) = welc ws m := by
  unfold welc
  rw [shW_len, List.filter_filter, show (fun q : Int × Int => decide (q.1 > 0) && oneB (shW 1 ws ++ [q]) (List.range (ws.length + 1))) = fun q => (fun q => oneB (shW 1 ws ++ [q]) (List.range (ws.length + 1))) q && (fun q : Int × Int => decide (q.1 > 0)) q from funext fun q => Bool.and_comm _ _, ← List.filter_filter, prs_later, List.filter_map, List.map_map]
  have e : ((fun q : Int × Int => (q.1 - 1, q.2 - 1)) ∘ fun q : Int × Int => (q.1 + 1, q.2 + 1)) = id := funext fun q => by
    refine Prod.ext ?_ ?_
    · show q.1 + 1 - 1 = q.1
      omega
    · show q.2 + 1 - 1 = q.2
      omega
  rw [e, List.map_id]
  refine List.filter_congr fun q _ => ?_
  show oneB (shW 1 ws ++ [(q.1 + 1, q.2 + 1)]) _ = oneB (ws ++ [q]) _
  rw [← sh_app]
  refine oneB_of (one_sh fun j hj => ?_)
  rw [List.length_append]
  exact List.mem_range.mp hj
theorem one_alike {ws : List (Int × Int)} {z : Int} {g : List Nat} (h : ∀ k ∈ g, lstAt ws k = fstAt ws k + z) : HasOne ws g := by
  have tr : ∀ a b c : Nat, decide (fstAt ws a ≤ fstAt ws b) = true → decide (fstAt ws b ≤ fstAt ws c) = true → decide (fstAt ws a ≤ fstAt ws c) = true := fun a b c h1 h2 => by
    have := of_decide_eq_true h1
    have := of_decide_eq_true h2
    exact decide_eq_true (by omega)
  have tot : ∀ a b : Nat, (decide (fstAt ws a ≤ fstAt ws b) || decide (fstAt ws b ≤ fstAt ws a)) = true := fun a b => by
    rw [Bool.or_eq_true, decide_eq_true_iff, decide_eq_true_iff]
    omega
  have hp := List.mergeSort_perm g fun a b => decide (fstAt ws a ≤ fstAt ws b)
  have hs := List.pairwise_mergeSort tr tot g
  generalize g.mergeSort (fun a b => decide (fstAt ws a ≤ fstAt ws b)) = r at hp hs
  have no : ∀ {x y : Nat}, x ∈ r → y ∈ r → ¬ insW ws x y = true := fun {x y} hx hy => by
    have h1 := h x (hp.mem_iff.mp hx)
    have h2 := h y (hp.mem_iff.mp hy)
    unfold insW
    rw [Bool.and_eq_true, decide_eq_true_iff, decide_eq_true_iff]
    omega
  refine ⟨r, hp, rowT_quiet.mpr ⟨fun x y s => ?_, fun x y w s k => no (s.subset (by simp)) (s.subset (by simp)) k.1, fun x y w s k => no (s.subset (by simp)) (s.subset (by simp)) k.1⟩⟩
  have q := (List.pairwise_iff_forall_sublist.mp hs) s
  have q := of_decide_eq_true q
  have h1 := h x (hp.mem_iff.mp (s.subset (by simp)))
  have h2 := h y (hp.mem_iff.mp (s.subset (by simp)))
  unfold midW
  omega
theorem prs_len : ∀ m : Nat, m ≤ 20 → (prs m).length ≤ 300 := by decide +kernel
theorem welc_len {ws : List (Int × Int)} {m : Nat} (h : m ≤ 20) : (welc ws m).length ≤ 300 := Nat.le_trans (List.length_filter_le ..) (prs_len m h)
/-! k93: the source, promises -/
def SrcAt (H : Hp) (p : Addr) : Prop := ∃ a b c d e : Int, H p = some (.lst [.int a, .int b, .int c, .int d, .int e])
theorem SrcAt.nep {H : Hp} {p a : Addr} (h : SrcAt H p) (n : H a = none) : a ≠ p := by
  obtain ⟨_, _, _, _, _, e⟩ := h
  exact (ne_of_none e n).symm
theorem SrcAt.mono {H H' : Hp} {p : Addr} (h : SrcAt H p) (e : Ex H H') : SrcAt H' p := by
  obtain ⟨a, b, c, d, f, q⟩ := h
  exact ⟨a, b, c, d, f, e _ _ q⟩
theorem SrcAt.other {H : Hp} {p a : Addr} {o : HO} (h : SrcAt H p) (q : H a = some o) (n : ∀ ys, o ≠ .lst ys) : a ≠ p := fun z => by
  obtain ⟨_, _, _, _, _, e⟩ := h
  rw [z, e] at q
  exact n _ (Option.some.inj q).symm
theorem SrcAt.beside {H : Hp} {p f : Addr} {o : HO} (h : SrcAt H p) (n : p ≠ f) : SrcAt (L2.upd H f o) p := by
  obtain ⟨a, b, c, d, e, q⟩ := h
  exact ⟨a, b, c, d, e, by rw [upd_ne n]; exact q⟩
theorem sqt_src {K : PySem.W.Frag} {H H' : Hp} {p a : Addr} {xs : List V} (h : SqT K H a xs) (P : SrcAt H p) (k : Kept p p H H') : SqT K H' a xs := by
  rcases h with (h | ⟨o, h⟩) | h
  · have q := P.other h fun ys z => by cases z
    exact .inl (.inl (k _ _ q q h))
  · have q := P.other h fun ys z => by cases z
    exact .inl (.inr ⟨o, k _ _ q q h⟩)
  · exact .inr h
theorem WinAt.src {K : PySem.W.Frag} {H H' : Hp} {p w : Addr} {ws : List (Int × Int)} (h : WinAt K H w ws) (P : SrcAt H p) (k : Kept p p H H') : WinAt K H' w ws := by
  obtain ⟨hl, as, h1, h2, h3⟩ := h
  exact ⟨hl, ⟨as, sqt_src h1 P k, h2, fun i a q x y => sqt_src (h3 i a q x y) P k⟩⟩
theorem BookAt.src {C : Addr} {H H' : Hp} {p b w : Addr} (h : BookAt C H b w) (P : SrcAt H p) (k : Kept p p H H') : BookAt C H' b w := by
  obtain ⟨dx, h⟩ := h
  have q := P.other h fun ys z => by cases z
  exact ⟨dx, k _ _ q q h⟩
/-- a pair of ints -/
def WnAt (K : PySem.W.Frag) (H : Hp) (v : V) (q : Int × Int) : Prop := ∃ a, v = .ref a ∧ SqT K H a [.int q.1, .int q.2]
theorem wnAt (K : PySem.W.Frag) : TupR (WnAt K) := ⟨fun ⟨a, h1, h2⟩ e => ⟨a, h1, ex_t e h2⟩, fun ⟨a, h1, h2⟩ hf => ⟨a, h1, sqt_upd hf h2⟩⟩
theorem WnAt.src {K : PySem.W.Frag} {H H' : Hp} {p : Addr} {v : V} {q : Int × Int} (h : WnAt K H v q) (P : SrcAt H p) (k : Kept p p H H') : WnAt K H' v q := by
  obtain ⟨a, e, h⟩ := h
  exact ⟨a, e, sqt_src h P k⟩
theorem Ls.src {K : PySem.W.Frag} {H H' : Hp} {p f : Addr} {qs : List (Int × Int)} (h : Ls (WnAt K) H f qs) (P : SrcAt H p) (k : Kept p p H H') (ne : f ≠ p) : Ls (WnAt K) H' f qs := by
  obtain ⟨bs, h1, h2, h3⟩ := h
  exact ⟨bs, k _ _ ne ne h1, fun q hq => (h2 q hq).src P k, h3⟩
def MostOk : Da → Bool | .int z => decide (0 ≤ z) && decide (z ≤ 20) | _ => false
abbrev sp_l_source (K : PySem.W.Frag) (A : Ad) : Sp := fun vs H Q _ => Sp2 vs fun x y => ∃ (a : Addr) (ns : List Int) (k : Nat), x = .ref a ∧ y = .int (k : Int) ∧ SqL K H a (ns.map V.int) ∧ ns.length ≤ 63 ∧ k ≤ 1000 ∧ ∀ p H', H p = none → SrcAt H' p → Ex H H' → Q (.ref p) H'
abbrev sp_l_drawS (K : PySem.W.Frag) (A : Ad) : Sp := fun vs H Q _ => Sp2 vs fun x y => ∃ (p : Addr) (m : Int), x = .ref p ∧ y = .int m ∧ SrcAt H p ∧ 0 < m ∧ m ≤ 1000000 ∧ ∀ d H', 0 ≤ d → d < m → SrcAt H' p → Kept p p H H' → Q (.int d) H'
abbrev sp_l_lies_within (K : PySem.W.Frag) (A : Ad) : Sp := fun vs H Q _ => Sp2 vs fun x y => ∃ q r : Int × Int, WnAt K H x q ∧ WnAt K H y r ∧ Q (.bl (decide (r.1 < q.1) && decide (q.2 < r.2))) H
abbrev sp_l_is_thrown (K : PySem.W.Frag) (A : Ad) : Sp := fun vs H Q _ => Sp2 vs fun x y => ∃ (w a : Addr) (ws : List (Int × Int)) (row : List Nat), x = .ref w ∧ y = .ref a ∧ WinAt K H w ws ∧ SqT K H a (row.map vNat) ∧ (∀ j ∈ row, j < ws.length) ∧ row.length ≤ 9 ∧
  ∀ b H', Ex H H' → (b = false ↔ Quiet ws row) → Q (.bl b) H'
abbrev sp_l_rows (K : PySem.W.Frag) (A : Ad) : Sp := fun vs H Q _ => Sp1 vs fun x => ∃ (a : Addr) (n : Nat), x = .ref a ∧ SqT K H a ((List.range n).map vNat) ∧ n ≤ 5 ∧
  ∀ p H' rs, H p = none → Ex H H' → RL K H' p rs → (∀ t ∈ rs, t.Perm (List.range n)) → (∀ t, t.Perm (List.range n) → t ∈ rs) → rs.length ≤ 5 ^ n → Q (.ref p) H'
abbrev sp_l_due (K : PySem.W.Frag) (A : Ad) : Sp := fun vs H Q _ => Sp2 vs fun x y => ∃ (w : Addr) (ws : List (Int × Int)) (m : Nat), x = .ref w ∧ y = .int (m : Int) ∧ WinAt K H w ws ∧ ws.length ≤ 4 ∧ m ≤ 20 ∧
  ∀ p H', H p = none → Ex H H' → Ls (WnAt K) H' p (welc ws m) → Q (.ref p) H'
abbrev sp_has_one_order (K : PySem.W.Frag) (A : Ad) : Sp := fun vs H Q _ => Sp1 vs fun x => OnBk K A H x fun ws => (∀ j, fstAt ws j ≤ lstAt ws j) ∧ ∀ b H', Ex H H' → (b = true ↔ HasOne ws (List.range ws.length)) → Q (.bl b) H'
abbrev sp_check_works (K : PySem.W.Frag) (A : Ad) : Sp := fun vs H Q E => Sp2 vs fun x y => ∃ (b w : Addr) (ws : List (Int × Int)) (m : Nat), x = .ref b ∧ y = .int (m : Int) ∧ BookAt A.C_Book H b w ∧ WinAt K H w ws ∧
  (m < ws.length → ∀ dx H', Ex H H' → H' dx = some (.xd [("most", .int (m : Int))]) → E (.ref A.C_TooMany) (some dx) H') ∧ (ws.length ≤ m → Q .non H)
abbrev sp_welcome (K : PySem.W.Frag) (A : Ad) : Sp := fun vs H Q E => Sp2 vs fun x y => ∃ (b w : Addr) (ws : List (Int × Int)) (d : Da), x = .ref b ∧ BookAt A.C_Book H b w ∧ WinAt K H w ws ∧ Rp K H y d ∧ (∀ q ∈ ws, q.1 ≤ q.2) ∧ 0 < ws.length ∧ ws.length ≠ 8 ∧
  (MostOk d = false → ∀ H', Ex H H' → E (.ref A.C_NoNumber) none H') ∧
  (MostOk d = true → 8 < ws.length → ∀ dx H', Ex H H' → H' dx = some (.xd [("most", .int 8)]) → E (.ref A.C_TooMany) (some dx) H') ∧
  ∀ m : Nat, d = .int (m : Int) → m ≤ 20 → ws.length ≤ 7 → ∀ p H', H p = none → Ex H H' → Ls (WnAt K) H' p (welc ws m) → Q (.ref p) H'
abbrev sp_l_word (K : PySem.W.Frag) (A : Ad) : Sp := fun vs H Q _ => Sp2 vs fun x y => ∃ (b w : Addr) (ws : List (Int × Int)) (d : Da), x = .ref b ∧ BookAt A.C_Book H b w ∧ WinAt K H w ws ∧ Rp K H y d ∧ (∀ q ∈ ws, q.1 ≤ q.2) ∧ 0 < ws.length ∧ ws.length ≠ 8 ∧
  (MostOk d = false ∨ 8 < ws.length) ∧ (MostOk d = false → ∀ H', Ex H H' → Q (.str "number") H') ∧ (MostOk d = true → ∀ t H', Ex H H' → SqT K H' t [.str "many", .int 8] → Q (.ref t) H')
abbrev sp_l_early_windows (K : PySem.W.Frag) (A : Ad) : Sp := fun vs H Q _ => Sp3 vs fun x y z => ∃ (p : Addr) (n : Nat) (t : Int), x = .ref p ∧ y = .int (n : Int) ∧ z = .int t ∧ SrcAt H p ∧ n ≤ 4 ∧ 0 ≤ t ∧ t ≤ 12 ∧
  ∀ (w : Addr) (ws : List (Int × Int)) (H' : Hp), H w = none → WinAt K H' w ws → ws.length = n → (∀ q ∈ ws, inWin 1000000 q) → SrcAt H' p → Kept p p H H' → Q (.ref w) H'
/-! comprehensions with two fors over ranges -/
theorem lc2_range {lo : Int} {n : Nat} {g g1 : TG} {tt tt1 : TT} {te : TE} {wi1 : TI} {vs vs1 : List Nat} {σ : L2.St} {H1 : Hp} {D : Addr} {Qd : Hp → Prop} (Pv : Nat → Hp → Prop) (h0 : Pv 0 (L2.upd H1 D (.lst [])))
    (hs : ∀ i H, i < n → Pv i H → g (.int (lo + i)) (wipe σ vs) H fun σ2 H2 => wipe σ2 vs = wipe σ vs ∧ tt σ2 H2 fun b H3 =>
      if b = true then wi1 σ2 H3 fun J1 H4 => ∃ W1 : Nat → Nat → Hp → Prop, (∃ m, W1 0 m H4) ∧ ∀ j k H, W1 j k H →
        (J1.stop j H ∧ Pv (i + 1) H) ∨ (J1.go j H ∧ ∃ Nx1 : Hp → Prop, (∀ H', Nx1 H' → ∃ k', k' < k ∧ W1 (j + 1) k' H') ∧ ∀ x H', J1.yld j H x H' → g1 x (wipe σ2 vs1) H' fun σ3 H5 => wipe σ3 vs1 = wipe σ2 vs1 ∧ tt1 σ3 H5 fun b H6 =>
          if b = true then te σ3 H6 fun y H7 => ∃ acc, H7 D = some (.lst acc) ∧ acc.length < sizeLine ∧ Nx1 (L2.upd H7 D (.lst (acc ++ [y]))) else Nx1 H6)
      else Pv (i + 1) H3) (hd : ∀ H, Pv n H → Qd H) :
    ∃ W : Nat → Nat → Hp → Prop, (∃ m, W 0 m (L2.upd H1 D (.lst []))) ∧ ∀ i m H, W i m H →
      ((Itr lo n).stop i H ∧ Qd H) ∨ ((Itr lo n).go i H ∧ ∃ Nx : Hp → Prop, (∀ H', Nx H' → ∃ m', m' < m ∧ W (i + 1) m' H') ∧ ∀ x H', (Itr lo n).yld i H x H' → g x (wipe σ vs) H' fun σ2 H2 => wipe σ2 vs = wipe σ vs ∧ tt σ2 H2 fun b H3 =>
        if b = true then wi1 σ2 H3 fun J1 H4 => ∃ W1 : Nat → Nat → Hp → Prop, (∃ m, W1 0 m H4) ∧ ∀ j k H, W1 j k H →
          (J1.stop j H ∧ Nx H) ∨ (J1.go j H ∧ ∃ Nx1 : Hp → Prop, (∀ H', Nx1 H' → ∃ k', k' < k ∧ W1 (j + 1) k' H') ∧ ∀ x H', J1.yld j H x H' → g1 x (wipe σ2 vs1) H' fun σ3 H5 => wipe σ3 vs1 = wipe σ2 vs1 ∧ tt1 σ3 H5 fun b H6 =>
            if b = true then te σ3 H6 fun y H7 => ∃ acc, H7 D = some (.lst acc) ∧ acc.length < sizeLine ∧ Nx1 (L2.upd H7 D (.lst (acc ++ [y]))) else Nx1 H6)
        else Nx H3) := by
  refine ⟨fun i m H => m = n - i ∧ i ≤ n ∧ Pv i H, ⟨n, rfl, Nat.zero_le _, h0⟩, fun i m H q => ?_⟩
  obtain ⟨rfl, le, p⟩ := q
  rcases Nat.lt_or_ge i n with lt | ge
  · exact .inr ⟨lt, Pv (i + 1), fun H' p' => ⟨n - (i + 1), by omega, rfl, lt, p'⟩, fun x H' y => by
      obtain ⟨rfl, rfl⟩ := y
      exact hs i _ lt p⟩
  · obtain rfl : i = n := Nat.le_antisymm le ge
    exact .inl ⟨ge, hd H p⟩
theorem in_range {lo : Int} {n : Nat} {g1 : TG} {tt1 : TT} {te : TE} {vs1 : List Nat} {σ2 : L2.St} {H4 : Hp} {D : Addr} {Z : Hp → Prop} (Pv : Nat → Hp → Prop) (h0 : Pv 0 H4)
    (hs : ∀ i H, i < n → Pv i H → g1 (.int (lo + i)) (wipe σ2 vs1) H fun σ3 H5 => wipe σ3 vs1 = wipe σ2 vs1 ∧ tt1 σ3 H5 fun b H6 =>
      if b = true then te σ3 H6 fun y H7 => ∃ acc, H7 D = some (.lst acc) ∧ acc.length < sizeLine ∧ Pv (i + 1) (L2.upd H7 D (.lst (acc ++ [y]))) else Pv (i + 1) H6) (hd : ∀ H, Pv n H → Z H) :
    ∃ W1 : Nat → Nat → Hp → Prop, (∃ m, W1 0 m H4) ∧ ∀ j k H, W1 j k H →
      ((Itr lo n).stop j H ∧ Z H) ∨ ((Itr lo n).go j H ∧ ∃ Nx1 : Hp → Prop, (∀ H', Nx1 H' → ∃ k', k' < k ∧ W1 (j + 1) k' H') ∧ ∀ x H', (Itr lo n).yld j H x H' → g1 x (wipe σ2 vs1) H' fun σ3 H5 => wipe σ3 vs1 = wipe σ2 vs1 ∧ tt1 σ3 H5 fun b H6 =>
        if b = true then te σ3 H6 fun y H7 => ∃ acc, H7 D = some (.lst acc) ∧ acc.length < sizeLine ∧ Nx1 (L2.upd H7 D (.lst (acc ++ [y]))) else Nx1 H6) := by
  refine ⟨fun i m H => m = n - i ∧ i ≤ n ∧ Pv i H, ⟨n, rfl, Nat.zero_le _, h0⟩, fun i m H q => ?_⟩
  obtain ⟨rfl, le, p⟩ := q
  rcases Nat.lt_or_ge i n with lt | ge
  · exact .inr ⟨lt, Pv (i + 1), fun H' p' => ⟨n - (i + 1), by omega, rfl, lt, p'⟩, fun x H' y => by
      obtain ⟨rfl, rfl⟩ := y
      exact hs i _ lt p⟩
  · obtain rfl : i = n := Nat.le_antisymm le ge
    exact .inl ⟨ge, hd H p⟩
/-- the first rows of windows -/
def rowP (m f : Nat) : List (Int × Int) := (List.range (m + 1 - f)).map fun k => ((f : Int), ((f + k : Nat) : Int))
def prsN (m i : Nat) : List (Int × Int) := (List.range i).flatMap (rowP m)
theorem prsN_all (m : Nat) : prsN m (m + 1) = prs m := rfl
theorem prsN_succ (m i : Nat) : prsN m (i + 1) = prsN m i ++ rowP m i := by
  unfold prsN
  rw [List.range_succ, List.flatMap_append, List.flatMap_cons, List.flatMap_nil, List.append_nil]
theorem rowP_take {m f j : Nat} (h : j < m + 1 - f) : (rowP m f).take (j + 1) = (rowP m f).take j ++ [((f : Int), ((f + j : Nat) : Int))] := by
  unfold rowP
  rw [List.take_succ_eq_append_getElem (by rw [List.length_map, List.length_range]; exact h), List.getElem_map, List.getElem_range]
theorem prsN_len {m i : Nat} (h : m ≤ 20) (hi : i ≤ m + 1) : (prsN m i).length ≤ 300 := by
  have e : prs m = prsN m i ++ ((List.range (m + 1 - i)).map fun j => i + j).flatMap (rowP m) := by
    rw [← prsN_all]
    unfold prsN
    rw [← List.flatMap_append, ← List.range_add]
    congr 2
    omega
  have := prs_len m h
  rw [e, List.length_append] at this
  omega
theorem rowP_len {m f : Nat} : (rowP m f).length = m + 1 - f := by unfold rowP; rw [List.length_map, List.length_range]
/-- the least shape -/
theorem min_of : ∀ {ss : List Shp}, ss ≠ [] → ∃ r, MinOf ss r
  | [], h => absurd rfl h
  | [s], _ => ⟨rowS s, ⟨s, List.mem_cons_self .., rfl⟩, fun t ht => by rw [List.mem_singleton.mp ht]; exact List.le_refl _⟩
  | s :: t :: ss, _ => by
    obtain ⟨r, ⟨u, hu, hr⟩, hm⟩ := min_of (ss := t :: ss) (by simp)
    rcases List.le_total (rowS s) r with c | c
    · refine ⟨rowS s, ⟨s, List.mem_cons_self .., rfl⟩, fun w hw => ?_⟩
      rcases List.mem_cons.mp hw with e | e
      · rw [e]
        exact List.le_refl _
      · exact List.le_trans c (hm w e)
    · refine ⟨r, ⟨u, List.mem_cons_of_mem _ hu, hr⟩, fun w hw => ?_⟩
      rcases List.mem_cons.mp hw with e | e
      · rw [e]
        exact c
      · exact hm w e
theorem mins_of : ∀ {L : List (List Shp)}, [] ∉ L → ∃ rs, Each MinOf L rs
  | [], _ => ⟨[], .nil⟩
  | ss :: L, h => by
    obtain ⟨r, hr⟩ := min_of (ss := ss) fun e => h (e ▸ List.mem_cons_self ..)
    obtain ⟨rs, hrs⟩ := mins_of (L := L) fun e => h (List.mem_cons_of_mem _ e)
    exact ⟨r :: rs, .cons hr hrs⟩
theorem one_iff {ws : List (Int × Int)} {hs : List Int} (h : Asc ws hs) (hw : ∀ j, fstAt ws j ≤ lstAt ws j) : [] ∉ allSh ws [] (blksN ws hs) ↔ HasOne ws (List.range ws.length) := by
  constructor
  · intro q
    obtain ⟨rs, hr⟩ := mins_of q
    have B := told_best h hw hr
    exact ⟨_, B.1, B.2.1⟩
  · rintro ⟨q, h1, h2⟩ c
    exact told_none h hw c q h1 h2
/-! the law's own throws (k93) -/
theorem two_ix {y z : Nat} : ∀ {l : List Nat}, [y, z].Sublist l → ∃ i, l[i]? = some y ∧ z ∈ l.drop (i + 1)
  | [], h => by cases h
  | a :: l, h => by
    rcases two_sub.mp h with h | ⟨rfl, g⟩
    · obtain ⟨i, h1, h2⟩ := two_ix h
      exact ⟨i + 1, h1, h2⟩
    · exact ⟨0, rfl, g⟩
theorem three_ix {x y z : Nat} : ∀ {l : List Nat}, [x, y, z].Sublist l → ∃ i, l[i]? = some y ∧ x ∈ l.take i ∧ z ∈ l.drop (i + 1)
  | [], h => by cases h
  | a :: l, h => by
    rcases three_sub.mp h with h | ⟨rfl, g⟩
    · obtain ⟨i, h1, h2, h3⟩ := three_ix h
      exact ⟨i + 1, h1, List.mem_cons_of_mem _ h2, h3⟩
    · obtain ⟨i, h1, h2⟩ := two_ix g
      exact ⟨i + 1, h1, List.mem_cons_self .., h2⟩
theorem split_ix {l : List Nat} {i y : Nat} (h : l[i]? = some y) : l = l.take i ++ y :: l.drop (i + 1) := by
  obtain ⟨hl, e⟩ := List.getElem?_eq_some_iff.mp h
  rw [← e, ← List.drop_eq_getElem_cons hl, List.take_append_drop]
theorem ix_two {l : List Nat} {i y z : Nat} (h : l[i]? = some y) (hz : z ∈ l.drop (i + 1)) : [y, z].Sublist l := by
  rw [split_ix h]
  exact (List.Sublist.cons₂ y (one_sub.mpr hz)).trans (List.sublist_append_right ..)
theorem ix_three {l : List Nat} {i x y z : Nat} (h : l[i]? = some y) (hx : x ∈ l.take i) (hz : z ∈ l.drop (i + 1)) : [x, y, z].Sublist l := by
  rw [split_ix h]
  exact List.Sublist.append (l₁ := [x]) (one_sub.mpr hx) (List.Sublist.cons₂ y (one_sub.mpr hz))
theorem mem_drop_ix {l : List Nat} {n z : Nat} : z ∈ l.drop n ↔ ∃ j, n ≤ j ∧ l[j]? = some z := by
  rw [List.mem_iff_getElem?]
  constructor
  · rintro ⟨i, h⟩
    rw [List.getElem?_drop] at h
    exact ⟨n + i, by omega, h⟩
  · rintro ⟨j, h1, h2⟩
    exact ⟨j - n, by rw [List.getElem?_drop, show n + (j - n) = j by omega]; exact h2⟩
theorem mem_take_ix {l : List Nat} {n z : Nat} : z ∈ l.take n ↔ ∃ j, j < n ∧ l[j]? = some z := by
  rw [List.mem_iff_getElem?]
  constructor
  · rintro ⟨i, h⟩
    rw [List.getElem?_take] at h
    split at h
    · exact ⟨i, by assumption, h⟩
    · cases h
  · rintro ⟨j, h1, h2⟩
    exact ⟨j, by rw [List.getElem?_take, if_pos h1]; exact h2⟩
def OkP (ws : List (Int × Int)) (row : List Nat) (i j : Nat) : Prop := ∀ a b, row[i]? = some a → row[j]? = some b →
  (i < j → midW ws a ≤ midW ws b) ∧ (j < i → insW ws b a = true → ∀ c ∈ row.drop (i + 1), ¬ fstAt ws c < midW ws b - fstAt ws a) ∧ (i < j → insW ws b a = true → ∀ c ∈ row.take i, ¬ lstAt ws c > midW ws b - lstAt ws a)
theorem quiet_okp {ws : List (Int × Int)} {row : List Nat} : Quiet ws row ↔ ∀ i j, i < row.length → j < row.length → OkP ws row i j := by
  constructor
  · intro q i j _ _ a b ha hb
    refine ⟨fun h => q.M a b (ix_two ha (mem_drop_ix.mpr ⟨j, h, hb⟩)), fun h hi c hc k => ?_, fun h hi c hc k => ?_⟩
    · exact q.F b a c (ix_three ha (mem_take_ix.mpr ⟨j, h, hb⟩) hc) ⟨hi, k⟩
    · exact q.N c a b (ix_three ha hc (mem_drop_ix.mpr ⟨j, h, hb⟩)) ⟨hi, k⟩
  · intro q
    have lt : ∀ {i x : Nat}, row[i]? = some x → i < row.length := fun h => (List.getElem?_eq_some_iff.mp h).1
    refine ⟨fun x y s => ?_, fun x y z s k => ?_, fun x y z s k => ?_⟩
    · obtain ⟨i, h1, h2⟩ := two_ix s
      obtain ⟨j, h3, h4⟩ := mem_drop_ix.mp h2
      exact (q i j (lt h1) (lt h4) x y h1 h4).1 (by omega)
    · obtain ⟨i, h1, h2, h3⟩ := three_ix s
      obtain ⟨j, h4, h5⟩ := mem_take_ix.mp h2
      exact (q i j (lt h1) (lt h5) y x h1 h5).2.1 h4 k.1 z h3 k.2
    · obtain ⟨i, h1, h2, h3⟩ := three_ix s
      obtain ⟨j, h4, h5⟩ := mem_drop_ix.mp h3
      exact (q i j (lt h1) (lt h5) y z h1 h5).2.2 (by omega) k.1 x h2 k.2
theorem Ls.set {α : Type} {R : Hp → V → α → Prop} (T : TupR R) {H : Hp} {f : Addr} {v : V} {xs : List V} {ts : List α} {t : α} {i : Nat} (h : Ls R H f ts) (hx : H f = some (.lst xs)) (hr : R H v t) : Ls R (L2.upd H f (.lst (xs.set i v))) f (ts.set i t) := by
  obtain ⟨bs, h1, h2, h3⟩ := h
  have e1 : xs = bs.map (·.1) := by
    rw [hx] at h1
    injection h1 with h1
    injection h1
  refine ⟨bs.set i (v, t), by rw [upd_same, List.map_set, e1], fun p m => ?_, by rw [List.map_set, h3]⟩
  rcases List.mem_or_eq_of_mem_set m with m | m
  · exact T.upd (h2 p m) hx
  · rw [m]
    exact T.upd hr hx
theorem Ls.item {α : Type} {R : Hp → V → α → Prop} {H : Hp} {f : Addr} {xs : List V} {ts : List α} {i : Nat} (h : Ls R H f ts) (hx : H f = some (.lst xs)) (hi : i < ts.length) : ∃ v t, xs[i]? = some v ∧ ts[i]? = some t ∧ R H v t := by
  obtain ⟨bs, h1, h2, h3⟩ := h
  have e1 : xs = bs.map (·.1) := by
    rw [hx] at h1
    injection h1 with h1
    injection h1
  have hb : i < bs.length := by
    rw [← h3, List.length_map] at hi
    exact hi
  refine ⟨bs[i].1, bs[i].2, by rw [e1, List.getElem?_map, List.getElem?_eq_getElem hb] <;> rfl, by rw [← h3, List.getElem?_map, List.getElem?_eq_getElem hb] <;> rfl, h2 _ (List.getElem_mem hb)⟩
theorem wn_pairs {K : PySem.W.Frag} {H : Hp} : ∀ {bs : List (V × (Int × Int))}, (∀ p ∈ bs, WnAt K H p.1 p.2) → ∃ as : List Addr, bs.map (·.1) = as.map V.ref ∧ PairsAt K H as (bs.map (·.2))
  | [], _ => ⟨[], rfl, PairsAt.nil⟩
  | p :: bs, h => by
    obtain ⟨as, e, q⟩ := wn_pairs (bs := bs) fun q hq => h q (List.mem_cons_of_mem _ hq)
    obtain ⟨a, ea, ha⟩ := h p (List.mem_cons_self ..)
    refine ⟨a :: as, by rw [List.map_cons, List.map_cons, e, ea], ?_⟩
    exact PairsAt.append (as := [a]) (ps := [p.2]) (PairsAt.add (as := []) (ps := []) PairsAt.nil ha) q
/-! k93: pairs as data, shown; what stays -/
theorem sql_fresh {K : PySem.W.Frag} {H H2 : Hp} {a p : Addr} {xs : List V} (h : SqL K H a xs) (n : H p = none) (k : Kept p p H H2) : SqL K H2 a xs := by
  rcases h with (h | ⟨o, h⟩) | h
  · exact .inl (.inl (k _ _ (ne_of_none h n) (ne_of_none h n) h))
  · exact .inl (.inr ⟨o, k _ _ (ne_of_none h n) (ne_of_none h n) h⟩)
  · exact .inr h
theorem dpAll_wn {K : PySem.W.Frag} {H : Hp} : ∀ {bs : List (V × (Int × Int))}, (∀ p ∈ bs, WnAt K H p.1 p.2) → DpAll K H (bs.map (·.1)) ((bs.map (·.2)).map dPair)
  | [], _ => .nil
  | p :: bs, h => by
    obtain ⟨a, e, ha⟩ := h p (List.mem_cons_self ..)
    rw [List.map_cons, List.map_cons, List.map_cons, e]
    exact .cons (.tup ha (.cons (.int _) (.cons (.int _) .nil))) (dpAll_wn fun q hq => h q (List.mem_cons_of_mem _ hq))
theorem tgAll_wn {K : PySem.W.Frag} {H : Hp} : ∀ {bs : List (V × (Int × Int))}, (∀ p ∈ bs, WnAt K H p.1 p.2) → TgAll K H (bs.map (·.1)) ((bs.map (·.2)).map dPair)
  | [], _ => .nil
  | p :: bs, h => by
    obtain ⟨a, e, ha⟩ := h p (List.mem_cons_self ..)
    rw [List.map_cons, List.map_cons, List.map_cons, e]
    exact .cons (.tup ha (.cons (.int _) (.cons (.int _) .nil))) (tgAll_wn fun q hq => h q (List.mem_cons_of_mem _ hq))
theorem wn_dp {K : PySem.W.Frag} {H : Hp} {f : Addr} {qs : List (Int × Int)} (h : Ls (WnAt K) H f qs) : Dp K H (.ref f) (.list (qs.map dPair)) := by
  obtain ⟨bs, h1, h2, rfl⟩ := h
  exact .lst (SqL.of h1) (dpAll_wn h2)
theorem wn_tg {K : PySem.W.Frag} {H : Hp} {f : Addr} {qs : List (Int × Int)} (h : Ls (WnAt K) H f qs) : Tg K H (.ref f) (.list (qs.map dPair)) := by
  obtain ⟨bs, h1, h2, rfl⟩ := h
  exact .lst (SqL.of h1) (tgAll_wn h2)
theorem prs_facts : ∀ qs : List (Int × Int), (∀ q ∈ qs, 0 ≤ q.1 ∧ q.1 ≤ q.2 ∧ q.2 ≤ 1000) → bdAll (qs.map dPair) = true ∧ szAll (qs.map dPair) ≤ 3 * qs.length ∧ PyData.hasDictAll (qs.map dPair) = false ∧ PyData.depthAll (qs.map dPair) ≤ 1
  | [], _ => by simp [bdAll, szAll, PyData.hasDictAll, PyData.depthAll]
  | q :: qs, h => by
    obtain ⟨h1, h2, h3, h4⟩ := prs_facts qs fun j hj => h j (List.mem_cons_of_mem _ hj)
    obtain ⟨g1, g2, g3⟩ := h q (List.mem_cons_self ..)
    have b1 : decide (q.1.natAbs < 10 ^ 38) = true := decide_eq_true (by omega)
    have b2 : decide (q.2.natAbs < 10 ^ 38) = true := decide_eq_true (by omega)
    have e1 : bdD (dPair q) = true := by unfold dPair; simp only [bdD, bdAll, b1, b2, Bool.and_self]
    have e2 : szD (dPair q) ≤ 3 := by unfold dPair; simp [szD, szAll]
    have e3 : (dPair q).hasDict = false := by unfold dPair; simp [PyData.hasDict, PyData.hasDictAll]
    have e4 : (dPair q).depth ≤ 1 := by unfold dPair; simp [PyData.depth, PyData.depthAll]
    rw [List.map_cons, bdAll, szAll, PyData.hasDictAll, PyData.depthAll, h1, h3, e1, e3, List.length_cons]
    exact ⟨rfl, by omega, rfl, Nat.max_le.mpr ⟨e4, h4⟩⟩
theorem prs_shown {qs : List (Int × Int)} (h : ∀ q ∈ qs, 0 ≤ q.1 ∧ q.1 ≤ q.2 ∧ q.2 ≤ 1000) (hl : qs.length ≤ 1000) : dlD (.list (qs.map dPair)) = true ∧ (PyData.list (qs.map dPair)).showable = true ∧ (PyData.list (qs.map dPair)).depth ≤ 60 ∧ (PyData.list (qs.map dPair)).shown.length ≤ sizeLine := by
  obtain ⟨h2, h3, h4, h5⟩ := prs_facts qs h
  have hb : bdD (.list (qs.map dPair)) = true := by rw [bdD]; exact h2
  have hs := shown_le _ hb
  have e : szD (.list (qs.map dPair)) = szAll (qs.map dPair) + 1 := by rw [szD]
  have hd : (PyData.list (qs.map dPair)).depth ≤ 2 := by
    rw [PyData.depth]
    omega
  exact ⟨by rw [dlD, h4] <;> rfl, bd_showable _ hb, by omega, by rw [sizeLine_eq]; omega⟩
theorem mem_welc {ws : List (Int × Int)} {m : Nat} {q : Int × Int} (h : q ∈ welc ws m) : 0 ≤ q.1 ∧ q.1 ≤ q.2 ∧ q.2 ≤ m := mem_prs.mp (List.mem_filter.mp h).1
theorem welc_none {ws : List (Int × Int)} {m : Nat} (h : ¬ HasOne ws (List.range ws.length)) : welc ws m = [] := by
  unfold welc
  refine List.filter_eq_nil_iff.mpr fun q _ c => h (one_less (q := q) (oneB_iff.mp c))
theorem odd_most : ∀ {K : PySem.W.Frag} {H : Hp} {a l : Addr} {d : Int}, SqT K H a [.int 5] → SqL K H l [.int 5] → 0 ≤ d → d < 8 → ∃ v e, atI [.non, .int (-1), .int 21, .bl true, .str (Str.ofString "5"), .ref a, .int (10 ^ (30 : Int).toNat), .ref l] d = some v ∧ Rp K H v e ∧ MostOk e = false := fun {K H a l d} ha hl h0 h1 => by
  obtain ⟨j, rfl⟩ : ∃ j : Nat, d = (j : Int) := ⟨d.toNat, by omega⟩
  have hj : j < 8 := by omega
  match j, hj with
  | 0, _ => exact ⟨_, _, rfl, .non, rfl⟩
  | 1, _ => exact ⟨_, _, rfl, .int _, rfl⟩
  | 2, _ => exact ⟨_, _, rfl, .int _, rfl⟩
  | 3, _ => exact ⟨_, _, rfl, .bl _, rfl⟩
  | 4, _ => exact ⟨_, _, rfl, .str _, rfl⟩
  | 5, _ => exact ⟨_, _, rfl, .tup ha (.cons (.int _) .nil), rfl⟩
  | 6, _ => exact ⟨_, _, rfl, .int _, by decide +kernel⟩
  | 7, _ => exact ⟨_, _, rfl, .lst hl, rfl⟩
def wide9 : List (Int × Int) := (List.range 9).map fun k : Nat => ((k : Int), ((k : Int) + 3))
def widN (i : Nat) : List (Int × Int) := (List.range i).map fun k : Nat => ((0 : Int) + (k : Int), (0 : Int) + (k : Int) + 3)
theorem widN_succ (i : Nat) : widN (i + 1) = widN i ++ [((0 : Int) + (i : Int), (0 : Int) + (i : Int) + 3)] := by
  unfold widN
  rw [List.range_succ, List.map_append] <;> rfl
theorem widN_len (i : Nat) : (widN i).length = i := by unfold widN; rw [List.length_map, List.length_range]
theorem wn_push {K : PySem.W.Frag} {H : Hp} {D t : Addr} {a b : Int} {qs : List (Int × Int)} (h : Ls (WnAt K) H D qs) (nt : H t = none) : ∃ acc, (L2.upd H t (.tup [.int a, .int b])) D = some (.lst acc) ∧ acc.length = qs.length ∧
    Ls (WnAt K) (L2.upd (L2.upd H t (.tup [.int a, .int b])) D (.lst (acc ++ [.ref t]))) D (qs ++ [(a, b)]) := by
  have x : Ex H (L2.upd H t (.tup [.int a, .int b])) := Ex.new nt
  have h' := h.ext (wnAt K) x
  obtain ⟨acc, h1, h2⟩ := h'.at
  exact ⟨acc, h1, h2, h'.push (wnAt K) h1 ⟨t, rfl, SqT.of upd_same⟩⟩
theorem wn_win {K : PySem.W.Frag} {H : Hp} {f : Addr} {qs : List (Int × Int)} (h : Ls (WnAt K) H f qs) (hl : qs.length ≤ 1000) : ∃ vs, H f = some (.lst vs) ∧ ∀ w, H w = none → WinAt K (L2.upd H w (.tup vs)) w qs := by
  obtain ⟨bs, h1, h2, h3⟩ := h
  refine ⟨_, h1, fun w nw => ?_⟩
  have xw : Ex H (L2.upd H w (.tup (bs.map (·.1)))) := Ex.new nw
  obtain ⟨as, ea, pa⟩ := wn_pairs h2
  rw [h3] at pa
  rw [ea] at xw ⊢
  exact WinAt.of (SqT.of upd_same) (pa.mono xw) hl

def top (i : Nat) : Stmt := PySem.Challenge.pw_bymiddles_k93_whole_windows_that_are_wel.main.body.getD i (.Pass ⟨0, 0, 0, 0⟩)
abbrev s_BadBook_init : Stmt := (inClass (top 3) 0)
abbrev n_BadBook_init : List Str := ["self"]
abbrev p_BadBook_init : List Str := ["self"]
theorem sc_BadBook_init : FnScope n_BadBook_init p_BadBook_init (defScope s_BadBook_init) := ⟨rfl, rfl, rfl, by decide +kernel, rfl, by decide +kernel, by decide +kernel⟩
abbrev s_NoWork_init : Stmt := (inClass (top 4) 0)
abbrev n_NoWork_init : List Str := ["self"]
abbrev p_NoWork_init : List Str := ["self"]
theorem sc_NoWork_init : FnScope n_NoWork_init p_NoWork_init (defScope s_NoWork_init) := ⟨rfl, rfl, rfl, by decide +kernel, rfl, by decide +kernel, by decide +kernel⟩
abbrev s_NoNumber_init : Stmt := (inClass (top 5) 0)
abbrev n_NoNumber_init : List Str := ["self"]
abbrev p_NoNumber_init : List Str := ["self"]
theorem sc_NoNumber_init : FnScope n_NoNumber_init p_NoNumber_init (defScope s_NoNumber_init) := ⟨rfl, rfl, rfl, by decide +kernel, rfl, by decide +kernel, by decide +kernel⟩
abbrev s_TooMany_init : Stmt := (inClass (top 6) 0)
abbrev n_TooMany_init : List Str := ["self", "most"]
abbrev p_TooMany_init : List Str := ["self", "most"]
theorem sc_TooMany_init : FnScope n_TooMany_init p_TooMany_init (defScope s_TooMany_init) := ⟨rfl, rfl, rfl, by decide +kernel, rfl, by decide +kernel, by decide +kernel⟩
abbrev s_is_integer : Stmt := (top 8)
abbrev n_is_integer : List Str := ["thing"]
abbrev p_is_integer : List Str := ["thing"]
theorem sc_is_integer : FnScope n_is_integer p_is_integer (defScope s_is_integer) := ⟨rfl, rfl, rfl, by decide +kernel, rfl, by decide +kernel, by decide +kernel⟩
abbrev s_is_pair : Stmt := (top 9)
abbrev n_is_pair : List Str := ["thing"]
abbrev p_is_pair : List Str := ["thing"]
theorem sc_is_pair : FnScope n_is_pair p_is_pair (defScope s_is_pair) := ⟨rfl, rfl, rfl, by decide +kernel, rfl, by decide +kernel, by decide +kernel⟩
abbrev s_Book_init : Stmt := (inClass (top 13) 0)
abbrev n_Book_init : List Str := ["self", "windows"]
abbrev p_Book_init : List Str := ["self", "windows"]
theorem sc_Book_init : FnScope n_Book_init p_Book_init (defScope s_Book_init) := ⟨rfl, rfl, rfl, by decide +kernel, rfl, by decide +kernel, by decide +kernel⟩
abbrev s_is_windows : Stmt := (top 14)
abbrev n_is_windows : List Str := ["thing", "window"]
abbrev p_is_windows : List Str := ["thing"]
theorem sc_is_windows : FnScope n_is_windows p_is_windows (defScope s_is_windows) := ⟨rfl, rfl, rfl, by decide +kernel, rfl, by decide +kernel, by decide +kernel⟩
abbrev s_is_window : Stmt := (top 15)
abbrev n_is_window : List Str := ["thing", "first", "last"]
abbrev p_is_window : List Str := ["thing"]
theorem sc_is_window : FnScope n_is_window p_is_window (defScope s_is_window) := ⟨rfl, rfl, rfl, by decide +kernel, rfl, by decide +kernel, by decide +kernel⟩
abbrev s_unbounded : Stmt := (top 16)
abbrev n_unbounded : List Str := ["windows", "book"]
abbrev p_unbounded : List Str := ["windows"]
theorem sc_unbounded : FnScope n_unbounded p_unbounded (defScope s_unbounded) := ⟨rfl, rfl, rfl, by decide +kernel, rfl, by decide +kernel, by decide +kernel⟩
abbrev s_is_work : Stmt := (top 17)
abbrev n_is_work : List Str := ["book", "thing"]
abbrev p_is_work : List Str := ["book", "thing"]
theorem sc_is_work : FnScope n_is_work p_is_work (defScope s_is_work) := ⟨rfl, rfl, rfl, by decide +kernel, rfl, by decide +kernel, by decide +kernel⟩
abbrev s_middle : Stmt := (top 18)
abbrev n_middle : List Str := ["book", "work", "first", "last"]
abbrev p_middle : List Str := ["book", "work"]
theorem sc_middle : FnScope n_middle p_middle (defScope s_middle) := ⟨rfl, rfl, rfl, by decide +kernel, rfl, by decide +kernel, by decide +kernel⟩
abbrev s_is_inside : Stmt := (top 19)
abbrev n_is_inside : List Str := ["inner", "outer"]
abbrev p_is_inside : List Str := ["inner", "outer"]
theorem sc_is_inside : FnScope n_is_inside p_is_inside (defScope s_is_inside) := ⟨rfl, rfl, rfl, by decide +kernel, rfl, by decide +kernel, by decide +kernel⟩
abbrev s_shifted : Stmt := (top 20)
abbrev n_shifted : List Str := ["book", "by", "first", "last"]
abbrev p_shifted : List Str := ["book", "by"]
theorem sc_shifted : FnScope n_shifted p_shifted (defScope s_shifted) := ⟨rfl, rfl, rfl, by decide +kernel, rfl, by decide +kernel, by decide +kernel⟩
abbrev s_check_works : Stmt := (top 22)
abbrev n_check_works : List Str := ["book", "many"]
abbrev p_check_works : List Str := ["book", "many"]
theorem sc_check_works : FnScope n_check_works p_check_works (defScope s_check_works) := ⟨rfl, rfl, rfl, by decide +kernel, rfl, by decide +kernel, by decide +kernel⟩
abbrev s_thrown_over : Stmt := (top 25)
abbrev n_thrown_over : List Str := ["book", "ahead", "work", "behind", "own", "found", "b", "hour", "c"]
abbrev p_thrown_over : List Str := ["book", "ahead", "work", "behind"]
theorem sc_thrown_over : FnScope n_thrown_over p_thrown_over (defScope s_thrown_over) := ⟨rfl, rfl, rfl, by decide +kernel, rfl, by decide +kernel, by decide +kernel⟩
abbrev s_blocks : Stmt := (top 26)
abbrev n_blocks : List Str := ["book", "table", "work", "hour"]
abbrev p_blocks : List Str := ["book"]
theorem sc_blocks : FnScope n_blocks p_blocks (defScope s_blocks) := ⟨rfl, rfl, rfl, by decide +kernel, rfl, by decide +kernel, by decide +kernel⟩
abbrev s_joined_rows : Stmt := (top 27)
abbrev n_joined_rows : List Str := ["rows", "row", "work"]
abbrev p_joined_rows : List Str := ["rows"]
theorem sc_joined_rows : FnScope n_joined_rows p_joined_rows (defScope s_joined_rows) := ⟨rfl, rfl, rfl, by decide +kernel, rfl, by decide +kernel, by decide +kernel⟩
abbrev s_ends_of_block : Stmt := (top 28)
abbrev n_ends_of_block : List Str := ["outer"]
abbrev p_ends_of_block : List Str := ["outer"]
theorem sc_ends_of_block : FnScope n_ends_of_block p_ends_of_block (defScope s_ends_of_block) := ⟨rfl, rfl, rfl, by decide +kernel, rfl, by decide +kernel, by decide +kernel⟩
abbrev s_has_no_throw : Stmt := (top 29)
abbrev n_has_no_throw : List Str := ["book", "ahead", "works", "behind", "at", "work"]
abbrev p_has_no_throw : List Str := ["book", "ahead", "works", "behind"]
theorem sc_has_no_throw : FnScope n_has_no_throw p_has_no_throw (defScope s_has_no_throw) := ⟨rfl, rfl, rfl, by decide +kernel, rfl, by decide +kernel, by decide +kernel⟩
abbrev s_shapes_of : Stmt := (top 30)
abbrev n_shapes_of : List Str := ["book", "ahead", "block", "behind", "work", "greatest", "alike", "outer", "head", "tail", "shapes", "shape"]
abbrev p_shapes_of : List Str := ["book", "ahead", "block", "behind"]
theorem sc_shapes_of : FnScope n_shapes_of p_shapes_of (defScope s_shapes_of) := ⟨rfl, rfl, rfl, by decide +kernel, rfl, by decide +kernel, by decide +kernel⟩
abbrev s_row_of_shape : Stmt := (top 31)
abbrev n_row_of_shape : List Str := ["shape", "head", "alike", "tail"]
abbrev p_row_of_shape : List Str := ["shape"]
theorem sc_row_of_shape : FnScope n_row_of_shape p_row_of_shape (defScope s_row_of_shape) := ⟨rfl, rfl, rfl, by decide +kernel, rfl, by decide +kernel, by decide +kernel⟩
abbrev s_all_shapes : Stmt := (top 32)
abbrev n_all_shapes : List Str := ["book", "listed", "found", "ahead", "behind", "block"]
abbrev p_all_shapes : List Str := ["book"]
theorem sc_all_shapes : FnScope n_all_shapes p_all_shapes (defScope s_all_shapes) := ⟨rfl, rfl, rfl, by decide +kernel, rfl, by decide +kernel, by decide +kernel⟩
abbrev s_has_one_order : Stmt := (top 33)
abbrev n_has_one_order : List Str := ["book", "shapes"]
abbrev p_has_one_order : List Str := ["book"]
theorem sc_has_one_order : FnScope n_has_one_order p_has_one_order (defScope s_has_one_order) := ⟨rfl, rfl, rfl, by decide +kernel, rfl, by decide +kernel, by decide +kernel⟩
abbrev s_checked_shapes : Stmt := (top 34)
abbrev n_checked_shapes : List Str := ["book", "block"]
abbrev p_checked_shapes : List Str := ["book"]
theorem sc_checked_shapes : FnScope n_checked_shapes p_checked_shapes (defScope s_checked_shapes) := ⟨rfl, rfl, rfl, by decide +kernel, rfl, by decide +kernel, by decide +kernel⟩
abbrev s_many_of_block : Stmt := (top 35)
abbrev n_many_of_block : List Str := ["shapes", "head", "alike", "tail"]
abbrev p_many_of_block : List Str := ["shapes"]
theorem sc_many_of_block : FnScope n_many_of_block p_many_of_block (defScope s_many_of_block) := ⟨rfl, rfl, rfl, by decide +kernel, rfl, by decide +kernel, by decide +kernel⟩
abbrev s_many_of_all : Stmt := (top 36)
abbrev n_many_of_all : List Str := ["listed", "many", "shapes"]
abbrev p_many_of_all : List Str := ["listed"]
theorem sc_many_of_all : FnScope n_many_of_all p_many_of_all (defScope s_many_of_all) := ⟨rfl, rfl, rfl, by decide +kernel, rfl, by decide +kernel, by decide +kernel⟩
abbrev s_one_order : Stmt := (top 37)
abbrev n_one_order : List Str := ["book", "listed", "shape", "shapes"]
abbrev p_one_order : List Str := ["book"]
theorem sc_one_order : FnScope n_one_order p_one_order (defScope s_one_order) := ⟨rfl, rfl, rfl, by decide +kernel, rfl, by decide +kernel, by decide +kernel⟩
abbrev s_welcome : Stmt := (top 41)
abbrev n_welcome : List Str := ["book", "most", "first", "last", "windows", "window"]
abbrev p_welcome : List Str := ["book", "most"]
theorem sc_welcome : FnScope n_welcome p_welcome (defScope s_welcome) := ⟨rfl, rfl, rfl, by decide +kernel, rfl, by decide +kernel, by decide +kernel⟩
abbrev s_l_source : Stmt := (top 43)
abbrev n_l_source : List Str := ["_law_script", "_law_k", "_law_fold", "_law_item", "_law_cell"]
abbrev p_l_source : List Str := ["_law_script", "_law_k"]
theorem sc_l_source : FnScope n_l_source p_l_source (defScope s_l_source) := ⟨rfl, rfl, rfl, by decide +kernel, rfl, by decide +kernel, by decide +kernel⟩
abbrev s_l_draw : Stmt := (top 44)
abbrev n_l_draw : List Str := ["_law_source_here", "_law_many", "_law_got", "_law_number"]
abbrev p_l_draw : List Str := ["_law_source_here", "_law_many"]
theorem sc_l_draw : FnScope n_l_draw p_l_draw (defScope s_l_draw) := ⟨rfl, rfl, rfl, by decide +kernel, rfl, by decide +kernel, by decide +kernel⟩
abbrev s_l_lies_within : Stmt := (top 45)
abbrev n_l_lies_within : List Str := ["_law_one", "_law_other"]
abbrev p_l_lies_within : List Str := ["_law_one", "_law_other"]
theorem sc_l_lies_within : FnScope n_l_lies_within p_l_lies_within (defScope s_l_lies_within) := ⟨rfl, rfl, rfl, by decide +kernel, rfl, by decide +kernel, by decide +kernel⟩
abbrev s_l_is_thrown : Stmt := (top 46)
abbrev n_l_is_thrown : List Str := ["_law_windows", "_law_row", "_law_at", "_law_first", "_law_last", "_law_place", "_law_other", "_law_middle", "_law_third"]
abbrev p_l_is_thrown : List Str := ["_law_windows", "_law_row"]
theorem sc_l_is_thrown : FnScope n_l_is_thrown p_l_is_thrown (defScope s_l_is_thrown) := ⟨rfl, rfl, rfl, by decide +kernel, rfl, by decide +kernel, by decide +kernel⟩
abbrev s_l_rows : Stmt := (top 47)
abbrev n_l_rows : List Str := ["_law_works", "_law_found", "_law_turn", "_law_longer", "_law_row", "_law_work"]
abbrev p_l_rows : List Str := ["_law_works"]
theorem sc_l_rows : FnScope n_l_rows p_l_rows (defScope s_l_rows) := ⟨rfl, rfl, rfl, by decide +kernel, rfl, by decide +kernel, by decide +kernel⟩
abbrev s_l_due : Stmt := (top 48)
abbrev n_l_due : List Str := ["_law_windows", "_law_most", "_law_works", "_law_rows_here", "_law_found", "_law_first", "_law_last", "_law_more", "_law_row"]
abbrev p_l_due : List Str := ["_law_windows", "_law_most"]
theorem sc_l_due : FnScope n_l_due p_l_due (defScope s_l_due) := ⟨rfl, rfl, rfl, by decide +kernel, rfl, by decide +kernel, by decide +kernel⟩
abbrev s_l_word : Stmt := (top 49)
abbrev n_l_word : List Str := ["_law_book", "_law_most", "_law_word_here", "e"]
abbrev p_l_word : List Str := ["_law_book", "_law_most"]
theorem sc_l_word : FnScope n_l_word p_l_word (defScope s_l_word) := ⟨rfl, rfl, rfl, by decide +kernel, rfl, by decide +kernel, by decide +kernel⟩
abbrev s_l_early_windows : Stmt := (top 50)
abbrev n_l_early_windows : List Str := ["_law_source_here", "_law_many", "_law_hours", "_law_found", "_law_k", "_law_first", "_law_other", "_law_less"]
abbrev p_l_early_windows : List Str := ["_law_source_here", "_law_many", "_law_hours"]
theorem sc_l_early_windows : FnScope n_l_early_windows p_l_early_windows (defScope s_l_early_windows) := ⟨rfl, rfl, rfl, by decide +kernel, rfl, by decide +kernel, by decide +kernel⟩
abbrev s_law : Stmt := (top 51)
abbrev n_law : List Str := ["_law_script", "_law_turn", "_law_source_here", "_law_many", "_law_windows", "_law_most", "_law_book", "_law_due_here", "_law_told", "_law_less", "_law_window", "_law_first", "_law_last", "_law_later", "_law_number", "_law_k", "_law_wide", "_law_length", "_law_firsts"]
abbrev p_law : List Str := ["_law_script"]
theorem sc_law : FnScope n_law p_law (defScope s_law) := ⟨rfl, rfl, rfl, by decide +kernel, rfl, by decide +kernel, by decide +kernel⟩
structure Txt (K : PySem.W.Frag) (mg : Str → Option Value) (A : Ad) (D : Fd) : Prop where
  F_BadBook_init : Fun K "__init__" "BadBook.__init__" s_BadBook_init A.a_BadBook_init D.d_BadBook_init
  F_NoWork_init : Fun K "__init__" "NoWork.__init__" s_NoWork_init A.a_NoWork_init D.d_NoWork_init
  F_NoNumber_init : Fun K "__init__" "NoNumber.__init__" s_NoNumber_init A.a_NoNumber_init D.d_NoNumber_init
  F_TooMany_init : Fun K "__init__" "TooMany.__init__" s_TooMany_init A.a_TooMany_init D.d_TooMany_init
  F_is_integer : Fun K "is_integer" "is_integer" s_is_integer A.a_is_integer D.d_is_integer
  g_is_integer : mg "is_integer" = some (.ref A.a_is_integer)
  F_is_pair : Fun K "is_pair" "is_pair" s_is_pair A.a_is_pair D.d_is_pair
  g_is_pair : mg "is_pair" = some (.ref A.a_is_pair)
  F_Book_init : Fun K "__init__" "Book.__init__" s_Book_init A.a_Book_init D.d_Book_init
  F_is_windows : Fun K "is_windows" "is_windows" s_is_windows A.a_is_windows D.d_is_windows
  g_is_windows : mg "is_windows" = some (.ref A.a_is_windows)
  F_is_window : Fun K "is_window" "is_window" s_is_window A.a_is_window D.d_is_window
  g_is_window : mg "is_window" = some (.ref A.a_is_window)
  F_unbounded : Fun K "unbounded" "unbounded" s_unbounded A.a_unbounded D.d_unbounded
  g_unbounded : mg "unbounded" = some (.ref A.a_unbounded)
  F_is_work : Fun K "is_work" "is_work" s_is_work A.a_is_work D.d_is_work
  g_is_work : mg "is_work" = some (.ref A.a_is_work)
  F_middle : Fun K "middle" "middle" s_middle A.a_middle D.d_middle
  g_middle : mg "middle" = some (.ref A.a_middle)
  F_is_inside : Fun K "is_inside" "is_inside" s_is_inside A.a_is_inside D.d_is_inside
  g_is_inside : mg "is_inside" = some (.ref A.a_is_inside)
  F_shifted : Fun K "shifted" "shifted" s_shifted A.a_shifted D.d_shifted
  g_shifted : mg "shifted" = some (.ref A.a_shifted)
  F_check_works : Fun K "check_works" "check_works" s_check_works A.a_check_works D.d_check_works
  g_check_works : mg "check_works" = some (.ref A.a_check_works)
  F_thrown_over : Fun K "thrown_over" "thrown_over" s_thrown_over A.a_thrown_over D.d_thrown_over
  g_thrown_over : mg "thrown_over" = some (.ref A.a_thrown_over)
  F_blocks : Fun K "blocks" "blocks" s_blocks A.a_blocks D.d_blocks
  g_blocks : mg "blocks" = some (.ref A.a_blocks)
  F_joined_rows : Fun K "joined_rows" "joined_rows" s_joined_rows A.a_joined_rows D.d_joined_rows
  g_joined_rows : mg "joined_rows" = some (.ref A.a_joined_rows)
  F_ends_of_block : Fun K "ends_of_block" "ends_of_block" s_ends_of_block A.a_ends_of_block D.d_ends_of_block
  g_ends_of_block : mg "ends_of_block" = some (.ref A.a_ends_of_block)
  F_has_no_throw : Fun K "has_no_throw" "has_no_throw" s_has_no_throw A.a_has_no_throw D.d_has_no_throw
  g_has_no_throw : mg "has_no_throw" = some (.ref A.a_has_no_throw)
  F_shapes_of : Fun K "shapes_of" "shapes_of" s_shapes_of A.a_shapes_of D.d_shapes_of
  g_shapes_of : mg "shapes_of" = some (.ref A.a_shapes_of)
  F_row_of_shape : Fun K "row_of_shape" "row_of_shape" s_row_of_shape A.a_row_of_shape D.d_row_of_shape
  g_row_of_shape : mg "row_of_shape" = some (.ref A.a_row_of_shape)
  F_all_shapes : Fun K "all_shapes" "all_shapes" s_all_shapes A.a_all_shapes D.d_all_shapes
  g_all_shapes : mg "all_shapes" = some (.ref A.a_all_shapes)
  F_has_one_order : Fun K "has_one_order" "has_one_order" s_has_one_order A.a_has_one_order D.d_has_one_order
  g_has_one_order : mg "has_one_order" = some (.ref A.a_has_one_order)
  F_checked_shapes : Fun K "checked_shapes" "checked_shapes" s_checked_shapes A.a_checked_shapes D.d_checked_shapes
  g_checked_shapes : mg "checked_shapes" = some (.ref A.a_checked_shapes)
  F_many_of_block : Fun K "many_of_block" "many_of_block" s_many_of_block A.a_many_of_block D.d_many_of_block
  g_many_of_block : mg "many_of_block" = some (.ref A.a_many_of_block)
  F_many_of_all : Fun K "many_of_all" "many_of_all" s_many_of_all A.a_many_of_all D.d_many_of_all
  g_many_of_all : mg "many_of_all" = some (.ref A.a_many_of_all)
  F_one_order : Fun K "one_order" "one_order" s_one_order A.a_one_order D.d_one_order
  g_one_order : mg "one_order" = some (.ref A.a_one_order)
  F_welcome : Fun K "welcome" "welcome" s_welcome A.a_welcome D.d_welcome
  g_welcome : mg "welcome" = some (.ref A.a_welcome)
  F_l_source : Fun K "_law_source" "_law_source" s_l_source A.a_l_source D.d_l_source
  g_l_source : mg "_law_source" = some (.ref A.a_l_source)
  F_l_draw : Fun K "_law_draw" "_law_draw" s_l_draw A.a_l_draw D.d_l_draw
  g_l_draw : mg "_law_draw" = some (.ref A.a_l_draw)
  F_l_lies_within : Fun K "_law_lies_within" "_law_lies_within" s_l_lies_within A.a_l_lies_within D.d_l_lies_within
  g_l_lies_within : mg "_law_lies_within" = some (.ref A.a_l_lies_within)
  F_l_is_thrown : Fun K "_law_is_thrown" "_law_is_thrown" s_l_is_thrown A.a_l_is_thrown D.d_l_is_thrown
  g_l_is_thrown : mg "_law_is_thrown" = some (.ref A.a_l_is_thrown)
  F_l_rows : Fun K "_law_rows" "_law_rows" s_l_rows A.a_l_rows D.d_l_rows
  g_l_rows : mg "_law_rows" = some (.ref A.a_l_rows)
  F_l_due : Fun K "_law_due" "_law_due" s_l_due A.a_l_due D.d_l_due
  g_l_due : mg "_law_due" = some (.ref A.a_l_due)
  F_l_word : Fun K "_law_word" "_law_word" s_l_word A.a_l_word D.d_l_word
  g_l_word : mg "_law_word" = some (.ref A.a_l_word)
  F_l_early_windows : Fun K "_law_early_windows" "_law_early_windows" s_l_early_windows A.a_l_early_windows D.d_l_early_windows
  g_l_early_windows : mg "_law_early_windows" = some (.ref A.a_l_early_windows)
  F_law : Fun K "law" "law" s_law A.a_law D.d_law
  g_law : mg "law" = some (.ref A.a_law)
  g_BadBook : mg "BadBook" = some (.ref A.C_BadBook)
  g_NoWork : mg "NoWork" = some (.ref A.C_NoWork)
  g_NoNumber : mg "NoNumber" = some (.ref A.C_NoNumber)
  g_TooMany : mg "TooMany" = some (.ref A.C_TooMany)
  g_Book : mg "Book" = some (.ref A.C_Book)
  c_LATEST_WELCOME : ∃ u, mg "LATEST_WELCOME" = some (.int 20 u)
  c_MOST_HOUR : ∃ u, mg "MOST_HOUR" = some (.int 1000000 u)
  c_MOST_OF_ONE_MIDDLE : ∃ u, mg "MOST_OF_ONE_MIDDLE" = some (.int 8 u)
  c_MOST_WORKS : ∃ u, mg "MOST_WORKS" = some (.int 40 u)
  c_MOST_WORKS_HERE : ∃ u, mg "MOST_WORKS_HERE" = some (.int 8 u)
  n_all : mg "all" = none
  n_bool : mg "bool" = none
  n_enumerate : mg "enumerate" = none
  n_int : mg "int" = none
  n_isinstance : mg "isinstance" = none
  n_len : mg "len" = none
  n_list : mg "list" = none
  n_max : mg "max" = none
  n_min : mg "min" = none
  n_range : mg "range" = none
  n_repr : mg "repr" = none
  n_sorted : mg "sorted" = none
  n_sum : mg "sum" = none
  n_tuple : mg "tuple" = none
  cl_Book : Cls K A.C_Book
  na_windows : NoAttr K A.C_Book "windows"
  mk_Book : Mk K A.C_Book A.a_Book_init
  e_NoWork : OexC K A.C_NoWork
  i_NoWork : PySem.W.findIn K (.ref A.C_NoWork) "__init__" = some (some (.ref A.a_NoWork_init))
  t_NoWork : PySem.W.typeIn K (.ref A.a_NoWork_init) = some (.type "function")
  m_NoWork : PySem.W.exmOne K (.ref A.C_NoWork) (.ref A.C_NoWork) = some true
  e_BadBook : OexC K A.C_BadBook
  i_BadBook : PySem.W.findIn K (.ref A.C_BadBook) "__init__" = some (some (.ref A.a_BadBook_init))
  t_BadBook : PySem.W.typeIn K (.ref A.a_BadBook_init) = some (.type "function")
  m_BadBook : PySem.W.exmOne K (.ref A.C_BadBook) (.ref A.C_BadBook) = some true
  e_NoNumber : OexC K A.C_NoNumber
  i_NoNumber : PySem.W.findIn K (.ref A.C_NoNumber) "__init__" = some (some (.ref A.a_NoNumber_init))
  t_NoNumber : PySem.W.typeIn K (.ref A.a_NoNumber_init) = some (.type "function")
  m_NoNumber : PySem.W.exmOne K (.ref A.C_NoNumber) (.ref A.C_NoNumber) = some true
  e_TooMany : OexC K A.C_TooMany
  i_TooMany : PySem.W.findIn K (.ref A.C_TooMany) "__init__" = some (some (.ref A.a_TooMany_init))
  t_TooMany : PySem.W.typeIn K (.ref A.a_TooMany_init) = some (.type "function")
  m_TooMany : PySem.W.exmOne K (.ref A.C_TooMany) (.ref A.C_TooMany) = some true
  mn_TooMany : PySem.W.exmOne K (.ref A.C_TooMany) (.ref A.C_NoNumber) = some false
  xf_TooMany : XfC K A.C_TooMany
  nf_TooMany : PySem.W.findIn K (.ref A.C_TooMany) "most" = some none
  m_factorial : mg "factorial" = some (.builtin "math.factorial")
section
variable {P : Program} {w : World} {K : PySem.W.Frag} {mg : Str → Option Value} {base : Heap} {A : Ad} {D : Fd}
theorem k_BadBook_init (T : Txt K mg A D) : PySem.W.keepIn K (.ref A.a_BadBook_init) = true := T.F_BadBook_init.kp
theorem b_BadBook_init (T : Txt K mg A D) : Binds K D.d_BadBook_init p_BadBook_init [] := T.F_BadBook_init.binds (ps := p_BadBook_init) fun _ _ _ _ _ _ us hl => match us, hl with | [_], _ => rfl
theorem k_NoWork_init (T : Txt K mg A D) : PySem.W.keepIn K (.ref A.a_NoWork_init) = true := T.F_NoWork_init.kp
theorem b_NoWork_init (T : Txt K mg A D) : Binds K D.d_NoWork_init p_NoWork_init [] := T.F_NoWork_init.binds (ps := p_NoWork_init) fun _ _ _ _ _ _ us hl => match us, hl with | [_], _ => rfl
theorem k_NoNumber_init (T : Txt K mg A D) : PySem.W.keepIn K (.ref A.a_NoNumber_init) = true := T.F_NoNumber_init.kp
theorem b_NoNumber_init (T : Txt K mg A D) : Binds K D.d_NoNumber_init p_NoNumber_init [] := T.F_NoNumber_init.binds (ps := p_NoNumber_init) fun _ _ _ _ _ _ us hl => match us, hl with | [_], _ => rfl
theorem k_TooMany_init (T : Txt K mg A D) : PySem.W.keepIn K (.ref A.a_TooMany_init) = true := T.F_TooMany_init.kp
theorem b_TooMany_init (T : Txt K mg A D) : Binds K D.d_TooMany_init p_TooMany_init [] := T.F_TooMany_init.binds (ps := p_TooMany_init) fun _ _ _ _ _ _ us hl => match us, hl with | [_, _], _ => rfl
theorem k_is_integer (T : Txt K mg A D) : PySem.W.keepIn K (.ref A.a_is_integer) = true := T.F_is_integer.kp
theorem b_is_integer (T : Txt K mg A D) : Binds K D.d_is_integer p_is_integer [] := T.F_is_integer.binds (ps := p_is_integer) fun _ _ _ _ _ _ us hl => match us, hl with | [_], _ => rfl
theorem k_is_pair (T : Txt K mg A D) : PySem.W.keepIn K (.ref A.a_is_pair) = true := T.F_is_pair.kp
theorem b_is_pair (T : Txt K mg A D) : Binds K D.d_is_pair p_is_pair [] := T.F_is_pair.binds (ps := p_is_pair) fun _ _ _ _ _ _ us hl => match us, hl with | [_], _ => rfl
theorem k_Book_init (T : Txt K mg A D) : PySem.W.keepIn K (.ref A.a_Book_init) = true := T.F_Book_init.kp
theorem b_Book_init (T : Txt K mg A D) : Binds K D.d_Book_init p_Book_init [] := T.F_Book_init.binds (ps := p_Book_init) fun _ _ _ _ _ _ us hl => match us, hl with | [_, _], _ => rfl
theorem k_is_windows (T : Txt K mg A D) : PySem.W.keepIn K (.ref A.a_is_windows) = true := T.F_is_windows.kp
theorem b_is_windows (T : Txt K mg A D) : Binds K D.d_is_windows p_is_windows [] := T.F_is_windows.binds (ps := p_is_windows) fun _ _ _ _ _ _ us hl => match us, hl with | [_], _ => rfl
theorem k_is_window (T : Txt K mg A D) : PySem.W.keepIn K (.ref A.a_is_window) = true := T.F_is_window.kp
theorem b_is_window (T : Txt K mg A D) : Binds K D.d_is_window p_is_window [] := T.F_is_window.binds (ps := p_is_window) fun _ _ _ _ _ _ us hl => match us, hl with | [_], _ => rfl
theorem k_unbounded (T : Txt K mg A D) : PySem.W.keepIn K (.ref A.a_unbounded) = true := T.F_unbounded.kp
theorem b_unbounded (T : Txt K mg A D) : Binds K D.d_unbounded p_unbounded [] := T.F_unbounded.binds (ps := p_unbounded) fun _ _ _ _ _ _ us hl => match us, hl with | [_], _ => rfl
theorem k_is_work (T : Txt K mg A D) : PySem.W.keepIn K (.ref A.a_is_work) = true := T.F_is_work.kp
theorem b_is_work (T : Txt K mg A D) : Binds K D.d_is_work p_is_work [] := T.F_is_work.binds (ps := p_is_work) fun _ _ _ _ _ _ us hl => match us, hl with | [_, _], _ => rfl
theorem k_middle (T : Txt K mg A D) : PySem.W.keepIn K (.ref A.a_middle) = true := T.F_middle.kp
theorem b_middle (T : Txt K mg A D) : Binds K D.d_middle p_middle [] := T.F_middle.binds (ps := p_middle) fun _ _ _ _ _ _ us hl => match us, hl with | [_, _], _ => rfl
theorem k_is_inside (T : Txt K mg A D) : PySem.W.keepIn K (.ref A.a_is_inside) = true := T.F_is_inside.kp
theorem b_is_inside (T : Txt K mg A D) : Binds K D.d_is_inside p_is_inside [] := T.F_is_inside.binds (ps := p_is_inside) fun _ _ _ _ _ _ us hl => match us, hl with | [_, _], _ => rfl
theorem k_shifted (T : Txt K mg A D) : PySem.W.keepIn K (.ref A.a_shifted) = true := T.F_shifted.kp
theorem b_shifted (T : Txt K mg A D) : Binds K D.d_shifted p_shifted [] := T.F_shifted.binds (ps := p_shifted) fun _ _ _ _ _ _ us hl => match us, hl with | [_, _], _ => rfl
theorem k_check_works (T : Txt K mg A D) : PySem.W.keepIn K (.ref A.a_check_works) = true := T.F_check_works.kp
theorem b_check_works (T : Txt K mg A D) : Binds K D.d_check_works p_check_works [] := T.F_check_works.binds (ps := p_check_works) fun _ _ _ _ _ _ us hl => match us, hl with | [_, _], _ => rfl
theorem k_thrown_over (T : Txt K mg A D) : PySem.W.keepIn K (.ref A.a_thrown_over) = true := T.F_thrown_over.kp
theorem b_thrown_over (T : Txt K mg A D) : Binds K D.d_thrown_over p_thrown_over [] := T.F_thrown_over.binds (ps := p_thrown_over) fun _ _ _ _ _ _ us hl => match us, hl with | [_, _, _, _], _ => rfl
theorem k_blocks (T : Txt K mg A D) : PySem.W.keepIn K (.ref A.a_blocks) = true := T.F_blocks.kp
theorem b_blocks (T : Txt K mg A D) : Binds K D.d_blocks p_blocks [] := T.F_blocks.binds (ps := p_blocks) fun _ _ _ _ _ _ us hl => match us, hl with | [_], _ => rfl
theorem k_joined_rows (T : Txt K mg A D) : PySem.W.keepIn K (.ref A.a_joined_rows) = true := T.F_joined_rows.kp
theorem b_joined_rows (T : Txt K mg A D) : Binds K D.d_joined_rows p_joined_rows [] := T.F_joined_rows.binds (ps := p_joined_rows) fun _ _ _ _ _ _ us hl => match us, hl with | [_], _ => rfl
theorem k_ends_of_block (T : Txt K mg A D) : PySem.W.keepIn K (.ref A.a_ends_of_block) = true := T.F_ends_of_block.kp
theorem b_ends_of_block (T : Txt K mg A D) : Binds K D.d_ends_of_block p_ends_of_block [] := T.F_ends_of_block.binds (ps := p_ends_of_block) fun _ _ _ _ _ _ us hl => match us, hl with | [_], _ => rfl
theorem k_has_no_throw (T : Txt K mg A D) : PySem.W.keepIn K (.ref A.a_has_no_throw) = true := T.F_has_no_throw.kp
theorem b_has_no_throw (T : Txt K mg A D) : Binds K D.d_has_no_throw p_has_no_throw [] := T.F_has_no_throw.binds (ps := p_has_no_throw) fun _ _ _ _ _ _ us hl => match us, hl with | [_, _, _, _], _ => rfl
theorem k_shapes_of (T : Txt K mg A D) : PySem.W.keepIn K (.ref A.a_shapes_of) = true := T.F_shapes_of.kp
theorem b_shapes_of (T : Txt K mg A D) : Binds K D.d_shapes_of p_shapes_of [] := T.F_shapes_of.binds (ps := p_shapes_of) fun _ _ _ _ _ _ us hl => match us, hl with | [_, _, _, _], _ => rfl
theorem k_row_of_shape (T : Txt K mg A D) : PySem.W.keepIn K (.ref A.a_row_of_shape) = true := T.F_row_of_shape.kp
theorem b_row_of_shape (T : Txt K mg A D) : Binds K D.d_row_of_shape p_row_of_shape [] := T.F_row_of_shape.binds (ps := p_row_of_shape) fun _ _ _ _ _ _ us hl => match us, hl with | [_], _ => rfl
theorem k_all_shapes (T : Txt K mg A D) : PySem.W.keepIn K (.ref A.a_all_shapes) = true := T.F_all_shapes.kp
theorem b_all_shapes (T : Txt K mg A D) : Binds K D.d_all_shapes p_all_shapes [] := T.F_all_shapes.binds (ps := p_all_shapes) fun _ _ _ _ _ _ us hl => match us, hl with | [_], _ => rfl
theorem k_has_one_order (T : Txt K mg A D) : PySem.W.keepIn K (.ref A.a_has_one_order) = true := T.F_has_one_order.kp
theorem b_has_one_order (T : Txt K mg A D) : Binds K D.d_has_one_order p_has_one_order [] := T.F_has_one_order.binds (ps := p_has_one_order) fun _ _ _ _ _ _ us hl => match us, hl with | [_], _ => rfl
theorem k_checked_shapes (T : Txt K mg A D) : PySem.W.keepIn K (.ref A.a_checked_shapes) = true := T.F_checked_shapes.kp
theorem b_checked_shapes (T : Txt K mg A D) : Binds K D.d_checked_shapes p_checked_shapes [] := T.F_checked_shapes.binds (ps := p_checked_shapes) fun _ _ _ _ _ _ us hl => match us, hl with | [_], _ => rfl
theorem k_many_of_block (T : Txt K mg A D) : PySem.W.keepIn K (.ref A.a_many_of_block) = true := T.F_many_of_block.kp
theorem b_many_of_block (T : Txt K mg A D) : Binds K D.d_many_of_block p_many_of_block [] := T.F_many_of_block.binds (ps := p_many_of_block) fun _ _ _ _ _ _ us hl => match us, hl with | [_], _ => rfl
theorem k_many_of_all (T : Txt K mg A D) : PySem.W.keepIn K (.ref A.a_many_of_all) = true := T.F_many_of_all.kp
theorem b_many_of_all (T : Txt K mg A D) : Binds K D.d_many_of_all p_many_of_all [] := T.F_many_of_all.binds (ps := p_many_of_all) fun _ _ _ _ _ _ us hl => match us, hl with | [_], _ => rfl
theorem k_one_order (T : Txt K mg A D) : PySem.W.keepIn K (.ref A.a_one_order) = true := T.F_one_order.kp
theorem b_one_order (T : Txt K mg A D) : Binds K D.d_one_order p_one_order [] := T.F_one_order.binds (ps := p_one_order) fun _ _ _ _ _ _ us hl => match us, hl with | [_], _ => rfl
theorem k_welcome (T : Txt K mg A D) : PySem.W.keepIn K (.ref A.a_welcome) = true := T.F_welcome.kp
theorem b_welcome (T : Txt K mg A D) : Binds K D.d_welcome p_welcome [] := T.F_welcome.binds (ps := p_welcome) fun _ _ _ _ _ _ us hl => match us, hl with | [_, _], _ => rfl
theorem k_l_source (T : Txt K mg A D) : PySem.W.keepIn K (.ref A.a_l_source) = true := T.F_l_source.kp
theorem b_l_source (T : Txt K mg A D) : Binds K D.d_l_source p_l_source [] := T.F_l_source.binds (ps := p_l_source) fun _ _ _ _ _ _ us hl => match us, hl with | [_, _], _ => rfl
theorem k_l_draw (T : Txt K mg A D) : PySem.W.keepIn K (.ref A.a_l_draw) = true := T.F_l_draw.kp
theorem b_l_draw (T : Txt K mg A D) : Binds K D.d_l_draw p_l_draw [] := T.F_l_draw.binds (ps := p_l_draw) fun _ _ _ _ _ _ us hl => match us, hl with | [_, _], _ => rfl
theorem k_l_lies_within (T : Txt K mg A D) : PySem.W.keepIn K (.ref A.a_l_lies_within) = true := T.F_l_lies_within.kp
theorem b_l_lies_within (T : Txt K mg A D) : Binds K D.d_l_lies_within p_l_lies_within [] := T.F_l_lies_within.binds (ps := p_l_lies_within) fun _ _ _ _ _ _ us hl => match us, hl with | [_, _], _ => rfl
theorem k_l_is_thrown (T : Txt K mg A D) : PySem.W.keepIn K (.ref A.a_l_is_thrown) = true := T.F_l_is_thrown.kp
theorem b_l_is_thrown (T : Txt K mg A D) : Binds K D.d_l_is_thrown p_l_is_thrown [] := T.F_l_is_thrown.binds (ps := p_l_is_thrown) fun _ _ _ _ _ _ us hl => match us, hl with | [_, _], _ => rfl
theorem k_l_rows (T : Txt K mg A D) : PySem.W.keepIn K (.ref A.a_l_rows) = true := T.F_l_rows.kp
theorem b_l_rows (T : Txt K mg A D) : Binds K D.d_l_rows p_l_rows [] := T.F_l_rows.binds (ps := p_l_rows) fun _ _ _ _ _ _ us hl => match us, hl with | [_], _ => rfl
theorem k_l_due (T : Txt K mg A D) : PySem.W.keepIn K (.ref A.a_l_due) = true := T.F_l_due.kp
theorem b_l_due (T : Txt K mg A D) : Binds K D.d_l_due p_l_due [] := T.F_l_due.binds (ps := p_l_due) fun _ _ _ _ _ _ us hl => match us, hl with | [_, _], _ => rfl
theorem k_l_word (T : Txt K mg A D) : PySem.W.keepIn K (.ref A.a_l_word) = true := T.F_l_word.kp
theorem b_l_word (T : Txt K mg A D) : Binds K D.d_l_word p_l_word [] := T.F_l_word.binds (ps := p_l_word) fun _ _ _ _ _ _ us hl => match us, hl with | [_, _], _ => rfl
theorem k_l_early_windows (T : Txt K mg A D) : PySem.W.keepIn K (.ref A.a_l_early_windows) = true := T.F_l_early_windows.kp
theorem b_l_early_windows (T : Txt K mg A D) : Binds K D.d_l_early_windows p_l_early_windows [] := T.F_l_early_windows.binds (ps := p_l_early_windows) fun _ _ _ _ _ _ us hl => match us, hl with | [_, _, _], _ => rfl
theorem k_law (T : Txt K mg A D) : PySem.W.keepIn K (.ref A.a_law) = true := T.F_law.kp
theorem b_law (T : Txt K mg A D) : Binds K D.d_law p_law [] := T.F_law.binds (ps := p_law) fun _ _ _ _ _ _ us hl => match us, hl with | [_], _ => rfl
end
section
variable {P : Program} {w : World} {K : PySem.W.Frag} {mg : Str → Option Value} {base : Heap} {A : Ad} {D : Fd}
theorem ok_BadBook_init (T : Txt K mg A D) : FnOk P w K mg base CX0 1 A.a_BadBook_init D.d_BadBook_init p_BadBook_init (sp_BadBook_init K A) := by
  refine T.F_BadBook_init.ok sc_BadBook_init (fun vs H Q E h => ?_) (fun cdv Ar outer s H vs Q E hr h => ?_)
  · (obtain ⟨a, rfl, _⟩ := h; rfl)
  · have hu := hu_of hr
    refine ⟨_, (pss_one ps_pass), ?_⟩
    obtain ⟨a, rfl, k⟩ := h
    exact k
theorem ok_NoWork_init (T : Txt K mg A D) : FnOk P w K mg base CX0 1 A.a_NoWork_init D.d_NoWork_init p_NoWork_init (sp_NoWork_init K A) := by
  refine T.F_NoWork_init.ok sc_NoWork_init (fun vs H Q E h => ?_) (fun cdv Ar outer s H vs Q E hr h => ?_)
  · (obtain ⟨a, rfl, _⟩ := h; rfl)
  · have hu := hu_of hr
    refine ⟨_, (pss_one ps_pass), ?_⟩
    obtain ⟨a, rfl, k⟩ := h
    exact k
theorem ok_NoNumber_init (T : Txt K mg A D) : FnOk P w K mg base CX0 1 A.a_NoNumber_init D.d_NoNumber_init p_NoNumber_init (sp_NoNumber_init K A) := by
  refine T.F_NoNumber_init.ok sc_NoNumber_init (fun vs H Q E h => ?_) (fun cdv Ar outer s H vs Q E hr h => ?_)
  · (obtain ⟨a, rfl, _⟩ := h; rfl)
  · have hu := hu_of hr
    refine ⟨_, (pss_one ps_pass), ?_⟩
    obtain ⟨a, rfl, k⟩ := h
    exact k
theorem ok_TooMany_init (T : Txt K mg A D) : FnOk P w K mg base CX0 1 A.a_TooMany_init D.d_TooMany_init p_TooMany_init (sp_TooMany_init K A) := by
  refine T.F_TooMany_init.ok sc_TooMany_init (fun vs H Q E h => ?_) (fun cdv Ar outer s H vs Q E hr h => ?_)
  · (obtain ⟨a, C, v, rfl, _⟩ := h; rfl)
  · have hu := hu_of hr
    refine ⟨_, (pss_one (ps_ost (pv 0) (pv 1))), ?_⟩
    obtain ⟨a, C, v, rfl, T1, hno, ha, k⟩ := h
    exact ⟨_, rfl, _, rfl, a, C, rfl, T1, hno, .inl ⟨ha, fun dx n ne => k dx n ne⟩⟩
theorem ok_is_integer (T : Txt K mg A D) : FnOk P w K mg base CX0 1 A.a_is_integer D.d_is_integer p_is_integer (sp_is_integer K A) := by
  refine T.F_is_integer.ok sc_is_integer (fun vs H Q E h => ?_) (fun cdv Ar outer s H vs Q E hr h => ?_)
  · exact h.len
  · have hu := hu_of hr
    refine ⟨_, (pss_one (ps_ret (pe_and (pe_callB call_isi (by rfl) T.n_isinstance (by decide +kernel) (pa_cons (pv 0) (pa_cons (pe_bltn (v := .ty "int") (by rfl) T.n_int (by decide +kernel) rfl) pa_nil))) (pe_one (pe_not (pe_callB call_isi (by rfl) T.n_isinstance (by decide +kernel) (pa_cons (pv 0) (pa_cons (pe_bltn (v := .ty "bool") (by rfl) T.n_bool (by decide +kernel) rfl) pa_nil)))))))), ?_⟩
    obtain ⟨x, rfl, d, hR, k⟩ := h.ex
    obtain ⟨t, hty, hi, hb, _⟩ := hR.ty
    refine ⟨_, rfl, _, _, _, _, _, rfl, ClsV.ty _, hty, hi, _, rfl, ?_⟩
    have fin := k H (Ex.refl H)
    rw [← isZ_eq] at fin
    cases e : isI d with
    | true =>
      rw [e] at fin
      exact iteT ⟨_, rfl, _, _, _, _, _, rfl, ClsV.ty _, hty, hb, _, rfl, fin⟩
    | false =>
      rw [e] at fin
      exact iteF fin
theorem ok_is_pair (T : Txt K mg A D) : FnOk P w K mg base CX0 1 A.a_is_pair D.d_is_pair p_is_pair (sp_is_pair K A) := by
  refine T.F_is_pair.ok sc_is_pair (fun vs H Q E h => ?_) (fun cdv Ar outer s H vs Q E hr h => ?_)
  · exact h.len
  · have hu := hu_of hr
    refine ⟨_, (pss_one (ps_ret (pe_and (pe_callB call_isi (by rfl) T.n_isinstance (by decide +kernel) (pa_cons (pv 0) (pa_cons (pe_bltn (v := .ty "tuple") (by rfl) T.n_tuple (by decide +kernel) rfl) pa_nil))) (pe_one (pe_cmpR op_eq (pe_callB call_len_seq (by rfl) T.n_len (by decide +kernel) (pa_cons (pv 0) pa_nil)) pe_int (nomark _)))))), ?_⟩
    obtain ⟨x, rfl, d, hR, k⟩ := h.ex
    obtain ⟨t, hty, _, _, hT⟩ := hR.ty
    have fin := k H (Ex.refl H)
    refine ⟨_, rfl, _, _, _, _, _, rfl, ClsV.ty _, hty, hT, _, rfl, ?_⟩
    cases hR with
    | @tup a xs ds hs r =>
      refine iteT ⟨_, rfl, _, _, rfl, .inr hs, rfl, ?_⟩
      have e : (decide (V.int (xs.length : Int) = V.int 2)) = decide (ds.length = 2) := by
        rw [r.length]
        apply decide_eq_decide.mpr
        constructor
        · intro z
          injection z with z
          omega
        · intro z
          rw [z] <;> rfl
      show Q (.bl (decide (V.int (xs.length : Int) = V.int 2))) H
      rw [e]
      exact fin
    | _ => exact iteF fin
theorem ok_is_window (T : Txt K mg A D) : FnOk P w K mg base CX0 2 A.a_is_window D.d_is_window p_is_window (sp_is_window K A) := by
  have G_is_pair := ok_is_pair (P := P) (w := w) (base := base) T
  have G_is_integer := ok_is_integer (P := P) (w := w) (base := base) T
  obtain ⟨u_MOST_HOUR, c_MOST_HOUR⟩ := T.c_MOST_HOUR
  refine T.F_is_window.ok sc_is_window (fun vs H Q E h => ?_) (fun cdv Ar outer s H vs Q E hr h => ?_)
  · exact h.len
  · have hu := hu_of hr
    refine ⟨_, (pss_cons (ps_if (pt_not (pt_val (pe_call G_is_pair (hr.mono (by decide)) rfl T.g_is_pair (k_is_pair T) (b_is_pair T) .nil pass0 (pa_cons (pv 0) pa_nil)))) (pss_one (ps_ret pe_bl)) pss_nil) (pss_cons (ps_asg (pv 0) (pg_tup rfl (pgs_cons (pg_name (i := 1) sc_is_window.nd rfl (Or.inl rfl)) (pgs_cons (pg_name (i := 2) sc_is_window.nd rfl (Or.inl rfl)) pgs_nil)))) (pss_one (ps_ret (pe_and (pe_call G_is_integer (hr.mono (by decide)) rfl T.g_is_integer (k_is_integer T) (b_is_integer T) .nil pass0 (pa_cons (pv 1) pa_nil)) (pe_and (pe_call G_is_integer (hr.mono (by decide)) rfl T.g_is_integer (k_is_integer T) (b_is_integer T) .nil pass0 (pa_cons (pv 2) pa_nil)) (pe_one (pe_chain3 op_le op_le op_le pe_int (pv 1) (pv 2) (pe_glob (v := .int 1000000) rfl c_MOST_HOUR ⟨_, rfl⟩))))))))), ?_⟩
    obtain ⟨x, rfl, d, hR, k⟩ := h.ex
    -- not is_pair(thing)
    refine ⟨_, rfl, ⟨_, rfl, d, hR, fun H1 e1 => ⟨_, rfl, ?_⟩⟩⟩
    cases hp : pairD d with
    | false =>
      have e : winD d = false := by
        cases d with
        | tup ds =>
          cases ds with
          | nil => rfl
          | cons u r =>
            cases r with
            | nil => cases u <;> rfl
            | cons v r2 =>
              cases r2 with
              | nil => simp [pairD] at hp
              | cons z r3 => cases u <;> cases v <;> rfl
        | _ => rfl
      rw [e] at k
      exact iteT (k H1 e1)
    | true =>
      refine iteF ?_
      cases hR with
      | @tup a xs ds hs r =>
        have hl : ds.length = 2 := by simpa [pairD] using hp
        cases r with
        | nil => cases hl
        | @cons u us d1 ds1 h1 r1 =>
          cases r1 with
          | nil => cases hl
          | @cons v vs d2 ds2 h2 r2 =>
            cases r2 with
            | cons _ _ => simp at hl
            | nil =>
              refine ⟨_, rfl, a, _, rfl, ex_t e1 hs, rfl, _, _, rfl, _, _, rfl, rfl, ?_⟩
              -- is_integer(first) and is_integer(last) and 0 <= first <= last <= MOST_HOUR
              refine ⟨_, rfl, ⟨_, rfl, d1, h1.mono e1, fun H2 e2 => ⟨_, rfl, ?_⟩⟩⟩
              have e12 := e1.trans e2
              cases h1 with
              | int f =>
                refine iteT ⟨_, rfl, ⟨_, rfl, d2, h2.mono e12, fun H3 e3 => ⟨_, rfl, ?_⟩⟩⟩
                have e13 := e12.trans e3
                cases h2 with
                | int l =>
                  refine iteT ⟨_, rfl, _, _, rfl, rfl, _, rfl, ?_⟩
                  have fin := k H3 e13
                  by_cases c1 : 0 ≤ f
                  · rw [decide_eq_true c1]
                    refine iteT ⟨_, rfl, _, _, rfl, rfl, _, rfl, ?_⟩
                    by_cases c2 : f ≤ l
                    · rw [decide_eq_true c2]
                      refine iteT ⟨_, _, rfl, rfl, ?_⟩
                      have e : winD (.tup [.int f, .int l]) = decide (l ≤ 1000000) := by simp [winD, c1, c2]
                      rw [e] at fin
                      exact fin
                    · rw [decide_eq_false c2]
                      have e : winD (.tup [.int f, .int l]) = false := by simp [winD, c2]
                      rw [e] at fin
                      exact iteF fin
                  · rw [decide_eq_false c1]
                    have e : winD (.tup [.int f, .int l]) = false := by simp [winD, c1]
                    rw [e] at fin
                    exact iteF fin
                | _ => exact iteF (k H3 e13)
              | _ => exact iteF (k H2 e12)
      | _ => cases hp
theorem ok_is_windows (T : Txt K mg A D) : FnOk P w K mg base CX0 3 A.a_is_windows D.d_is_windows p_is_windows (sp_is_windows K A) := by
  have G_is_window := ok_is_window (P := P) (w := w) (base := base) T
  obtain ⟨u_MOST_WORKS, c_MOST_WORKS⟩ := T.c_MOST_WORKS
  refine T.F_is_windows.ok sc_is_windows (fun vs H Q E h => ?_) (fun cdv Ar outer s H vs Q E hr h => ?_)
  · exact h.len
  · have hu := hu_of hr
    refine ⟨_, (pss_cons (ps_if (PW.pt (pw_or (pt_not (pt_val (pe_callB call_isi (by rfl) T.n_isinstance (by decide +kernel) (pa_cons (pv 0) (pa_cons (pe_bltn (v := .ty "tuple") (by rfl) T.n_tuple (by decide +kernel) rfl) pa_nil))))) (pw_or1 (pt_not (pt_chain op_le op_le pe_int (pe_callB call_len_seq (by rfl) T.n_len (by decide +kernel) (pa_cons (pv 0) pa_nil)) (pe_glob (v := .int 40) rfl c_MOST_WORKS ⟨_, rfl⟩)))))) (pss_one (ps_ret pe_bl)) pss_nil) (pss_one (ps_ret (pe_callB (cr_all rfl) (by rfl) T.n_all (by decide +kernel) (pa_cons (pe_lc (own := [("window", 1)]) (g := (gName 1)) (tt := tYes) rfl sc_is_windows.nd (pi_tup (pv 0)) (blkOk_by (own := [("window", 1)]) (N := n_is_windows) (sc := defScope s_is_windows) (by decide +kernel)) (fun _ _ _ _ _ => (pg_name (i := 1) sc_is_windows.nd rfl (Or.inl rfl))) (fun _ _ _ _ _ => pts_nil) (fun _ _ _ _ _ => (pe_call G_is_window (hr.mono (by decide)) rfl T.g_is_window (k_is_window T) (b_is_window T) .nil pass0 (pa_cons (pv 1) pa_nil)))) pa_nil))))), ?_⟩
    obtain ⟨x, rfl, d, hR, k⟩ := h.ex
    obtain ⟨t, hty, _, _, hT⟩ := hR.ty
    refine ⟨_, rfl, _, _, _, _, _, rfl, ClsV.ty _, hty, hT, _, rfl, ?_⟩
    cases hR with
    | @tup a xs ds hs r =>
      refine iteF ?_
      -- 1 <= len(thing) <= MOST_WORKS
      refine ⟨_, rfl, _, _, rfl, .inr hs, _, _, rfl, rfl, _, rfl, ?_⟩
      have hl := r.length
      by_cases c1 : (1 : Int) ≤ (xs.length : Int)
      · rw [decide_eq_true c1]
        refine iteT ⟨_, _, rfl, rfl, _, rfl, ?_⟩
        by_cases c2 : (xs.length : Int) ≤ 40
        · rw [decide_eq_true c2]
          refine iteF ?_
          -- all([is_window(window) for window in thing])
          refine ⟨_, rfl, a, rfl, ⟨_, hs⟩, fun D hD => lc_tup (K := K) (a := a) (xs := xs) (fun i H' => H' D = some (.lst ((ds.take i).map fun u => V.bl (winD u))) ∧ Ex H H') ⟨upd_same, Ex.new hD⟩ (fun i H' _ p => ex_t p.2 hs) ?_ ?_⟩
          · rintro i y H' hi ⟨p1, p2⟩
            obtain ⟨u, hu, hy⟩ := r.get hi
            have hil := (List.getElem?_eq_some_iff.mp hi).1
            refine ⟨rfl, _, rfl, ⟨_, rfl, u, hy.mono p2, fun H2 e2 => ⟨_, e2 _ _ p1, small1000 (by rw [List.length_map, List.length_take]; omega), ?_, (p2.trans e2).mut hD⟩⟩⟩
            have e : ds.take (i + 1) = ds.take i ++ [u] := by
              have hi2 := (List.getElem?_eq_some_iff.mp hu).1
              have hu2 := (List.getElem?_eq_some_iff.mp hu).2
              rw [List.take_succ_eq_append_getElem hi2, hu2]
            rw [upd_same, e, List.map_append] <;> rfl
          · rintro H' ⟨p1, p2⟩
            have fin := k H' p2
            have e : winsD (.tup ds) = ((ds.map winD).all id) := by
              simp only [winsD, List.all_map]
              have a1 : 1 ≤ ds.length := by omega
              have a2 : ds.length ≤ 40 := by omega
              simp [a1, a2]
            rw [e] at fin
            refine ⟨D, ds.map winD, rfl, SqL.of ?_, fin⟩
            rw [p1, hl, List.take_length, List.map_map] <;> rfl
        · rw [decide_eq_false c2]
          have e : winsD (.tup ds) = false := by
            have a2 : ¬ ds.length ≤ 40 := by omega
            simp [winsD, a2]
          rw [e] at k
          exact iteT (k _ (Ex.refl _))
      · rw [decide_eq_false c1]
        have e : winsD (.tup ds) = false := by
          have a1 : ¬ 1 ≤ ds.length := by omega
          simp only [winsD, decide_eq_false a1]
          rfl
        rw [e] at k
        exact iteF ⟨_, rfl, iteT (k _ (Ex.refl _))⟩
    | _ => exact iteT (k _ (Ex.refl _))
theorem ok_Book_init (T : Txt K mg A D) : FnOk P w K mg base (L2.CX P w) 4 A.a_Book_init D.d_Book_init p_Book_init (sp_Book_init K A) := by
  have G_is_windows := ok_is_windows (P := P) (w := w) (base := base) T
  have G_BadBook_init := ok_BadBook_init (P := P) (w := w) (base := base) T
  refine T.F_Book_init.okX sc_Book_init (fun vs H Q E h => ?_) (fun cdv Ar outer s H vs Q E hr h => ?_)
  · exact h.len
  · have hu := hu_of hr
    refine ⟨_, (pss_cons (ps_if (pt_not (pt_val (pe_call G_is_windows (hr.mono (by decide)) rfl T.g_is_windows (k_is_windows T) (b_is_windows T) .nil pass0 (pa_cons (pv 1) pa_nil)))) (pss_one (ps_raise rfl (takes_of rfl rfl rfl rfl) (pmk_oex0 T.e_BadBook T.i_BadBook T.t_BadBook G_BadBook_init (hr.mono (by decide)) (b_BadBook_init T) pass0 rfl T.g_BadBook))) pss_nil) (pss_one (ps_fld (pv 0) (pv 1) rfl))), ?_⟩
    obtain ⟨x, y, rfl, p, dx, d, rfl, hp, hR, kQ, kE⟩ := h.ex
    refine ⟨_, rfl, ⟨_, rfl, d, hR, fun H1 e1 => ⟨_, rfl, ?_⟩⟩⟩
    cases hd : winsD d with
    | false => exact iteT (kE hd H1 e1)
    | true => exact iteF ⟨_, rfl, _, rfl, p, A.C_Book, dx, _, rfl, e1 _ _ hp, T.cl_Book, T.na_windows, (by show 0 < 1000; decide), kQ hd H1 e1⟩
theorem ok_unbounded (T : Txt K mg A D) : FnOk P w K mg base CX0 6 A.a_unbounded D.d_unbounded p_unbounded (sp_unbounded K A) := by
  have G_Book_init := ok_Book_init (P := P) (w := w) (base := base) T
  refine T.F_unbounded.ok sc_unbounded (fun vs H Q E h => ?_) (fun cdv Ar outer s H vs Q E hr h => ?_)
  · exact h.len
  · have hu := hu_of hr
    refine ⟨_, (pss_cons (ps_set (i := 1) sc_unbounded.nd rfl (Or.inl rfl) (pe_make T.mk_Book G_Book_init (hr.mono (by decide)) (by rfl) T.g_Book (b_Book_init T) .nil (passes_call takes0 (fun _ _ _ _ h => h)) (pa_cons (pe_tup (pa_cons (pe_tup (pa_cons pe_int (pa_cons pe_int pa_nil))) pa_nil)) pa_nil))) (pss_cons (ps_fld (pv 1) (pe_callTy call_tuple_of (by rfl) T.n_tuple (by decide +kernel) (pa_cons (pv 0) pa_nil)) rfl) (pss_one (ps_ret (pv 1))))), ?_⟩
    obtain ⟨x, rfl, l, as, ws, rfl, hl, hp, hle, k⟩ := h.ex
    refine ⟨(by show 2 ≤ sizeLine; decide), fun t1 n1 => ⟨(by show 1 ≤ sizeLine; decide), fun t2 n2 => fun b dx nb ndx nbx => ?_⟩⟩
    have xa : Ex H (L2.upd (L2.upd H t1 (.tup [.int 0, .int 0])) t2 (.tup [.ref t1])) := (Ex.new n1).trans (Ex.new n2)
    have h2 : (L2.upd (L2.upd H t1 (.tup [.int 0, .int 0])) t2 (.tup [.ref t1])) t2 = some (.tup [.ref t1]) := upd_same
    have h1 : (L2.upd (L2.upd H t1 (.tup [.int 0, .int 0])) t2 (.tup [.ref t1])) t1 = some (.tup [.int 0, .int 0]) := (Ex.new n2) _ _ upd_same
    generalize L2.upd (L2.upd H t1 (.tup [.int 0, .int 0])) t2 (.tup [.ref t1]) = H2 at xa h2 h1 nb ndx
    have xb : Ex H2 (L2.upd (L2.upd H2 dx (HO.own b)) b (HO.ins A.C_Book dx [])) := (Ex.new ndx).trans (Ex.new (by rw [upd_ne nbx.symm]; exact nb))
    have bH : H b = none := free_ex xa nb
    refine ⟨_, _, rfl, b, dx, .tup [.tup [.int 0, .int 0]], rfl, upd_same, ?_, fun _ H6 e6 => ⟨rfl, ?_⟩, fun hf => absurd hf (by decide)⟩
    · exact .tup (SqT.of (xb _ _ h2)) (.cons (.tup (SqT.of (xb _ _ h1)) (.cons (.int _) (.cons (.int _) .nil))) .nil)
    have e26 : Ex H2 (L2.upd H6 b (.ins A.C_Book dx [("windows", .ref t2)])) := Ex.mut (xb.trans e6) nb
    have eH := xa.trans e26
    have hb6 : (L2.upd H6 b (.ins A.C_Book dx [("windows", .ref t2)])) b = some (.ins A.C_Book dx [("windows", .ref t2)]) := upd_same
    show tSeq _ _ _ _ (L2.upd H6 b (.ins A.C_Book dx [("windows", .ref t2)]))
    generalize L2.upd H6 b (.ins A.C_Book dx [("windows", .ref t2)]) = H7 at e26 eH hb6
    have fin : ∀ (w : Addr) (H8 : Hp), Ex H7 H8 → SqT K H8 w (as.map V.ref) → Q (.ref b) (L2.upd H8 b (.ins A.C_Book dx [("windows", .ref w)])) := by
      intro w H8 e8 hw
      have hb8 : H8 b = some (.ins A.C_Book dx [("windows", .ref t2)]) := e8 _ _ hb6
      have sw : ∀ {a : Addr} {xs : List V}, SqT K H8 a xs → SqT K (L2.upd H8 b (.ins A.C_Book dx [("windows", .ref w)])) a xs := by
        intro a xs q
        have ne : ∀ {o : HO}, H8 a = some o → (∀ C d f, o ≠ .ins C d f) → a ≠ b := fun {o} e n z => by
          rw [z, hb8] at e
          exact n _ _ _ (Option.some.inj e).symm
        rcases q with (q | ⟨o, q⟩) | q
        · exact .inl (.inl (by rw [upd_ne (ne q (fun _ _ _ z => by cases z))]; exact q))
        · exact .inl (.inr ⟨o, by rw [upd_ne (ne q (fun _ _ _ z => by cases z))]; exact q⟩)
        · exact .inr q
      have p8 := hp.mono (eH.trans e8)
      refine k b w _ bH (fun a o q => ?_) ⟨dx, upd_same⟩ (WinAt.of (sw hw) ⟨p8.1, fun i a q x y => sw (p8.2 i a q x y)⟩ hle)
      have ne : a ≠ b := fun z => by
        rw [z, bH] at q
        cases q
      rw [upd_ne ne]
      exact e8 _ _ (eH _ _ q)
    rcases hl with hl | hl
    · refine ⟨_, rfl, l, _, rfl, .inl ⟨ex_l eH hl, fun w nw => ?_⟩⟩
      have xw : Ex H7 (L2.upd H7 w (.tup (as.map V.ref))) := Ex.new nw
      exact ⟨_, rfl, b, A.C_Book, dx, _, rfl, xw _ _ hb6, T.cl_Book, T.na_windows, (by show 1 < 1000; decide), _, rfl, fin w _ xw (SqT.of upd_same)⟩
    · refine ⟨_, rfl, l, _, rfl, .inr ⟨ex_t eH hl, ?_⟩⟩
      exact ⟨_, rfl, b, A.C_Book, dx, _, rfl, hb6, T.cl_Book, T.na_windows, (by show 1 < 1000; decide), _, rfl, fin l _ (Ex.refl _) (ex_t eH hl)⟩
theorem ok_shifted (T : Txt K mg A D) : FnOk P w K mg base (L2.CX P w) 7 A.a_shifted D.d_shifted p_shifted (sp_shifted K A) := by
  have G_unbounded := ok_unbounded (P := P) (w := w) (base := base) T
  have G_NoNumber_init := ok_NoNumber_init (P := P) (w := w) (base := base) T
  have G_is_integer := ok_is_integer (P := P) (w := w) (base := base) T
  refine T.F_shifted.okX sc_shifted (fun vs H Q E h => ?_) (fun cdv Ar outer s H vs Q E hr h => ?_)
  · exact h.len
  · have hu := hu_of hr
    refine ⟨_, (pss_cons (ps_if (PW.pt (pw_or (pt_not (pt_val (pe_call G_is_integer (hr.mono (by decide)) rfl T.g_is_integer (k_is_integer T) (b_is_integer T) .nil pass0 (pa_cons (pv 1) pa_nil)))) (pw_or1 (pt_cmpR op_lt (pe_op op_add (pe_callB (cr_min rfl) (by rfl) T.n_min (by decide +kernel) (pa_cons (pe_lc (own := [("first", 2), ("last", 3)]) (g := (gTup K 2 (gCons (gName 2) (gCons (gName 3) gNil)))) (tt := tYes) rfl sc_shifted.nd (pi_tup (pe_fld (pv 0) rfl)) (blkOk_by (own := [("first", 2), ("last", 3)]) (N := n_shifted) (sc := defScope s_shifted) (by decide +kernel)) (fun _ _ _ _ _ => (pg_tup rfl (pgs_cons (pg_name (i := 2) sc_shifted.nd rfl (Or.inl rfl)) (pgs_cons (pg_name (i := 3) sc_shifted.nd rfl (Or.inl rfl)) pgs_nil)))) (fun _ _ _ _ _ => pts_nil) (fun _ _ _ _ _ => (pv 2))) pa_nil)) (pv 1)) pe_int (nomark _))))) (pss_one (ps_raise rfl (takes_of rfl rfl rfl rfl) (pmk_oex0 T.e_NoNumber T.i_NoNumber T.t_NoNumber G_NoNumber_init (hr.mono (by decide)) (b_NoNumber_init T) pass0 rfl T.g_NoNumber))) pss_nil) (pss_one (ps_ret (pe_call G_unbounded (hr.mono (by decide)) rfl T.g_unbounded (k_unbounded T) (b_unbounded T) .nil pass0 (pa_cons (pe_lc (own := [("first", 2), ("last", 3)]) (g := (gTup K 2 (gCons (gName 2) (gCons (gName 3) gNil)))) (tt := tYes) rfl sc_shifted.nd (pi_tup (pe_fld (pv 0) rfl)) (blkOk_by (own := [("first", 2), ("last", 3)]) (N := n_shifted) (sc := defScope s_shifted) (by decide +kernel)) (fun _ _ _ _ _ => (pg_tup rfl (pgs_cons (pg_name (i := 2) sc_shifted.nd rfl (Or.inl rfl)) (pgs_cons (pg_name (i := 3) sc_shifted.nd rfl (Or.inl rfl)) pgs_nil)))) (fun _ _ _ _ _ => pts_nil) (fun _ _ _ _ _ => (pe_tup (pa_cons (pe_op op_add (pv 2) (pv 1)) (pa_cons (pe_op op_add (pv 3) (pv 1)) pa_nil))))) pa_nil))))), ?_⟩
    obtain ⟨x, y, rfl, b, w0, ws, d, rfl, hb, hW, hpos, hR, kE, k⟩ := h.ex
    obtain ⟨wle, was, w1, w2, w3⟩ := id hW
    refine ⟨_, rfl, ⟨_, rfl, d, hR, fun H1 e1 => ⟨_, rfl, ?_⟩⟩⟩
    cases hR with
    | int z =>
      refine iteF ?_
      obtain ⟨dx, hb0⟩ := hb.mono e1
      refine ⟨_, rfl, b, A.C_Book, dx, _, _, rfl, hb0, T.cl_Book, T.na_windows, by simp [List.lookup], w0, rfl, ⟨_, ex_t e1 w1⟩, fun D hD => lc_tup (K := K) (a := w0) (xs := was.map V.ref) (fun i H' => H' D = some (.lst (((ws.take i).map Prod.fst).map V.int)) ∧ Ex H1 H') ⟨upd_same, Ex.new hD⟩ (fun i H' _ p => ex_t (e1.trans p.2) w1) ?_ ?_⟩
      · rintro i y H' hi ⟨p1, p2⟩
        obtain ⟨a, q, rfl, hq, et, hil, _⟩ := win_step w2 w3 hi
        refine ⟨a, _, rfl, ex_t (e1.trans p2) hq, rfl, _, _, rfl, _, _, rfl, rfl, rfl, ?_⟩
        exact ⟨_, rfl, _, p1, small1000 (by rw [List.length_map, List.length_map, List.length_take]; omega), by rw [upd_same, et, List.map_append, List.map_append] <;> rfl, p2.mut hD⟩
      · rintro H2 ⟨p1, p2⟩
        rw [List.length_map, w2, List.take_length] at p1
        refine ⟨D, _, rfl, SqL.of p1, by rw [List.length_map]; exact hpos, fun m hm hle => ?_⟩
        have e2 := e1.trans p2
        have ed : byD ws (.int z) = !decide (m + z < 0) := by
          rw [Bool.eq_iff_iff, Bool.not_eq_true', decide_eq_false_iff_not]
          simp only [byD, List.all_eq_true, decide_eq_true_eq]
          constructor
          · intro hq
            obtain ⟨q, h1, h2⟩ := List.mem_map.mp hm
            have := hq q h1
            have e : q.1 = m := h2
            omega
          · intro hn q hq
            have : m ≤ q.1 := hle _ (List.mem_map_of_mem hq)
            omega
        refine ⟨_, rfl, _, _, rfl, rfl, _, _, rfl, rfl, _, rfl, ?_⟩
        by_cases c : m + z < 0
        · rw [decide_eq_true c] at ed
          rw [decide_eq_true c]
          exact iteT (kE ed H2 e2)
        · rw [decide_eq_false c] at ed
          rw [decide_eq_false c]
          refine iteF ?_
          obtain ⟨dx, hb0⟩ := hb.mono e2
          refine ⟨_, rfl, b, A.C_Book, dx, _, _, rfl, hb0, T.cl_Book, T.na_windows, by simp [List.lookup], w0, rfl, ⟨_, ex_t e2 w1⟩, fun D hD => lc_tup (K := K) (a := w0) (xs := was.map V.ref) (fun i H' => ∃ ps : List Addr, H' D = some (.lst (ps.map V.ref)) ∧ PairsAt K H' ps (shW z (ws.take i)) ∧ Ex H2 H') ⟨[], upd_same, PairsAt.nil, Ex.new hD⟩ (fun i H' _ ⟨_, _, _, p⟩ => ex_t (e2.trans p) w1) ?_ ?_⟩
          · rintro i y H' hi ⟨ps, p1, p2, p3⟩
            obtain ⟨a, q, rfl, hq, et, hil, _⟩ := win_step w2 w3 hi
            refine ⟨a, _, rfl, ex_t (e2.trans p3) hq, rfl, _, _, rfl, _, _, rfl, rfl, rfl, ?_⟩
            refine ⟨_, rfl, _, rfl, _, _, rfl, rfl, _, rfl, _, rfl, _, _, rfl, rfl, (by show 2 ≤ sizeLine; decide), fun t nt => ?_⟩
            have x2 : Ex H' (L2.upd H' t (.tup [.int (q.1 + z), .int (q.2 + z)])) := Ex.new nt
            have hl := p2.1
            rw [shW_len, List.length_take] at hl
            refine ⟨_, x2 _ _ p1, small1000 (by rw [List.length_map]; omega), ps ++ [t], by rw [upd_same, List.map_append] <;> rfl, ?_, (p3.trans x2).mut hD⟩
            have e : shW z (ws.take (i + 1)) = shW z (ws.take i) ++ [(q.1 + z, q.2 + z)] := by
              unfold shW
              rw [et, List.map_append] <;> rfl
            rw [e]
            exact ((p2.mono x2).add (SqT.of upd_same)).upd (x2 _ _ p1)
          · rintro H' ⟨ps, p1, p2, p3⟩
            rw [List.length_map, w2, List.take_length] at p2
            exact ⟨_, rfl, D, ps, _, rfl, .inl (SqL.of p1), p2, by rw [shW_len]; exact wle, fun b2 w2 H3 n2 e3 hb2 hw2 => k z rfl ed b2 w2 H3 (free_ex (e2.trans p3) n2) ((e2.trans p3).trans e3) hb2 hw2⟩
    | _ => exact iteT (kE rfl H1 e1)
theorem ok_is_work (T : Txt K mg A D) : FnOk P w K mg base CX0 2 A.a_is_work D.d_is_work p_is_work (sp_is_work K A) := by
  have G_is_integer := ok_is_integer (P := P) (w := w) (base := base) T
  refine T.F_is_work.ok sc_is_work (fun vs H Q E h => ?_) (fun cdv Ar outer s H vs Q E hr h => ?_)
  · exact h.len
  · have hu := hu_of hr
    refine ⟨_, (pss_one (ps_ret (pe_and (pe_call G_is_integer (hr.mono (by decide)) rfl T.g_is_integer (k_is_integer T) (b_is_integer T) .nil pass0 (pa_cons (pv 1) pa_nil)) (pe_one (pe_chain op_le op_lt pe_int (pv 1) (pe_callB call_len_seq (by rfl) T.n_len (by decide +kernel) (pa_cons (pe_fld (pv 0) rfl) pa_nil))))))), ?_⟩
    obtain ⟨x, y, rfl, b, w0, ws, d, rfl, ⟨dx, hb⟩, hW, hR, k⟩ := h.ex
    refine ⟨_, rfl, ⟨_, rfl, d, hR, fun H1 e1 => ⟨_, rfl, ?_⟩⟩⟩
    cases hR with
    | int z =>
      obtain ⟨as, h1, h2, _⟩ := hW.ex
      have fin := k H1 e1
      refine iteT ⟨_, rfl, _, _, rfl, rfl, _, rfl, ?_⟩
      by_cases c1 : 0 ≤ z
      · rw [decide_eq_true c1]
        refine iteT ⟨_, rfl, b, A.C_Book, dx, _, _, rfl, e1 _ _ hb, T.cl_Book, T.na_windows, by simp [List.lookup], _, _, rfl, .inr (ex_t e1 h1), _, _, rfl, rfl, ?_⟩
        have e : workD ws.length (.int z) = decide (z < ((as.map V.ref).length : Int)) := by
          rw [List.length_map, h2]
          simp [workD, c1]
        rw [e] at fin
        exact fin
      · rw [decide_eq_false c1]
        have e : workD ws.length (.int z) = false := by simp [workD, c1]
        rw [e] at fin
        exact iteF fin
    | _ => exact iteF (k H1 e1)
theorem ok_middle (T : Txt K mg A D) : FnOk P w K mg base (L2.CX P w) 3 A.a_middle D.d_middle p_middle (sp_middle K A) := by
  have G_is_work := ok_is_work (P := P) (w := w) (base := base) T
  have G_NoWork_init := ok_NoWork_init (P := P) (w := w) (base := base) T
  refine T.F_middle.okX sc_middle (fun vs H Q E h => ?_) (fun cdv Ar outer s H vs Q E hr h => ?_)
  · exact h.len
  · have hu := hu_of hr
    refine ⟨_, (pss_cons (ps_if (pt_not (pt_val (pe_call G_is_work (hr.mono (by decide)) rfl T.g_is_work (k_is_work T) (b_is_work T) .nil pass0 (pa_cons (pv 0) (pa_cons (pv 1) pa_nil))))) (pss_one (ps_raise rfl (takes_of rfl rfl rfl rfl) (pmk_oex0 T.e_NoWork T.i_NoWork T.t_NoWork G_NoWork_init (hr.mono (by decide)) (b_NoWork_init T) pass0 rfl T.g_NoWork))) pss_nil) (pss_cons (ps_asg (pe_ix ix_tup (pe_fld (pv 0) rfl) (pv 1) (fun _ _ => rfl)) (pg_tup rfl (pgs_cons (pg_name (i := 2) sc_middle.nd rfl (Or.inl rfl)) (pgs_cons (pg_name (i := 3) sc_middle.nd rfl (Or.inl rfl)) pgs_nil)))) (pss_one (ps_ret (pe_op op_add (pv 2) (pv 3)))))), ?_⟩
    obtain ⟨x, y, rfl, b, w0, ws, d, rfl, hb, hW, hR, kE, kQ⟩ := h.ex
    refine ⟨_, rfl, _, rfl, ⟨_, _, rfl, b, w0, ws, d, rfl, hb, hW, hR, fun H1 e1 => ⟨_, rfl, ?_⟩⟩⟩
    cases hd : workD ws.length d with
    | false => exact iteT (kE hd H1 e1)
    | true =>
      refine iteF ?_
      obtain ⟨i, rfl, hi⟩ := workD_int hd
      have k := kQ i rfl hi
      obtain ⟨dx, hb⟩ := hb
      obtain ⟨as, h1, h2, h3⟩ := hW.ex
      obtain ⟨a, g1, g2⟩ := WinAt.item h2 h3 hi
      cases hR
      refine ⟨_, rfl, b, A.C_Book, dx, _, _, rfl, e1 _ _ hb, T.cl_Book, T.na_windows, by simp [List.lookup], _, rfl, w0, _, _, _, rfl, rfl, ex_t e1 h1, atI_of g1, ?_⟩
      exact ⟨a, _, rfl, ex_t e1 g2, rfl, _, _, rfl, _, _, rfl, rfl, _, rfl, _, rfl, _, _, rfl, rfl, k H1 e1⟩
theorem ok_is_inside (T : Txt K mg A D) : FnOk P w K mg base CX0 1 A.a_is_inside D.d_is_inside p_is_inside (sp_is_inside K A) := by
  refine T.F_is_inside.ok sc_is_inside (fun vs H Q E h => ?_) (fun cdv Ar outer s H vs Q E hr h => ?_)
  · exact h.len
  · have hu := hu_of hr
    refine ⟨_, (pss_one (ps_ret (pe_and (pe_cmpR op_gt (pe_ix ix_tup (pv 0) pe_int (fun _ _ => rfl)) (pe_ix ix_tup (pv 1) pe_int (fun _ _ => rfl)) (nomark _)) (pe_one (pe_cmpR op_lt (pe_ix ix_tup (pv 0) pe_int (fun _ _ => rfl)) (pe_ix ix_tup (pv 1) pe_int (fun _ _ => rfl)) (nomark _)))))), ?_⟩
    obtain ⟨x, y, rfl, a, b, p, q, rfl, rfl, hp, hq, k⟩ := h.ex
    refine ⟨_, rfl, a, _, 0, _, rfl, rfl, hp, rfl, _, rfl, b, _, 0, _, rfl, rfl, hq, rfl, _, _, rfl, rfl, _, rfl, ?_⟩
    unfold insideB at k
    by_cases c : q.1 < p.1
    · rw [decide_eq_true c] at k ⊢
      exact iteT ⟨_, rfl, a, _, 1, _, rfl, rfl, hp, rfl, _, rfl, b, _, 1, _, rfl, rfl, hq, rfl, _, _, rfl, rfl, k⟩
    · rw [decide_eq_false c] at k ⊢
      exact iteF k
theorem ok_thrown_over (T : Txt K mg A D) : FnOk P w K mg base CX0 4 A.a_thrown_over D.d_thrown_over p_thrown_over (sp_thrown_over K A) := by
  have G_is_inside := ok_is_inside (P := P) (w := w) (base := base) T
  have G_middle := ok_middle (P := P) (w := w) (base := base) T
  refine T.F_thrown_over.ok sc_thrown_over (fun vs H Q E h => ?_) (fun cdv Ar outer s H vs Q E hr h => ?_)
  · exact h.len
  · have hu := hu_of hr
    refine ⟨_, (pss_cons (ps_set (i := 4) sc_thrown_over.nd rfl (Or.inl rfl) (pe_ix ix_tup (pe_fld (pv 0) rfl) (pv 2) (fun _ _ => rfl))) (pss_cons (ps_set (i := 5) sc_thrown_over.nd rfl (Or.inl rfl) (pe_lst pa_nil)) (pss_cons (ps_for PassesOwn.never rfl (pi_tup (pv 1)) (pg_name (i := 6) sc_thrown_over.nd rfl (Or.inr rfl)) (pss_one (ps_if (pt_val (pe_call G_is_inside (hr.mono (by decide)) rfl T.g_is_inside (k_is_inside T) (b_is_inside T) .nil pass0 (pa_cons (pe_ix ix_tup (pe_fld (pv 0) rfl) (pv 6) (fun _ _ => rfl)) (pa_cons (pv 4) pa_nil)))) (pss_cons (ps_set (i := 7) sc_thrown_over.nd rfl (Or.inr rfl) (pe_op op_sub (pe_call G_middle (hr.mono (by decide)) rfl T.g_middle (k_middle T) (b_middle T) .nil (passes_call takes0 (fun _ _ _ _ h => h)) (pa_cons (pv 0) (pa_cons (pv 6) pa_nil))) (pe_ix ix_tup (pv 4) pe_int (fun _ _ => rfl)))) (pss_one (ps_expr (pe_bm PySem.F.plainAttrs_list PySem.F.slot_list_extend PySem.F.type_list_extend mt_extend (pv 5) (pa_cons (pe_lc (own := [("c", 8)]) (g := (gName 8))  rfl sc_thrown_over.nd (pi_tup (pv 3)) (blkOk_by (own := [("c", 8)]) (N := n_thrown_over) (sc := defScope s_thrown_over) (by decide +kernel)) (fun _ _ _ _ _ => (pg_name (i := 8) sc_thrown_over.nd rfl (Or.inl rfl))) (fun _ _ _ _ _ => pts_one (pt_cmpR op_lt (pe_ix (ix_tupB (K := K)) (pe_ix (ix_tupB (K := K)) (pe_fldB (K := K) rfl (pv 0) rfl) (pv 8) (fun _ _ => rfl)) pe_int (fun _ _ => rfl)) (pv 7) (nomark _))) (fun _ _ _ _ _ => (pe_tup (pa_cons pe_str (pa_cons (pv 2) (pa_cons (pv 6) (pa_cons (pv 8) pa_nil))))))) pa_nil))))) pss_nil))) (pss_cons (ps_for PassesOwn.never rfl (pi_tup (pv 3)) (pg_name (i := 6) sc_thrown_over.nd rfl (Or.inr rfl)) (pss_one (ps_if (pt_val (pe_call G_is_inside (hr.mono (by decide)) rfl T.g_is_inside (k_is_inside T) (b_is_inside T) .nil pass0 (pa_cons (pe_ix ix_tup (pe_fld (pv 0) rfl) (pv 6) (fun _ _ => rfl)) (pa_cons (pv 4) pa_nil)))) (pss_cons (ps_set (i := 7) sc_thrown_over.nd rfl (Or.inr rfl) (pe_op op_sub (pe_call G_middle (hr.mono (by decide)) rfl T.g_middle (k_middle T) (b_middle T) .nil (passes_call takes0 (fun _ _ _ _ h => h)) (pa_cons (pv 0) (pa_cons (pv 6) pa_nil))) (pe_ix ix_tup (pv 4) pe_int (fun _ _ => rfl)))) (pss_one (ps_expr (pe_bm PySem.F.plainAttrs_list PySem.F.slot_list_extend PySem.F.type_list_extend mt_extend (pv 5) (pa_cons (pe_lc (own := [("c", 8)]) (g := (gName 8))  rfl sc_thrown_over.nd (pi_tup (pv 1)) (blkOk_by (own := [("c", 8)]) (N := n_thrown_over) (sc := defScope s_thrown_over) (by decide +kernel)) (fun _ _ _ _ _ => (pg_name (i := 8) sc_thrown_over.nd rfl (Or.inl rfl))) (fun _ _ _ _ _ => pts_one (pt_cmpR op_gt (pe_ix (ix_tupB (K := K)) (pe_ix (ix_tupB (K := K)) (pe_fldB (K := K) rfl (pv 0) rfl) (pv 8) (fun _ _ => rfl)) pe_int (fun _ _ => rfl)) (pv 7) (nomark _))) (fun _ _ _ _ _ => (pe_tup (pa_cons pe_str (pa_cons (pv 2) (pa_cons (pv 6) (pa_cons (pv 8) pa_nil))))))) pa_nil))))) pss_nil))) (pss_one (ps_ret (pv 5))))))), ?_⟩
    obtain ⟨x, y, z, u, rfl, b, w0, a1, a2, ws, ahead, behind, i, rfl, rfl, rfl, rfl, hb, hW, h1, h2, l1, l2, hi, n1, n2, k⟩ := h.ex
    obtain ⟨dx, hb0⟩ := id hb
    obtain ⟨_, was, w1, w2, w3⟩ := id hW
    obtain ⟨o, o1, o2⟩ := WinAt.item w2 w3 hi
    -- own
    refine ⟨_, rfl, b, A.C_Book, dx, _, _, rfl, hb0, T.cl_Book, T.na_windows, by simp [List.lookup], _, rfl, w0, _, (i : Int), _, rfl, rfl, w1, atI_of o1, ?_⟩
    -- found
    refine ⟨Nat.zero_le _, fun f nf => ?_⟩
    have e0 : Ex H (L2.upd H f (.lst [])) := Ex.new nf
    have t0 : TL (L2.upd H f (.lst [])) f [] := TL.new upd_same
    show tSeq _ _ _ _ (L2.upd H f (.lst []))
    generalize L2.upd H f (.lst []) = H1 at e0 t0
    -- for b in ahead
    refine ⟨_, rfl, a1, rfl, ⟨_, ex_t e0 h1⟩, for_tup (K := K) (a := a1) (xs := ahead.map vNat) (fun t σ H' => ∃ (v6 v7 v8 : Option V), σ = [some (.ref b), some (.ref a1), some (.int (i : Int)), some (.ref a2), some (.ref o), some (.ref f), v6, v7, v8] ∧ Ex H H' ∧ TL H' f ((ahead.take t).flatMap (frontT ws i behind)))
      ⟨_, _, _, rfl, e0, t0⟩ (fun t σ H' _ ⟨_, _, _, _, e, _⟩ => ex_t e h1) ?_ ?_⟩
    · rintro t y σ H' ht ⟨v6, v7, v8, rfl, e1, tl⟩
      obtain ⟨j, hj, rfl⟩ := nats_get ht
      have hjl := l1 j (List.mem_of_getElem? hj)
      obtain ⟨ua, u1, u2⟩ := WinAt.item w2 w3 hjl
      rw [flat_snoc hj]
      refine ⟨_, rfl, b, A.C_Book, dx, _, _, rfl, e1 _ _ hb0, T.cl_Book, T.na_windows, by simp [List.lookup], _, rfl, w0, _, (j : Int), _, rfl, rfl, ex_t e1 w1, atI_of u1, _, rfl, ⟨_, _, rfl, ua, o, _, _, rfl, rfl, ex_t e1 u2, ex_t e1 o2, _, rfl, ?_⟩⟩
      cases hf : insideB (winAt ws j) (winAt ws i) with
      | false =>
        have e : frontT ws i behind j = [] := if_neg (by show ¬ insideB (winAt ws j) (winAt ws i) = true; rw [hf]; exact Bool.false_ne_true)
        rw [e, List.append_nil]
        exact iteF ⟨_, _, _, rfl, e1, tl⟩
      | true =>
        have e : frontT ws i behind j = (behind.filter fun c => decide (fstAt ws c < midW ws j - fstAt ws i)).map (twF i j) := if_pos hf
        refine iteT ⟨_, rfl, _, rfl, ⟨_, _, rfl, onWork (hb.mono e1) (hW.mono e1) hjl fun H3 e3 => ?_⟩⟩
        have e13 := e1.trans e3
        have tl3 := tl.ext e3
        refine ⟨_, rfl, o, _, 0, _, rfl, rfl, ex_t e13 o2, rfl, _, _, rfl, rfl, ?_⟩
        obtain ⟨xs, hx, lx⟩ := tl3.at
        refine ⟨_, rfl, .inl ⟨rfl, _, SqL.of hx⟩, _, rfl, a2, rfl, ⟨_, ex_t e13 h2⟩, fun D nD => lc_tw (K := K) (a := a2) (twF i j) (fun c => decide (fstAt ws c < midW ws j - fstAt ws i)) nD (ex_t e13 h2) (by omega) ?_ ?_⟩
        · intro c H4 Y N hc e4 ky kn
          obtain ⟨uc, c1, c2⟩ := WinAt.item w2 w3 (l2 c hc)
          have e14 := e13.trans e4
          refine ⟨rfl, _, rfl, b, A.C_Book, dx, _, _, rfl, e14 _ _ hb0, T.cl_Book, T.na_windows, by simp [List.lookup], _, rfl, w0, _, (c : Int), _, rfl, rfl, ex_t e14 w1, atI_of c1, uc, _, 0, _, rfl, rfl, ex_t e14 c2, rfl, _, rfl, _, _, rfl, rfl, ?_⟩
          refine ⟨_, rfl, ite2 (fun cc => ?_) (fun cc => ?_)⟩
          · have hp : decide (fstAt ws c < midW ws j - fstAt ws i) = true := cc
            exact ⟨_, rfl, _, rfl, _, rfl, (by show 4 ≤ sizeLine; decide), fun r nr => ky hp r H4 (Ex.refl _) nr⟩
          · have hp : decide (fstAt ws c < midW ws j - fstAt ws i) = false := Bool.eq_false_iff.mpr cc
            exact kn hp H4 (Ex.refl _)
        · intro H4 e4 tz
          obtain ⟨zs, hz, lz⟩ := tz.at
          have tl4 := tl3.ext e4
          have hx4 := e4 _ _ hx
          have le1 := flat_len (frontT_len ws i behind) (ahead.take t)
          have le2 : (ahead.take t).length * behind.length ≤ 200 * 200 := Nat.mul_le_mul (by rw [List.length_take]; omega) n2
          have le3 : zs.length ≤ 200 := by
            rw [lz, List.length_map]
            exact Nat.le_trans (List.length_filter_le _ _) n2
          refine ⟨f, D, xs, zs, rfl, rfl, hx4, hz, by rw [sizeLine_eq]; omega, _, _, _, rfl, (e13.trans e4).mut nf, ?_⟩
          rw [e]
          exact tl4.cat tz hx4 hz
    · rintro σ H' ⟨v6, v7, v8, rfl, e1, tl⟩
      rw [List.length_map, List.take_length] at tl
      -- for b in behind
      refine ⟨_, rfl, a2, rfl, ⟨_, ex_t e1 h2⟩, for_tup (K := K) (a := a2) (xs := behind.map vNat) (fun t σ H' => ∃ (v6 v7 v8 : Option V), σ = [some (.ref b), some (.ref a1), some (.int (i : Int)), some (.ref a2), some (.ref o), some (.ref f), v6, v7, v8] ∧ Ex H H' ∧ TL H' f (ahead.flatMap (frontT ws i behind) ++ (behind.take t).flatMap (backT ws i ahead)))
        ⟨_, _, _, rfl, e1, by rw [List.take_zero, List.flatMap_nil, List.append_nil]; exact tl⟩ (fun t σ H' _ ⟨_, _, _, _, e, _⟩ => ex_t e h2) ?_ ?_⟩
      · clear tl e1
        rintro t y σ H' ht ⟨v6, v7, v8, rfl, e1, tl⟩
        obtain ⟨j, hj, rfl⟩ := nats_get ht
        have hjl := l2 j (List.mem_of_getElem? hj)
        obtain ⟨ua, u1, u2⟩ := WinAt.item w2 w3 hjl
        rw [flat_snoc hj]
        refine ⟨_, rfl, b, A.C_Book, dx, _, _, rfl, e1 _ _ hb0, T.cl_Book, T.na_windows, by simp [List.lookup], _, rfl, w0, _, (j : Int), _, rfl, rfl, ex_t e1 w1, atI_of u1, _, rfl, ⟨_, _, rfl, ua, o, _, _, rfl, rfl, ex_t e1 u2, ex_t e1 o2, _, rfl, ?_⟩⟩
        cases hf : insideB (winAt ws j) (winAt ws i) with
        | false =>
          have e : backT ws i ahead j = [] := if_neg (by show ¬ insideB (winAt ws j) (winAt ws i) = true; rw [hf]; exact Bool.false_ne_true)
          rw [e, List.append_nil]
          exact iteF ⟨_, _, _, rfl, e1, tl⟩
        | true =>
          have e : backT ws i ahead j = (ahead.filter fun c => decide (lstAt ws c > midW ws j - lstAt ws i)).map (twB i j) := if_pos hf
          refine iteT ⟨_, rfl, _, rfl, ⟨_, _, rfl, onWork (hb.mono e1) (hW.mono e1) hjl fun H3 e3 => ?_⟩⟩
          have e13 := e1.trans e3
          have tl3 := tl.ext e3
          refine ⟨_, rfl, o, _, 1, _, rfl, rfl, ex_t e13 o2, rfl, _, _, rfl, rfl, ?_⟩
          obtain ⟨xs, hx, lx⟩ := tl3.at
          refine ⟨_, rfl, .inl ⟨rfl, _, SqL.of hx⟩, _, rfl, a1, rfl, ⟨_, ex_t e13 h1⟩, fun D nD => lc_tw (K := K) (a := a1) (twB i j) (fun c => decide (lstAt ws c > midW ws j - lstAt ws i)) nD (ex_t e13 h1) (by omega) ?_ ?_⟩
          · intro c H4 Y N hc e4 ky kn
            obtain ⟨uc, c1, c2⟩ := WinAt.item w2 w3 (l1 c hc)
            have e14 := e13.trans e4
            refine ⟨rfl, _, rfl, b, A.C_Book, dx, _, _, rfl, e14 _ _ hb0, T.cl_Book, T.na_windows, by simp [List.lookup], _, rfl, w0, _, (c : Int), _, rfl, rfl, ex_t e14 w1, atI_of c1, uc, _, 1, _, rfl, rfl, ex_t e14 c2, rfl, _, rfl, _, _, rfl, rfl, ?_⟩
            refine ⟨_, rfl, ite2 (fun cc => ?_) (fun cc => ?_)⟩
            · have hp : decide (lstAt ws c > midW ws j - lstAt ws i) = true := cc
              exact ⟨_, rfl, _, rfl, _, rfl, (by show 4 ≤ sizeLine; decide), fun r nr => ky hp r H4 (Ex.refl _) nr⟩
            · have hp : decide (lstAt ws c > midW ws j - lstAt ws i) = false := Bool.eq_false_iff.mpr cc
              exact kn hp H4 (Ex.refl _)
          · intro H4 e4 tz
            obtain ⟨zs, hz, lz⟩ := tz.at
            have tl4 := tl3.ext e4
            have hx4 := e4 _ _ hx
            have le1 := flat_len (frontT_len ws i behind) ahead
            have le2 : ahead.length * behind.length ≤ 200 * 200 := Nat.mul_le_mul n1 n2
            have le4 := flat_len (backT_len ws i ahead) (behind.take t)
            have le5 : (behind.take t).length * ahead.length ≤ 200 * 200 := Nat.mul_le_mul (by rw [List.length_take]; omega) n1
            have le3 : zs.length ≤ 200 := by
              rw [lz, List.length_map]
              exact Nat.le_trans (List.length_filter_le _ _) n1
            rw [List.length_append] at lx
            refine ⟨f, D, xs, zs, rfl, rfl, hx4, hz, by rw [sizeLine_eq]; omega, _, _, _, rfl, (e13.trans e4).mut nf, ?_⟩
            rw [e, ← List.append_assoc]
            exact tl4.cat tz hx4 hz
      · rintro σ H' ⟨v6, v7, v8, rfl, e1, tl⟩
        rw [List.length_map, List.take_length] at tl
        exact ⟨_, rfl, k f H' nf e1 tl⟩
theorem ok_blocks (T : Txt K mg A D) : FnOk P w K mg base CX0 4 A.a_blocks D.d_blocks p_blocks (sp_blocks K A) := by
  have G_middle := ok_middle (P := P) (w := w) (base := base) T
  refine T.F_blocks.ok sc_blocks (fun vs H Q E h => ?_) (fun cdv Ar outer s H vs Q E hr h => ?_)
  · exact h.len
  · have hu := hu_of hr
    refine ⟨_, (pss_cons (ps_set (i := 1) sc_blocks.nd rfl (Or.inr rfl) pe_dnewK) (pss_cons (ps_for PassesOwn.never rfl (pi_range1 (by rfl) T.n_range (pa_cons (pe_callB call_len_seq (by rfl) T.n_len (by decide +kernel) (pa_cons (pe_fld (pv 0) rfl) pa_nil)) pa_nil)) (pg_name (i := 2) sc_blocks.nd rfl (Or.inl rfl)) (pss_one (ps_expr (pe_bm PySem.F.plainAttrs_list PySem.F.slot_list_append PySem.F.type_list_append mt_append (pe_dsetdef (pv 1) (pe_call G_middle (hr.mono (by decide)) rfl T.g_middle (k_middle T) (b_middle T) .nil (passes_call takes0 (fun _ _ _ _ h => h)) (pa_cons (pv 0) (pa_cons (pv 2) pa_nil))) (pe_lst pa_nil) ⟨rfl, rfl, rfl, rfl⟩) (pa_cons (pv 2) pa_nil))))) (pss_one (ps_ret (pe_lc (own := [("hour", 3)]) (g := (gName 3)) (tt := tYes) rfl sc_blocks.nd (pi_list (pe_callB (call_sortedDI rfl) (by rfl) T.n_sorted (by decide +kernel) (pa_cons (pv 1) pa_nil))) (blkOk_by (own := [("hour", 3)]) (N := n_blocks) (sc := defScope s_blocks) (by decide +kernel)) (fun _ _ _ _ _ => (pg_name (i := 3) sc_blocks.nd rfl (Or.inl rfl))) (fun _ _ _ _ _ => pts_nil) (fun _ _ _ _ _ => (pe_callTy (call_tuple_ofB (K := K)) (by rfl) T.n_tuple (by decide +kernel) (pa_cons (pe_dget (Nat.lt_of_le_of_lt (Nat.add_le_add_left (show 1 ≤ 64 by decide) _) hr.units) (pv 1) (pv 3) (fun _ _ => rfl)) pa_nil)))))))), ?_⟩
    obtain ⟨x, rfl, b, w0, ws, rfl, hb, hW, hn0, hn8, k⟩ := h.ex
    obtain ⟨dx, hb0⟩ := id hb
    obtain ⟨_, was, w1, w2, w3⟩ := id hW
    -- table = {}
    refine fun d nd => ?_
    have e0 : Ex H (L2.upd H d (.dK [])) := Ex.new nd
    have t0 : Tbl ws 0 (L2.upd H d (.dK [])) d [] := Tbl.zero upd_same
    show tSeq _ _ _ _ (L2.upd H d (.dK []))
    generalize L2.upd H d (.dK []) = H1 at e0 t0
    refine ⟨_, rfl, b, A.C_Book, dx, _, .ref w0, rfl, e0 _ _ hb0, T.cl_Book, T.na_windows, by simp [List.lookup], w0, _, rfl, .inr (ex_t e0 w1), (ws.length : Int), by rw [List.length_map, w2], by omega, by omega, for_range (lo := 0) (n := ws.length) (fun i σ H' => ∃ (v2 v3 : Option V) (ks : List (Int × Addr)), σ = [some (.ref b), some (.ref d), v2, v3] ∧ Ex H H' ∧ Tbl ws i H' d ks ∧ ∀ p ∈ ks, H p.2 = none)
      ⟨_, _, [], rfl, e0, t0, fun p hp => (nomatch hp)⟩ ?_ ?_⟩
    · clear e0 t0
      rintro i σ H2 hi ⟨v2, v3, ks, rfl, e2, t2, hfree⟩
      rw [Int.zero_add]
      refine ⟨_, rfl, d, rfl, .inl ⟨_, .inl t2.at_⟩, _, rfl, _, rfl, ⟨_, _, rfl, onWork (hb.mono e2) (hW.mono e2) hi fun H3 e3 => ?_⟩⟩
      have t3 := t2.ext e3
      have e03 := e2.trans e3
      refine ⟨Nat.zero_le _, fun l nl => ⟨kvT ks, .inl (midW ws i), Ex.new nl _ _ t3.at_, rfl, ?_, fun v hv => ?_, fun hv => ?_⟩⟩
      · have h1 := keys_few t3.kn t3.mem
        have h2 : (kvT ks).length = (ks.map (·.1)).length := by rw [List.length_map, List.length_map]
        rw [h2, sizeLine_eq]
        omega
      · obtain ⟨p, hp, hm, rfl⟩ := val_some hv
        have x4 : Ex H3 (L2.upd H3 l (.lst [])) := Ex.new nl
        have t4 := t3.ext x4
        have hl4 := (t4.val p hp).2
        have len : (((List.range i).filter fun j => decide (midW ws j = p.1)).map vNat).length ≤ 1000 := by
          rw [List.length_map]
          have := List.length_filter_le (fun j => decide (midW ws j = p.1)) (List.range i)
          rw [List.length_range] at this
          omega
        exact ⟨.inl ⟨rfl, _, SqL.of hl4⟩, _, rfl, p.2, _, _, rfl, rfl, hl4, small1000 len, _, _, ks, rfl, (e03.trans x4).mut (hfree p hp), t4.more hp hm, hfree⟩
      · have hno := val_no t3.kn hv
        have ld : l ≠ d := (ne_of_none t3.at_ nl).symm
        have hll : (L2.upd (L2.upd H3 l (.lst [])) d (.dK (kvT ks ++ [(.inl (midW ws i), .ref l)]))) l = some (.lst []) := by rw [upd_ne ld, upd_same]
        refine ⟨.inl ⟨rfl, _, SqL.of hll⟩, _, rfl, l, _, _, rfl, rfl, hll, small1000 (Nat.zero_le _), _, _, ks ++ [(midW ws i, l)], rfl, ((e03.trans (Ex.new nl)).mut nd).mut (free_ex e03 nl), t3.fresh hno nl, fun p hp => ?_⟩
        rcases List.mem_append.mp hp with hp | hp
        · exact hfree p hp
        · rw [List.mem_singleton.mp hp]
          exact free_ex e03 nl
    · rintro σ H2 ⟨v2, v3, ks, rfl, e2, t2, hfree⟩
      have few := keys_few t2.kn t2.mem
      refine ⟨_, rfl, d, kvT ks, ks.map (·.1), rfl, .inl t2.at_, by rw [List.map_map, List.map_map] <;> rfl, by omega, fun ys q hp hsrt nq => ?_⟩
      have asc : Asc ws ys := by
        refine ⟨?_, fun m => (hp.mem_iff).trans (t2.mem m)⟩
        have nd' : ys.Nodup := hp.nodup_iff.mpr t2.kn
        exact (hsrt.and nd').imp fun {a b} h => by
          have h1 := h.1
          have h2 := h.2
          omega
      have x3 : Ex H2 (L2.upd H2 q (.lst (ys.map V.int))) := Ex.new nq
      have hq : (L2.upd H2 q (.lst (ys.map V.int))) q = some (.lst (ys.map V.int)) := upd_same
      have t3 := t2.ext x3
      generalize L2.upd H2 q (.lst (ys.map V.int)) = H3 at x3 hq t3
      have yl := hp.length_eq
      rw [List.length_map] at yl few
      refine ⟨q, rfl, ⟨_, SqL.of hq⟩, fun D nD => lc_ls (K := K) (tupAt K) (a := q) (val := V.int) (bs := ys) (fun m => (List.range ws.length).filter fun j => decide (midW ws j = m)) (fun _ => true) nD (SqL.of hq) (by omega) ?_ ?_⟩
      · intro m H4 Y N hc e4 ky kn
        obtain ⟨p, hpm, rfl⟩ := List.mem_map.mp (hp.mem_iff.mp hc)
        have t4 := t3.ext e4
        have g := DGet.k (k := .inl p.1) t4.at_
        rw [val_mem t4.kn hpm] at g
        refine ⟨rfl, _, rfl, _, rfl, d, .ref p.2, rfl, g, p.2, _, rfl, .inl ⟨SqL.of (t4.val p hpm).2, fun t nt => ky rfl (.ref t) _ (Ex.new nt) ⟨t, rfl, SqT.of upd_same⟩⟩⟩
      · intro H4 e4 tD
        rw [List.filter_eq_self.mpr (fun _ _ => rfl)] at tD
        exact k D H4 ys (free_ex (e2.trans x3) nD) ((e2.trans x3).trans e4) asc tD.rl
theorem ok_joined_rows (T : Txt K mg A D) : FnOk P w K mg base CX0 1 A.a_joined_rows D.d_joined_rows p_joined_rows (sp_joined_rows K A) := by
  refine T.F_joined_rows.ok sc_joined_rows (fun vs H Q E h => ?_) (fun cdv Ar outer s H vs Q E hr h => ?_)
  · exact h.len
  · have hu := hu_of hr
    refine ⟨_, (pss_one (ps_ret (pe_callTy call_tuple_of (by rfl) T.n_tuple (by decide +kernel) (pa_cons (pe_lc2 (own := [("row", 1), ("work", 2)]) (vs1 := [2]) (g := (gName 1)) (g1 := (gName 2)) (tt := tYes) (tt1 := tYes) (wi1 := (iTup K (tVar 1))) rfl sc_joined_rows.nd (pi_list (pv 0)) (blkOk_by (own := [("row", 1), ("work", 2)]) (N := n_joined_rows) (sc := defScope s_joined_rows) (by decide +kernel)) (by decide) (fun _ _ _ _ _ => (pg_name (i := 1) sc_joined_rows.nd rfl (Or.inl rfl))) (fun _ _ _ _ _ => pts_nil) (fun _ _ _ _ _ => ((pi_tupB (K := K)) (pv 1))) (fun _ _ _ _ _ => (pg_name (i := 2) sc_joined_rows.nd rfl (Or.inl rfl))) (fun _ _ _ _ _ => pts_nil) (fun _ _ _ _ _ => (pv 2))) pa_nil)))), ?_⟩
    obtain ⟨x, rfl, f, rs, rfl, tr, hle, k⟩ := h.ex
    obtain ⟨bs, hf, hb, rfl⟩ := id tr
    refine ⟨_, rfl, f, rfl, ⟨_, SqL.of hf⟩, fun D nD => lc2_list (K := K) (a := f) (xs := bs.map (·.1)) (fun i H' => H' D = some (.lst (((bs.map (·.2)).take i).flatten.map vNat)) ∧ Ex H H') ⟨upd_same, Ex.new nD⟩ (fun i H' _ q => SqL.of (q.2 _ _ hf)) ?_ ?_⟩
    · rintro i y H1 hi ⟨p1, p2⟩
      obtain ⟨qa, r, rfl, hr1, hr2, hr3⟩ := RL.get hb hi
      refine ⟨rfl, _, rfl, qa, rfl, ⟨_, ex_t p2 hr3⟩, in_tup (K := K) (a := qa) (xs := r.map vNat) (fun j H' => H' D = some (.lst ((((bs.map (·.2)).take i).flatten ++ r.take j).map vNat)) ∧ Ex H H') ⟨?_, p2⟩ (fun j H' _ q => ex_t q.2 hr3) ?_ ?_⟩
      · rw [List.take_zero, List.append_nil]
        exact p1
      · rintro j z H2 hj ⟨q1, q2⟩
        obtain ⟨n, hn, rfl⟩ := nats_get hj
        have hjl := (List.getElem?_eq_some_iff.mp hn).1
        have l1 := flatten_part (bs.map (·.2)) (i + 1)
        rw [flatten_take hr1, List.length_append] at l1
        refine ⟨rfl, _, rfl, _, q1, small1000 ?_, ?_, q2.mut nD⟩
        · rw [List.length_map, List.length_append, List.length_take]
          omega
        · rw [upd_same, List.take_succ_eq_append_getElem hjl, (List.getElem?_eq_some_iff.mp hn).2, ← List.append_assoc]
          simp only [List.map_append, List.map_cons, List.map_nil] <;> rfl
      · rintro H2 ⟨q1, q2⟩
        rw [List.length_map, List.take_length] at q1
        rw [flatten_take hr1]
        exact ⟨q1, q2⟩
    · rintro H1 ⟨p1, p2⟩
      rw [List.take_of_length_le (Nat.le_of_eq (by rw [List.length_map, List.length_map]))] at p1
      exact ⟨D, _, rfl, .inl ⟨SqL.of p1, fun w nw => k w _ (p2.trans (Ex.new nw)) (SqT.of upd_same)⟩⟩
theorem ok_ends_of_block (T : Txt K mg A D) : FnOk P w K mg base CX0 1 A.a_ends_of_block D.d_ends_of_block p_ends_of_block (sp_ends_of_block K A) := by
  refine T.F_ends_of_block.ok sc_ends_of_block (fun vs H Q E h => ?_) (fun cdv Ar outer s H vs Q E hr h => ?_)
  · exact h.len
  · have hu := hu_of hr
    refine ⟨_, (pss_cons (ps_if (pt_cmpR op_eq (pe_callB call_len_seq (by rfl) T.n_len (by decide +kernel) (pa_cons (pv 0) pa_nil)) pe_int (nomark _)) (pss_one (ps_ret (pe_lst (pa_cons (pe_tup (pa_cons (pe_tup pa_nil) (pa_cons (pe_tup pa_nil) pa_nil))) pa_nil)))) pss_nil) (pss_cons (ps_if (pt_cmpR op_eq (pe_callB call_len_seq (by rfl) T.n_len (by decide +kernel) (pa_cons (pv 0) pa_nil)) pe_int (nomark _)) (pss_one (ps_ret (pe_lst (pa_cons (pe_tup (pa_cons (pv 0) (pa_cons (pe_tup pa_nil) pa_nil))) (pa_cons (pe_tup (pa_cons (pe_tup pa_nil) (pa_cons (pv 0) pa_nil))) pa_nil))))) pss_nil) (pss_cons (ps_if (pt_cmpR op_eq (pe_callB call_len_seq (by rfl) T.n_len (by decide +kernel) (pa_cons (pv 0) pa_nil)) pe_int (nomark _)) (pss_one (ps_ret (pe_lst (pa_cons (pe_tup (pa_cons (pe_slice sl_tupA (pv 0) po_none (po_some pe_int)) (pa_cons (pe_slice sl_tupA (pv 0) (po_some pe_int) po_none) pa_nil))) (pa_cons (pe_tup (pa_cons (pe_slice sl_tupA (pv 0) (po_some pe_int) po_none) (pa_cons (pe_slice sl_tupA (pv 0) po_none (po_some pe_int)) pa_nil))) pa_nil))))) pss_nil) (pss_one (ps_ret (pe_lst pa_nil)))))), ?_⟩
    obtain ⟨x, rfl, a, row, rfl, ha, k⟩ := h.ex
    refine ⟨_, rfl, a, _, rfl, .inr ha, rfl, _, rfl, ite2 (fun c => ?_) (fun c0 => ?_)⟩
    · have e : row = [] := by
        have z := of_decide_eq_true c
        injection z with z
        rw [List.length_map] at z
        exact List.eq_nil_of_length_eq_zero (by omega)
      subst e
      refine ⟨Nat.zero_le _, fun h0 n0 => ⟨Nat.zero_le _, fun t0 n1 => ⟨(by show 2 ≤ sizeLine; decide), fun p0 n2 => ⟨(by show 1 ≤ sizeLine; decide), fun l nl => ?_⟩⟩⟩⟩
      have e1 := Ex.new n0 (o := .tup [])
      have e2 := Ex.new n1 (o := .tup [])
      have e3 := Ex.new n2 (o := .tup [.ref h0, .ref t0])
      have e4 := Ex.new nl (o := .lst [.ref p0])
      have e123 := (e1.trans e2).trans e3
      exact k l _ (free_ex e123 nl) (e123.trans e4) (Ls.one upd_same ⟨p0, h0, t0, rfl, SqT.of (e4 _ _ upd_same), SqT.of (e4 _ _ (e3 _ _ (e2 _ _ upd_same))), SqT.of (e4 _ _ (e3 _ _ upd_same))⟩)
    refine ⟨_, rfl, a, _, rfl, .inr ha, rfl, _, rfl, ite2 (fun c => ?_) (fun c1 => ?_)⟩
    · obtain ⟨x, rfl⟩ : ∃ x, row = [x] := by
        have z := of_decide_eq_true c
        injection z with z
        rw [List.length_map] at z
        exact List.length_eq_one_iff.mp (by omega)
      refine ⟨_, rfl, Nat.zero_le _, fun t0 n0 => ⟨(by show 2 ≤ sizeLine; decide), fun p0 n1 => ⟨Nat.zero_le _, fun t1 n2 => ⟨_, rfl, (by show 2 ≤ sizeLine; decide), fun p1 n3 => ⟨(by show 2 ≤ sizeLine; decide), fun l nl => ?_⟩⟩⟩⟩⟩
      have e1 := Ex.new n0 (o := .tup [])
      have e2 := Ex.new n1 (o := .tup [.ref a, .ref t0])
      have e3 := Ex.new n2 (o := .tup [])
      have e4 := Ex.new n3 (o := .tup [.ref t1, .ref a])
      have e5 := Ex.new nl (o := .lst [.ref p0, .ref p1])
      have e14 := ((e1.trans e2).trans e3).trans e4
      have e15 := e14.trans e5
      have ha5 := ex_t e15 ha
      exact k l _ (free_ex e14 nl) e15 (Ls.two upd_same ⟨p0, a, t0, rfl, SqT.of (e5 _ _ (e4 _ _ (e3 _ _ upd_same))), ha5, SqT.of (e5 _ _ (e4 _ _ (e3 _ _ (e2 _ _ upd_same))))⟩ ⟨p1, t1, a, rfl, SqT.of (e5 _ _ upd_same), SqT.of (e5 _ _ (e4 _ _ upd_same)), ha5⟩)
    refine ⟨_, rfl, a, _, rfl, .inr ha, rfl, _, rfl, ite2 (fun c => ?_) (fun c2 => ?_)⟩
    · obtain ⟨x, y, rfl⟩ : ∃ x y, row = [x, y] := by
        have z := of_decide_eq_true c
        injection z with z
        rw [List.length_map] at z
        have z2 : row.length = 2 := by omega
        match row, z2 with
        | [x, y], _ => exact ⟨x, y, rfl⟩
      refine ⟨_, rfl, _, rfl, slice_read ha fun q1 H1 e1 g1 => ⟨_, rfl, _, rfl, slice_readN (ex_t e1 ha) fun q2 H2 e2 g2 => ⟨(by show 2 ≤ sizeLine; decide), fun p0 n0 => ?_⟩⟩⟩
      have e3 := Ex.new n0 (o := .tup [.ref q1, .ref q2])
      have e13 := (e1.trans e2).trans e3
      refine ⟨_, rfl, _, rfl, slice_readN (ex_t e13 ha) fun q3 H4 e4 g3 => ⟨_, rfl, _, rfl, slice_read (ex_t (e13.trans e4) ha) fun q4 H5 e5 g4 => ⟨(by show 2 ≤ sizeLine; decide), fun p1 n1 => ⟨(by show 2 ≤ sizeLine; decide), fun l nl => ?_⟩⟩⟩⟩
      have e6 := Ex.new n1 (o := .tup [.ref q3, .ref q4])
      have e7 := Ex.new nl (o := .lst [.ref p0, .ref p1])
      have e16 := ((e13.trans e4).trans e5).trans e6
      have g1 : SqT K H1 q1 ([x].map vNat) := g1
      have g2 : SqT K H2 q2 ([y].map vNat) := g2
      have g3 : SqT K H4 q3 ([y].map vNat) := g3
      have g4 : SqT K H5 q4 ([x].map vNat) := g4
      exact k l _ (free_ex e16 nl) (e16.trans e7) (Ls.two upd_same ⟨p0, q1, q2, rfl, SqT.of (e7 _ _ (e6 _ _ (e5 _ _ (e4 _ _ upd_same)))), ex_t e7 (ex_t e6 (ex_t e5 (ex_t e4 (ex_t e3 (ex_t e2 g1))))), ex_t e7 (ex_t e6 (ex_t e5 (ex_t e4 (ex_t e3 g2))))⟩ ⟨p1, q3, q4, rfl, SqT.of (e7 _ _ upd_same), ex_t e7 (ex_t e6 (ex_t e5 g3)), ex_t e7 (ex_t e6 g4)⟩)
    refine ⟨Nat.zero_le _, fun l nl => k l _ nl (Ex.new nl) ?_⟩
    have e : endsN row = [] := by
      match row, c0, c1, c2 with
      | [], c0, _, _ => exact absurd rfl c0
      | [_], _, c1, _ => exact absurd rfl c1
      | [_, _], _, _, c2 => exact absurd rfl c2
      | _ :: _ :: _ :: _, _, _, _ => rfl
    rw [e]
    exact Ls.new upd_same
theorem ok_has_no_throw (T : Txt K mg A D) : FnOk P w K mg base CX0 5 A.a_has_no_throw D.d_has_no_throw p_has_no_throw (sp_has_no_throw K A) := by
  have G_thrown_over := ok_thrown_over (P := P) (w := w) (base := base) T
  refine T.F_has_no_throw.ok sc_has_no_throw (fun vs H Q E h => ?_) (fun cdv Ar outer s H vs Q E hr h => ?_)
  · exact h.len
  · have hu := hu_of hr
    refine ⟨_, (pss_cons (ps_for PassesOwn.never rfl (pi_enT (by rfl) T.n_enumerate (pa_cons (pv 2) pa_nil)) (pg_tup rfl (pgs_cons (pg_name (i := 4) sc_has_no_throw.nd rfl (Or.inl rfl)) (pgs_cons (pg_name (i := 5) sc_has_no_throw.nd rfl (Or.inl rfl)) pgs_nil))) (pss_one (ps_if (pt_truth (pe_call G_thrown_over (hr.mono (by decide)) rfl T.g_thrown_over (k_thrown_over T) (b_thrown_over T) .nil pass0 (pa_cons (pv 0) (pa_cons (pe_op op_catA (pv 1) (pe_slice sl_tupA (pv 2) po_none (po_some (pv 4)))) (pa_cons (pv 5) (pa_cons (pe_op op_catA (pe_slice sl_tupA (pv 2) (po_some (pe_op op_add (pv 4) pe_int)) po_none) (pv 3)) pa_nil))))) (by intro _; rfl)) (pss_one (ps_ret pe_bl)) pss_nil))) (pss_one (ps_ret pe_bl))), ?_⟩
    obtain ⟨x, y, z, u, rfl, b, w0, a1, a2, a3, ws, ahead, works, behind, rfl, rfl, rfl, rfl, hb, hW, h1, h2, h3, l1, l2, l3, n1, n2, n3, k⟩ := h.ex
    refine ⟨_, rfl, a2, _, rfl, h2, for_it (walk_enT (xs := works.map vNat)) (fun i σ H' => ∃ (v4 v5 : Option V), σ = [some (.ref b), some (.ref a1), some (.ref a2), some (.ref a3), v4, v5] ∧ Ex H H' ∧ clearN ws ahead works behind = clearN ws (ahead ++ works.take i) (works.drop i) behind)
      ⟨_, _, rfl, Ex.refl _, by rw [List.take_zero, List.append_nil, List.drop_zero]⟩ (fun i σ H' _ ⟨_, _, _, e, _⟩ => ex_t e h2) ?_ ?_⟩
    · rintro i x σ H4 H5 hi ⟨v4, v5, rfl, g3, g2⟩ ⟨tt, x0, y0, rfl, ntt, rfl, ex0, hy⟩
      cases Option.some.inj ex0
      obtain ⟨j, hj, rfl⟩ := nats_get hy
      have hjl := l2 j (List.mem_of_getElem? hj)
      have xt : Ex H4 (L2.upd H4 tt (.tup [.int (i : Nat), .int (j : Nat)])) := Ex.new ntt
      refine ⟨tt, _, rfl, SqT.of upd_same, rfl, _, _, rfl, _, _, rfl, rfl, ?_⟩
      have g3 := g3.trans xt
      generalize L2.upd H4 tt (.tup [.int (i : Nat), .int (j : Nat)]) = H5 at g3
      have hi2 : i < works.length := (List.getElem?_eq_some_iff.mp hj).1
      refine ⟨_, rfl, _, rfl, _, rfl, _, rfl, _, rfl, slice_read (ex_t g3 h2) fun d1 H6 e6 hd1 => ?_⟩
      rw [cut_head (by rw [List.length_map]; omega), ← List.map_take] at hd1
      refine cat_read (ex_t (g3.trans e6) h1) hd1 (by rw [List.length_map, List.length_map, List.length_take]; omega) fun d2 H7 e7 hd2 => ?_
      rw [← List.map_append] at hd2
      have g7 := (g3.trans e6).trans e7
      refine ⟨_, rfl, _, rfl, _, rfl, _, _, rfl, rfl, _, rfl, slice_readN (ex_t g7 h2) fun d3 H8 e8 hd3 => ?_⟩
      have ei : (i : Int) + 1 = ((i + 1 : Nat) : Int) := by omega
      rw [ei, cut_drop] at hd3
      have g8 := g7.trans e8
      refine ⟨_, rfl, cat_read hd3 (ex_t g8 h3) (by rw [List.length_map, List.length_map, List.length_drop]; omega) fun d4 H9 e9 hd4 => ?_⟩
      rw [← List.map_append] at hd4
      have g9 := g8.trans e9
      refine ⟨_, _, _, _, rfl, b, w0, d2, d4, ws, ahead ++ works.take i, works.drop (i + 1) ++ behind, j, rfl, rfl, rfl, rfl, hb.mono g9, hW.mono g9, ex_t e9 (ex_t e8 hd2), hd4, ?_, ?_, hjl, ?_, ?_, fun p HA np eA tp => ?_⟩
      · intro c hc
        rcases List.mem_append.mp hc with hc | hc
        · exact l1 c hc
        · exact l2 c (List.mem_of_mem_take hc)
      · intro c hc
        rcases List.mem_append.mp hc with hc | hc
        · exact l2 c (List.mem_of_mem_drop hc)
        · exact l3 c hc
      · rw [List.length_append, List.length_take]
        omega
      · rw [List.length_append, List.length_drop]
        omega
      obtain ⟨xs, hx, lx⟩ := tp.at
      have ed : works.drop i = j :: works.drop (i + 1) := by
        rw [List.drop_eq_getElem_cons hi2, (List.getElem?_eq_some_iff.mp hj).2]
      have st : clearN ws (ahead ++ works.take i) (works.drop i) behind = (decide (overT ws (ahead ++ works.take i) j (works.drop (i + 1) ++ behind) = []) && clearN ws (ahead ++ works.take (i + 1)) (works.drop (i + 1)) behind) := by
        rw [ed, List.take_succ_eq_append_getElem hi2, (List.getElem?_eq_some_iff.mp hj).2, ← List.append_assoc] <;> rfl
      rw [st] at g2
      refine ⟨!xs.isEmpty, .inl ⟨xs, SqL.of hx, rfl⟩, ?_⟩
      cases xs with
      | nil =>
        have ov : overT ws (ahead ++ works.take i) j (works.drop (i + 1) ++ behind) = [] := List.eq_nil_of_length_eq_zero lx.symm
        rw [decide_eq_true ov, Bool.true_and] at g2
        exact iteF ⟨_, _, rfl, g9.trans eA, g2⟩
      | cons u r =>
        have ov : overT ws (ahead ++ works.take i) j (works.drop (i + 1) ++ behind) ≠ [] := fun z => by
          rw [z] at lx
          cases lx
        rw [decide_eq_false ov, Bool.false_and] at g2
        rw [g2] at k
        exact iteT (k HA (g9.trans eA))
    · rintro σ H4 ⟨v4, v5, rfl, g3, g2⟩
      rw [List.length_map, List.drop_length] at g2
      have e : clearN ws ahead works behind = true := g2
      rw [e] at k
      exact k H4 g3
theorem ok_row_of_shape (T : Txt K mg A D) : FnOk P w K mg base CX0 1 A.a_row_of_shape D.d_row_of_shape p_row_of_shape (sp_row_of_shape K A) := by
  refine T.F_row_of_shape.ok sc_row_of_shape (fun vs H Q E h => ?_) (fun cdv Ar outer s H vs Q E hr h => ?_)
  · exact h.len
  · have hu := hu_of hr
    refine ⟨_, (pss_cons (ps_asg (pv 0) (pg_tup rfl (pgs_cons (pg_name (i := 1) sc_row_of_shape.nd rfl (Or.inl rfl)) (pgs_cons (pg_name (i := 2) sc_row_of_shape.nd rfl (Or.inl rfl)) (pgs_cons (pg_name (i := 3) sc_row_of_shape.nd rfl (Or.inl rfl)) pgs_nil))))) (pss_one (ps_ret (pe_op op_catA (pe_op op_catA (pv 1) (pv 2)) (pv 3))))), ?_⟩
    obtain ⟨x, rfl, s, ⟨a, h0, a0, t0, rfl, g1, g2, g3, g4⟩, hle, k⟩ := h.ex
    have hle' : s.1.length + s.2.1.length + s.2.2.length ≤ 100 := by
      unfold rowS at hle
      rw [List.length_append, List.length_append] at hle
      exact hle
    refine ⟨_, rfl, a, _, rfl, g1, rfl, _, _, rfl, _, _, rfl, _, _, rfl, rfl, ?_⟩
    refine ⟨_, rfl, _, rfl, cat_read g2 g3 (by rw [List.length_map, List.length_map]; omega) fun r H1 e1 h1 => ⟨_, rfl, cat_read h1 (ex_t e1 g4) (by rw [List.length_append, List.length_map, List.length_map, List.length_map]; omega) fun r2 H2 e2 h2 => k r2 H2 (e1.trans e2) ?_⟩⟩
    unfold rowS
    rw [List.map_append, List.map_append]
    exact h2
theorem ok_shapes_of (T : Txt K mg A D) : FnOk P w K mg base CX0 6 A.a_shapes_of D.d_shapes_of p_shapes_of (sp_shapes_of K A) := by
  have G_ends_of_block := ok_ends_of_block (P := P) (w := w) (base := base) T
  have G_has_no_throw := ok_has_no_throw (P := P) (w := w) (base := base) T
  have G_row_of_shape := ok_row_of_shape (P := P) (w := w) (base := base) T
  refine T.F_shapes_of.ok sc_shapes_of (fun vs H Q E h => ?_) (fun cdv Ar outer s H vs Q E hr h => ?_)
  · exact h.len
  · have hu := hu_of hr
    refine ⟨_, (pss_cons (ps_set (i := 5) sc_shapes_of.nd rfl (Or.inr rfl) (pe_callB (cr_max rfl) (by rfl) T.n_max (by decide +kernel) (pa_cons (pe_lc (own := [("work", 4)]) (g := (gName 4)) (tt := tYes) rfl sc_shapes_of.nd (pi_tup (pv 2)) (blkOk_by (own := [("work", 4)]) (N := n_shapes_of) (sc := defScope s_shapes_of) (by decide +kernel)) (fun _ _ _ _ _ => (pg_name (i := 4) sc_shapes_of.nd rfl (Or.inl rfl))) (fun _ _ _ _ _ => pts_nil) (fun _ _ _ _ _ => (pe_ix (ix_tupB (K := K)) (pe_ix (ix_tupB (K := K)) (pe_fldB (K := K) rfl (pv 0) rfl) (pv 4) (fun _ _ => rfl)) pe_int (fun _ _ => rfl)))) pa_nil))) (pss_cons (ps_set (i := 6) sc_shapes_of.nd rfl (Or.inr rfl) (pe_callTy call_tuple_of (by rfl) T.n_tuple (by decide +kernel) (pa_cons (pe_lc (own := [("work", 4)]) (g := (gName 4))  rfl sc_shapes_of.nd (pi_tup (pv 2)) (blkOk_by (own := [("work", 4)]) (N := n_shapes_of) (sc := defScope s_shapes_of) (by decide +kernel)) (fun _ _ _ _ _ => (pg_name (i := 4) sc_shapes_of.nd rfl (Or.inl rfl))) (fun _ _ _ _ _ => pts_one (pt_cmpR op_eq (pe_ix (ix_tupB (K := K)) (pe_ix (ix_tupB (K := K)) (pe_fldB (K := K) rfl (pv 0) rfl) (pv 4) (fun _ _ => rfl)) pe_int (fun _ _ => rfl)) (pv 5) (nomark _))) (fun _ _ _ _ _ => (pv 4))) pa_nil))) (pss_cons (ps_set (i := 7) sc_shapes_of.nd rfl (Or.inl rfl) (pe_callTy call_tuple_of (by rfl) T.n_tuple (by decide +kernel) (pa_cons (pe_lc (own := [("work", 4)]) (g := (gName 4))  rfl sc_shapes_of.nd (pi_tup (pv 2)) (blkOk_by (own := [("work", 4)]) (N := n_shapes_of) (sc := defScope s_shapes_of) (by decide +kernel)) (fun _ _ _ _ _ => (pg_name (i := 4) sc_shapes_of.nd rfl (Or.inl rfl))) (fun _ _ _ _ _ => pts_one (pt_cmpR (op_notIn_seqB (K := K)) (pv 4) (pv 6) (by rfl))) (fun _ _ _ _ _ => (pv 4))) pa_nil))) (pss_cons (ps_setLc (i := 10) (own := [("head", 8), ("tail", 9)]) (g := (gTup K 2 (gCons (gName 8) (gCons (gName 9) gNil)))) (tt := tYes) rfl sc_shapes_of.nd rfl rfl (sw_true rfl rfl rfl (by decide +kernel)) (pi_list (pe_call G_ends_of_block (hr.mono (by decide)) rfl T.g_ends_of_block (k_ends_of_block T) (b_ends_of_block T) .nil pass0 (pa_cons (pv 7) pa_nil))) (blkOk_by (own := [("head", 8), ("tail", 9)]) (N := n_shapes_of) (sc := defScope s_shapes_of) (by decide +kernel)) (fun _ _ _ _ _ => (pg_tup rfl (pgs_cons (pg_name (i := 8) sc_shapes_of.nd rfl (Or.inl rfl)) (pgs_cons (pg_name (i := 9) sc_shapes_of.nd rfl (Or.inl rfl)) pgs_nil)))) (fun _ _ _ _ _ => pts_nil) (fun _ _ _ _ _ => (pe_tup (pa_cons (pv 8) (pa_cons (pv 6) (pa_cons (pv 9) pa_nil)))))) (pss_one (ps_ret (pe_lc (own := [("shape", 11)]) (g := (gName 11))  rfl sc_shapes_of.nd (pi_list (pv 10)) (blkOk_by (own := [("shape", 11)]) (N := n_shapes_of) (sc := defScope s_shapes_of) (by decide +kernel)) (fun _ _ _ _ _ => (pg_name (i := 11) sc_shapes_of.nd rfl (Or.inl rfl))) (fun _ _ _ _ _ => pts_one (pt_val (pe_call G_has_no_throw (hr.mono (by decide)) rfl T.g_has_no_throw (k_has_no_throw T) (b_has_no_throw T) .nil pass0 (pa_cons (pv 0) (pa_cons (pv 1) (pa_cons (pe_call G_row_of_shape (hr.mono (by decide)) rfl T.g_row_of_shape (k_row_of_shape T) (b_row_of_shape T) .nil pass0 (pa_cons (pv 11) pa_nil)) (pa_cons (pv 3) pa_nil))))))) (fun _ _ _ _ _ => (pv 11))))))))), ?_⟩
    obtain ⟨x, y, z, u, rfl, b, w0, a1, a2, a3, ws, ahead, block, behind, rfl, rfl, rfl, rfl, hb, hW, h1, h2, h3, l1, l2, l3, n1, n20, n2, n3, k⟩ := h.ex
    obtain ⟨dx, hb0⟩ := id hb
    obtain ⟨_, was, w1, w2, w3⟩ := id hW
    have ne : block ≠ [] := fun z => by rw [z] at n20; cases n20
    -- greatest
    refine ⟨_, rfl, a2, rfl, ⟨_, h2⟩, fun D nD => lc_tup (K := K) (a := a2) (xs := block.map vNat) (fun i H' => H' D = some (.lst (((block.take i).map (fstAt ws)).map V.int)) ∧ Ex H H') ⟨upd_same, Ex.new nD⟩ (fun i H' _ q => ex_t q.2 h2) ?_ ?_⟩
    · rintro i y H1 hi ⟨p1, p2⟩
      obtain ⟨j, hj, rfl⟩ := nats_get hi
      obtain ⟨o, o1, o2⟩ := WinAt.item w2 w3 (l2 j (List.mem_of_getElem? hj))
      have et : block.take (i + 1) = block.take i ++ [j] := by
        rw [List.take_succ_eq_append_getElem (List.getElem?_eq_some_iff.mp hj).1, (List.getElem?_eq_some_iff.mp hj).2]
      refine ⟨rfl, _, rfl, b, A.C_Book, dx, _, _, rfl, p2 _ _ hb0, T.cl_Book, T.na_windows, by simp [List.lookup], _, rfl, w0, _, (j : Int), _, rfl, rfl, ex_t p2 w1, atI_of o1, o, _, 0, _, rfl, rfl, ex_t p2 o2, rfl, ?_⟩
      refine ⟨_, p1, small1000 (by rw [List.length_map, List.length_map, List.length_take]; omega), ?_, p2.mut nD⟩
      rw [upd_same, et, List.map_append, List.map_append] <;> rfl
    rintro H1 ⟨p1, e1⟩
    rw [List.length_map, List.take_length] at p1
    refine ⟨D, _, rfl, SqL.of p1, by rw [List.length_map]; omega, fun g hg hmax => ?_⟩
    have eg : g = topF ws block := by
      obtain ⟨⟨q, q1, q2⟩, top⟩ := topF_spec ws ne
      obtain ⟨q', q3, q4⟩ := List.mem_map.mp hg
      have t1 := top q' q3
      have t2 := hmax _ (List.mem_map_of_mem q1)
      omega
    subst eg
    clear hg hmax p1
    -- alike
    refine ⟨_, rfl, a2, rfl, ⟨_, ex_t e1 h2⟩, fun D2 nD2 => lc_tup (K := K) (a := a2) (xs := block.map vNat) (fun i H' => H' D2 = some (.lst (((block.take i).filter fun j => decide (fstAt ws j = topF ws block)).map vNat)) ∧ Ex H1 H') ⟨upd_same, Ex.new nD2⟩ (fun i H' _ q => ex_t (e1.trans q.2) h2) ?_ ?_⟩
    · rintro i y H2 hi ⟨p1, p2⟩
      obtain ⟨j, hj, rfl⟩ := nats_get hi
      obtain ⟨o, o1, o2⟩ := WinAt.item w2 w3 (l2 j (List.mem_of_getElem? hj))
      have q2 := e1.trans p2
      refine ⟨rfl, _, rfl, b, A.C_Book, dx, _, _, rfl, q2 _ _ hb0, T.cl_Book, T.na_windows, by simp [List.lookup], _, rfl, w0, _, (j : Int), _, rfl, rfl, ex_t q2 w1, atI_of o1, o, _, 0, _, rfl, rfl, ex_t q2 o2, rfl, _, rfl, rfl, _, rfl, ite2 (fun cc => ?_) (fun cc => ?_)⟩
      · have c2 : decide (fstAt ws j = topF ws block) = true := decide_eq_true (by
          have := of_decide_eq_true cc
          injection this)
        refine ⟨_, rfl, _, p1, small1000 ?_, ?_, p2.mut nD2⟩
        · rw [List.length_map]
          have := List.length_filter_le (fun j => decide (fstAt ws j = topF ws block)) (block.take i)
          rw [List.length_take] at this
          omega
        · rw [upd_same, filter_snoc hj, if_pos c2, List.map_append] <;> rfl
      · have c2 : decide (fstAt ws j = topF ws block) = false := decide_eq_false (fun z => cc (decide_eq_true (congrArg V.int z)))
        refine ⟨?_, p2⟩
        rw [filter_snoc hj, if_neg (by rw [c2]; exact Bool.false_ne_true), List.append_nil]
        exact p1
    rintro H2 ⟨p1, e2⟩
    rw [List.length_map, List.take_length] at p1
    refine ⟨D2, _, rfl, .inl ⟨SqL.of p1, fun al nal => ?_⟩⟩
    have e3 : Ex H2 (L2.upd H2 al (.tup ((alikeN ws block).map vNat))) := Ex.new nal
    have hal : (L2.upd H2 al (.tup ((alikeN ws block).map vNat))) al = some (.tup ((alikeN ws block).map vNat)) := upd_same
    show tSeq _ _ _ _ (L2.upd H2 al (.tup ((alikeN ws block).map vNat)))
    generalize L2.upd H2 al (.tup ((alikeN ws block).map vNat)) = H3 at e3 hal
    have e03 := (e1.trans e2).trans e3
    clear p1 e1 e2 e3
    -- outer
    refine ⟨_, rfl, a2, rfl, ⟨_, ex_t e03 h2⟩, fun D3 nD3 => lc_tup (K := K) (a := a2) (xs := block.map vNat) (fun i H' => H' D3 = some (.lst (((block.take i).filter fun j => !decide (j ∈ alikeN ws block)).map vNat)) ∧ Ex H3 H') ⟨upd_same, Ex.new nD3⟩ (fun i H' _ q => ex_t (e03.trans q.2) h2) ?_ ?_⟩
    · rintro i y H4 hi ⟨p1, p2⟩
      obtain ⟨j, hj, rfl⟩ := nats_get hi
      refine ⟨rfl, _, rfl, _, rfl, al, _, rfl, .inr (SqT.of (p2 _ _ hal)), rfl, flat_nats _, _, rfl, ?_⟩
      rw [if_pos rfl, inV_nats]
      refine ite2 (fun cc => ?_) (fun cc => ?_)
      · refine ⟨_, rfl, _, p1, small1000 ?_, ?_, p2.mut nD3⟩
        · rw [List.length_map]
          have := List.length_filter_le (fun j => !decide (j ∈ alikeN ws block)) (block.take i)
          rw [List.length_take] at this
          omega
        · rw [upd_same, filter_snoc hj, if_pos cc, List.map_append] <;> rfl
      · refine ⟨?_, p2⟩
        rw [filter_snoc hj, if_neg cc, List.append_nil]
        exact p1
    rintro H4 ⟨p1, e4⟩
    rw [List.length_map, List.take_length] at p1
    refine ⟨D3, _, rfl, .inl ⟨SqL.of p1, fun ou nou => ?_⟩⟩
    have e5 : Ex H4 (L2.upd H4 ou (.tup ((outerN ws block).map vNat))) := Ex.new nou
    have hou : (L2.upd H4 ou (.tup ((outerN ws block).map vNat))) ou = some (.tup ((outerN ws block).map vNat)) := upd_same
    show tSeq _ _ _ _ (L2.upd H4 ou (.tup ((outerN ws block).map vNat)))
    generalize L2.upd H4 ou (.tup ((outerN ws block).map vNat)) = H5 at e5 hou
    have e35 := e4.trans e5
    clear p1 e4 e5
    -- shapes
    refine ⟨_, rfl, ⟨_, rfl, ou, outerN ws block, rfl, SqT.of hou, fun p H6 np e6 tp => ?_⟩⟩
    obtain ⟨bs, hp, hbs, ebs⟩ := tp
    have bl : bs.length ≤ 2 := by
      have := congrArg List.length ebs
      rw [List.length_map] at this
      rw [this]
      generalize outerN ws block = O
      match O with
      | [] => decide
      | [_] => exact Nat.le_of_ble_eq_true rfl
      | [_, _] => exact Nat.le_of_ble_eq_true rfl
      | _ :: _ :: _ :: _ => exact Nat.zero_le _
    have e36 := e35.trans e6
    refine ⟨p, rfl, ⟨_, SqL.of hp⟩, fun D4 nD4 => lc_ls (K := K) (shAt K) (a := p) (val := fun q : V × (List Nat × List Nat) => q.1) (bs := bs) (fun q => (q.2.1, alikeN ws block, q.2.2)) (fun _ => true) nD4 (SqL.of hp) (by omega) ?_ ?_⟩
    · rintro ⟨v, e⟩ H7 Y N hc e7 ky kn
      obtain ⟨q, h0, t0, hq1, hq2, hq3, hq4⟩ := (prAt K).ext (hbs _ hc) e7
      have hq1 : v = .ref q := hq1
      subst hq1
      refine ⟨q, _, rfl, hq2, rfl, _, _, rfl, _, _, rfl, rfl, rfl, _, rfl, _, rfl, _, rfl, (by show 3 ≤ sizeLine; decide), fun t nt => ky rfl (.ref t) _ (Ex.new nt) ⟨t, h0, al, t0, rfl, SqT.of upd_same, ex_t (Ex.new nt) hq3, ex_t ((e36.trans e7).trans (Ex.new nt)) (SqT.of hal), ex_t (Ex.new nt) hq4⟩⟩
    intro H7 e7 tS
    have es : (bs.filter fun _ => true).map (fun q : V × (List Nat × List Nat) => ((q.2.1, alikeN ws block, q.2.2) : Shp)) = (endsN (outerN ws block)).map fun e => (e.1, alikeN ws block, e.2) := by
      rw [List.filter_eq_self.mpr (fun _ _ => rfl), ← ebs, List.map_map] <;> rfl
    rw [es] at tS
    have e07 := (e03.trans e36).trans e7
    -- those without a throw
    obtain ⟨cs, hc, hcs, ecs⟩ := tS
    have cl : cs.length ≤ 2 := by
      have h1 := congrArg List.length ecs
      have h2 := congrArg List.length ebs
      rw [List.length_map, List.length_map] at h1
      rw [List.length_map] at h2
      omega
    refine ⟨_, rfl, D4, rfl, ⟨_, SqL.of hc⟩, fun D5 nD5 => lc_ls (K := K) (shAt K) (a := D4) (val := fun q : V × Shp => q.1) (bs := cs) (fun q => q.2) (fun q => clearN ws ahead (rowS q.2) behind) nD5 (SqL.of hc) (by omega) ?_ ?_⟩
    · rintro ⟨v, s⟩ H8 Y N hcm e8 ky kn
      have sh := (shAt K).ext (hcs _ hcm) e8
      have e08 := e07.trans e8
      have sm : s ∈ (endsN (outerN ws block)).map fun e => ((e.1, alikeN ws block, e.2) : Shp) := by
        rw [← ecs]
        exact List.mem_map_of_mem hcm
      obtain ⟨e, he, es2⟩ := List.mem_map.mp sm
      have pe : (rowS s).Perm block := by
        rw [← es2]
        exact (ends_perm he _).trans parts_perm
      have pl := pe.length_eq
      refine ⟨rfl, _, rfl, _, rfl, _, rfl, ⟨_, rfl, s, sh, by omega, fun q H9 e9 hq => ?_⟩⟩
      have e09 := e08.trans e9
      refine ⟨_, rfl, ⟨_, _, _, _, rfl, b, w0, a1, q, a3, ws, ahead, rowS s, behind, rfl, rfl, rfl, rfl, hb.mono e09, hW.mono e09, ex_t e09 h1, hq, ex_t e09 h3, l1, fun j hj => l2 j (pe.mem_iff.mp hj), l3, n1, by omega, n3, fun HA eA => ⟨_, rfl, ite2 (fun cc => ?_) (fun cc => ?_)⟩⟩⟩
      · exact ⟨_, rfl, ky cc v HA (e9.trans eA) ((shAt K).ext sh (e9.trans eA))⟩
      · exact kn (Bool.eq_false_iff.mpr cc) HA (e9.trans eA)
    · intro H8 e8 tD
      have ed : (cs.filter fun q : V × Shp => clearN ws ahead (rowS q.2) behind).map (fun q => q.2) = shapesN ws ahead block behind := by
        unfold shapesN
        rw [← ecs, List.filter_map] <;> rfl
      rw [ed] at tD
      exact k D5 H8 (free_ex e07 nD5) (e07.trans e8) tD
theorem ok_all_shapes (T : Txt K mg A D) : FnOk P w K mg base CX0 7 A.a_all_shapes D.d_all_shapes p_all_shapes (sp_all_shapes K A) := by
  have G_blocks := ok_blocks (P := P) (w := w) (base := base) T
  have G_joined_rows := ok_joined_rows (P := P) (w := w) (base := base) T
  have G_shapes_of := ok_shapes_of (P := P) (w := w) (base := base) T
  refine T.F_all_shapes.ok sc_all_shapes (fun vs H Q E h => ?_) (fun cdv Ar outer s H vs Q E hr h => ?_)
  · exact h.len
  · have hu := hu_of hr
    refine ⟨_, (pss_cons (ps_set (i := 1) sc_all_shapes.nd rfl (Or.inl rfl) (pe_call G_blocks (hr.mono (by decide)) rfl T.g_blocks (k_blocks T) (b_blocks T) .nil pass0 (pa_cons (pv 0) pa_nil))) (pss_cons (ps_set (i := 2) sc_all_shapes.nd rfl (Or.inl rfl) (pe_lst pa_nil)) (pss_cons (ps_set (i := 3) sc_all_shapes.nd rfl (Or.inl rfl) (pe_tup pa_nil)) (pss_cons (ps_set (i := 4) sc_all_shapes.nd rfl (Or.inl rfl) (pe_call G_joined_rows (hr.mono (by decide)) rfl T.g_joined_rows (k_joined_rows T) (b_joined_rows T) .nil pass0 (pa_cons (pv 1) pa_nil))) (pss_cons (ps_for PassesOwn.never rfl (pi_list (pv 1)) (pg_name (i := 5) sc_all_shapes.nd rfl (Or.inl rfl)) (pss_cons (ps_set (i := 4) sc_all_shapes.nd rfl (Or.inl rfl) (pe_slice sl_tupA (pv 4) (po_some (pe_callB call_len_seq (by rfl) T.n_len (by decide +kernel) (pa_cons (pv 5) pa_nil))) po_none)) (pss_cons (ps_expr (pe_bm PySem.F.plainAttrs_list PySem.F.slot_list_append PySem.F.type_list_append mt_append (pv 2) (pa_cons (pe_call G_shapes_of (hr.mono (by decide)) rfl T.g_shapes_of (k_shapes_of T) (b_shapes_of T) .nil pass0 (pa_cons (pv 0) (pa_cons (pv 3) (pa_cons (pv 5) (pa_cons (pv 4) pa_nil))))) pa_nil))) (pss_one (ps_set (i := 3) sc_all_shapes.nd rfl (Or.inl rfl) (pe_op op_catA (pv 3) (pv 5))))))) (pss_one (ps_ret (pv 2)))))))), ?_⟩
    obtain ⟨x, rfl, b, w0, ws, rfl, hb, hW, hn0, hn8, k⟩ := h.ex
    refine ⟨_, rfl, ⟨_, rfl, b, w0, ws, rfl, hb, hW, hn0, hn8, fun l H1 hs nl e1 asc t1 => ?_⟩⟩
    have fl := blks_flat asc
    have fll := fl.length_eq
    rw [List.length_range] at fll
    have flt : ∀ j ∈ (blksN ws hs).flatten, j < ws.length := fun j hj => List.mem_range.mp (fl.mem_iff.mp hj)
    have nei : ∀ r ∈ blksN ws hs, r ≠ [] := fun r hr => by
      obtain ⟨m, hm, rfl⟩ := List.mem_map.mp hr
      obtain ⟨j, hj, e⟩ := (asc.mem m).mp hm
      intro z
      have : j ∈ (List.range ws.length).filter fun j => decide (midW ws j = m) := List.mem_filter.mpr ⟨List.mem_range.mpr hj, decide_eq_true e⟩
      rw [z] at this
      cases this
    generalize hbl : blksN ws hs = bl at t1 fl fll flt nei
    obtain ⟨bs, hl, hbs, ebs⟩ := id t1
    have lbs : bs.length = bl.length := by rw [← ebs, List.length_map]
    -- found = [], ahead = ()
    refine ⟨Nat.zero_le _, fun f nf => ⟨Nat.zero_le _, fun a0 na0 => ?_⟩⟩
    have x1 : Ex H1 (L2.upd (L2.upd H1 f (.lst [])) a0 (.tup [])) := (Ex.new nf).trans (Ex.new na0)
    have f1 : (L2.upd (L2.upd H1 f (.lst [])) a0 (.tup [])) f = some (.lst []) := Ex.new na0 _ _ upd_same
    have a01 : (L2.upd (L2.upd H1 f (.lst [])) a0 (.tup [])) a0 = some (.tup (([] : List Nat).map vNat)) := upd_same
    show tSeq _ _ _ _ (L2.upd (L2.upd H1 f (.lst [])) a0 (.tup []))
    generalize L2.upd (L2.upd H1 f (.lst [])) a0 (.tup []) = H2 at x1 f1 a01
    -- behind
    refine ⟨_, rfl, ⟨_, rfl, l, _, rfl, t1.ext x1, by omega, fun q H3 e3 hq => ?_⟩⟩
    refine ⟨_, rfl, l, rfl, ⟨_, SqL.of ((x1.trans e3) _ _ hl)⟩, for_list (K := K) (a := l) (xs := bs.map (·.1)) (fun i σ H' => ∃ (v5 : Option V) (ah bh : Addr) (L : List (List Shp)), σ = [some (.ref b), some (.ref l), some (.ref f), some (.ref ah), some (.ref bh), v5] ∧ Ex H1 H' ∧ SqT K H' ah ((bl.take i).flatten.map vNat) ∧ SqT K H' bh ((bl.drop i).flatten.map vNat) ∧ Lss K H' f L ∧ allSh ws [] bl = L ++ allSh ws (bl.take i).flatten (bl.drop i))
      ⟨_, a0, q, [], rfl, x1.trans e3, ex_t e3 (SqT.of a01), hq, ⟨[], e3 _ _ f1, .nil⟩, rfl⟩ (fun i σ H' _ ⟨_, _, _, _, _, e, _⟩ => SqL.of (e _ _ hl)) ?_ ?_⟩
    · clear x1 f1 a01 e3 hq
      rintro i y σ H4 hi ⟨v5, ah, bh, L, rfl, e4, ha, hbh, tL, eL⟩
      obtain ⟨qa, r, rfl, hr1, hr2, hr3⟩ := RL.get hbs hi
      rw [ebs] at hr1 hr2
      have hr4 := ex_t e4 hr3
      obtain ⟨df, dd⟩ := drop_flat hr1
      have rn := nei r hr2
      have whole : (bl.take i).flatten ++ (r ++ (bl.drop (i + 1)).flatten) = bl.flatten := by
        rw [← df, ← List.flatten_append, List.take_append_drop]
      have wl := congrArg List.length whole
      rw [List.length_append, List.length_append, fll] at wl
      have inall : ∀ j, j ∈ (bl.take i).flatten ∨ j ∈ r ∨ j ∈ (bl.drop (i + 1)).flatten → j < ws.length := fun j hj => flt j (by
        rw [← whole, List.mem_append, List.mem_append]
        exact hj)
      -- behind = behind[len(block):]
      refine ⟨_, rfl, _, rfl, qa, _, rfl, .inr hr4, _, rfl, slice_readN hbh fun bh2 H5 e5 hb5 => ?_⟩
      have eb : cutV ((bl.drop i).flatten.map vNat) (some (((r.map vNat).length : Nat) : Int)) none = (bl.drop (i + 1)).flatten.map vNat := by
        rw [cut_drop, df, List.length_map, List.drop_left]
      rw [eb] at hb5
      have e15 := e4.trans e5
      have e05 := e1.trans e15
      have tL5 := tL.ext e5
      obtain ⟨as, hf, hea⟩ := tL5
      have las := each_len hea
      have lL : L.length ≤ 8 := by
        have h1 := congrArg List.length eL
        rw [allSh_len, List.length_append, allSh_len, List.length_drop] at h1
        have h2 : i < bl.length := (List.getElem?_eq_some_iff.mp hr1).1
        have h3 : bl.length ≤ bl.flatten.length := by
          have q : ∀ {l : List (List Nat)}, (∀ r ∈ l, r ≠ []) → l.length ≤ l.flatten.length := by
            intro l
            induction l with
            | nil => intro _; exact Nat.le_refl _
            | cons x l ih =>
              intro h
              have h1 := ih fun y hy => h y (List.mem_cons_of_mem _ hy)
              have h2 : 0 < x.length := List.length_pos_iff.mpr (h x (List.mem_cons_self ..))
              rw [List.flatten_cons, List.length_append, List.length_cons]
              omega
          exact q nei
        omega
      have rpos : 0 < r.length := List.length_pos_iff.mpr rn
      -- found.append(shapes_of(..))
      refine ⟨_, rfl, .inl ⟨rfl, _, SqL.of hf⟩, _, rfl, _, rfl, _, rfl, _, rfl, ⟨_, _, _, _, rfl, b, w0, ah, qa, bh2, ws, _, r, _, rfl, rfl, rfl, rfl, hb.mono e05, hW.mono e05, ex_t e5 ha, ex_t e5 hr4, hb5, fun j hj => inall j (.inl hj), fun j hj => inall j (.inr (.inl hj)), fun j hj => inall j (.inr (.inr hj)), by omega, rpos, by omega, by omega, fun p H6 np e6 tp => ?_⟩⟩
      have hf6 := e6 _ _ hf
      have pf : p ≠ f := (ne_of_none hf np).symm
      have hea6 := each_imp (fun a ss (q : a ≠ f ∧ Ls (ShAt K) H5 a ss) => (⟨q.1, q.2.ext (shAt K) e6⟩ : a ≠ f ∧ Ls (ShAt K) H6 a ss)) hea
      refine ⟨f, _, _, rfl, rfl, hf6, small1000 (by rw [List.length_map, las]; omega), ?_⟩
      have tn := Lss.push hf6 hea6 tp pf
      have x6 : Ex H1 (L2.upd H6 f (.lst (as.map V.ref ++ [.ref p]))) := (e15.trans e6).mut nf
      have ha6 : SqT K (L2.upd H6 f (.lst (as.map V.ref ++ [.ref p]))) ah ((bl.take i).flatten.map vNat) := sqt_upd hf6 (ex_t (e5.trans e6) ha)
      have hb6 : SqT K (L2.upd H6 f (.lst (as.map V.ref ++ [.ref p]))) bh2 ((bl.drop (i + 1)).flatten.map vNat) := sqt_upd hf6 (ex_t e6 hb5)
      have hr6 : SqT K (L2.upd H6 f (.lst (as.map V.ref ++ [.ref p]))) qa (r.map vNat) := sqt_upd hf6 (ex_t (e5.trans e6) hr4)
      generalize L2.upd H6 f (.lst (as.map V.ref ++ [.ref p])) = H7 at tn x6 ha6 hb6 hr6
      refine ⟨_, rfl, _, rfl, cat_read ha6 hr6 (by rw [List.length_map, List.length_map]; omega) fun ah2 H8 e8 ha8 => ⟨_, ah2, bh2, _, rfl, x6.trans e8, ?_, ex_t e8 hb6, tn.ext e8, ?_⟩⟩
      · rw [flatten_take hr1, List.map_append]
        exact ha8
      · rw [eL, dd, flatten_take hr1, List.append_assoc] <;> rfl
    · rintro σ H4 ⟨v5, ah, bh, L, rfl, e4, ha, hbh, tL, eL⟩
      rw [List.length_map, lbs] at eL
      have ed : bl.drop bl.length = [] := List.drop_of_length_le (Nat.le_refl _)
      rw [ed] at eL
      have eL : allSh ws [] bl = L := by
        rw [eL]
        exact List.append_nil _
      rw [← eL, ← hbl] at tL
      exact ⟨_, rfl, k f H4 hs (free_ex e1 nf) (e1.trans e4) asc tL⟩
theorem ok_checked_shapes (T : Txt K mg A D) : FnOk P w K mg base CX0 8 A.a_checked_shapes D.d_checked_shapes p_checked_shapes (sp_checked_shapes K A) := by
  have G_all_shapes := ok_all_shapes (P := P) (w := w) (base := base) T
  have G_TooMany_init := ok_TooMany_init (P := P) (w := w) (base := base) T
  have G_blocks := ok_blocks (P := P) (w := w) (base := base) T
  obtain ⟨u_MOST_OF_ONE_MIDDLE, c_MOST_OF_ONE_MIDDLE⟩ := T.c_MOST_OF_ONE_MIDDLE
  refine T.F_checked_shapes.ok sc_checked_shapes (fun vs H Q E h => ?_) (fun cdv Ar outer s H vs Q E hr h => ?_)
  · exact h.len
  · have hu := hu_of hr
    refine ⟨_, (pss_cons (ps_if (pt_cmpR op_gt (pe_callB (cr_max rfl) (by rfl) T.n_max (by decide +kernel) (pa_cons (pe_lc (own := [("block", 1)]) (g := (gName 1)) (tt := tYes) rfl sc_checked_shapes.nd (pi_list (pe_call G_blocks (hr.mono (by decide)) rfl T.g_blocks (k_blocks T) (b_blocks T) .nil pass0 (pa_cons (pv 0) pa_nil))) (blkOk_by (own := [("block", 1)]) (N := n_checked_shapes) (sc := defScope s_checked_shapes) (by decide +kernel)) (fun _ _ _ _ _ => (pg_name (i := 1) sc_checked_shapes.nd rfl (Or.inl rfl))) (fun _ _ _ _ _ => pts_nil) (fun _ _ _ _ _ => (pe_callB (call_len_seqB (K := K)) (by rfl) T.n_len (by decide +kernel) (pa_cons (pv 1) pa_nil)))) pa_nil)) (pe_glob (v := .int 8) rfl c_MOST_OF_ONE_MIDDLE ⟨_, rfl⟩) (nomark _)) (pss_one ps_never) pss_nil) (pss_one (ps_ret (pe_call G_all_shapes (hr.mono (by decide)) rfl T.g_all_shapes (k_all_shapes T) (b_all_shapes T) .nil pass0 (pa_cons (pv 0) pa_nil))))), ?_⟩
    obtain ⟨x, rfl, b, w0, ws, rfl, hb, hW, hn0, hn8, k⟩ := h.ex
    refine ⟨_, rfl, ⟨_, rfl, b, w0, ws, rfl, hb, hW, hn0, hn8, fun l H1 hs nl e1 asc t1 => ?_⟩⟩
    obtain ⟨bs, hl, hbs, ebs⟩ := t1
    have bl : bs.length ≤ 8 := by
      have h1 := congrArg List.length ebs
      have h2 := asc_len asc
      unfold blksN at h1
      rw [List.length_map, List.length_map] at h1
      omega
    refine ⟨l, rfl, ⟨_, SqL.of hl⟩, fun D nD => lc_list (K := K) (a := l) (xs := bs.map (·.1)) (fun i H' => H' D = some (.lst ((((bs.map (·.2)).take i).map fun r => ((r.length : Nat) : Int)).map V.int)) ∧ Ex H1 H') ⟨upd_same, Ex.new nD⟩ (fun i H' _ q => SqL.of (q.2 _ _ hl)) ?_ ?_⟩
    · rintro i y H2 hi ⟨p1, p2⟩
      obtain ⟨qa, r, rfl, hr1, hr2, hr3⟩ := RL.get hbs hi
      have et : (bs.map (·.2)).take (i + 1) = (bs.map (·.2)).take i ++ [r] := by
        rw [List.take_succ_eq_append_getElem (List.getElem?_eq_some_iff.mp hr1).1, (List.getElem?_eq_some_iff.mp hr1).2]
      refine ⟨rfl, _, rfl, qa, _, rfl, .inr (ex_t p2 hr3), _, p1, small1000 ?_, ?_, p2.mut nD⟩
      · rw [List.length_map, List.length_map, List.length_take, List.length_map]
        omega
      · rw [upd_same, et, List.map_append, List.map_append, List.length_map] <;> rfl
    rintro H2 ⟨p1, e2⟩
    rw [List.take_of_length_le (Nat.le_of_eq (by rw [List.length_map, List.length_map])), ebs] at p1
    have bp := asc_pos asc hn0
    refine ⟨D, _, rfl, SqL.of p1, by rw [List.length_map]; exact bp, fun m hm hmax => ⟨_, _, rfl, rfl, _, rfl, ?_⟩⟩
    have m8 : m ≤ 8 := by
      obtain ⟨r, hr, rfl⟩ := List.mem_map.mp hm
      obtain ⟨q, _, rfl⟩ := List.mem_map.mp hr
      have := List.length_filter_le (fun j => decide (midW ws j = q)) (List.range ws.length)
      rw [List.length_range] at this
      omega
    rw [decide_eq_false (show ¬ (8 : Int) < m by omega)]
    refine iteF ⟨_, rfl, ⟨_, rfl, b, w0, ws, rfl, hb.mono (e1.trans e2), hW.mono (e1.trans e2), hn0, hn8, fun p H3 hs' np e3 asc' t3 => k p H3 hs' (free_ex (e1.trans e2) np) ((e1.trans e2).trans e3) asc' t3⟩⟩
theorem ok_many_of_block (T : Txt K mg A D) : FnOk P w K mg base CX0 1 A.a_many_of_block D.d_many_of_block p_many_of_block (sp_many_of_block K A) := by
  refine T.F_many_of_block.ok sc_many_of_block (fun vs H Q E h => ?_) (fun cdv Ar outer s H vs Q E hr h => ?_)
  · exact h.len
  · have hu := hu_of hr
    refine ⟨_, (pss_one (ps_ret (pe_callB (cr_sum rfl) (by rfl) T.n_sum (by decide +kernel) (pa_cons (pe_lc (own := [("head", 1), ("alike", 2), ("tail", 3)]) (g := (gTup K 3 (gCons (gName 1) (gCons (gName 2) (gCons (gName 3) gNil))))) (tt := tYes) rfl sc_many_of_block.nd (pi_list (pv 0)) (blkOk_by (own := [("head", 1), ("alike", 2), ("tail", 3)]) (N := n_many_of_block) (sc := defScope s_many_of_block) (by decide +kernel)) (fun _ _ _ _ _ => (pg_tup rfl (pgs_cons (pg_name (i := 1) sc_many_of_block.nd rfl (Or.inl rfl)) (pgs_cons (pg_name (i := 2) sc_many_of_block.nd rfl (Or.inl rfl)) (pgs_cons (pg_name (i := 3) sc_many_of_block.nd rfl (Or.inl rfl)) pgs_nil))))) (fun _ _ _ _ _ => pts_nil) (fun _ _ _ _ _ => (pe_callM cr_fact rfl T.m_factorial (pa_cons (pe_callB (call_len_seqB (K := K)) (by rfl) T.n_len (by decide +kernel) (pa_cons (pv 2) pa_nil)) pa_nil)))) pa_nil)))), ?_⟩
    obtain ⟨x, rfl, a, ss, rfl, ha, n1, n2, k⟩ := h.ex
    obtain ⟨bs, hf, hb, rfl⟩ := id ha
    refine ⟨_, rfl, a, rfl, ⟨_, SqL.of hf⟩, fun D nD => lc_list (K := K) (a := a) (xs := bs.map (·.1)) (fun i H' => H' D = some (.lst ((((bs.map (·.2)).take i).map fun s => ((facN s.2.1.length : Nat) : Int)).map V.int)) ∧ Ex H H') ⟨upd_same, Ex.new nD⟩ (fun i H' _ q => SqL.of (q.2 _ _ hf)) ?_ ?_⟩
    · rintro i y H1 hi ⟨p1, p2⟩
      obtain ⟨s, hs1, hs2, ⟨u, h0, a0, t0, rfl, g1, g2, g3, g4⟩⟩ := Ls.get hb hi
      have et : (bs.map (·.2)).take (i + 1) = (bs.map (·.2)).take i ++ [s] := by
        rw [List.take_succ_eq_append_getElem (List.getElem?_eq_some_iff.mp hs1).1, (List.getElem?_eq_some_iff.mp hs1).2]
      refine ⟨u, _, rfl, ex_t p2 g1, rfl, _, _, rfl, _, _, rfl, _, _, rfl, rfl, rfl, _, rfl, a0, _, rfl, .inr (ex_t p2 g3), s.2.1.length, by rw [List.length_map], n2 s hs2, ?_⟩
      refine ⟨_, p1, small1000 ?_, ?_, p2.mut nD⟩
      · rw [List.length_map, List.length_map, List.length_take]
        omega
      · rw [upd_same, et, List.map_append, List.map_append] <;> rfl
    · rintro H1 ⟨p1, p2⟩
      rw [List.take_of_length_le (Nat.le_of_eq (by rw [List.length_map, List.length_map]))] at p1
      have pos := sum_pos (l := (bs.map (·.2)).map fun s : Shp => ((facN s.2.1.length : Nat) : Int)) fun x hx => by
        obtain ⟨s, hs, rfl⟩ := List.mem_map.mp hx
        exact facN_pos _ (n2 s hs)
      have top := sum_le (B := 479001600) (l := (bs.map (·.2)).map fun s : Shp => ((facN s.2.1.length : Nat) : Int)) fun x hx => by
        obtain ⟨s, hs, rfl⟩ := List.mem_map.mp hx
        exact facN_le _ (n2 s hs)
      rw [List.length_map] at top
      refine ⟨D, _, rfl, SqL.of p1, k _ H1 p2 ?_ pos.1 (by omega)⟩
      rw [pos.2, List.map_eq_nil_iff]
theorem ok_many_of_all (T : Txt K mg A D) : FnOk P w K mg base CX0 2 A.a_many_of_all D.d_many_of_all p_many_of_all (sp_many_of_all K A) := by
  have G_many_of_block := ok_many_of_block (P := P) (w := w) (base := base) T
  refine T.F_many_of_all.ok sc_many_of_all (fun vs H Q E h => ?_) (fun cdv Ar outer s H vs Q E hr h => ?_)
  · exact h.len
  · have hu := hu_of hr
    refine ⟨_, (pss_cons (ps_set (i := 1) sc_many_of_all.nd rfl (Or.inl rfl) pe_int) (pss_cons (ps_for PassesOwn.never rfl (pi_list (pv 0)) (pg_name (i := 2) sc_many_of_all.nd rfl (Or.inl rfl)) (pss_one (ps_set (i := 1) sc_many_of_all.nd rfl (Or.inl rfl) (pe_op op_mul (pv 1) (pe_call G_many_of_block (hr.mono (by decide)) rfl T.g_many_of_block (k_many_of_block T) (b_many_of_block T) .nil pass0 (pa_cons (pv 2) pa_nil)))))) (pss_one (ps_ret (pv 1))))), ?_⟩
    obtain ⟨x, rfl, a, L, rfl, ha, n1, k⟩ := h.ex
    obtain ⟨as, hf, hea⟩ := id ha
    have lal := each_len hea
    refine ⟨_, rfl, a, rfl, ⟨_, SqL.of hf⟩, for_list (K := K) (a := a) (xs := as.map V.ref) (fun i σ H' => ∃ (v2 : Option V) (m : Int), σ = [some (.ref a), some (.int m), v2] ∧ Ex H H' ∧ (m = 0 ↔ [] ∈ L.take i))
      ⟨_, 1, rfl, Ex.refl _, ⟨fun z => absurd z (by decide), fun z => (nomatch z)⟩⟩ (fun i σ H' _ ⟨_, _, _, e, _⟩ => SqL.of (e _ _ hf)) ?_ ?_⟩
    · rintro i y σ H1 hi ⟨v2, m, rfl, e1, hm⟩
      obtain ⟨u, hu, rfl⟩ : ∃ u, as[i]? = some u ∧ y = .ref u := by
        rw [List.getElem?_map] at hi
        cases e : as[i]? with
        | none => rw [e] at hi; cases hi
        | some c => rw [e] at hi; exact ⟨c, rfl, (Option.some.inj hi).symm⟩
      obtain ⟨ss, hss, _, hs2⟩ := each_get hea hu
      have hmem := List.mem_of_getElem? hss
      have et : L.take (i + 1) = L.take i ++ [ss] := by
        rw [List.take_succ_eq_append_getElem (List.getElem?_eq_some_iff.mp hss).1, (List.getElem?_eq_some_iff.mp hss).2]
      refine ⟨_, rfl, _, rfl, ⟨_, rfl, u, ss, rfl, hs2.ext (shAt K) e1, (n1 ss hmem).1, (n1 ss hmem).2, fun m2 H2 e2 h0 b1 b2 => ⟨_, _, rfl, rfl, .inr ⟨by omega, by omega⟩, _, _, rfl, e1.trans e2, ?_⟩⟩⟩
      rw [et, List.mem_append, List.mem_singleton, Int.mul_eq_zero, hm, h0]
      exact or_congr Iff.rfl ⟨fun z => z.symm, fun z => z.symm⟩
    · rintro σ H1 ⟨v2, m, rfl, e1, hm⟩
      rw [List.take_of_length_le (Nat.le_of_eq (by rw [List.length_map, lal]))] at hm
      exact ⟨_, rfl, k m H1 e1 hm⟩
theorem ok_one_order (T : Txt K mg A D) : FnOk P w K mg base CX0 9 A.a_one_order D.d_one_order p_one_order (sp_one_order K A) := by
  have G_checked_shapes := ok_checked_shapes (P := P) (w := w) (base := base) T
  have G_joined_rows := ok_joined_rows (P := P) (w := w) (base := base) T
  have G_many_of_all := ok_many_of_all (P := P) (w := w) (base := base) T
  have G_row_of_shape := ok_row_of_shape (P := P) (w := w) (base := base) T
  refine T.F_one_order.ok sc_one_order (fun vs H Q E h => ?_) (fun cdv Ar outer s H vs Q E hr h => ?_)
  · exact h.len
  · have hu := hu_of hr
    refine ⟨_, (pss_cons (ps_set (i := 1) sc_one_order.nd rfl (Or.inl rfl) (pe_call G_checked_shapes (hr.mono (by decide)) rfl T.g_checked_shapes (k_checked_shapes T) (b_checked_shapes T) .nil pass0 (pa_cons (pv 0) pa_nil))) (pss_cons (ps_if (pt_cmpR op_eq (pe_call G_many_of_all (hr.mono (by decide)) rfl T.g_many_of_all (k_many_of_all T) (b_many_of_all T) .nil pass0 (pa_cons (pv 1) pa_nil)) pe_int (nomark _)) (pss_one (ps_ret pe_non)) pss_nil) (pss_one (ps_ret (pe_call G_joined_rows (hr.mono (by decide)) rfl T.g_joined_rows (k_joined_rows T) (b_joined_rows T) .nil pass0 (pa_cons (pe_lc (own := [("shapes", 3)]) (g := (gName 3)) (tt := tYes) rfl sc_one_order.nd (pi_list (pv 1)) (blkOk_by (own := [("shapes", 3)]) (N := n_one_order) (sc := defScope s_one_order) (by decide +kernel)) (fun _ _ _ _ _ => (pg_name (i := 3) sc_one_order.nd rfl (Or.inl rfl))) (fun _ _ _ _ _ => pts_nil) (fun _ _ _ _ _ => (pe_callB (cr_minDataB (K := K) rfl hr.units) (by rfl) T.n_min (by decide +kernel) (pa_cons (pe_lc (own := [("shape", 2)]) (g := (gName 2)) (tt := tYes) rfl sc_one_order.nd ((pi_listB (K := K)) (pv 3)) (blkOk_in (own := [("shape", 2)]) (N := n_one_order) (by decide +kernel)) (fun _ _ _ _ _ => (pg_name (i := 2) sc_one_order.nd rfl (Or.inl rfl))) (fun _ _ _ _ _ => pts_nil) (fun _ _ _ _ _ => (pe_call G_row_of_shape (hr.mono (by decide)) rfl T.g_row_of_shape (k_row_of_shape T) (b_row_of_shape T) .nil pass0 (pa_cons (pv 2) pa_nil)))) pa_nil)))) pa_nil)))))), ?_⟩
    obtain ⟨x, rfl, b, w0, ws, rfl, hb, hW, hn0, hn8, hle, k⟩ := h.ex
    refine ⟨_, rfl, ⟨_, rfl, b, w0, ws, rfl, hb, hW, hn0, hn8, fun p H1 hs np e1 asc t1 => ?_⟩⟩
    have fl := blks_flat asc
    have fll := fl.length_eq
    rw [List.length_range] at fll
    have b12 : ∀ r ∈ blksN ws hs, r.length ≤ 12 := fun r hr => by
      obtain ⟨m, hm, rfl⟩ := List.mem_map.mp hr
      have := List.length_filter_le (fun j => decide (midW ws j = m)) (List.range ws.length)
      rw [List.length_range] at this
      omega
    have small := allSh_small (ws := ws) (bs := blksN ws hs) (ahead := []) b12
    have rows := allSh_rows (ws := ws) (bs := blksN ws hs) (ahead := []) b12
    refine ⟨_, rfl, ⟨_, rfl, p, _, rfl, t1, small, fun m H2 e2 h0 => ⟨rfl, _, rfl, ite2 (fun cc => ?_) (fun cc => ?_)⟩⟩⟩
    · have z : m = 0 := by
        have := of_decide_eq_true cc
        injection this
      exact k .non none H2 (e1.trans e2) (told_none asc hle (h0.mp z)) rfl
    have full : [] ∉ allSh ws [] (blksN ws hs) := fun z => cc (decide_eq_true (congrArg V.int (h0.mpr z)))
    have best : ∀ rs, Each MinOf (allSh ws [] (blksN ws hs)) rs → Best ws rs.flatten := fun rs hr => told_best asc hle hr
    have lall := allSh_len (ws := ws) (bs := blksN ws hs) (ahead := [])
    generalize allSh ws [] (blksN ws hs) = L at t1 small rows full best lall
    obtain ⟨as, hp, hea⟩ := id (t1.ext e2)
    have lal := each_len hea
    have e02 := e1.trans e2
    have l8 : L.length ≤ 8 := by
      rw [lall]
      unfold blksN
      rw [List.length_map]
      exact Nat.le_trans (asc_len asc) hn8
    refine ⟨_, rfl, p, rfl, ⟨_, SqL.of hp⟩, fun D nD => lc_list (K := K) (a := p) (xs := as.map V.ref) (fun i H' => ∃ rs, Ls (TupAt K) H' D rs ∧ Each MinOf (L.take i) rs ∧ Ex H2 H') ⟨[], Ls.new upd_same, .nil, Ex.new nD⟩ (fun i H' _ ⟨_, _, _, e⟩ => SqL.of (e _ _ hp)) ?_ ?_⟩
    · rintro i y H3 hi ⟨rs, tr, er, e3⟩
      obtain ⟨u, hu, rfl⟩ : ∃ u, as[i]? = some u ∧ y = .ref u := by
        rw [List.getElem?_map] at hi
        cases e : as[i]? with
        | none => rw [e] at hi; cases hi
        | some c => rw [e] at hi; exact ⟨c, rfl, (Option.some.inj hi).symm⟩
      obtain ⟨ss, hss, _, hs2⟩ := each_get hea hu
      have hmem := List.mem_of_getElem? hss
      have et : L.take (i + 1) = L.take i ++ [ss] := by
        rw [List.take_succ_eq_append_getElem (List.getElem?_eq_some_iff.mp hss).1, (List.getElem?_eq_some_iff.mp hss).2]
      have ssn : ss ≠ [] := fun z => full (z ▸ hmem)
      have hs3 := hs2.ext (shAt K) e3
      obtain ⟨bs, hub, hbb, ebs⟩ := hs3
      have bl : bs.length ≤ 10 := by
        have := (small ss hmem).1
        rw [← ebs, List.length_map] at this
        exact this
      refine ⟨rfl, _, rfl, u, rfl, ⟨_, SqL.of hub⟩, fun D2 nD2 => lc_ls (K := K) (tupAt K) (a := u) (val := fun q : V × Shp => q.1) (bs := bs) (fun q => rowS q.2) (fun _ => true) nD2 (SqL.of hub) (by omega) ?_ ?_⟩
      · rintro ⟨v, s⟩ H4 Y N hc e4 ky kn
        refine ⟨rfl, _, rfl, ⟨_, rfl, s, (shAt K).ext (hbb _ hc) e4, ?_, fun q H5 e5 hq => ky rfl (.ref q) H5 e5 ⟨q, rfl, hq⟩⟩⟩
        have hs : s ∈ ss := by
          rw [← ebs]
          exact List.mem_map_of_mem hc
        have := rows ss hmem s hs
        omega
      · intro H4 e4 tD
        rw [List.filter_eq_self.mpr (fun _ _ => rfl)] at tD
        show rMinData K [V.ref D2] H4 (fun y H5 => ∃ acc, H5 D = some (.lst acc) ∧ acc.length < sizeLine ∧ ∃ rs, Ls (TupAt K) (L2.upd H5 D (.lst (acc ++ [y]))) D rs ∧ Each MinOf (L.take (i + 1)) rs ∧ Ex H2 (L2.upd H5 D (.lst (acc ++ [y]))))
        refine tD.rl.min (fun z => ssn (by rw [← ebs]; rw [List.map_eq_nil_iff] at z ⊢; exact z)) fun v r hr hmin hv => ?_
        have tr4 := tr.ext (tupAt K) e4
        obtain ⟨acc, q1, q2⟩ := tr4.at
        refine ⟨acc, q1, small1000 ?_, rs ++ [r], tr4.push (tupAt K) q1 hv, ?_, (e3.trans e4).mut nD⟩
        · have h1 := each_len er
          rw [List.length_take] at h1
          omega
        · rw [et]
          refine each_app er (.cons ⟨?_, fun s hs => ?_⟩ .nil)
          · obtain ⟨q, hq, rfl⟩ := List.mem_map.mp hr
            exact ⟨q.2, by rw [← ebs]; exact List.mem_map_of_mem hq, rfl⟩
          · rw [← ebs] at hs
            obtain ⟨q, hq, rfl⟩ := List.mem_map.mp hs
            exact hmin _ (List.mem_map.mpr ⟨q, hq, rfl⟩)
    · rintro H3 ⟨rs, tr, er, e3⟩
      rw [List.take_of_length_le (Nat.le_of_eq (by rw [List.length_map, lal]))] at er
      have B := best rs er
      have lr := B.1.length_eq
      rw [List.length_range] at lr
      exact ⟨_, rfl, D, rs, rfl, tr.rl, by omega, fun q H4 e4 hq => k (.ref q) (some rs.flatten) H4 ((e02.trans e3).trans e4) B ⟨q, rfl, hq⟩⟩
theorem ok_check_works (T : Txt K mg A D) : FnOk P w K mg base (L2.CX P w) 3 A.a_check_works D.d_check_works p_check_works (sp_check_works K A) := by
  have G_TooMany_init := ok_TooMany_init (P := P) (w := w) (base := base) T
  refine T.F_check_works.okX sc_check_works (fun vs H Q E h => ?_) (fun cdv Ar outer s H vs Q E hr h => ?_)
  · exact h.len
  · have hu := hu_of hr
    refine ⟨_, (pss_one (ps_if (pt_cmpR op_gt (pe_callB call_len_seq (by rfl) T.n_len (by decide +kernel) (pa_cons (pe_fld (pv 0) rfl) pa_nil)) (pv 1) (nomark _)) (pss_one (ps_raise rfl (takes_of rfl rfl rfl rfl) (pmk_oex T.e_TooMany T.i_TooMany T.t_TooMany G_TooMany_init (hr.mono (by decide)) (b_TooMany_init T) .nil pass0 rfl T.g_TooMany (pa_cons (pv 1) pa_nil)))) pss_nil)), ?_⟩
    obtain ⟨x, y, rfl, b, w, ws, m, rfl, rfl, hb, hW, kE, k⟩ := h.ex
    obtain ⟨wl, was, w1, w2, w3⟩ := id hW
    obtain ⟨dx, hb0⟩ := id hb
    refine ⟨_, rfl, b, A.C_Book, dx, _, _, rfl, hb0, T.cl_Book, T.na_windows, by simp [List.lookup], w, _, rfl, .inr w1, _, rfl, _, _, rfl, rfl, _, rfl, ite2 (fun cc => ?_) (fun cc => ?_)⟩
    · have c := of_decide_eq_true cc
      rw [List.length_map, w2] at c
      refine ⟨_, rfl, (by show 1 ≤ 1000; decide), fun a na => ⟨a, A.C_TooMany, .int (m : Int), rfl, T.e_TooMany, T.nf_TooMany, upd_same, fun dx ndx ne => ⟨rfl, dx, [("most", .int (m : Int))], upd_same, by rw [upd_ne ne]; exact upd_same, by rw [upd_ne ne] at ndx; exact ndx, ?_⟩⟩⟩
      rw [upd_ne ne] at ndx
      refine kE (by omega) dx _ (fun b o e => ?_) upd_same
      have ba : b ≠ a := ne_of_none e na
      have bd : b ≠ dx := ne_of_none e ndx
      rw [upd_ne bd, del_ne ba, upd_ne ba, upd_ne bd, upd_ne ba]
      exact e
    · refine k ?_
      have c : ¬ ((m : Int) < (was.map V.ref).length) := fun z => cc (decide_eq_true z)
      rw [List.length_map, w2] at c
      omega
theorem ok_has_one_order (T : Txt K mg A D) : FnOk P w K mg base CX0 8 A.a_has_one_order D.d_has_one_order p_has_one_order (sp_has_one_order K A) := by
  have G_all_shapes := ok_all_shapes (P := P) (w := w) (base := base) T
  refine T.F_has_one_order.ok sc_has_one_order (fun vs H Q E h => ?_) (fun cdv Ar outer s H vs Q E hr h => ?_)
  · exact h.len
  · have hu := hu_of hr
    refine ⟨_, (pss_one (ps_ret (pe_callB (cr_all rfl) (by rfl) T.n_all (by decide +kernel) (pa_cons (pe_lc (own := [("shapes", 1)]) (g := (gName 1)) (tt := tYes) rfl sc_has_one_order.nd (pi_list (pe_call G_all_shapes (hr.mono (by decide)) rfl T.g_all_shapes (k_all_shapes T) (b_all_shapes T) .nil pass0 (pa_cons (pv 0) pa_nil))) (blkOk_by (own := [("shapes", 1)]) (N := n_has_one_order) (sc := defScope s_has_one_order) (by decide +kernel)) (fun _ _ _ _ _ => (pg_name (i := 1) sc_has_one_order.nd rfl (Or.inl rfl))) (fun _ _ _ _ _ => pts_nil) (fun _ _ _ _ _ => (pe_cmpR op_gt (pe_callB (call_len_seqB (K := K)) (by rfl) T.n_len (by decide +kernel) (pa_cons (pv 1) pa_nil)) pe_int (nomark _)))) pa_nil)))), ?_⟩
    obtain ⟨x, rfl, b, w0, ws, rfl, hb, hW, hn0, hn8, hle, k⟩ := h.ex
    refine ⟨_, rfl, ⟨_, rfl, b, w0, ws, rfl, hb, hW, hn0, hn8, fun p H1 hs np e1 asc t1 => ?_⟩⟩
    have one := one_iff asc hle
    have lall := allSh_len (ws := ws) (bs := blksN ws hs) (ahead := [])
    generalize allSh ws [] (blksN ws hs) = L at t1 one lall
    obtain ⟨as, hp, hea⟩ := id t1
    have lal := each_len hea
    have l8 : L.length ≤ 8 := by
      rw [lall]
      unfold blksN
      rw [List.length_map]
      exact Nat.le_trans (asc_len asc) hn8
    refine ⟨p, rfl, ⟨_, SqL.of hp⟩, fun D nD => lc_list (K := K) (a := p) (xs := as.map V.ref) (fun i H' => H' D = some (.lst (((L.take i).map fun ss => decide (ss ≠ [])).map V.bl)) ∧ Ex H1 H') ⟨upd_same, Ex.new nD⟩ (fun i H' _ q => SqL.of (q.2 _ _ hp)) ?_ ?_⟩
    · rintro i y H3 hi ⟨p1, e3⟩
      obtain ⟨u, hu, rfl⟩ : ∃ u, as[i]? = some u ∧ y = .ref u := by
        rw [List.getElem?_map] at hi
        cases e : as[i]? with
        | none => rw [e] at hi; cases hi
        | some c => rw [e] at hi; exact ⟨c, rfl, (Option.some.inj hi).symm⟩
      obtain ⟨ss, hss, _, hs2⟩ := each_get hea hu
      have et : L.take (i + 1) = L.take i ++ [ss] := by
        rw [List.take_succ_eq_append_getElem (List.getElem?_eq_some_iff.mp hss).1, (List.getElem?_eq_some_iff.mp hss).2]
      obtain ⟨bs, hub, hbb, ebs⟩ := hs2.ext (shAt K) e3
      refine ⟨rfl, _, rfl, u, _, rfl, .inl (SqL.of hub), _, _, rfl, rfl, _, p1, small1000 (by rw [List.length_map, List.length_map, List.length_take]; omega), ?_, e3.mut nD⟩
      have ed : decide ((0 : Int) < (bs.map (·.1)).length) = decide (ss ≠ []) := decide_eq_decide.mpr (by
        rw [← ebs, List.length_map, ne_eq, List.map_eq_nil_iff]
        cases bs with
        | nil => simp
        | cons c r => simp)
      rw [upd_same, et, List.map_append, List.map_append]
      exact congrArg (fun z => some (HO.lst (((L.take i).map fun ss => decide (ss ≠ [])).map V.bl ++ [V.bl z]))) ed
    · rintro H3 ⟨p1, e3⟩
      rw [List.take_of_length_le (Nat.le_of_eq (by rw [List.length_map, lal]))] at p1
      refine ⟨D, _, rfl, SqL.of p1, k _ H3 (e1.trans e3) ?_⟩
      rw [← one, List.all_eq_true]
      constructor
      · intro q z
        have := q _ (List.mem_map_of_mem (f := fun ss => decide (ss ≠ [])) z)
        exact absurd this (by simp)
      · rintro q b' hb'
        obtain ⟨ss, hm, rfl⟩ := List.mem_map.mp hb'
        exact decide_eq_true fun e => q (e ▸ hm)
theorem ok_welcome (T : Txt K mg A D) : FnOk P w K mg base (L2.CX P w) 9 A.a_welcome D.d_welcome p_welcome (sp_welcome K A) := by
  have G_check_works := ok_check_works (P := P) (w := w) (base := base) T
  have G_NoNumber_init := ok_NoNumber_init (P := P) (w := w) (base := base) T
  have G_is_integer := ok_is_integer (P := P) (w := w) (base := base) T
  have G_has_one_order := ok_has_one_order (P := P) (w := w) (base := base) T
  have G_unbounded := ok_unbounded (P := P) (w := w) (base := base) T
  obtain ⟨u_LATEST_WELCOME, c_LATEST_WELCOME⟩ := T.c_LATEST_WELCOME
  obtain ⟨u_MOST_WORKS_HERE, c_MOST_WORKS_HERE⟩ := T.c_MOST_WORKS_HERE
  refine T.F_welcome.okX sc_welcome (fun vs H Q E h => ?_) (fun cdv Ar outer s H vs Q E hr h => ?_)
  · exact h.len
  · have hu := hu_of hr
    refine ⟨_, (pss_cons (ps_if (PW.pt (pw_or (pt_not (pt_val (pe_call G_is_integer (hr.mono (by decide)) rfl T.g_is_integer (k_is_integer T) (b_is_integer T) .nil pass0 (pa_cons (pv 1) pa_nil)))) (pw_or1 (pt_not (pt_chain op_le op_le pe_int (pv 1) (pe_glob (v := .int 20) rfl c_LATEST_WELCOME ⟨_, rfl⟩)))))) (pss_one (ps_raise rfl (takes_of rfl rfl rfl rfl) (pmk_oex0 T.e_NoNumber T.i_NoNumber T.t_NoNumber G_NoNumber_init (hr.mono (by decide)) (b_NoNumber_init T) pass0 rfl T.g_NoNumber))) pss_nil) (pss_cons (ps_expr (pe_call G_check_works (hr.mono (by decide)) rfl T.g_check_works (k_check_works T) (b_check_works T) .nil (passes_call (takes_of rfl rfl rfl rfl) (fun _ _ _ _ h => h)) (pa_cons (pv 0) (pa_cons (pe_glob (v := .int 8) rfl c_MOST_WORKS_HERE ⟨_, rfl⟩) pa_nil)))) (pss_cons (ps_setLc2 (i := 4) (own := [("first", 2), ("last", 3)]) (vs1 := [3]) (g := (gName 2)) (g1 := (gName 3)) (tt := tYes) (tt1 := tYes) rfl sc_welcome.nd rfl rfl (sw_true rfl rfl rfl (by decide +kernel)) (pi_range1 (by rfl) T.n_range (pa_cons (pe_op op_add (pv 1) pe_int) pa_nil)) (blkOk_by (own := [("first", 2), ("last", 3)]) (N := n_welcome) (sc := defScope s_welcome) (by decide +kernel)) (by decide) (fun _ _ _ _ _ => (pg_name (i := 2) sc_welcome.nd rfl (Or.inl rfl))) (fun _ _ _ _ _ => pts_nil) (fun _ _ _ _ _ => (pi_range2 (by rfl) T.n_range (pa_cons (pv 2) (pa_cons (pe_op op_add (pv 1) pe_int) pa_nil)))) (fun _ _ _ _ _ => (pg_name (i := 3) sc_welcome.nd rfl (Or.inl rfl))) (fun _ _ _ _ _ => pts_nil) (fun _ _ _ _ _ => (pe_tup (pa_cons (pv 2) (pa_cons (pv 3) pa_nil))))) (pss_one (ps_ret (pe_lc (own := [("window", 5)]) (g := (gName 5))  rfl sc_welcome.nd (pi_list (pv 4)) (blkOk_by (own := [("window", 5)]) (N := n_welcome) (sc := defScope s_welcome) (by decide +kernel)) (fun _ _ _ _ _ => (pg_name (i := 5) sc_welcome.nd rfl (Or.inl rfl))) (fun _ _ _ _ _ => pts_one (pt_val (pe_call G_has_one_order (hr.mono (by decide)) rfl T.g_has_one_order (k_has_one_order T) (b_has_one_order T) .nil pass0 (pa_cons (pe_call G_unbounded (hr.mono (by decide)) rfl T.g_unbounded (k_unbounded T) (b_unbounded T) .nil pass0 (pa_cons (pe_op (op_catAB (K := K)) (pe_fldB (K := K) rfl (pv 0) rfl) (pe_tup (pa_cons (pv 5) pa_nil))) pa_nil)) pa_nil)))) (fun _ _ _ _ _ => (pv 5)))))))), ?_⟩
    obtain ⟨x, y, rfl, b, w0, ws, d, rfl, hb, hW, hR, hle, hpos, h8, kN, kM, k⟩ := h.ex
    obtain ⟨wl, was, w1, w2, w3⟩ := id hW
    refine ⟨_, rfl, ⟨_, rfl, d, hR, fun H1 e1 => ⟨_, rfl, ?_⟩⟩⟩
    cases hR with
    | int z =>
      have ng : ∀ c : ¬ (0 ≤ z ∧ z ≤ 20), MostOk (.int z) = false := fun c => by
        cases e : MostOk (.int z) with
        | false => rfl
        | true =>
          have e : (decide (0 ≤ z) && decide (z ≤ 20)) = true := e
          rw [Bool.and_eq_true, decide_eq_true_iff, decide_eq_true_iff] at e
          exact absurd e c
      refine iteF ⟨_, rfl, _, _, rfl, rfl, _, rfl, ite2 (fun c0 => ?_) (fun c0 => ⟨_, rfl, iteT (kN (ng fun q => c0 (decide_eq_true q.1)) H1 e1)⟩)⟩
      have z0 : 0 ≤ z := of_decide_eq_true c0
      refine ⟨_, _, rfl, rfl, _, rfl, ?_⟩
      by_cases c1 : z ≤ 20
      rotate_left
      · rw [decide_eq_false c1]
        exact iteT (kN (ng fun q => c1 q.2) H1 e1)
      rw [decide_eq_true c1]
      obtain ⟨m, rfl⟩ : ∃ m : Nat, z = (m : Int) := ⟨z.toNat, by omega⟩
      have hm : m ≤ 20 := by omega
      have ok : MostOk (.int (m : Int)) = true := by
        show (decide ((0 : Int) ≤ m) && decide ((m : Int) ≤ 20)) = true
        rw [decide_eq_true z0, decide_eq_true c1] <;> rfl
      refine iteF ⟨_, rfl, ⟨_, _, rfl, b, w0, ws, 8, rfl, rfl, hb.mono e1, hW.mono e1, fun q dx H' e => kM ok q dx H' (e1.trans e), fun q => ?_⟩⟩
      -- windows
      refine ⟨_, rfl, _, _, rfl, rfl, (m : Int) + 1, rfl, by omega, by omega, fun D nD => lc2_range (fun i H' => Ls (WnAt K) H' D (prsN m i) ∧ Ex H1 H') ⟨Ls.new upd_same, Ex.new nD⟩ ?_ ?_⟩
      · rintro i H2 hi ⟨p1, e2⟩
        have hi' : i < m + 1 := by omega
        refine ⟨rfl, _, rfl, _, rfl, _, _, rfl, rfl, 0 + (i : Int), (m : Int) + 1, rfl, ⟨by omega, by omega, by omega, by omega⟩, in_range (fun j H' => Ls (WnAt K) H' D (prsN m i ++ (rowP m i).take j) ∧ Ex H1 H') ⟨by rw [List.take_zero, List.append_nil]; exact p1, e2⟩ ?_ ?_⟩
        · rintro j H3 hj ⟨q1, e3⟩
          have hj' : j < m + 1 - i := by omega
          refine ⟨rfl, _, rfl, _, rfl, (by show 2 ≤ sizeLine; decide), fun t nt => ?_⟩
          have x3 : Ex H3 (L2.upd H3 t (.tup [.int (0 + (i : Int)), .int (0 + (i : Int) + (j : Int))])) := Ex.new nt
          have q3 := q1.ext (wnAt K) x3
          obtain ⟨acc, r1, r2⟩ := q3.at
          refine ⟨acc, r1, small1000 ?_, ?_, (e3.trans x3).mut nD⟩
          · have := prsN_len (m := m) (i := i + 1) hm (by omega)
            rw [prsN_succ, List.length_append] at this
            rw [List.length_append, List.length_take] at r2
            omega
          · rw [rowP_take hj', ← List.append_assoc]
            refine q3.push (wnAt K) r1 ⟨t, rfl, ?_⟩
            have e1' : (0 : Int) + (i : Int) = (i : Int) := by omega
            have e2' : (0 : Int) + (i : Int) + (j : Int) = ((i + j : Nat) : Int) := by omega
            have := SqT.of (K := K) (H := L2.upd H3 t (.tup [.int (0 + (i : Int)), .int (0 + (i : Int) + (j : Int))])) (a := t) upd_same
            rw [e2', e1'] at this ⊢
            exact this
        · rintro H3 ⟨q1, e3⟩
          rw [List.take_of_length_le (by rw [rowP_len]; omega), ← prsN_succ] at q1
          exact ⟨q1, e3⟩
      rintro H2 ⟨p1, e2⟩
      rw [show ((m : Int) + 1).toNat = m + 1 by omega, prsN_all] at p1
      have e12 := e1.trans e2
      obtain ⟨bs, hD, hbs, ebs⟩ := p1
      have bl : bs.length ≤ 300 := by
        have := prs_len m hm
        rw [← ebs, List.length_map] at this
        exact this
      obtain ⟨dx, hb0⟩ := hb.mono e12
      refine ⟨_, rfl, D, rfl, ⟨_, SqL.of hD⟩, fun D2 nD2 => lc_ls (K := K) (wnAt K) (a := D) (val := fun q : V × (Int × Int) => q.1) (bs := bs) (fun q => q.2) (fun q => oneB (ws ++ [q.2]) (List.range (ws.length + 1))) nD2 (SqL.of hD) (by omega) ?_ ?_⟩
      · rintro ⟨v, q⟩ H4 Y N hc e4 ky kn
        obtain ⟨u, hv, hu⟩ := (wnAt K).ext (hbs _ hc) e4
        have hv : v = .ref u := hv
        subst hv
        have hu : SqT K H4 u [.int q.1, .int q.2] := hu
        have hq : q ∈ prs m := by
          rw [← ebs]
          exact List.mem_map_of_mem hc
        have e14 := e12.trans e4
        refine ⟨rfl, _, rfl, b, A.C_Book, dx, _, .ref w0, rfl, e4 _ _ hb0, T.cl_Book, T.na_windows, by simp [List.lookup], _, rfl, (by show 1 ≤ sizeLine; decide), fun t nt => ?_⟩
        have x4 : Ex H4 (L2.upd H4 t (.tup [.ref u])) := Ex.new nt
        refine cat_read (ex_t (e14.trans x4) w1) (SqT.of upd_same) (by rw [List.length_map]; show _ + 1 ≤ 2000; omega) fun r H5 e5 hr => ?_
        have hr' : SqT K H5 r ((was ++ [u]).map V.ref) := by
          rw [List.map_append]
          exact hr
        have e15 := (e14.trans x4).trans e5
        have pa : PairsAt K H5 (was ++ [u]) (ws ++ [q]) := PairsAt.add ⟨w2, fun i a q' x y => ex_t e15 (w3 i a q' x y)⟩ (ex_t (x4.trans e5) hu)
        have len : (ws ++ [q]).length = ws.length + 1 := by rw [List.length_append] <;> rfl
        refine ⟨_, rfl, r, _, _, rfl, .inr hr', pa, by omega, fun b2 w2' H6 nb e6 hb2 hw2 => ?_⟩
        refine ⟨_, rfl, b2, w2', ws ++ [q], rfl, hb2, hw2, by omega, by omega, wle_of fun q' hq' => ?_, fun bb H7 e7 hbb => ?_⟩
        · rcases List.mem_append.mp hq' with c | c
          · exact hle q' c
          · rw [List.mem_singleton.mp c]
            exact (mem_prs.mp hq).2.1
        · rw [len] at hbb
          have e47 := ((x4.trans e5).trans e6).trans e7
          have eb : bb = oneB (ws ++ [q]) (List.range (ws.length + 1)) := Bool.eq_iff_iff.mpr (hbb.trans oneB_iff.symm)
          subst eb
          refine ⟨_, rfl, ?_⟩
          cases c : oneB (ws ++ [q]) (List.range (ws.length + 1)) with
          | false => exact kn c H7 e47
          | true => exact ⟨_, rfl, ky c _ H7 e47 ⟨u, rfl, ex_t e47 hu⟩⟩
      · intro H4 e4 tD
        have eD : (bs.filter fun q => oneB (ws ++ [q.2]) (List.range (ws.length + 1))).map (fun q => q.2) = welc ws m := by
          unfold welc
          rw [← ebs, List.filter_map] <;> rfl
        rw [eD] at tD
        exact k m rfl hm (by omega) D2 H4 (free_ex e12 nD2) (e12.trans e4) tD
    | _ => exact iteT (iteT (kN rfl H1 e1))
theorem ok_l_source (T : Txt K mg A D) : FnOk P w K mg base CX0 1 A.a_l_source D.d_l_source p_l_source (sp_l_source K A) := by
  refine T.F_l_source.ok sc_l_source (fun vs H Q E h => ?_) (fun cdv Ar outer s H vs Q E hr h => ?_)
  · exact h.len
  · have hu := hu_of hr
    refine ⟨_, (pss_cons (ps_set (i := 2) sc_l_source.nd rfl (Or.inl rfl) pe_int) (pss_cons (ps_for PassesOwn.never rfl (pi_list (pe_slice sl_list (pv 0) po_none (po_some pe_int))) (pg_name (i := 3) sc_l_source.nd rfl (Or.inl rfl)) (pss_one (ps_set (i := 2) sc_l_source.nd rfl (Or.inl rfl) (pe_op op_mod (pe_callTy call_int1 (by rfl) T.n_int (by decide +kernel) (pa_cons (pe_op op_add (pe_op op_add (pe_op op_mul (pv 2) pe_int) (pe_op op_mod (pe_callTy call_int1 (by rfl) T.n_int (by decide +kernel) (pa_cons (pv 3) pa_nil)) pe_int)) pe_int) pa_nil)) pe_int)))) (pss_cons (ps_set (i := 4) sc_l_source.nd rfl (Or.inl rfl) (pe_ifExp (pt_cmpR op_lt (pv 1) (pe_callB call_len_seq (by rfl) T.n_len (by decide +kernel) (pa_cons (pv 0) pa_nil)) (nomark _)) (pe_callTy call_int1 (by rfl) T.n_int (by decide +kernel) (pa_cons (pe_ix ix_list (pv 0) (pv 1) (fun _ _ => rfl)) pa_nil)) pe_int)) (pss_one (ps_ret (pe_lst (pa_cons (pe_ifExp (pt_cmpR op_ge (pv 4) (pe_op op_pow pe_int pe_int) (nomark _)) (pv 4) pe_int) (pa_cons (pe_op op_mod (pe_callTy call_int1 (by rfl) T.n_int (by decide +kernel) (pa_cons (pv 4) pa_nil)) pe_int) (pa_cons (pv 2) (pa_cons (pe_op op_add (pv 1) pe_int) (pa_cons pe_int pa_nil))))))))))), ?_⟩
    obtain ⟨x, y, rfl, a, ns, k0, rfl, rfl, hS, hlen, hk0, k⟩ := h.ex
    obtain ⟨m2, e2, l2⟩ := cutV_ints ns none (some 63)
    refine ⟨_, rfl, _, rfl, a, _, rfl, hS, fun p2 np2 => ?_⟩
    have x2 : Ex H (upd H p2 (.lst (cutV (ns.map V.int) none (some 63)))) := Ex.new np2
    have h2 : (upd H p2 (.lst (cutV (ns.map V.int) none (some 63)))) p2 = some (.lst (m2.map V.int)) := by rw [upd_same, e2]
    generalize upd H p2 (.lst (cutV (ns.map V.int) none (some 63))) = H2 at x2 h2
    refine ⟨p2, rfl, ⟨_, SqL.of h2⟩, for_list (K := K) (a := p2) (xs := m2.map V.int) (fun i σ H' => ∃ (z : Int) (v v' : Option V), σ = [some (.ref a), some (.int (k0 : Int)), some (.int z), v, v'] ∧ Ex H2 H') ⟨_, _, _, rfl, Ex.refl _⟩ (fun i σ H' _ ⟨_, _, _, _, x⟩ => ex_l x (SqL.of h2)) ?_ ?_⟩
    · rintro i y σ H' hi ⟨z, v, v', rfl, x⟩
      obtain ⟨n, _, rfl⟩ := ints_get hi
      exact ⟨_, rfl, _, _, rfl, rfl, .inr (by constructor <;> decide), _, rfl, .inl ⟨_, rfl, _, _, rfl, rfl, (by show (0 : Int) < 2147483629; decide), _, _, rfl, rfl, _, _, rfl, rfl, .inl ⟨_, rfl, _, _, rfl, rfl, (by show (0 : Int) < 2147483647; decide), _, _, _, rfl, x⟩⟩⟩
    · rintro σ H' ⟨z, v, v', rfl, x⟩
      have y0 : Ex H H' := x2.trans x
      refine ⟨_, rfl, _, rfl, a, _, rfl, .inl (ex_l y0 hS), _, _, rfl, rfl, _, rfl, ite2 (fun cc => ?_) (fun cc => ?_)⟩
      · have c := of_decide_eq_true cc
        rw [List.length_map] at c
        obtain ⟨n, hn⟩ : ∃ n, ns[k0]? = some n := ⟨_, List.getElem?_eq_getElem (by omega)⟩
        refine ⟨_, rfl, _, rfl, a, _, (k0 : Int), _, rfl, rfl, ex_l y0 hS, atI_of (by rw [List.getElem?_map, hn] <;> rfl), .inl ⟨n, rfl, ?_⟩⟩
        refine ⟨_, rfl, _, _, rfl, rfl, ⟨by decide, by decide, by decide⟩, _, _, rfl, rfl, _, rfl, ite2 (fun _ => ?_) (fun _ => ?_)⟩
        · exact ⟨_, rfl, _, rfl, .inl ⟨_, rfl, _, _, rfl, rfl, (by show (0 : Int) < 2147483629; decide), _, rfl, _, rfl, _, _, rfl, rfl, (by show 5 ≤ sizeLine; decide), fun p np => k p _ (free_ex y0 np) ⟨_, _, _, _, _, upd_same⟩ (y0.trans (Ex.new np))⟩⟩
        · exact ⟨_, rfl, .inl ⟨_, rfl, _, _, rfl, rfl, (by show (0 : Int) < 2147483629; decide), _, rfl, _, rfl, _, _, rfl, rfl, (by show 5 ≤ sizeLine; decide), fun p np => k p _ (free_ex y0 np) ⟨_, _, _, _, _, upd_same⟩ (y0.trans (Ex.new np))⟩⟩
      · refine ⟨_, rfl, _, _, rfl, rfl, ⟨by decide, by decide, by decide⟩, _, _, rfl, rfl, _, rfl, ite2 (fun _ => ?_) (fun _ => ?_)⟩
        · exact ⟨_, rfl, _, rfl, .inl ⟨_, rfl, _, _, rfl, rfl, (by show (0 : Int) < 2147483629; decide), _, rfl, _, rfl, _, _, rfl, rfl, (by show 5 ≤ sizeLine; decide), fun p np => k p _ (free_ex y0 np) ⟨_, _, _, _, _, upd_same⟩ (y0.trans (Ex.new np))⟩⟩
        · exact ⟨_, rfl, .inl ⟨_, rfl, _, _, rfl, rfl, (by show (0 : Int) < 2147483629; decide), _, rfl, _, rfl, _, _, rfl, rfl, (by show 5 ≤ sizeLine; decide), fun p np => k p _ (free_ex y0 np) ⟨_, _, _, _, _, upd_same⟩ (y0.trans (Ex.new np))⟩⟩
theorem ok_l_draw (T : Txt K mg A D) : FnOk P w K mg base CX0 1 A.a_l_draw D.d_l_draw p_l_draw (sp_l_drawS K A) := by
  refine T.F_l_draw.ok sc_l_draw (fun vs H Q E h => ?_) (fun cdv Ar outer s H vs Q E hr h => ?_)
  · exact h.len
  · have hu := hu_of hr
    refine ⟨_, (pss_cons (ps_if (pt_cmpR op_gt (pe_ix ix_list (pv 0) pe_int (fun _ _ => rfl)) pe_int (nomark _)) (pss_cons (ps_set (i := 2) sc_l_draw.nd rfl (Or.inl rfl) (pe_op op_mod (pe_callTy call_int1 (by rfl) T.n_int (by decide +kernel) (pa_cons (pe_ix ix_list (pv 0) pe_int (fun _ _ => rfl)) pa_nil)) (pv 1))) (pss_cons (ps_asg (pe_op op_fdivW (pe_ix ix_list (pv 0) pe_int (fun _ _ => rfl)) (pv 1)) (pg_sub (pv 0) pe_int set_list)) (pss_one (ps_ret (pv 2))))) pss_nil) (pss_cons (ps_asg (pe_op op_add (pe_ix ix_list (pv 0) pe_int (fun _ _ => rfl)) pe_int) (pg_sub (pv 0) pe_int set_list)) (pss_cons (ps_set (i := 3) sc_l_draw.nd rfl (Or.inl rfl) (pe_op op_mod (pe_callTy call_int1 (by rfl) T.n_int (by decide +kernel) (pa_cons (pe_op op_mul (pe_op op_add (pe_op op_add (pe_op op_add (pe_ix ix_list (pv 0) pe_int (fun _ _ => rfl)) (pe_ix ix_list (pv 0) pe_int (fun _ _ => rfl))) (pe_op op_mul pe_int (pe_ix ix_list (pv 0) pe_int (fun _ _ => rfl)))) (pe_op op_mul pe_int (pe_ix ix_list (pv 0) pe_int (fun _ _ => rfl)))) pe_int) pa_nil)) pe_int)) (pss_cons (ps_set (i := 3) sc_l_draw.nd rfl (Or.inl rfl) (pe_op op_mod (pe_callTy call_int1 (by rfl) T.n_int (by decide +kernel) (pa_cons (pe_op op_mul (pv 3) (pe_op op_add (pe_op op_fdiv (pv 3) pe_int) pe_int)) pa_nil)) pe_int)) (pss_cons (ps_set (i := 3) sc_l_draw.nd rfl (Or.inl rfl) (pe_op op_mod (pe_callTy call_int1 (by rfl) T.n_int (by decide +kernel) (pa_cons (pe_op op_mul (pv 3) (pe_op op_add (pe_op op_fdiv (pv 3) pe_int) pe_int)) pa_nil)) pe_int)) (pss_one (ps_ret (pe_op op_mod (pe_callTy call_int1 (by rfl) T.n_int (by decide +kernel) (pa_cons (pe_op op_fdiv (pv 3) pe_int) pa_nil)) (pv 1))))))))), ?_⟩
    obtain ⟨x, y, rfl, p, m, rfl, rfl, ⟨n0, n1, n2, n3, n4, hp⟩, m0, m1, k⟩ := h.ex
    -- if source[0] > 0
    refine ⟨_, rfl, p, _, 0, _, rfl, rfl, SqL.of hp, rfl, _, _, rfl, rfl, _, rfl, ite2 (fun _ => ?_) (fun _ => ?_)⟩
    · refine ⟨_, rfl, p, _, 0, _, rfl, rfl, SqL.of hp, rfl, .inl ⟨_, rfl, _, rfl, _, _, rfl, rfl, m0, ?_⟩⟩
      refine ⟨_, rfl, p, _, 0, _, rfl, rfl, SqL.of hp, rfl, _, rfl, _, _, rfl, rfl, wide_div m0 (b := 100) (by omega) (by decide) (by decide), ?_⟩
      refine ⟨_, rfl, p, _, 0, 0, rfl, rfl, hp, rfl, ?_⟩
      exact ⟨_, rfl, k _ _ (Int.emod_nonneg _ (by omega)) (Int.emod_lt_of_pos _ m0) ⟨_, _, _, _, _, upd_same⟩ fun a o h1 _ e => by rw [upd_ne h1]; exact e⟩
    -- source[4] = source[4] + 1
    refine ⟨_, rfl, p, _, 4, _, rfl, rfl, SqL.of hp, rfl, _, _, rfl, rfl, ?_⟩
    refine ⟨_, rfl, p, _, 4, 4, rfl, rfl, hp, rfl, ?_⟩
    have hp1 : (upd H p (.lst [.int n0, .int n1, .int n2, .int n3, .int (n4 + 1)])) p = some (.lst [.int n0, .int n1, .int n2, .int n3, .int (n4 + 1)]) := upd_same
    have kp1 : Kept p p H (upd H p (.lst [.int n0, .int n1, .int n2, .int n3, .int (n4 + 1)])) := fun a o h1 _ e => by rw [upd_ne h1]; exact e
    show tSeq _ _ _ _ (upd H p (.lst [.int n0, .int n1, .int n2, .int n3, .int (n4 + 1)]))
    generalize upd H p (.lst [.int n0, .int n1, .int n2, .int n3, .int (n4 + 1)]) = H1 at hp1 kp1
    refine ⟨_, rfl, p, _, 1, _, rfl, rfl, SqL.of hp1, rfl, _, rfl, p, _, 2, _, rfl, rfl, SqL.of hp1, rfl, _, _, rfl, rfl, _, rfl, p, _, 3, _, rfl, rfl, SqL.of hp1, rfl, _, _, rfl, rfl, .inl (by constructor <;> decide), _, _, rfl, rfl, ?_⟩
    refine ⟨_, rfl, p, _, 4, _, rfl, rfl, SqL.of hp1, rfl, _, _, rfl, rfl, .inl (by constructor <;> decide), _, _, rfl, rfl, _, _, rfl, rfl, .inr (by constructor <;> decide), .inl ⟨_, rfl, _, _, rfl, rfl, (by show (0 : Int) < 2147483647; decide), ?_⟩⟩
    generalize hx : ((n1 + n2 + 7919 * n3 + 104729 * (n4 + 1)) * 48271) % 2147483647 = x
    have hx0 : 0 ≤ x ∧ x < 2147483647 := by rw [← hx]; exact ⟨Int.emod_nonneg _ (by decide), Int.emod_lt_of_pos _ (by decide)⟩
    refine ⟨_, rfl, _, rfl, _, _, rfl, rfl, ⟨by decide, by decide⟩, _, _, rfl, rfl, _, _, rfl, rfl, .inl ⟨by omega, by omega⟩, .inl ⟨_, rfl, _, _, rfl, rfl, (by show (0 : Int) < 2147483647; decide), ?_⟩⟩
    generalize hy : (x * (x / 1009 + 69621)) % 2147483647 = y
    have hy0 : 0 ≤ y ∧ y < 2147483647 := by rw [← hy]; exact ⟨Int.emod_nonneg _ (by decide), Int.emod_lt_of_pos _ (by decide)⟩
    refine ⟨_, rfl, _, rfl, _, _, rfl, rfl, ⟨by decide, by decide⟩, _, _, rfl, rfl, _, _, rfl, rfl, .inl ⟨by omega, by omega⟩, .inl ⟨_, rfl, _, _, rfl, rfl, (by show (0 : Int) < 2147483399; decide), ?_⟩⟩
    generalize (y * (y / 2003 + 40692)) % 2147483399 = z
    exact ⟨_, rfl, _, _, rfl, rfl, ⟨by decide, by decide⟩, .inl ⟨_, rfl, _, rfl, _, _, rfl, rfl, m0, k _ _ (Int.emod_nonneg _ (by omega)) (Int.emod_lt_of_pos _ m0) ⟨_, _, _, _, _, hp1⟩ kp1⟩⟩
theorem ok_l_lies_within (T : Txt K mg A D) : FnOk P w K mg base CX0 1 A.a_l_lies_within D.d_l_lies_within p_l_lies_within (sp_l_lies_within K A) := by
  refine T.F_l_lies_within.ok sc_l_lies_within (fun vs H Q E h => ?_) (fun cdv Ar outer s H vs Q E hr h => ?_)
  · exact h.len
  · have hu := hu_of hr
    refine ⟨_, (pss_one (ps_ret (pe_and (pe_cmpR op_gt (pe_ix ix_tup (pv 0) pe_int (fun _ _ => rfl)) (pe_ix ix_tup (pv 1) pe_int (fun _ _ => rfl)) (nomark _)) (pe_one (pe_cmpR op_lt (pe_ix ix_tup (pv 0) pe_int (fun _ _ => rfl)) (pe_ix ix_tup (pv 1) pe_int (fun _ _ => rfl)) (nomark _)))))), ?_⟩
    obtain ⟨x, y, rfl, q, r, ⟨a, rfl, ha⟩, ⟨b, rfl, hb⟩, k⟩ := h.ex
    refine ⟨_, rfl, a, _, 0, _, rfl, rfl, ha, rfl, _, rfl, b, _, 0, _, rfl, rfl, hb, rfl, _, _, rfl, rfl, _, rfl, ?_⟩
    refine ite2 (fun c => ?_) (fun c => ?_)
    · refine ⟨_, rfl, a, _, 1, _, rfl, rfl, ha, rfl, _, rfl, b, _, 1, _, rfl, rfl, hb, rfl, _, _, rfl, rfl, ?_⟩
      rw [c, Bool.true_and] at k
      exact k
    · rw [Bool.not_eq_true] at c
      rw [c, Bool.false_and] at k
      exact k
theorem ok_l_is_thrown (T : Txt K mg A D) : FnOk P w K mg base CX0 2 A.a_l_is_thrown D.d_l_is_thrown p_l_is_thrown (sp_l_is_thrown K A) := by
  have G_l_lies_within := ok_l_lies_within (P := P) (w := w) (base := base) T
  refine T.F_l_is_thrown.ok sc_l_is_thrown (fun vs H Q E h => ?_) (fun cdv Ar outer s H vs Q E hr h => ?_)
  · exact h.len
  · have hu := hu_of hr
    refine ⟨_, (pss_cons (ps_for PassesOwn.never rfl (pi_range1 (by rfl) T.n_range (pa_cons (pe_callB call_len_seq (by rfl) T.n_len (by decide +kernel) (pa_cons (pv 1) pa_nil)) pa_nil)) (pg_name (i := 2) sc_l_is_thrown.nd rfl (Or.inl rfl)) (pss_cons (ps_asg (pe_ix ix_tup (pv 0) (pe_ix ix_tup (pv 1) (pv 2) (fun _ _ => rfl)) (fun _ _ => rfl)) (pg_tup rfl (pgs_cons (pg_name (i := 3) sc_l_is_thrown.nd rfl (Or.inr rfl)) (pgs_cons (pg_name (i := 4) sc_l_is_thrown.nd rfl (Or.inr rfl)) pgs_nil)))) (pss_one (ps_for PassesOwn.never rfl (pi_range1 (by rfl) T.n_range (pa_cons (pe_callB call_len_seq (by rfl) T.n_len (by decide +kernel) (pa_cons (pv 1) pa_nil)) pa_nil)) (pg_name (i := 5) sc_l_is_thrown.nd rfl (Or.inl rfl)) (pss_cons (ps_set (i := 6) sc_l_is_thrown.nd rfl (Or.inl rfl) (pe_ix ix_tup (pv 0) (pe_ix ix_tup (pv 1) (pv 5) (fun _ _ => rfl)) (fun _ _ => rfl))) (pss_cons (ps_set (i := 7) sc_l_is_thrown.nd rfl (Or.inr rfl) (pe_op op_add (pe_ix ix_tup (pv 6) pe_int (fun _ _ => rfl)) (pe_ix ix_tup (pv 6) pe_int (fun _ _ => rfl)))) (pss_cut (ps_if (PW.pt (pw_and (pt_cmpR op_gt (pv 5) (pv 2) (nomark _)) (pw_and1 (pt_cmpR op_gt (pe_op op_add (pv 3) (pv 4)) (pv 7) (nomark _))))) (pss_one (ps_ret pe_bl)) pss_nil) (pss_cut (ps_if (PW.pt (pw_and (pt_cmpR op_lt (pv 5) (pv 2) (nomark _)) (pw_and1 (pt_val (pe_call G_l_lies_within (hr.mono (by decide)) rfl T.g_l_lies_within (k_l_lies_within T) (b_l_lies_within T) .nil pass0 (pa_cons (pv 6) (pa_cons (pe_ix ix_tup (pv 0) (pe_ix ix_tup (pv 1) (pv 2) (fun _ _ => rfl)) (fun _ _ => rfl)) pa_nil))))))) (pss_one (ps_if (pt_cmpR op_gt (pe_callB call_len_seq (by rfl) T.n_len (by decide +kernel) (pa_cons (pe_lc (own := [("_law_third", 8)]) (g := (gName 8))  rfl sc_l_is_thrown.nd (pi_tup (pe_slice sl_tupA (pv 1) (po_some (pe_op op_add (pv 2) pe_int)) po_none)) (blkOk_by (own := [("_law_third", 8)]) (N := n_l_is_thrown) (sc := defScope s_l_is_thrown) (by decide +kernel)) (fun _ _ _ _ _ => (pg_name (i := 8) sc_l_is_thrown.nd rfl (Or.inl rfl))) (fun _ _ _ _ _ => pts_one (pt_cmpR op_lt (pe_ix (ix_tupB (K := K)) (pe_ix (ix_tupB (K := K)) (pv 0) (pv 8) (fun _ _ => rfl)) pe_int (fun _ _ => rfl)) (pe_op op_sub (pv 7) (pv 3)) (nomark _))) (fun _ _ _ _ _ => pe_int)) pa_nil)) pe_int (nomark _)) (pss_one (ps_ret pe_bl)) pss_nil)) pss_nil) (pss_one (ps_if (PW.pt (pw_and (pt_cmpR op_gt (pv 5) (pv 2) (nomark _)) (pw_and1 (pt_val (pe_call G_l_lies_within (hr.mono (by decide)) rfl T.g_l_lies_within (k_l_lies_within T) (b_l_lies_within T) .nil pass0 (pa_cons (pv 6) (pa_cons (pe_ix ix_tup (pv 0) (pe_ix ix_tup (pv 1) (pv 2) (fun _ _ => rfl)) (fun _ _ => rfl)) pa_nil))))))) (pss_one (ps_if (pt_cmpR op_gt (pe_callB call_len_seq (by rfl) T.n_len (by decide +kernel) (pa_cons (pe_lc (own := [("_law_third", 8)]) (g := (gName 8))  rfl sc_l_is_thrown.nd (pi_tup (pe_slice sl_tupA (pv 1) po_none (po_some (pv 2)))) (blkOk_by (own := [("_law_third", 8)]) (N := n_l_is_thrown) (sc := defScope s_l_is_thrown) (by decide +kernel)) (fun _ _ _ _ _ => (pg_name (i := 8) sc_l_is_thrown.nd rfl (Or.inl rfl))) (fun _ _ _ _ _ => pts_one (pt_cmpR op_gt (pe_ix (ix_tupB (K := K)) (pe_ix (ix_tupB (K := K)) (pv 0) (pv 8) (fun _ _ => rfl)) pe_int (fun _ _ => rfl)) (pe_op op_sub (pv 7) (pv 4)) (nomark _))) (fun _ _ _ _ _ => pe_int)) pa_nil)) pe_int (nomark _)) (pss_one (ps_ret pe_bl)) pss_nil)) pss_nil)))))))))) (pss_one (ps_ret pe_bl))), ?_⟩
    obtain ⟨x, y, rfl, w, a, ws, row, rfl, rfl, hW, ha, hlt, hle, k⟩ := h.ex
    obtain ⟨wl, was, w1, w2, w3⟩ := id hW
    have get : ∀ {i : Nat}, i < row.length → ∃ z, row[i]? = some z ∧ atI (row.map vNat) (0 + (i : Int)) = some (.int (z : Int)) ∧ z < ws.length := fun {i} hi => by
      refine ⟨row[i], List.getElem?_eq_getElem hi, ?_, hlt _ (List.getElem_mem hi)⟩
      rw [show (0 : Int) + (i : Int) = (i : Int) by omega]
      exact atI_of (by rw [List.getElem?_map, List.getElem?_eq_getElem hi] <;> rfl)
    refine ⟨_, rfl, a, _, rfl, .inr ha, (row.length : Int), by rw [List.length_map], by omega, by omega, for_range (lo := 0) (n := row.length) (fun i σ H' => ∃ (v2 v3 v4 v5 v6 v7 v8 : Option V), σ = [some (.ref w), some (.ref a), v2, v3, v4, v5, v6, v7, v8] ∧ Ex H H' ∧ ∀ i' j, i' < i → j < row.length → OkP ws row i' j)
      ⟨none, none, none, none, none, none, none, rfl, Ex.refl _, fun i' j h => by omega⟩ ?_ ?_⟩
    · rintro i σ H1 hi ⟨v2, v3, v4, v5, v6, v7, v8, rfl, e1, ok⟩
      obtain ⟨p, hp, pa, pl⟩ := get hi
      obtain ⟨u, u1, u2⟩ := WinAt.item w2 w3 pl
      refine ⟨_, rfl, _, rfl, _, rfl, a, _, 0 + (i : Int), _, rfl, rfl, ex_t e1 ha, pa, w, _, (p : Int), _, rfl, rfl, ex_t e1 w1, atI_of u1, u, _, rfl, ex_t e1 u2, rfl, ?_⟩
      refine ⟨_, _, rfl, _, _, rfl, rfl, _, rfl, a, _, rfl, .inr (ex_t e1 ha), (row.length : Int), by rw [List.length_map], by omega, by omega, for_range (lo := 0) (n := row.length) (fun j σ H' => ∃ (v5 v6 v7 v8 : Option V), σ = [some (.ref w), some (.ref a), some (.int (0 + (i : Int))), some (.int (winAt ws p).1), some (.int (winAt ws p).2), v5, v6, v7, v8] ∧ Ex H H' ∧ ∀ j', j' < j → OkP ws row i j')
        ⟨v5, v6, v7, v8, rfl, e1, fun j' h => by omega⟩ ?_ ?_⟩
      · clear e1 ok
        rintro j σ H2 hj ⟨v5, v6, v7, v8, rfl, e2, ok⟩
        obtain ⟨q, hq, qa, ql⟩ := get hj
        obtain ⟨r, r1, r2⟩ := WinAt.item w2 w3 ql
        have bad : ∀ {H'}, Ex H H' → ¬ OkP ws row i j → Q (.bl true) H' := fun {H'} e c => k true H' e ⟨fun z => (nomatch z), fun z => absurd (quiet_okp.mp z i j hi hj) c⟩
        refine ⟨_, rfl, _, rfl, _, rfl, a, _, 0 + (j : Int), _, rfl, rfl, ex_t e2 ha, qa, w, _, (q : Int), _, rfl, rfl, ex_t e2 w1, atI_of r1, ?_⟩
        refine ⟨_, rfl, r, _, 0, _, rfl, rfl, ex_t e2 r2, rfl, _, rfl, r, _, 1, _, rfl, rfl, ex_t e2 r2, rfl, _, _, rfl, rfl, ?_⟩
        -- a throw of middles
        refine ⟨fun σ H' => σ = [some (.ref w), some (.ref a), some (.int (0 + (i : Int))), some (.int (winAt ws p).1), some (.int (winAt ws p).2), some (.int (0 + (j : Int))), some (.ref r), some (.int ((winAt ws q).1 + (winAt ws q).2)), v8] ∧ Ex H H' ∧ (i < j → midW ws p ≤ midW ws q), ?_, ?_⟩
        · refine ⟨_, rfl, _, rfl, _, _, rfl, rfl, _, rfl, ite2 (fun c1 => ?_) (fun c1 => ⟨rfl, e2, fun z => absurd (decide_eq_true (by omega)) c1⟩)⟩
          have lt : i < j := by have := of_decide_eq_true c1; omega
          refine ⟨_, rfl, _, rfl, _, _, rfl, rfl, _, rfl, _, _, rfl, rfl, _, rfl, ite2 (fun c2 => ?_) (fun c2 => ?_)⟩
          · refine bad e2 fun o => ?_
            have h1 := (o p q hp hq).1 lt
            have h2 := of_decide_eq_true c2
            have h3 : midW ws q < midW ws p := h2
            omega
          · refine ⟨rfl, e2, fun _ => Int.not_lt.mp fun z => c2 (decide_eq_true ?_)⟩
            exact z
        clear e2
        rintro σ H2 ⟨rfl, e2, okM⟩
        -- a throw over the front
        refine ⟨fun σ H' => σ = [some (.ref w), some (.ref a), some (.int (0 + (i : Int))), some (.int (winAt ws p).1), some (.int (winAt ws p).2), some (.int (0 + (j : Int))), some (.ref r), some (.int ((winAt ws q).1 + (winAt ws q).2)), v8] ∧ Ex H H' ∧ (j < i → insW ws q p = true → ∀ c ∈ row.drop (i + 1), ¬ fstAt ws c < midW ws q - fstAt ws p), ?_, ?_⟩
        · refine ⟨_, rfl, _, rfl, _, _, rfl, rfl, _, rfl, ite2 (fun c1 => ?_) (fun c1 => ⟨rfl, e2, fun z => absurd (decide_eq_true (by omega)) c1⟩)⟩
          have lt : j < i := by have := of_decide_eq_true c1; omega
          refine ⟨_, rfl, _, rfl, _, rfl, _, rfl, a, _, 0 + (i : Int), _, rfl, rfl, ex_t e2 ha, pa, w, _, (p : Int), _, rfl, rfl, ex_t e2 w1, atI_of u1, ⟨_, _, rfl, winAt ws q, winAt ws p, ⟨r, rfl, ex_t e2 r2⟩, ⟨u, rfl, ex_t e2 u2⟩, _, rfl, ite2 (fun c2 => ?_) (fun c2 => ⟨rfl, e2, fun _ z => absurd z c2⟩)⟩⟩
          have ins : insW ws q p = true := c2
          refine ⟨_, rfl, _, rfl, _, _, rfl, rfl, _, rfl, slice_readN (ex_t e2 ha) fun d H3 e3 hd => ?_⟩
          have ei : (0 : Int) + (i : Int) + 1 = ((i + 1 : Nat) : Int) := by omega
          rw [ei, cut_drop] at hd
          have e23 := e2.trans e3
          generalize hcs : row.drop (i + 1) = cs at hd
          have cl : ∀ c ∈ cs, c < ws.length := fun c hc => hlt c (by rw [← hcs] at hc; exact List.mem_of_mem_drop hc)
          have csl : cs.length ≤ 9 := by
            rw [← hcs, List.length_drop]
            omega
          refine ⟨d, rfl, ⟨_, hd⟩, fun D nD => lc_tup (K := K) (a := d) (xs := cs.map vNat) (fun t H' => H' D = some (.lst (((cs.take t).filter fun c => decide (fstAt ws c < midW ws q - fstAt ws p)).map fun _ => V.int 1)) ∧ Ex H3 H') ⟨upd_same, Ex.new nD⟩ (fun t H' _ z => ex_t z.2 hd) ?_ ?_⟩
          · rintro t y H4 ht ⟨p1, e4⟩
            obtain ⟨c, hc, rfl⟩ := nats_get ht
            obtain ⟨uc, q1, q2⟩ := WinAt.item w2 w3 (cl c (List.mem_of_getElem? hc))
            have e24 := e23.trans e4
            refine ⟨rfl, _, rfl, _, rfl, w, _, (c : Int), _, rfl, rfl, ex_t e24 w1, atI_of q1, uc, _, 0, _, rfl, rfl, ex_t e24 q2, rfl, _, rfl, _, rfl, _, _, rfl, rfl, _, _, rfl, rfl, _, rfl, ite2 (fun c3 => ?_) (fun c3 => ?_)⟩
            · refine ⟨_, p1, small1000 ?_, ?_, e4.mut nD⟩
              · rw [List.length_map]
                have := List.length_filter_le (fun c => decide (fstAt ws c < midW ws q - fstAt ws p)) (cs.take t)
                rw [List.length_take] at this
                omega
              · rw [upd_same, filter_snoc hc, if_pos (show decide (fstAt ws c < midW ws q - fstAt ws p) = true from c3), List.map_append] <;> rfl
            · refine ⟨?_, e4⟩
              rw [filter_snoc hc, if_neg (show ¬ decide (fstAt ws c < midW ws q - fstAt ws p) = true from c3), List.append_nil]
              exact p1
          rintro H4 ⟨p1, e4⟩
          rw [List.length_map, List.take_length] at p1
          refine ⟨D, _, rfl, .inl (SqL.of p1), _, _, rfl, rfl, _, rfl, ite2 (fun c3 => ?_) (fun c3 => ?_)⟩
          · have c3 := of_decide_eq_true c3
            rw [List.length_map] at c3
            obtain ⟨c, hc⟩ := List.exists_mem_of_length_pos (show 0 < (cs.filter fun c => decide (fstAt ws c < midW ws q - fstAt ws p)).length by omega)
            obtain ⟨hc1, hc2⟩ := List.mem_filter.mp hc
            exact bad (e23.trans e4) fun o => (o p q hp hq).2.1 lt ins c (hcs ▸ hc1) (of_decide_eq_true hc2)
          · refine ⟨rfl, e23.trans e4, fun _ _ c hc z => c3 (decide_eq_true ?_)⟩
            rw [List.length_map]
            have := List.length_pos_of_mem (show c ∈ cs.filter (fun c => decide (fstAt ws c < midW ws q - fstAt ws p)) from List.mem_filter.mpr ⟨by first | exact hc | (rw [← hcs]; exact hc), decide_eq_true z⟩)
            omega
        clear e2
        rintro σ H2 ⟨rfl, e2, okF⟩
        -- a throw over the back
        have fin : ∀ {H'}, Ex H H' → (i < j → insW ws q p = true → ∀ c ∈ row.take i, ¬ lstAt ws c > midW ws q - lstAt ws p) → ∃ (v5 v6 v7 v8' : Option V), [some (.ref w), some (.ref a), some (.int (0 + (i : Int))), some (.int (winAt ws p).1), some (.int (winAt ws p).2), some (.int (0 + (j : Int))), some (.ref r), some (.int ((winAt ws q).1 + (winAt ws q).2)), v8] = [some (.ref w), some (.ref a), some (.int (0 + (i : Int))), some (.int (winAt ws p).1), some (.int (winAt ws p).2), v5, v6, v7, v8'] ∧ Ex H H' ∧ ∀ j', j' < j + 1 → OkP ws row i j' := fun {H'} e c => by
          refine ⟨_, _, _, _, rfl, e, fun j' hj' => ?_⟩
          rcases Nat.lt_or_ge j' j with l | l
          · exact ok j' l
          · obtain rfl : j' = j := by omega
            intro p' q' h1 h2
            cases hp.symm.trans h1
            cases hq.symm.trans h2
            exact ⟨okM, okF, c⟩
        refine ⟨_, rfl, _, rfl, _, _, rfl, rfl, _, rfl, ite2 (fun c1 => ?_) (fun c1 => fin e2 fun z => absurd (decide_eq_true (by omega)) c1)⟩
        have lt : i < j := by have := of_decide_eq_true c1; omega
        refine ⟨_, rfl, _, rfl, _, rfl, _, rfl, a, _, 0 + (i : Int), _, rfl, rfl, ex_t e2 ha, pa, w, _, (p : Int), _, rfl, rfl, ex_t e2 w1, atI_of u1, ⟨_, _, rfl, winAt ws q, winAt ws p, ⟨r, rfl, ex_t e2 r2⟩, ⟨u, rfl, ex_t e2 u2⟩, _, rfl, ite2 (fun c2 => ?_) (fun c2 => fin e2 fun _ z => absurd z c2)⟩⟩
        have ins : insW ws q p = true := c2
        refine ⟨_, rfl, _, rfl, _, rfl, slice_read (ex_t e2 ha) fun d H3 e3 hd => ?_⟩
        rw [show (0 : Int) + (i : Int) = ((i : Nat) : Int) by omega, cut_head (by rw [List.length_map]; omega), ← List.map_take] at hd
        have e23 := e2.trans e3
        generalize hcs : row.take i = cs at hd
        have cl : ∀ c ∈ cs, c < ws.length := fun c hc => hlt c (by rw [← hcs] at hc; exact List.mem_of_mem_take hc)
        have csl : cs.length ≤ 9 := by
          rw [← hcs, List.length_take]
          omega
        refine ⟨d, rfl, ⟨_, hd⟩, fun D nD => lc_tup (K := K) (a := d) (xs := cs.map vNat) (fun t H' => H' D = some (.lst (((cs.take t).filter fun c => decide (lstAt ws c > midW ws q - lstAt ws p)).map fun _ => V.int 1)) ∧ Ex H3 H') ⟨upd_same, Ex.new nD⟩ (fun t H' _ z => ex_t z.2 hd) ?_ ?_⟩
        · rintro t y H4 ht ⟨p1, e4⟩
          obtain ⟨c, hc, rfl⟩ := nats_get ht
          obtain ⟨uc, q1, q2⟩ := WinAt.item w2 w3 (cl c (List.mem_of_getElem? hc))
          have e24 := e23.trans e4
          refine ⟨rfl, _, rfl, _, rfl, w, _, (c : Int), _, rfl, rfl, ex_t e24 w1, atI_of q1, uc, _, 1, _, rfl, rfl, ex_t e24 q2, rfl, _, rfl, _, rfl, _, _, rfl, rfl, _, _, rfl, rfl, _, rfl, ite2 (fun c3 => ?_) (fun c3 => ?_)⟩
          · refine ⟨_, p1, small1000 ?_, ?_, e4.mut nD⟩
            · rw [List.length_map]
              have := List.length_filter_le (fun c => decide (lstAt ws c > midW ws q - lstAt ws p)) (cs.take t)
              rw [List.length_take] at this
              omega
            · rw [upd_same, filter_snoc hc, if_pos (show decide (lstAt ws c > midW ws q - lstAt ws p) = true from c3), List.map_append] <;> rfl
          · refine ⟨?_, e4⟩
            rw [filter_snoc hc, if_neg (show ¬ decide (lstAt ws c > midW ws q - lstAt ws p) = true from c3), List.append_nil]
            exact p1
        rintro H4 ⟨p1, e4⟩
        rw [List.length_map, List.take_length] at p1
        refine ⟨D, _, rfl, .inl (SqL.of p1), _, _, rfl, rfl, _, rfl, ite2 (fun c3 => ?_) (fun c3 => ?_)⟩
        · have c3 := of_decide_eq_true c3
          rw [List.length_map] at c3
          obtain ⟨c, hc⟩ := List.exists_mem_of_length_pos (show 0 < (cs.filter fun c => decide (lstAt ws c > midW ws q - lstAt ws p)).length by omega)
          obtain ⟨hc1, hc2⟩ := List.mem_filter.mp hc
          exact bad (e23.trans e4) fun o => (o p q hp hq).2.2 lt ins c (hcs ▸ hc1) (of_decide_eq_true hc2)
        · refine fin (e23.trans e4) fun _ _ c hc z => c3 (decide_eq_true ?_)
          rw [List.length_map]
          have := List.length_pos_of_mem (show c ∈ cs.filter (fun c => decide (lstAt ws c > midW ws q - lstAt ws p)) from List.mem_filter.mpr ⟨by first | exact hc | (rw [← hcs]; exact hc), decide_eq_true z⟩)
          omega
      · rintro σ H2 ⟨v5, v6, v7, v8, rfl, e2, ok'⟩
        refine ⟨_, _, _, _, _, _, _, rfl, e2, fun i' j h1 h2 => ?_⟩
        rcases Nat.lt_or_ge i' i with c | c
        · exact ok i' j c h2
        · obtain rfl : i' = i := by omega
          exact ok' j h2
    · rintro σ H1 ⟨v2, v3, v4, v5, v6, v7, v8, rfl, e1, ok⟩
      exact k false H1 e1 ⟨fun _ => quiet_okp.mpr ok, fun _ => rfl⟩
theorem ok_l_rows (T : Txt K mg A D) : FnOk P w K mg base CX0 1 A.a_l_rows D.d_l_rows p_l_rows (sp_l_rows K A) := by
  refine T.F_l_rows.ok sc_l_rows (fun vs H Q E h => ?_) (fun cdv Ar outer s H vs Q E hr h => ?_)
  · exact h.len
  · have hu := hu_of hr
    refine ⟨_, (pss_cons (ps_set (i := 1) sc_l_rows.nd rfl (Or.inl rfl) (pe_lst (pa_cons (pe_tup pa_nil) pa_nil))) (pss_cons (ps_for PassesOwn.never rfl (pi_range1 (by rfl) T.n_range (pa_cons (pe_callB call_len_seq (by rfl) T.n_len (by decide +kernel) (pa_cons (pv 0) pa_nil)) pa_nil)) (pg_name (i := 2) sc_l_rows.nd rfl (Or.inl rfl)) (pss_cons (ps_set (i := 3) sc_l_rows.nd rfl (Or.inl rfl) (pe_lst pa_nil)) (pss_cons (ps_for PassesOwn.never rfl (pi_list (pv 1)) (pg_name (i := 4) sc_l_rows.nd rfl (Or.inr rfl)) (pss_one (ps_expr (pe_bm PySem.F.plainAttrs_list PySem.F.slot_list_extend PySem.F.type_list_extend mt_extend (pv 3) (pa_cons (pe_lc (own := [("_law_work", 5)]) (g := (gName 5))  rfl sc_l_rows.nd (pi_tup (pv 0)) (blkOk_by (own := [("_law_work", 5)]) (N := n_l_rows) (sc := defScope s_l_rows) (by decide +kernel)) (fun _ _ _ _ _ => (pg_name (i := 5) sc_l_rows.nd rfl (Or.inl rfl))) (fun _ _ _ _ _ => pts_one (pt_cmpR (op_notIn_seqB (K := K)) (pv 5) (pv 4) (by rfl))) (fun _ _ _ _ _ => (pe_op (op_catAB (K := K)) (pv 4) (pe_tup (pa_cons (pv 5) pa_nil))))) pa_nil))))) (pss_one (ps_set (i := 1) sc_l_rows.nd rfl (Or.inl rfl) (pv 3)))))) (pss_one (ps_ret (pv 1))))), ?_⟩
    obtain ⟨x, rfl, a, n, rfl, ha, hle, k⟩ := h.ex
    have nr0 := List.nodup_range (n := n)
    have lr : (List.range n).length = n := List.length_range
    generalize List.range n = row at ha k nr0 lr
    have hle' : row.length ≤ 5 := by omega
    -- found = [()]
    refine ⟨Nat.zero_le _, fun r nr => ⟨(by show 1 ≤ sizeLine; decide), fun f nf => ?_⟩⟩
    have e0 : Ex H (L2.upd (L2.upd H r (.tup [])) f (.lst [.ref r])) := (Ex.new nr).trans (Ex.new nf)
    have f0 : H f = none := free_ex (Ex.new nr) nf
    have t0 : RL K (L2.upd (L2.upd H r (.tup [])) f (.lst [.ref r])) f [[]] := RL.one upd_same (SqT.of (by rw [upd_ne (ne_of_none upd_same nf)]; exact upd_same))
    show tSeq _ _ _ _ (L2.upd (L2.upd H r (.tup [])) f (.lst [.ref r]))
    generalize L2.upd (L2.upd H r (.tup [])) f (.lst [.ref r]) = H1 at e0 t0
    -- for turn in range(len(works))
    refine ⟨_, rfl, a, _, rfl, .inr (ex_t e0 ha), (row.length : Int), by rw [List.length_map], by omega, by omega, for_range (lo := 0) (n := row.length) (fun i σ H' => ∃ (v2 v3 v4 v5 : Option V) (f : Addr) (rs : List (List Nat)), σ = [some (.ref a), some (.ref f), v2, v3, v4, v5] ∧ Ex H H' ∧ H f = none ∧ RL K H' f rs ∧ Rows row i rs)
      ⟨none, none, none, none, f, [[]], rfl, e0, f0, t0, Rows.zero row⟩ ?_ ?_⟩
    · clear t0 e0 f0 nf
      rintro i σ H2 hi ⟨v2, v3, v4, v5, f, rs, rfl, e2, f0, t2, R⟩
      obtain ⟨bs, hf, hb, rfl⟩ := id t2
      have few : bs.length ≤ 625 := by
        have h1 := R.few
        rw [List.length_map] at h1
        have h2 : 5 ^ i ≤ 5 ^ 4 := Nat.pow_le_pow_right (by decide) (by omega)
        omega
      -- later = []
      refine ⟨Nat.zero_le _, fun l nl => ?_⟩
      have x2 : Ex H2 (L2.upd H2 l (.lst [])) := Ex.new nl
      have tl0 : RL K (L2.upd H2 l (.lst [])) l [] := RL.new upd_same
      show tSeq _ _ _ _ (L2.upd H2 l (.lst []))
      generalize L2.upd H2 l (.lst []) = H3 at x2 tl0
      -- for row in found
      refine ⟨_, rfl, f, rfl, ⟨_, SqL.of (x2 _ _ hf)⟩, for_list (K := K) (a := f) (xs := bs.map (·.1)) (fun t σ H' => ∃ (v4 v5 : Option V) (us : List (List Nat)), σ = [some (.ref a), some (.ref f), some (.int (0 + (i : Int))), some (.ref l), v4, v5] ∧ Ex H2 H' ∧ RL K H' l us ∧ RowsIn row i (bs.map (·.2)) us t)
        ⟨_, _, [], rfl, x2, tl0, RowsIn.zero _ _ _⟩ (fun t σ H' _ ⟨_, _, _, _, e, _⟩ => SqL.of (e _ _ hf)) ?_ ?_⟩
      · clear x2 tl0
        rintro t y σ H4 ht ⟨v4, v5, us, rfl, e4, tl, RI⟩
        obtain ⟨p, hp, rfl⟩ : ∃ p, bs[t]? = some p ∧ y = p.1 := by
          rw [List.getElem?_map] at ht
          cases e : bs[t]? with
          | none => rw [e] at ht; cases ht
          | some c => rw [e] at ht; exact ⟨c, rfl, (Option.some.inj ht).symm⟩
        obtain ⟨q, rw0⟩ := p
        obtain ⟨qa, hq1, hq⟩ := (hb _ (List.mem_of_getElem? hp)).ext e4
        have hq1 : q = .ref qa := hq1
        subst hq1
        have hq : SqT K H4 qa (rw0.map vNat) := hq
        have hrw : (bs.map (·.2))[t]? = some rw0 := by rw [List.getElem?_map, hp] <;> rfl
        have lrw := (R.all _ (List.mem_of_getElem? hrw)).1
        obtain ⟨xs, hx, lx⟩ := tl.at
        refine ⟨_, rfl, .inl ⟨rfl, _, SqL.of hx⟩, _, rfl, a, rfl, ⟨_, ex_t (e2.trans e4) ha⟩, fun D nD => lc_tup (K := K) (a := a) (xs := row.map vNat) (fun i H' => RL K H' D (((row.take i).filter fun j => !decide (j ∈ rw0)).map fun j => rw0 ++ [j]) ∧ Ex H4 H') ⟨RL.new upd_same, Ex.new nD⟩ (fun i H' _ q => ex_t ((e2.trans e4).trans q.2) ha) ?_ ?_⟩
        · rintro i y H6 hi ⟨p1, e6⟩
          obtain ⟨c, hc, rfl⟩ := nats_get hi
          have hq6 := ex_t e6 hq
          refine ⟨rfl, _, rfl, _, rfl, qa, _, rfl, .inr hq6, rfl, flat_nats _, _, rfl, ?_⟩
          rw [if_pos rfl, inV_nats]
          refine ite2 (fun cc => ?_) (fun cc => ?_)
          · refine ⟨_, rfl, _, rfl, (by show 1 ≤ sizeLine; decide), fun r nr => cat_read (ex_t (Ex.new nr) hq6) (SqT.of upd_same) (by rw [List.length_map, lrw]; show _ + 1 ≤ 2000; omega) fun r' H7 e7 hr => ?_⟩
            have hr : SqT K H7 r' ((rw0 ++ [c]).map vNat) := by
              rw [List.map_append]
              exact hr
            have e67 := (Ex.new nr).trans e7
            have p7 := p1.ext e67
            obtain ⟨acc, q1, q2⟩ := p7.at
            refine ⟨acc, q1, small1000 ?_, ?_, (e6.trans e67).mut nD⟩
            · rw [q2, List.length_map]
              have := List.length_filter_le (fun j => !decide (j ∈ rw0)) (row.take i)
              rw [List.length_take] at this
              omega
            · have := p7.push q1 hr
              rw [filter_snoc hc, if_pos cc, List.map_append]
              exact this
          · refine ⟨?_, e6⟩
            rw [filter_snoc hc, if_neg cc, List.append_nil]
            exact p1
        · rintro H6 ⟨tD, e46⟩
          rw [List.length_map, List.take_length] at tD
          obtain ⟨zs, hz, lz⟩ := tD.at
          have tl6 := tl.ext e46
          have hx6 := e46 _ _ hx
          have RI' := RI.step R (List.Perm.refl _) hrw hle'
          have f1 := RI'.few
          have ltb : t < 625 := by
            have := (List.getElem?_eq_some_iff.mp hp).1
            omega
          rw [List.length_append] at f1
          refine ⟨l, D, xs, zs, rfl, rfl, hx6, hz, by rw [lx, lz, sizeLine_eq]; omega, _, _, _, rfl, (e4.trans e46).mut nl, tl6.cat tD hx6 hz, RI'⟩
      · rintro σ H4 ⟨v4, v5, us, rfl, e4, tl, RI⟩
        have RI' : RowsIn row i (bs.map (·.2)) us (bs.map (·.2)).length := by
          rw [List.length_map] at RI ⊢
          exact RI
        exact ⟨_, rfl, _, _, _, _, l, us, rfl, e2.trans e4, free_ex e2 nl, tl, RI'.done R⟩
    · rintro σ H2 ⟨v2, v3, v4, v5, f, rs, rfl, e2, f0, t2, R⟩
      have R' : Rows row row.length rs := R
      exact ⟨_, rfl, k f H2 rs f0 e2 t2 R'.fin.1 (R'.fin.2 nr0) (by rw [← lr]; exact R'.few)⟩
theorem ok_l_due (T : Txt K mg A D) : FnOk P w K mg base CX0 3 A.a_l_due D.d_l_due p_l_due (sp_l_due K A) := by
  have G_l_rows := ok_l_rows (P := P) (w := w) (base := base) T
  have G_l_is_thrown := ok_l_is_thrown (P := P) (w := w) (base := base) T
  refine T.F_l_due.ok sc_l_due (fun vs H Q E h => ?_) (fun cdv Ar outer s H vs Q E hr h => ?_)
  · exact h.len
  · have hu := hu_of hr
    refine ⟨_, (pss_cons (ps_set (i := 2) sc_l_due.nd rfl (Or.inl rfl) (pe_tupRg rfl (by rfl) T.n_tuple (prg_1 (by rfl) T.n_range (pe_op op_add (pe_callB call_len_seq (by rfl) T.n_len (by decide +kernel) (pa_cons (pv 0) pa_nil)) pe_int)))) (pss_cons (ps_set (i := 3) sc_l_due.nd rfl (Or.inl rfl) (pe_call G_l_rows (hr.mono (by decide)) rfl T.g_l_rows (k_l_rows T) (b_l_rows T) .nil pass0 (pa_cons (pv 2) pa_nil))) (pss_cons (ps_set (i := 4) sc_l_due.nd rfl (Or.inl rfl) (pe_lst pa_nil)) (pss_cons (ps_for PassesOwn.never rfl (pi_range1 (by rfl) T.n_range (pa_cons (pe_op op_add (pv 1) pe_int) pa_nil)) (pg_name (i := 5) sc_l_due.nd rfl (Or.inl rfl)) (pss_one (ps_for PassesOwn.never rfl (pi_range2 (by rfl) T.n_range (pa_cons (pv 5) (pa_cons (pe_op op_add (pv 1) pe_int) pa_nil))) (pg_name (i := 6) sc_l_due.nd rfl (Or.inl rfl)) (pss_cons (ps_set (i := 7) sc_l_due.nd rfl (Or.inr rfl) (pe_op op_catA (pv 0) (pe_tup (pa_cons (pe_tup (pa_cons (pv 5) (pa_cons (pv 6) pa_nil))) pa_nil)))) (pss_one (ps_if (pt_not (pt_val (pe_callB (cr_all rfl) (by rfl) T.n_all (by decide +kernel) (pa_cons (pe_lc (own := [("_law_row", 8)]) (g := (gName 8)) (tt := tYes) rfl sc_l_due.nd (pi_list (pv 3)) (blkOk_by (own := [("_law_row", 8)]) (N := n_l_due) (sc := defScope s_l_due) (by decide +kernel)) (fun _ _ _ _ _ => (pg_name (i := 8) sc_l_due.nd rfl (Or.inl rfl))) (fun _ _ _ _ _ => pts_nil) (fun _ _ _ _ _ => (pe_call G_l_is_thrown (hr.mono (by decide)) rfl T.g_l_is_thrown (k_l_is_thrown T) (b_l_is_thrown T) .nil pass0 (pa_cons (pv 7) (pa_cons (pv 8) pa_nil))))) pa_nil)))) (pss_one (ps_expr (pe_bm PySem.F.plainAttrs_list PySem.F.slot_list_append PySem.F.type_list_append mt_append (pv 4) (pa_cons (pe_tup (pa_cons (pv 5) (pa_cons (pv 6) pa_nil))) pa_nil)))) pss_nil)))))) (pss_one (ps_ret (pv 4))))))), ?_⟩
    obtain ⟨x, y, rfl, w, ws, m, rfl, rfl, hW, hl4, hm, k⟩ := h.ex
    obtain ⟨wl, was, w1, w2, w3⟩ := id hW
    have wlen : (was.map V.ref).length = ws.length := by rw [List.length_map, w2]
    -- works
    refine ⟨_, rfl, w, _, rfl, .inr w1, _, _, rfl, rfl, _, rfl, RgOk.of_le (by omega) (by omega) (by omega) (by omega), fun q nq => ?_⟩
    rw [show (((was.map V.ref).length : Nat) : Int) + 1 = ((ws.length + 1 : Nat) : Int) by rw [List.length_map, w2]; omega, rgV_nats]
    have x1 : Ex H (L2.upd H q (.tup ((List.range (ws.length + 1)).map vNat))) := Ex.new nq
    have q1 : SqT K (L2.upd H q (.tup ((List.range (ws.length + 1)).map vNat))) q ((List.range (ws.length + 1)).map vNat) := SqT.of upd_same
    generalize L2.upd H q (.tup ((List.range (ws.length + 1)).map vNat)) = H1 at x1 q1 ⊢
    refine ⟨_, rfl, ⟨_, rfl, q, ws.length + 1, rfl, q1, by omega, fun p H2 rs np e2 tr r1 r2 few => ?_⟩⟩
    have h5 : 5 ^ (ws.length + 1) ≤ 5 ^ 5 := Nat.pow_le_pow_right (by decide) (by omega)
    have few : rs.length ≤ 3125 := Nat.le_trans few (Nat.le_trans h5 (by decide))
    obtain ⟨bs, hp, hbs, rfl⟩ := tr
    rw [List.length_map] at few
    have e02 := x1.trans e2
    -- found
    refine ⟨Nat.zero_le _, fun f nf => ?_⟩
    have x2 : Ex H2 (L2.upd H2 f (.lst [])) := Ex.new nf
    have tf : Ls (WnAt K) (L2.upd H2 f (.lst [])) f [] := Ls.new upd_same
    generalize L2.upd H2 f (.lst []) = H3 at x2 tf ⊢
    refine ⟨_, rfl, _, _, rfl, rfl, (m : Int) + 1, rfl, by omega, by omega, for_range (lo := 0) (fun i σ H' => ∃ (v5 v6 v7 v8 : Option V), σ = [some (.ref w), some (.int (m : Int)), some (.ref q), some (.ref p), some (.ref f), v5, v6, v7, v8] ∧ Ex H2 H' ∧ Ls (WnAt K) H' f ((prsN m i).filter fun q => oneB (ws ++ [q]) (List.range (ws.length + 1))))
      ⟨_, _, _, _, rfl, x2, tf⟩ ?_ ?_⟩
    · clear tf x2
      rintro i σ H4 hi ⟨v5, v6, v7, v8, rfl, e4, tf⟩
      have hi' : i < m + 1 := by omega
      refine ⟨_, rfl, _, rfl, _, _, rfl, rfl, 0 + (i : Int), (m : Int) + 1, rfl, ⟨by omega, by omega, by omega, by omega⟩, for_range (lo := 0 + (i : Int)) (fun j σ H' => ∃ (v6 v7 v8 : Option V), σ = [some (.ref w), some (.int (m : Int)), some (.ref q), some (.ref p), some (.ref f), some (.int (0 + (i : Int))), v6, v7, v8] ∧ Ex H2 H' ∧ Ls (WnAt K) H' f ((prsN m i ++ (rowP m i).take j).filter fun q => oneB (ws ++ [q]) (List.range (ws.length + 1))))
        ⟨_, _, _, rfl, e4, by rw [List.take_zero, List.append_nil]; exact tf⟩ ?_ ?_⟩
      · clear tf e4
        rintro j σ H5 hj ⟨v6, v7, v8, rfl, e5, tf⟩
        have hj' : j < m + 1 - i := by omega
        have i0 : (0 : Int) + (i : Int) = (i : Int) := by omega
        have j0 : (0 : Int) + (i : Int) + (j : Int) = ((i + j : Nat) : Int) := by omega
        have flen := prsN_len (m := m) (i := i + 1) hm (by omega)
        rw [prsN_succ, List.length_append] at flen
        rw [rowP_take hj', ← List.append_assoc, List.filter_append]
        generalize hpre : (prsN m i ++ (rowP m i).take j).filter (fun q => oneB (ws ++ [q]) (List.range (ws.length + 1))) = pre at tf
        have prelen : pre.length ≤ 300 := by
          rw [← hpre]
          refine Nat.le_trans (List.length_filter_le ..) ?_
          rw [List.length_append, List.length_take]
          omega
        -- more
        refine ⟨_, rfl, _, rfl, _, rfl, (by show 2 ≤ sizeLine; decide), fun t nt => ⟨(by show 1 ≤ sizeLine; decide), fun t2 nt2 => ?_⟩⟩
        have x5 : Ex H5 (L2.upd H5 t (.tup [.int (0 + (i : Int)), .int (0 + (i : Int) + (j : Int))])) := Ex.new nt
        have ht : SqT K (L2.upd H5 t (.tup [.int (0 + (i : Int)), .int (0 + (i : Int) + (j : Int))])) t [.int (i : Int), .int ((i + j : Nat) : Int)] := by
          have e1 : V.int (i : Int) = V.int (0 + (i : Int)) := congrArg _ i0.symm
          have e2 : V.int ((i + j : Nat) : Int) = V.int (0 + (i : Int) + (j : Int)) := congrArg _ j0.symm
          rw [e2, e1]
          exact SqT.of upd_same
        generalize L2.upd H5 t (.tup [.int (0 + (i : Int)), .int (0 + (i : Int) + (j : Int))]) = H6 at x5 ht nt2 ⊢
        have x6 : Ex H6 (L2.upd H6 t2 (.tup [.ref t])) := Ex.new nt2
        have e26 := (e5.trans x5).trans x6
        refine cat_read (ex_t (e02.trans e26) w1) (SqT.of upd_same) (by rw [List.length_map]; show _ + 1 ≤ 2000; omega) fun r H7 e7 hr => ?_
        have e27 := e26.trans e7
        have e57 := (x5.trans x6).trans e7
        have hm1 : WinAt K H7 r (ws ++ [((i : Int), ((i + j : Nat) : Int))]) := WinAt.of (as := was ++ [t]) (by rw [List.map_append]; exact hr) (PairsAt.add ⟨w2, fun i a q' x y => ex_t (e02.trans e27) (w3 i a q' x y)⟩ (ex_t (x6.trans e7) ht)) (by rw [List.length_append]; show _ + 1 ≤ 1000; omega)
        have mlen : (ws ++ [((i : Int), ((i + j : Nat) : Int))]).length = ws.length + 1 := by rw [List.length_append] <;> rfl
        generalize hq : ((i : Int), ((i + j : Nat) : Int)) = qq at hm1 mlen
        -- all
        refine ⟨_, rfl, p, rfl, ⟨_, SqL.of (e27 _ _ hp)⟩, fun D nD => lc_list (K := K) (a := p) (xs := bs.map (·.1)) (fun i H' => H' D = some (.lst ((((bs.map (·.2)).take i).map fun r => !decide (rowT (ws ++ [qq]) [] r = [])).map V.bl)) ∧ Ex H7 H') ⟨upd_same, Ex.new nD⟩ (fun i H' _ q => SqL.of (q.2 _ _ (e27 _ _ hp))) ?_ ?_⟩
        · rintro i2 y H8 hi2 ⟨p1, e8⟩
          obtain ⟨qa, g, rfl, hr1, hr2, hr3⟩ := RL.get hbs hi2
          have gp := r1 g hr2
          refine ⟨rfl, _, rfl, _, rfl, ⟨_, _, rfl, r, qa, ws ++ [qq], g, rfl, rfl, hm1.mono e8, ex_t (e27.trans e8) hr3, fun z hz => ?_, ?_, fun bb H9 e9 hbb => ?_⟩⟩
          · have := List.mem_range.mp (gp.mem_iff.mp hz)
            omega
          · rw [gp.length_eq, List.length_range]
            omega
          · have eb : bb = !decide (rowT (ws ++ [qq]) [] g = []) := by
              rw [← rowT_quiet] at hbb
              cases bb with
              | false => rw [decide_eq_true (hbb.mp rfl)] <;> rfl
              | true => rw [decide_eq_false fun z => absurd (hbb.mpr z) (by decide)] <;> rfl
            refine ⟨_, e9 _ _ p1, ?_, ?_, (e8.trans e9).mut nD⟩
            · rw [List.length_map, List.length_map, List.length_take, List.length_map, sizeLine_eq]
              omega
            · rw [upd_same, List.take_succ_eq_append_getElem (List.getElem?_eq_some_iff.mp hr1).1, (List.getElem?_eq_some_iff.mp hr1).2, List.map_append, List.map_append, eb] <;> rfl
        rintro H8 ⟨p1, e8⟩
        rw [List.take_of_length_le (Nat.le_of_eq (by rw [List.length_map, List.length_map]))] at p1
        have eall : (!(((bs.map (·.2)).map fun r => !decide (rowT (ws ++ [qq]) [] r = [])).all id)) = oneB (ws ++ [qq]) (List.range (ws.length + 1)) := by
          refine Bool.eq_iff_iff.mpr (Iff.trans ?_ oneB_iff.symm)
          rw [Bool.not_eq_true', ← Bool.not_eq_true, List.all_eq_true]
          constructor
          · intro z
            refine Classical.byContradiction fun c => z fun b' hb' => ?_
            obtain ⟨r', hr', rfl⟩ := List.mem_map.mp hb'
            show (!decide (rowT (ws ++ [qq]) [] r' = [])) = true
            rw [decide_eq_false fun z => c ⟨r', r1 r' hr', z⟩] <;> rfl
          · rintro ⟨r', h1, h2⟩ z
            have := z _ (List.mem_map_of_mem (f := fun r => !decide (rowT (ws ++ [qq]) [] r = [])) (r2 r' h1))
            rw [decide_eq_true h2] at this
            exact absurd this (by decide)
        have e28 := e27.trans e8
        have e58 := e57.trans e8
        have tf8 := tf.ext (wnAt K) e58
        refine ⟨D, _, rfl, SqL.of p1, _, rfl, ?_⟩
        generalize ((bs.map (·.2)).map fun r => !decide (rowT (ws ++ [qq]) [] r = [])).all id = av at eall ⊢
        cases av with
        | true =>
          refine iteF ⟨_, _, _, rfl, e28, ?_⟩
          rw [List.filter_cons, if_neg (by rw [← eall]; decide), List.filter_nil, List.append_nil]
          exact tf8
        | false =>
          refine iteT ?_
          obtain ⟨acc, a1, a2⟩ := tf8.at
          refine ⟨_, rfl, .inl ⟨rfl, _, SqL.of a1⟩, _, rfl, _, rfl, (by show 2 ≤ sizeLine; decide), fun t3 nt3 => ?_⟩
          have x9 : Ex H8 (L2.upd H8 t3 (.tup [.int (0 + (i : Int)), .int (0 + (i : Int) + (j : Int))])) := Ex.new nt3
          have ht3 : SqT K (L2.upd H8 t3 (.tup [.int (0 + (i : Int)), .int (0 + (i : Int) + (j : Int))])) t3 [.int qq.1, .int qq.2] := by
            rw [← hq]
            show SqT K _ t3 [.int (i : Int), .int ((i + j : Nat) : Int)]
            have e1 : V.int (i : Int) = V.int (0 + (i : Int)) := congrArg _ i0.symm
            have e2 : V.int ((i + j : Nat) : Int) = V.int (0 + (i : Int) + (j : Int)) := congrArg _ j0.symm
            rw [e2, e1]
            exact SqT.of upd_same
          refine ⟨f, _, _, rfl, rfl, x9 _ _ a1, small1000 (by rw [a2]; omega), _, _, _, rfl, (e28.trans x9).mut nf, ?_⟩
          rw [List.filter_cons, if_pos (by rw [← eall]; rfl), List.filter_nil]
          exact (tf8.ext (wnAt K) x9).push (wnAt K) (x9 _ _ a1) ⟨t3, rfl, ht3⟩
      · rintro σ H5 ⟨v6, v7, v8, rfl, e5, tf⟩
        rw [List.take_of_length_le (by rw [rowP_len]; omega), ← prsN_succ] at tf
        exact ⟨_, _, _, _, rfl, e5, tf⟩
    · rintro σ H4 ⟨v5, v6, v7, v8, rfl, e4, tf⟩
      rw [show ((m : Int) + 1).toNat = m + 1 by omega, prsN_all] at tf
      exact ⟨_, rfl, k f H4 (free_ex e02 nf) (e02.trans e4) tf⟩
theorem ok_l_word (T : Txt K mg A D) : FnOk P w K mg base CX0 10 A.a_l_word D.d_l_word p_l_word (sp_l_word K A) := by
  have G_welcome := ok_welcome (P := P) (w := w) (base := base) T
  refine T.F_l_word.ok sc_l_word (fun vs H Q E h => ?_) (fun cdv Ar outer s H vs Q E hr h => ?_)
  · exact h.len
  · have hu := hu_of hr
    refine ⟨_, (pss_cons (ps_set (i := 2) sc_l_word.nd rfl (Or.inl rfl) pe_str) (pss_cons (ps_try_mixed rfl rfl takes0 (fun W pn xe tk _ => (pss_one (ps_expr (pe_callS G_welcome (hr.mono (by decide)) (by rfl) T.g_welcome (k_welcome T) (b_welcome T) (fun σ => passAt tk σ) (pa_cons (pv 0) (pa_cons (pv 1) pa_nil)))))) (.plain ⟨rfl, by decide, .inl T.g_NoNumber⟩ (fun a oe cls d pn hz hf => (pss_one (ps_set (i := 2) sc_l_word.nd rfl (Or.inl rfl) pe_str))) (.named (i := 3) sc_l_word.nd rfl rfl ⟨rfl, by decide, .inl T.g_TooMany⟩ (fun a oe cls d pn hz hf => (pss_one (ps_set (i := 2) sc_l_word.nd rfl (Or.inl rfl) (pe_tup (pa_cons pe_str (pa_cons (pe_xf T.xf_TooMany T.nf_TooMany hz hf (pv 3)) pa_nil)))))) .nil))) (pss_one (ps_ret (pv 2))))), ?_⟩
    obtain ⟨x, y, rfl, b, w, ws, d, rfl, hb, hW, hR, hle, hpos, h8, hor, kN, kM⟩ := h.ex
    refine ⟨_, rfl, _, rfl, ⟨_, _, rfl, b, w, ws, d, rfl, hb, hW, hR, hle, hpos, h8, fun hm H1 e1 => ?_, fun hm h8' dx H1 e1 hd => ?_, fun m em hm h7 => ?_⟩⟩
    · exact ⟨true, T.m_NoNumber, (fun _ a na => ⟨_, rfl, kN hm H1 e1⟩), fun q => nomatch q⟩
    · exact ⟨false, T.mn_TooMany, (fun q => nomatch q), fun _ => ⟨true, T.m_TooMany, (fun _ a na => ⟨_, rfl, rfl, rfl, dx, _, _, rfl, hd, rfl, (by show 2 ≤ sizeLine; decide), fun t nt => ⟨_, rfl, kM hm t _ (e1.trans (Ex.new nt)) (SqT.of upd_same)⟩⟩), fun q => nomatch q⟩⟩
    · exfalso
      subst em
      rcases hor with c | c
      · have : (decide ((0 : Int) ≤ m) && decide ((m : Int) ≤ 20)) = false := c
        rw [decide_eq_true (by omega), decide_eq_true (by omega)] at this
        cases this
      · omega
theorem ok_l_early_windows (T : Txt K mg A D) : FnOk P w K mg base CX0 2 A.a_l_early_windows D.d_l_early_windows p_l_early_windows (sp_l_early_windows K A) := by
  have G_l_draw := ok_l_draw (P := P) (w := w) (base := base) T
  refine T.F_l_early_windows.ok sc_l_early_windows (fun vs H Q E h => ?_) (fun cdv Ar outer s H vs Q E hr h => ?_)
  · exact h.len
  · have hu := hu_of hr
    refine ⟨_, (pss_cons (ps_set (i := 3) sc_l_early_windows.nd rfl (Or.inl rfl) (pe_lst pa_nil)) (pss_cons (ps_for PassesOwn.never rfl (pi_range1 (by rfl) T.n_range (pa_cons (pv 1) pa_nil)) (pg_name (i := 4) sc_l_early_windows.nd rfl (Or.inl rfl)) (pss_cons (ps_set (i := 5) sc_l_early_windows.nd rfl (Or.inl rfl) (pe_call G_l_draw (hr.mono (by decide)) rfl T.g_l_draw (k_l_draw T) (b_l_draw T) .nil pass0 (pa_cons (pv 0) (pa_cons (pe_op op_add (pv 2) pe_int) pa_nil)))) (pss_cons (ps_expr (pe_bm PySem.F.plainAttrs_list PySem.F.slot_list_append PySem.F.type_list_append mt_append (pv 3) (pa_cons (pe_tup (pa_cons (pv 5) (pa_cons (pe_op op_add (pv 5) (pe_call G_l_draw (hr.mono (by decide)) rfl T.g_l_draw (k_l_draw T) (b_l_draw T) .nil pass0 (pa_cons (pv 0) (pa_cons (pe_op op_sub (pe_op op_add (pv 2) pe_int) (pv 5)) pa_nil)))) pa_nil))) pa_nil))) (pss_one (ps_if (PW.pt (pw_and (pt_cmpR op_gt (pv 4) pe_int (nomark _)) (pw_and1 (pt_cmpR op_eq (pe_call G_l_draw (hr.mono (by decide)) rfl T.g_l_draw (k_l_draw T) (b_l_draw T) .nil pass0 (pa_cons (pv 0) (pa_cons pe_int pa_nil))) pe_int (nomark _))))) (pss_cons (ps_set (i := 6) sc_l_early_windows.nd rfl (Or.inl rfl) (pe_ix ix_list (pv 3) (pe_call G_l_draw (hr.mono (by decide)) rfl T.g_l_draw (k_l_draw T) (b_l_draw T) .nil pass0 (pa_cons (pv 0) (pa_cons (pv 4) pa_nil))) (fun _ _ => rfl))) (pss_cons (ps_set (i := 7) sc_l_early_windows.nd rfl (Or.inl rfl) (pe_call G_l_draw (hr.mono (by decide)) rfl T.g_l_draw (k_l_draw T) (b_l_draw T) .nil pass0 (pa_cons (pv 0) (pa_cons pe_int pa_nil)))) (pss_one (ps_if (pt_cmpR op_le (pe_op op_add (pe_ix ix_tup (pv 6) pe_int (fun _ _ => rfl)) (pv 7)) (pe_op op_sub (pe_ix ix_tup (pv 6) pe_int (fun _ _ => rfl)) (pv 7)) (nomark _)) (pss_one (ps_asg (pe_tup (pa_cons (pe_op op_add (pe_ix ix_tup (pv 6) pe_int (fun _ _ => rfl)) (pv 7)) (pa_cons (pe_op op_sub (pe_ix ix_tup (pv 6) pe_int (fun _ _ => rfl)) (pv 7)) pa_nil))) (pg_sub (pv 3) (pv 4) set_list))) pss_nil)))) pss_nil))))) (pss_one (ps_ret (pe_callTy call_tuple_of (by rfl) T.n_tuple (by decide +kernel) (pa_cons (pv 3) pa_nil)))))), ?_⟩
    obtain ⟨x, y, z, rfl, p, n, t, rfl, rfl, rfl, P, hn, t0, t12, k⟩ := h.ex
    -- found = []
    refine ⟨Nat.zero_le _, fun f nf => ?_⟩
    have x1 : Ex H (L2.upd H f (.lst [])) := Ex.new nf
    have fp : f ≠ p := P.nep nf
    have P1 : SrcAt (L2.upd H f (.lst [])) p := P.mono x1
    have K1 : Kept p p H (L2.upd H f (.lst [])) := kept_of x1
    have L1 : Ls (WnAt K) (L2.upd H f (.lst [])) f [] := Ls.new upd_same
    generalize L2.upd H f (.lst []) = H1 at P1 K1 L1 ⊢
    refine ⟨_, rfl, (n : Int), rfl, by omega, by omega, for_range (lo := 0) (n := n) (fun i σ H' => ∃ (v4 v5 v6 v7 : Option V) (ws : List (Int × Int)), σ = [some (.ref p), some (.int (n : Int)), some (.int t), some (.ref f), v4, v5, v6, v7] ∧ SrcAt H' p ∧ Kept p p H H' ∧ Ls (WnAt K) H' f ws ∧ ws.length = i ∧ ∀ q ∈ ws, inWin 1000000 q)
      ⟨none, none, none, none, [], rfl, P1, K1, L1, rfl, fun q hq => by cases hq⟩ ?_ ?_⟩
    · rintro i σ H2 hi ⟨v4, v5, v6, v7, ws, rfl, P2, K2, L2', wl, wb⟩
      refine ⟨_, rfl, _, rfl, _, _, rfl, rfl, ⟨_, _, rfl, p, t + 1, rfl, rfl, P2, by omega, by omega, fun d1 H3 d10 d11 P3 K3 => ?_⟩⟩
      have L3 := L2'.src P2 K3 fp
      obtain ⟨xs3, hx3, lx3⟩ := L3.at
      have K03 := K2.trans K3
      refine ⟨_, rfl, .inl ⟨rfl, _, SqL.of hx3⟩, _, rfl, _, rfl, _, rfl, _, rfl, _, _, rfl, rfl, _, rfl, _, _, rfl, rfl, ⟨_, _, rfl, p, t + 1 - d1, rfl, rfl, P3, by omega, by omega, fun d2 H4 d20 d21 P4 K4 => ⟨_, _, rfl, rfl, (by show 2 ≤ sizeLine; decide), fun r nr => ?_⟩⟩⟩
      have hx4 := K4 _ _ fp fp hx3
      have L4 := L3.src P3 K4 fp
      have xr : Ex H4 (L2.upd H4 r (.tup [.int d1, .int (d1 + d2)])) := Ex.new nr
      have hr : SqT K (L2.upd H4 r (.tup [.int d1, .int (d1 + d2)])) r [.int d1, .int (d1 + d2)] := SqT.of upd_same
      have P5 := P4.mono xr
      have L5 := L4.ext (wnAt K) xr
      have hx5 := xr _ _ hx4
      have K05 := (K03.trans K4).trans (kept_of xr)
      generalize L2.upd H4 r (.tup [.int d1, .int (d1 + d2)]) = H5 at P5 L5 hx5 K05 hr ⊢
      refine ⟨f, _, _, rfl, rfl, hx5, small1000 (by rw [lx3]; omega), ?_⟩
      have L6 : Ls (WnAt K) (L2.upd H5 f (.lst (xs3 ++ [.ref r]))) f (ws ++ [(d1, d1 + d2)]) := L5.push (wnAt K) hx5 ⟨r, rfl, hr⟩
      have P6 : SrcAt (L2.upd H5 f (.lst (xs3 ++ [.ref r]))) p := P5.beside fp.symm
      have K06 : Kept p p H (L2.upd H5 f (.lst (xs3 ++ [.ref r]))) := fun b o h1 h2 e => by
        rw [upd_ne (ne_of_none e nf)]
        exact K05 b o h1 h2 e
      have hx6 : (L2.upd H5 f (.lst (xs3 ++ [.ref r]))) f = some (.lst (xs3 ++ [.ref r])) := upd_same
      have len6 : (ws ++ [(d1, d1 + d2)]).length = i + 1 := by rw [List.length_append, wl] <;> rfl
      have in6 : ∀ q ∈ ws ++ [(d1, d1 + d2)], inWin 1000000 q := fun q hq => by
        rcases List.mem_append.mp hq with c | c
        · exact wb q c
        · rw [List.mem_singleton.mp c]
          exact ⟨by show 0 ≤ d1; omega, by show d1 ≤ d1 + d2; omega, by show d1 + d2 ≤ 1000000; omega⟩
      generalize L2.upd H5 f (.lst (xs3 ++ [.ref r])) = H6 at L6 P6 K06 hx6 ⊢
      generalize ws ++ [(d1, d1 + d2)] = us at L6 len6 in6
      have ful : (xs3 ++ [V.ref r]).length = i + 1 := by rw [List.length_append, lx3, wl] <;> rfl
      generalize xs3 ++ [V.ref r] = ys at hx6 ful
      clear L5 P5 K05 hr hx5 L4 L3 L2' P2 P3 P4 K2 K3 K4 K03 hx3 hx4 xr
      refine ⟨_, rfl, _, _, rfl, rfl, _, rfl, ite2 (fun c1 => ?_) (fun c1 => ⟨_, _, _, _, us, rfl, P6, K06, L6, len6, in6⟩)⟩
      have i0 : 0 < i := by have := of_decide_eq_true c1; omega
      refine ⟨_, rfl, ⟨_, _, rfl, p, 3, rfl, rfl, P6, by decide, by decide, fun d3 H7 d30 d31 P7 K7 => ?_⟩⟩
      have L7 := L6.src P6 K7 fp
      have K07 := K06.trans K7
      have hx7 := K7 _ _ fp fp hx6
      refine ⟨rfl, _, rfl, ite2 (fun c2 => ?_) (fun c2 => ⟨_, _, _, _, us, rfl, P7, K07, L7, len6, in6⟩)⟩
      refine ⟨_, rfl, _, rfl, _, rfl, ⟨_, _, rfl, p, 0 + (i : Int), rfl, rfl, P7, by omega, by omega, fun d4 H8 d40 d41 P8 K8 => ?_⟩⟩
      have L8 := L7.src P7 K8 fp
      have K08 := K07.trans K8
      have hx8 := K8 _ _ fp fp hx7
      obtain ⟨j, rfl⟩ : ∃ j : Nat, d4 = (j : Int) := ⟨d4.toNat, by omega⟩
      obtain ⟨v, q, hv, hq, hvq⟩ := L8.item hx8 (i := j) (by omega)
      obtain ⟨u, rfl, hu⟩ := hvq
      have qin := in6 q (List.mem_of_getElem? hq)
      refine ⟨f, _, (j : Int), _, rfl, rfl, SqL.of hx8, atI_of hv, ?_⟩
      refine ⟨_, rfl, ⟨_, _, rfl, p, 2, rfl, rfl, P8, by decide, by decide, fun d5 H9 d50 d51 P9 K9 => ?_⟩⟩
      have L9 := L8.src P8 K9 fp
      have K09 := K08.trans K9
      have hx9 := K9 _ _ fp fp hx8
      have hu9 := sqt_src hu P8 K9
      refine ⟨_, rfl, u, _, 0, _, rfl, rfl, hu9, rfl, _, rfl, _, _, rfl, rfl, _, rfl, u, _, 1, _, rfl, rfl, hu9, rfl, _, rfl, _, _, rfl, rfl, _, _, rfl, rfl, _, rfl, ite2 (fun c3 => ?_) (fun c3 => ⟨_, _, _, _, us, rfl, P9, K09, L9, len6, in6⟩)⟩
      have c3 := of_decide_eq_true c3
      refine ⟨_, rfl, u, _, 0, _, rfl, rfl, hu9, rfl, _, rfl, _, _, rfl, rfl, _, rfl, u, _, 1, _, rfl, rfl, hu9, rfl, _, rfl, _, _, rfl, rfl, (by show 2 ≤ sizeLine; decide), fun r2 nr2 => ?_⟩
      have x9 : Ex H9 (L2.upd H9 r2 (.tup [.int (q.1 + d5), .int (q.2 - d5)])) := Ex.new nr2
      have hx10 := x9 _ _ hx9
      refine ⟨_, rfl, _, rfl, f, _, 0 + (i : Int), i, rfl, rfl, hx10, (by rw [show (0 : Int) + (i : Int) = (i : Int) by omega]; exact ixN_nat (by omega)), ?_⟩
      refine ⟨_, _, _, _, us.set i (q.1 + d5, q.2 - d5), rfl, (P9.mono x9).beside fp.symm, fun b o h1 h2 e => ?_, (L9.ext (wnAt K) x9).set (wnAt K) hx10 ⟨r2, rfl, SqT.of upd_same⟩, by rw [List.length_set]; exact len6, fun q' hq' => ?_⟩
      · rw [upd_ne (ne_of_none e nf)]
        exact x9 _ _ (K09 b o h1 h2 e)
      · rcases List.mem_or_eq_of_mem_set hq' with m | m
        · exact in6 q' m
        · rw [m]
          obtain ⟨w1, w2, w3⟩ := qin
          exact ⟨by show 0 ≤ q.1 + d5; omega, c3, by show q.2 - d5 ≤ 1000000; omega⟩
    · rintro σ H2 ⟨v4, v5, v6, v7, ws, rfl, P2, K2, L2', wl, wb⟩
      obtain ⟨bs, h1, h2, h3⟩ := L2'
      refine ⟨_, rfl, f, _, rfl, .inl ⟨SqL.of h1, fun w nw => ?_⟩⟩
      have xw : Ex H2 (L2.upd H2 w (.tup (bs.map (·.1)))) := Ex.new nw
      refine k w ws _ ?_ ?_ wl wb (P2.mono xw) (K2.trans (kept_of xw))
      · cases e : H w with
        | none => rfl
        | some o =>
          rw [K2 w o (P2.nep nw) (P2.nep nw) e] at nw
          cases nw
      · obtain ⟨as, ea, pa⟩ := wn_pairs h2
        rw [h3] at pa
        rw [ea] at xw ⊢
        exact WinAt.of (SqT.of upd_same) (pa.mono xw) (by omega)
theorem ok_law (T : Txt K mg A D) : FnOkG P w K mg base CX0 11 A.a_law D.d_law p_law (sp_law K A) := by
  have G_Book_init := ok_Book_init (P := P) (w := w) (base := base) T
  have G_l_draw := ok_l_draw (P := P) (w := w) (base := base) T
  have G_welcome := ok_welcome (P := P) (w := w) (base := base) T
  have G_l_source := ok_l_source (P := P) (w := w) (base := base) T
  have G_l_early_windows := ok_l_early_windows (P := P) (w := w) (base := base) T
  have G_l_due := ok_l_due (P := P) (w := w) (base := base) T
  have G_l_word := ok_l_word (P := P) (w := w) (base := base) T
  have G_one_order := ok_one_order (P := P) (w := w) (base := base) T
  have G_shifted := ok_shifted (P := P) (w := w) (base := base) T
  refine T.F_law.okG sc_law (fun vs H Q E h => ?_) (fun cdv Ar outer s H vs Q E hq h => ?_)
  · exact h.len
  · have hr := hq.rm
    have hu := hu_of hr
    refine ⟨_, (pss_cons (ps_for PassesOwn.never rfl (pi_range1 (by rfl) T.n_range (pa_cons pe_int pa_nil)) (pg_name (i := 1) sc_law.nd rfl (Or.inl rfl)) (pss_cons (ps_set (i := 2) sc_law.nd rfl (Or.inr rfl) (pe_call G_l_source (hr.mono (by decide)) rfl T.g_l_source (k_l_source T) (b_l_source T) .nil pass0 (pa_cons (pv 0) (pa_cons (pv 1) pa_nil)))) (pss_cons (ps_set (i := 3) sc_law.nd rfl (Or.inl rfl) (pe_op op_add pe_int (pe_call G_l_draw (hr.mono (by decide)) rfl T.g_l_draw (k_l_draw T) (b_l_draw T) .nil pass0 (pa_cons (pv 2) (pa_cons (pe_op op_add pe_int (pv 1)) pa_nil))))) (pss_cons (ps_set (i := 4) sc_law.nd rfl (Or.inl rfl) (pe_call G_l_early_windows (hr.mono (by decide)) rfl T.g_l_early_windows (k_l_early_windows T) (b_l_early_windows T) .nil pass0 (pa_cons (pv 2) (pa_cons (pv 3) (pa_cons (pe_ix ix_tup (pe_tup (pa_cons pe_int (pa_cons pe_int (pa_cons pe_int pa_nil)))) (pe_call G_l_draw (hr.mono (by decide)) rfl T.g_l_draw (k_l_draw T) (b_l_draw T) .nil pass0 (pa_cons (pv 2) (pa_cons pe_int pa_nil))) (fun _ _ => rfl)) pa_nil))))) (pss_cons (ps_set (i := 5) sc_law.nd rfl (Or.inl rfl) (pe_ix ix_tup (pe_tup (pa_cons pe_int (pa_cons pe_int (pa_cons pe_int pa_nil)))) (pe_call G_l_draw (hr.mono (by decide)) rfl T.g_l_draw (k_l_draw T) (b_l_draw T) .nil pass0 (pa_cons (pv 2) (pa_cons pe_int pa_nil))) (fun _ _ => rfl))) (pss_cut (ps_if (pt_cmpR op_lt (pv 3) pe_int (nomark _)) (pss_one (ps_set (i := 5) sc_law.nd rfl (Or.inl rfl) (pe_ix ix_tup (pe_tup (pa_cons pe_int (pa_cons pe_int (pa_cons pe_int (pa_cons pe_int pa_nil))))) (pe_call G_l_draw (hr.mono (by decide)) rfl T.g_l_draw (k_l_draw T) (b_l_draw T) .nil pass0 (pa_cons (pv 2) (pa_cons pe_int pa_nil))) (fun _ _ => rfl)))) pss_nil) (pss_cons (ps_set (i := 6) sc_law.nd rfl (Or.inl rfl) (pe_make T.mk_Book G_Book_init (hr.mono (by decide)) (by rfl) T.g_Book (b_Book_init T) .nil (passes_call takes0 (fun _ _ _ _ h => h)) (pa_cons (pv 4) pa_nil))) (pss_cons (ps_set (i := 7) sc_law.nd rfl (Or.inl rfl) (pe_call G_l_due (hr.mono (by decide)) rfl T.g_l_due (k_l_due T) (b_l_due T) .nil pass0 (pa_cons (pv 4) (pa_cons (pv 5) pa_nil)))) (pss_cons (ps_set (i := 8) sc_law.nd rfl (Or.inr rfl) (pe_call G_welcome (hr.mono (by decide)) rfl T.g_welcome (k_welcome T) (b_welcome T) .nil (passes_call takes0 (fun _ _ _ _ h => h)) (pa_cons (pv 6) (pa_cons (pv 5) pa_nil)))) (pss_cons (ps_if (PW.pt (pw_or (pt_not (pt_val (pe_callB call_isi (by rfl) T.n_isinstance (by decide +kernel) (pa_cons (pv 8) (pa_cons (pe_bltn (v := .ty "list") (by rfl) T.n_list (by decide +kernel) rfl) pa_nil))))) (pw_or (pt_cmpR (op_neD hr.units) (pv 8) (pv 7) (nomark _)) (pw_or1 (pt_cmpR op_ne (pe_callB (cr_reprT rfl hq.gd hr.units) (by rfl) T.n_repr (by decide +kernel) (pa_cons (pv 8) pa_nil)) (pe_callB (cr_reprT rfl hq.gd hr.units) (by rfl) T.n_repr (by decide +kernel) (pa_cons (pv 7) pa_nil)) (nomark _)))))) (pss_one (ps_ret pe_bl)) pss_nil) (pss_cut (ps_if (PW.pt (pw_and (pt_cmpR op_isN (pe_call G_one_order (hr.mono (by decide)) rfl T.g_one_order (k_one_order T) (b_one_order T) .nil pass0 (pa_cons (pv 6) pa_nil)) pe_non (nomark _)) (pw_and1 (pt_cmpR (op_neD hr.units) (pv 8) (pe_lst pa_nil) (nomark _))))) (pss_one (ps_ret pe_bl)) pss_nil) (pss_cons (ps_expr (pe_bm PySem.F.plainAttrs_list PySem.F.slot_list_append PySem.F.type_list_append mt_append (pv 8) (pa_cons pe_non pa_nil))) (pss_cons (ps_set (i := 9) sc_law.nd rfl (Or.inr rfl) (pe_call G_l_draw (hr.mono (by decide)) rfl T.g_l_draw (k_l_draw T) (b_l_draw T) .nil pass0 (pa_cons (pv 2) (pa_cons (pe_op op_add (pv 5) pe_int) pa_nil)))) (pss_cons (ps_if (pt_cmpR (op_neD hr.units) (pe_call G_welcome (hr.mono (by decide)) rfl T.g_welcome (k_welcome T) (b_welcome T) .nil (passes_call takes0 (fun _ _ _ _ h => h)) (pa_cons (pv 6) (pa_cons (pv 9) pa_nil))) (pe_lc (own := [("_law_window", 10)]) (g := (gName 10))  rfl sc_law.nd (pi_list (pv 7)) (blkOk_by (own := [("_law_window", 10)]) (N := n_law) (sc := defScope s_law) (by decide +kernel)) (fun _ _ _ _ _ => (pg_name (i := 10) sc_law.nd rfl (Or.inl rfl))) (fun _ _ _ _ _ => pts_one (pt_cmpR op_le (pe_ix (ix_tupB (K := K)) (pv 10) pe_int (fun _ _ => rfl)) (pv 9) (nomark _))) (fun _ _ _ _ _ => (pv 10))) (nomark _)) (pss_one (ps_ret pe_bl)) pss_nil) (pss_one (ps_if (pt_cmpR op_lt (pv 5) pe_int (nomark _)) (pss_cons (ps_setLc (i := 13) (own := [("_law_first", 11), ("_law_last", 12)]) (g := (gTup K 2 (gCons (gName 11) (gCons (gName 12) gNil))))  rfl sc_law.nd rfl rfl (sw_true rfl rfl rfl (by decide +kernel)) (pi_list (pe_call G_welcome (hr.mono (by decide)) rfl T.g_welcome (k_welcome T) (b_welcome T) .nil (passes_call takes0 (fun _ _ _ _ h => h)) (pa_cons (pe_call G_shifted (hr.mono (by decide)) rfl T.g_shifted (k_shifted T) (b_shifted T) .nil (passes_call takes0 (fun _ _ _ _ h => h)) (pa_cons (pv 6) (pa_cons pe_int pa_nil))) (pa_cons (pe_op op_add (pv 5) pe_int) pa_nil)))) (blkOk_by (own := [("_law_first", 11), ("_law_last", 12)]) (N := n_law) (sc := defScope s_law) (by decide +kernel)) (fun _ _ _ _ _ => (pg_tup rfl (pgs_cons (pg_name (i := 11) sc_law.nd rfl (Or.inl rfl)) (pgs_cons (pg_name (i := 12) sc_law.nd rfl (Or.inl rfl)) pgs_nil)))) (fun _ _ _ _ _ => pts_one (pt_cmpR op_gt (pv 11) pe_int (nomark _))) (fun _ _ _ _ _ => (pe_tup (pa_cons (pe_op op_sub (pv 11) pe_int) (pa_cons (pe_op op_sub (pv 12) pe_int) pa_nil))))) (pss_one (ps_if (pt_cmpR (op_neD hr.units) (pv 13) (pv 7) (nomark _)) (pss_one (ps_ret pe_bl)) pss_nil))) pss_nil)))))))))))))))) (pss_cons (ps_set (i := 14) sc_law.nd rfl (Or.inl rfl) (pe_ix ix_list (pe_lst (pa_cons pe_non (pa_cons (pe_un un_neg pe_int) (pa_cons pe_int (pa_cons pe_bl (pa_cons pe_str (pa_cons (pe_tup (pa_cons pe_int pa_nil)) (pa_cons (pe_op op_pow pe_int pe_int) (pa_cons (pe_lst (pa_cons pe_int pa_nil)) pa_nil))))))))) (pe_call G_l_draw (hr.mono (by decide)) rfl T.g_l_draw (k_l_draw T) (b_l_draw T) .nil pass0 (pa_cons (pv 2) (pa_cons pe_int pa_nil))) (fun _ _ => rfl))) (pss_cons (ps_set (i := 16) sc_law.nd rfl (Or.inl rfl) (pe_make T.mk_Book G_Book_init (hr.mono (by decide)) (by rfl) T.g_Book (b_Book_init T) .nil (passes_call takes0 (fun _ _ _ _ h => h)) (pa_cons (pe_callTy call_tuple_of (by rfl) T.n_tuple (by decide +kernel) (pa_cons (pe_lc (own := [("_law_k", 15)]) (g := (gName 15)) (tt := tYes) rfl sc_law.nd (pi_range1 (by rfl) T.n_range (pa_cons pe_int pa_nil)) (blkOk_by (own := [("_law_k", 15)]) (N := n_law) (sc := defScope s_law) (by decide +kernel)) (fun _ _ _ _ _ => (pg_name (i := 15) sc_law.nd rfl (Or.inl rfl))) (fun _ _ _ _ _ => pts_nil) (fun _ _ _ _ _ => (pe_tup (pa_cons (pv 15) (pa_cons (pe_op op_add (pv 15) pe_int) pa_nil))))) pa_nil)) pa_nil))) (pss_cons (ps_if (PW.pt (pw_or (pt_cmpR (op_neD hr.units) (pe_call G_l_word (hr.mono (by decide)) rfl T.g_l_word (k_l_word T) (b_l_word T) .nil pass0 (pa_cons (pv 16) (pa_cons (pv 14) pa_nil))) pe_str (nomark _)) (pw_or (pt_cmpR (op_neD hr.units) (pe_call G_l_word (hr.mono (by decide)) rfl T.g_l_word (k_l_word T) (b_l_word T) .nil pass0 (pa_cons (pv 16) (pa_cons pe_int pa_nil))) (pe_tup (pa_cons pe_str (pa_cons pe_int pa_nil))) (nomark _)) (pw_or1 (pt_cmpR (op_neD hr.units) (pe_call G_l_word (hr.mono (by decide)) rfl T.g_l_word (k_l_word T) (b_l_word T) .nil pass0 (pa_cons (pv 6) (pa_cons (pv 14) pa_nil))) pe_str (nomark _)))))) (pss_one (ps_ret pe_bl)) pss_nil) (pss_cons (ps_set (i := 17) sc_law.nd rfl (Or.inr rfl) (pe_call G_l_draw (hr.mono (by decide)) rfl T.g_l_draw (k_l_draw T) (b_l_draw T) .nil pass0 (pa_cons (pv 2) (pa_cons pe_int pa_nil)))) (pss_cons (ps_setLc (i := 18) (own := [("_law_k", 15)]) (g := (gName 15)) (tt := tYes) rfl sc_law.nd rfl rfl (sw_true rfl rfl rfl (by decide +kernel)) (pi_range1 (by rfl) T.n_range (pa_cons (pe_op op_add pe_int (pe_call G_l_draw (hr.mono (by decide)) rfl T.g_l_draw (k_l_draw T) (b_l_draw T) .nil pass0 (pa_cons (pv 2) (pa_cons pe_int pa_nil)))) pa_nil)) (blkOk_by (own := [("_law_k", 15)]) (N := n_law) (sc := defScope s_law) (by decide +kernel)) (fun _ _ _ _ _ => (pg_name (i := 15) sc_law.nd rfl (Or.inl rfl))) (fun _ _ _ _ _ => pts_nil) (fun _ _ _ _ _ => (pe_call G_l_draw (hr.mono (by decide)) rfl T.g_l_draw (k_l_draw T) (b_l_draw T) .nil pass0 (pa_cons (pv 2) (pa_cons pe_int pa_nil))))) (pss_cons (ps_set (i := 8) sc_law.nd rfl (Or.inr rfl) (pe_call G_welcome (hr.mono (by decide)) rfl T.g_welcome (k_welcome T) (b_welcome T) .nil (passes_call takes0 (fun _ _ _ _ h => h)) (pa_cons (pe_make T.mk_Book G_Book_init (hr.mono (by decide)) (by rfl) T.g_Book (b_Book_init T) .nil (passes_call takes0 (fun _ _ _ _ h => h)) (pa_cons (pe_callTy call_tuple_of (by rfl) T.n_tuple (by decide +kernel) (pa_cons (pe_lc (own := [("_law_first", 11)]) (g := (gName 11)) (tt := tYes) rfl sc_law.nd (pi_list (pv 18)) (blkOk_by (own := [("_law_first", 11)]) (N := n_law) (sc := defScope s_law) (by decide +kernel)) (fun _ _ _ _ _ => (pg_name (i := 11) sc_law.nd rfl (Or.inl rfl))) (fun _ _ _ _ _ => pts_nil) (fun _ _ _ _ _ => (pe_tup (pa_cons (pv 11) (pa_cons (pe_op op_add (pv 11) (pv 17)) pa_nil))))) pa_nil)) pa_nil)) (pa_cons pe_int pa_nil)))) (pss_one (ps_ret (pe_callB (cr_all rfl) (by rfl) T.n_all (by decide +kernel) (pa_cons (pe_lc (own := [("_law_first", 11)]) (g := (gName 11)) (tt := tYes) rfl sc_law.nd (pi_range1 (by rfl) T.n_range (pa_cons pe_int pa_nil)) (blkOk_by (own := [("_law_first", 11)]) (N := n_law) (sc := defScope s_law) (by decide +kernel)) (fun _ _ _ _ _ => (pg_name (i := 11) sc_law.nd rfl (Or.inl rfl))) (fun _ _ _ _ _ => pts_nil) (fun _ _ _ _ _ => (pe_cmpR (op_inDB (K := K) hr.u65) (pe_tup (pa_cons (pv 11) (pa_cons (pe_op op_add (pv 11) (pv 17)) pa_nil))) (pv 8) (by rfl)))) pa_nil))))))))))), ?_⟩
    obtain ⟨s0, ns, rfl, hS, hlen, kfin⟩ := h.ex
    refine ⟨2, rfl, by decide, by decide, for_range (lo := 0) (n := 2) (fun i σ H' => ∃ (v1 v2 v3 v4 v5 v6 v7 v8 v9 v10 v11 v12 v13 v14 v15 v16 v17 v18 : Option V), σ = [some (.ref s0), v1, v2, v3, v4, v5, v6, v7, v8, v9, v10, v11, v12, v13, v14, v15, v16, v17, v18] ∧ SqL K H' s0 (ns.map V.int) ∧
        (i = 0 ∨ ∃ (p b w0 : Addr) (ws : List (Int × Int)), v2 = some (.ref p) ∧ SrcAt H' p ∧ v6 = some (.ref b) ∧ BookAt A.C_Book H' b w0 ∧ WinAt K H' w0 ws ∧ 1 ≤ ws.length ∧ ws.length ≤ 4 ∧ ∀ q ∈ ws, q.1 ≤ q.2))
      ⟨_, _, _, _, _, _, _, _, _, _, _, _, _, _, _, _, _, _, rfl, hS, .inl rfl⟩ ?_ ?_⟩
    · clear hS
      rintro i σ H2 hi ⟨v1, v2, v3, v4, v5, v6, v7, v8, v9, v10, v11, v12, v13, v14, v15, v16, v17, v18, rfl, hS, -⟩
      -- source
      refine ⟨_, rfl, _, rfl, ⟨_, _, rfl, s0, ns, i, rfl, congrArg V.int (Int.zero_add _), hS, hlen, by omega, fun p H3 np P3 e23 => ?_⟩⟩
      have K23 : Kept p p H2 H3 := kept_of e23
      -- many
      refine ⟨_, rfl, _, rfl, _, _, rfl, rfl, ⟨_, _, rfl, p, 3 + (0 + (i : Int)), rfl, rfl, P3, by omega, by omega, fun d H4 d0 d1 P4 K4 => ⟨_, _, rfl, rfl, ?_⟩⟩⟩
      have K24 := K23.trans K4
      obtain ⟨N, hN⟩ : ∃ N : Nat, (1 : Int) + d = (N : Int) := ⟨(1 + d).toNat, by omega⟩
      show gName 3 (V.int (1 + d)) _ _ _
      rw [hN]
      have hN4 : 1 ≤ N ∧ N ≤ 4 := by omega
      -- windows
      refine ⟨_, rfl, _, rfl, (by show 3 ≤ sizeLine; decide), fun t1 nt1 => ⟨_, rfl, ⟨_, _, rfl, p, 3, rfl, rfl, P4.mono (Ex.new nt1), by decide, by decide, fun d1 H5 d10 d11 P5 K5 => ?_⟩⟩⟩
      obtain ⟨t, ht, hh⟩ := atI_three (a := 4) (b := 8) (c := 12) d10 d11
      have ht1 : SqT K H5 t1 [.int 4, .int 8, .int 12] := sqt_src (SqT.of upd_same) (P4.mono (Ex.new nt1)) K5
      have K25 := (K24.trans (kept_of (Ex.new nt1))).trans K5
      refine ⟨t1, _, d1, _, rfl, rfl, ht1, ht, ⟨_, _, _, rfl, p, N, t, rfl, rfl, rfl, P5, by omega, by omega, by omega, fun w0 ws H6 nw hW hwl hin P6 K6 => ?_⟩⟩
      have K26 := K25.trans K6
      -- most
      refine ⟨(by show 3 ≤ sizeLine; decide), fun t2 nt2 => ⟨_, rfl, ⟨_, _, rfl, p, 3, rfl, rfl, P6.mono (Ex.new nt2), by decide, by decide, fun d2 H7 d20 d21 P7 K7 => ?_⟩⟩⟩
      obtain ⟨m0, hm0, hhm⟩ := atI_three (a := 4) (b := 6) (c := 8) d20 d21
      have ht2 : SqT K H7 t2 [.int 4, .int 6, .int 8] := sqt_src (SqT.of upd_same) (P6.mono (Ex.new nt2)) K7
      have K67 := (kept_of (Ex.new nt2)).trans K7
      have K27 := K26.trans K67
      have hW7 := hW.src P6 K67
      refine ⟨t2, _, d2, _, rfl, rfl, ht2, hm0, ?_⟩
      refine ⟨fun σ H' => ∃ (M : Nat), σ = [some (.ref s0), some (.int (0 + (i : Int))), some (.ref p), some (.int (N : Int)), some (.ref w0), some (.int (M : Int)), v6, v7, v8, v9, v10, v11, v12, v13, v14, v15, v16, v17, v18] ∧ M ≤ 20 ∧ SrcAt H' p ∧ Kept p p H2 H' ∧ WinAt K H' w0 ws, ?_, ?_⟩
      · refine ⟨_, rfl, _, _, rfl, rfl, _, rfl, ite2 (fun _ => ?_) (fun _ => ?_)⟩
        · refine ⟨(by show 4 ≤ sizeLine; decide), fun t3 nt3 => ⟨_, rfl, ⟨_, _, rfl, p, 4, rfl, rfl, P7.mono (Ex.new nt3), by decide, by decide, fun d3 H8 d30 d31 P8 K8 => ?_⟩⟩⟩
          obtain ⟨M, hM, hM20⟩ : ∃ M : Nat, atI [V.int 0, .int 5, .int 12, .int 20] d3 = some (.int (M : Int)) ∧ M ≤ 20 := by
            obtain ⟨j, rfl⟩ : ∃ j : Nat, d3 = (j : Int) := ⟨d3.toNat, by omega⟩
            have hj : j < 4 := by omega
            match j, hj with
            | 0, _ => exact ⟨0, rfl, by decide⟩
            | 1, _ => exact ⟨5, rfl, by decide⟩
            | 2, _ => exact ⟨12, rfl, by decide⟩
            | 3, _ => exact ⟨20, rfl, by decide⟩
          have ht3 : SqT K H8 t3 [.int 0, .int 5, .int 12, .int 20] := sqt_src (SqT.of upd_same) (P7.mono (Ex.new nt3)) K8
          have K78 := (kept_of (Ex.new nt3)).trans K8
          exact ⟨t3, _, d3, _, rfl, rfl, ht3, hM, M, rfl, hM20, P8, K27.trans K78, hW7.src P7 K78⟩
        · obtain ⟨M, rfl⟩ : ∃ M : Nat, m0 = (M : Int) := ⟨m0.toNat, by omega⟩
          exact ⟨M, rfl, by omega, P7, K27, hW7⟩
      clear P3 P4 P5 P6 P7 K23 K24 K25 K26 K27 K67 hW hW7 ht1 ht2
      rintro σ H8 ⟨M, rfl, hM, P8, K8, hW8⟩
      have hws : 1 ≤ ws.length ∧ ws.length ≤ 4 := by omega
      have hok : winsD (.tup (ws.map winDa)) = true := winsD_of (by omega) (by omega) hin
      have hle : ∀ q ∈ ws, q.1 ≤ q.2 := fun q hq => (hin q hq).2.1
      -- book
      refine ⟨_, rfl, fun b dx nb ndx nbx => ⟨_, _, rfl, b, dx, _, rfl, upd_same, hW8.rp.mono ?_, fun _ H6 e6 => ⟨rfl, ?_⟩, fun hf => absurd hf (by rw [hok]; decide)⟩⟩
      · exact ((Ex.new ndx).trans (Ex.new (by rw [upd_ne nbx.symm]; exact nb)))
      have e89 : Ex H8 (L2.upd H6 b (.ins A.C_Book dx [("windows", .ref w0)])) := Ex.mut (((Ex.new ndx).trans (Ex.new (by rw [upd_ne nbx.symm]; exact nb))).trans e6) nb
      have hB : BookAt A.C_Book (L2.upd H6 b (.ins A.C_Book dx [("windows", .ref w0)])) b w0 := ⟨dx, upd_same⟩
      have hW9 := hW8.mono e89
      have P9 := P8.mono e89
      have K9 := K8.trans (kept_of (p := p) (c := p) e89)
      generalize L2.upd H6 b (.ins A.C_Book dx [("windows", .ref w0)]) = H9 at e89 hB hW9 P9 K9
      clear hW8 P8 K8 e89
      -- due
      refine ⟨_, rfl, _, rfl, ⟨_, _, rfl, w0, ws, M, rfl, rfl, hW9, by omega, hM, fun pd HA npd eA Td => ?_⟩⟩
      -- told
      have okM : MostOk (.int (M : Int)) = true := by
        show (decide ((0 : Int) ≤ M) && decide ((M : Int) ≤ 20)) = true
        rw [decide_eq_true (by omega), decide_eq_true (by omega)] <;> rfl
      refine ⟨_, rfl, _, rfl, ⟨_, _, rfl, b, w0, ws, .int (M : Int), rfl, hB.mono eA, hW9.mono eA, .int _, hle, by omega, by omega, fun hf => absurd hf (by rw [okM]; decide), fun _ h8 => absurd h8 (by omega), fun m em hm h7 pt HB npt eB Tt => ?_⟩⟩
      obtain rfl : M = m := by
        injection em with em
        omega
      have TdB := Td.ext (wnAt K) eB
      have e9B := eA.trans eB
      have wl := welc_len (ws := ws) hm
      have sh := shaped_pairs (welc ws M)
      obtain ⟨f1, f2, f3, f4⟩ := prs_shown (qs := welc ws M) (fun q hq => by have := mem_welc hq; omega) (by omega)
      have hne : (!PyData.eqv (.list ((welc ws M).map dPair)) (.list ((welc ws M).map dPair))) = false := by
        rw [eqv_same sh] <;> rfl
      obtain ⟨xt, hxt, lxt⟩ := Tt.at
      refine ⟨_, rfl, _, _, _, _, _, rfl, ClsV.ty _, ty_list (SqL.of hxt), kit_ty (by decide +kernel : kitB "list" "list" = some true), _, rfl, iteF ?_⟩
      refine ⟨_, rfl, _, rfl, _, _, wn_dp Tt, wn_dp TdB, sh, sh, _, rfl, ?_⟩
      rw [hne]
      refine iteF ⟨_, rfl, _, _, rfl, wn_tg Tt, f1, f2, f3, f4, _, rfl, _, _, rfl, wn_tg TdB, f1, f2, f3, f4, rfl, _, rfl, ?_⟩
      rw [show (!decide (V.str (PyData.list ((welc ws M).map dPair)).shown = V.str (PyData.list ((welc ws M).map dPair)).shown)) = false by simp]
      refine iteF ?_
      -- one_order(book) is None and told != []
      refine ⟨fun σ H' => σ = [some (.ref s0), some (.int (0 + (i : Int))), some (.ref p), some (.int (N : Int)), some (.ref w0), some (.int (M : Int)), some (.ref b), some (.ref pd), some (.ref pt), v9, v10, v11, v12, v13, v14, v15, v16, v17, v18] ∧ Ex HB H', ?_, ?_⟩
      · refine ⟨_, rfl, ⟨_, rfl, b, w0, ws, rfl, hB.mono e9B, hW9.mono e9B, by omega, by omega, wle_of hle, fun vo o HC eC dv vo' => ⟨rfl, _, rfl, ?_⟩⟩⟩
        cases o with
        | some dd =>
          obtain ⟨a, rfl, _⟩ := vo'
          exact iteF ⟨rfl, eC⟩
        | none =>
          obtain rfl : vo = .non := vo'
          have em0 : welc ws M = [] := welc_none fun ⟨q, h1, h2⟩ => dv q h1 h2
          refine iteT ⟨_, rfl, Nat.zero_le _, fun f nf => ⟨_, _, wn_dp ((Tt.ext (wnAt K) eC).ext (wnAt K) (Ex.new nf)), .lst (SqL.of upd_same) .nil, sh, by decide +kernel, _, rfl, ?_⟩⟩
          rw [em0]
          rw [show (!PyData.eqv (.list (([] : List (Int × Int)).map dPair)) (.list [])) = false by decide +kernel]
          exact iteF ⟨rfl, eC.trans (Ex.new nf)⟩
      rintro σ HC ⟨rfl, eC⟩
      -- told.append(None)
      have hxtC := eC _ _ hxt
      refine ⟨_, rfl, .inl ⟨rfl, _, SqL.of hxtC⟩, pt, _, _, rfl, rfl, hxtC, by rw [lxt, sizeLine_eq]; omega, ?_⟩
      have eAD : Ex HA (L2.upd HC pt (.lst (xt ++ [.non]))) := (eB.trans eC).mut npt
      generalize L2.upd HC pt (.lst (xt ++ [.non])) = HD at eAD
      have P_D := P9.mono (eA.trans eAD)
      have K_D := K9.trans (kept_of (p := p) (c := p) (eA.trans eAD))
      have hBD := hB.mono (eA.trans eAD)
      have hWD := hW9.mono (eA.trans eAD)
      have TdD := Td.ext (wnAt K) eAD
      have pdp : pd ≠ p := (P9.nep npd)
      clear Tt TdB eA eB eC hxt hxtC Td P9 K9 hB hW9 e9B eAD
      -- less
      refine ⟨_, rfl, _, rfl, _, _, rfl, rfl, ⟨_, _, rfl, p, (M : Int) + 1, rfl, rfl, P_D, by omega, by omega, fun dl HE dl0 dl1 PE KE => ?_⟩⟩
      obtain ⟨L, rfl⟩ : ∃ L : Nat, dl = (L : Int) := ⟨dl.toNat, by omega⟩
      have hL : L ≤ M := by omega
      have okL : MostOk (.int (L : Int)) = true := by
        show (decide ((0 : Int) ≤ L) && decide ((L : Int) ≤ 20)) = true
        rw [decide_eq_true (by omega), decide_eq_true (by omega)] <;> rfl
      have hBE := hBD.src P_D KE
      have hWE := hWD.src P_D KE
      have TdE := TdD.src P_D KE pdp
      have K_E := K_D.trans KE
      clear hBD hWD TdD K_D P_D KE
      refine ⟨_, rfl, _, rfl, ⟨_, _, rfl, b, w0, ws, .int (L : Int), rfl, hBE, hWE, .int _, hle, by omega, by omega, fun hf => absurd hf (by rw [okL]; decide), fun _ h8 => absurd h8 (by omega), fun m em hm h7 pw HF npw eF Tw => ?_⟩⟩
      obtain rfl : L = m := by
        injection em with em
        omega
      have TdF := TdE.ext (wnAt K) eF
      obtain ⟨bs, hd, hbs, ebs⟩ := id TdF
      have bl : bs.length ≤ 300 := by rw [← ebs, List.length_map] at wl; exact wl
      refine ⟨_, rfl, pd, rfl, ⟨_, SqL.of hd⟩, fun D nD => lc_ls (K := K) (wnAt K) (a := pd) (val := fun q : V × (Int × Int) => q.1) (bs := bs) (fun q => q.2) (fun q => decide (q.2.2 ≤ (L : Int))) nD (SqL.of hd) (by omega) ?_ ?_⟩
      · rintro ⟨v, q⟩ H4 Y N' hc e4 ky kn
        obtain ⟨u, hv, hu⟩ := (wnAt K).ext (hbs _ hc) e4
        have hv : v = .ref u := hv
        subst hv
        have hu : SqT K H4 u [.int q.1, .int q.2] := hu
        refine ⟨rfl, _, rfl, u, _, 1, _, rfl, rfl, hu, rfl, _, rfl, _, _, rfl, rfl, _, rfl, ?_⟩
        by_cases c : q.2 ≤ (L : Int)
        · rw [decide_eq_true c]
          exact iteT ⟨_, rfl, ky (decide_eq_true c) _ H4 (Ex.refl _) ⟨u, rfl, hu⟩⟩
        · rw [decide_eq_false c]
          exact iteF (kn (decide_eq_false c) H4 (Ex.refl _))
      intro HG eG tG
      have eD : (bs.filter fun q => decide (q.2.2 ≤ (L : Int))).map (fun q => q.2) = welc ws L := by
        rw [← welc_less hL, ← ebs, List.filter_map] <;> rfl
      rw [eD] at tG
      have sh2 := shaped_pairs (welc ws L)
      refine ⟨_, _, wn_dp (Tw.ext (wnAt K) eG), wn_dp tG, sh2, sh2, _, rfl, ?_⟩
      rw [show (!PyData.eqv (.list ((welc ws L).map dPair)) (.list ((welc ws L).map dPair))) = false by rw [eqv_same sh2] <;> rfl]
      refine iteF ?_
      have eEG := eF.trans eG
      have PG := PE.mono eEG
      have hBG := hBE.mono eEG
      have hWG := hWE.mono eEG
      have TdG := TdE.ext (wnAt K) eEG
      have KG := K_E.trans (kept_of (p := p) (c := p) eEG)
      clear TdF hd hbs Tw tG eG eF eEG hBE hWE TdE K_E PE
      have fin : ∀ H', Ex HG H' → SqL K H' s0 (ns.map V.int) ∧ (i + 1 = 0 ∨ ∃ (p' b' w' : Addr) (ws' : List (Int × Int)), some (V.ref p) = some (V.ref p') ∧ SrcAt H' p' ∧ some (V.ref b) = some (V.ref b') ∧ BookAt A.C_Book H' b' w' ∧ WinAt K H' w' ws' ∧ 1 ≤ ws'.length ∧ ws'.length ≤ 4 ∧ ∀ q ∈ ws', q.1 ≤ q.2) := fun H' e =>
        ⟨ex_l e (sql_fresh hS np KG), .inr ⟨p, b, w0, ws, rfl, PG.mono e, rfl, hBG.mono e, hWG.mono e, hws.1, hws.2, hle⟩⟩
      -- if most < 20
      refine ⟨_, rfl, _, _, rfl, rfl, _, rfl, ite2 (fun c20 => ?_) (fun c20 => ⟨_, _, _, _, _, _, _, _, _, _, _, _, _, _, _, _, _, _, rfl, fin HG (Ex.refl _)⟩)⟩
      have c20 := of_decide_eq_true c20
      have okS : byD ws (.int 1) = true := by
        show (ws.all fun q => decide (0 ≤ q.1 + 1)) = true
        rw [List.all_eq_true]
        intro q hq
        have := (hin q hq).1
        exact decide_eq_true (by omega)
      refine ⟨_, rfl, ⟨_, _, rfl, b, w0, ws, .int 1, rfl, hBG, hWG, by omega, .int _, fun hf => absurd hf (by rw [okS]; decide), fun z ez _ b2 w2 HH nb2 eH hB2 hW2 => ?_⟩⟩
      obtain rfl : (1 : Int) = z := by
        injection ez
      have okM1 : MostOk (.int (((M + 1 : Nat) : Nat) : Int)) = true := by
        show (decide ((0 : Int) ≤ (M + 1 : Nat)) && decide (((M + 1 : Nat) : Int) ≤ 20)) = true
        rw [decide_eq_true (by omega), decide_eq_true (by omega)] <;> rfl
      have sl : (shW 1 ws).length = ws.length := shW_len 1 ws
      refine ⟨_, rfl, _, _, rfl, rfl, ⟨_, _, rfl, b2, w2, shW 1 ws, .int (((M + 1 : Nat) : Nat) : Int), rfl, hB2, hW2, .int _, fun q hq => ?_, by omega, by omega, fun hf => absurd hf (by rw [okM1]; decide), fun _ h8 => absurd h8 (by omega), fun m em hm h7 pl HI npl eI Tl => ?_⟩⟩
      · unfold shW at hq
        obtain ⟨q', hq', rfl⟩ := List.mem_map.mp hq
        have := hle q' hq'
        show q'.1 + 1 ≤ q'.2 + 1
        omega
      obtain rfl : M + 1 = m := by
        injection em with em
        omega
      have eGI := eH.trans eI
      obtain ⟨bl2, hl2, hbl2, ebl2⟩ := id Tl
      have bll : bl2.length ≤ 300 := by
        have := welc_len (ws := shW 1 ws) hm
        rw [← ebl2, List.length_map] at this
        exact this
      refine ⟨pl, rfl, ⟨_, SqL.of hl2⟩, fun D nD => lc_ls (K := K) (wnAt K) (a := pl) (val := fun q : V × (Int × Int) => q.1) (bs := bl2) (fun q => (q.2.1 - 1, q.2.2 - 1)) (fun q => decide (q.2.1 > 0)) nD (SqL.of hl2) (by omega) ?_ ?_⟩
      · rintro ⟨v, q⟩ H4 Y N' hc e4 ky kn
        obtain ⟨u, hv, hu⟩ := (wnAt K).ext (hbl2 _ hc) e4
        have hv : v = .ref u := hv
        subst hv
        have hu : SqT K H4 u [.int q.1, .int q.2] := hu
        refine ⟨u, _, rfl, hu, rfl, _, _, rfl, _, _, rfl, rfl, rfl, ?_⟩
        refine ⟨_, rfl, _, _, rfl, rfl, _, rfl, ?_⟩
        by_cases c : q.1 > 0
        · rw [show decide (0 < q.1) = true from decide_eq_true c]
          refine iteT ⟨_, rfl, _, _, rfl, rfl, _, rfl, _, _, rfl, rfl, (by show 2 ≤ sizeLine; decide), fun t4 nt4 => ?_⟩
          exact ky (decide_eq_true c) _ _ (Ex.new nt4) ⟨t4, rfl, SqT.of upd_same⟩
        · rw [show decide (0 < q.1) = false from decide_eq_false c]
          exact iteF (kn (decide_eq_false c) H4 (Ex.refl _))
      intro HJ eJ tJ
      have eD2 : (bl2.filter fun q => decide (q.2.1 > 0)).map (fun q => (q.2.1 - 1, q.2.2 - 1)) = welc ws M := by
        rw [← welc_later (ws := ws) (m := M), ← ebl2, List.filter_map, List.map_map] <;> rfl
      rw [eD2] at tJ
      have eGJ := eGI.trans eJ
      refine ⟨_, rfl, _, rfl, _, _, wn_dp tJ, wn_dp (TdG.ext (wnAt K) eGJ), sh, sh, _, rfl, ?_⟩
      rw [hne]
      exact iteF ⟨_, _, _, _, _, _, _, _, _, _, _, _, _, _, _, _, _, _, rfl, fin HJ eGJ⟩
    rintro σ H2 ⟨v1, v2, v3, v4, v5, v6, v7, v8, v9, v10, v11, v12, v13, v14, v15, v16, v17, v18, rfl, hS2, hz⟩
    obtain ⟨p, b, w0, ws, rfl, P2, rfl, hB, hW, hws1, hws4, hle⟩ := hz.resolve_left (by decide)
    -- number
    refine ⟨_, rfl, (by show 1 ≤ sizeLine; decide), fun a1 n1 => ⟨_, _, rfl, rfl, ⟨by decide, by decide, by decide⟩, (by show 1 ≤ sizeLine; decide), fun l1 nl1 => ⟨(by show 8 ≤ sizeLine; decide), fun l0 nl0 => ?_⟩⟩⟩
    have x1 : Ex H2 (L2.upd H2 a1 (.tup [.int 5])) := Ex.new n1
    have g1 : (L2.upd H2 a1 (.tup [.int 5])) a1 = some (.tup [.int 5]) := upd_same
    generalize L2.upd H2 a1 (.tup [.int 5]) = J1 at nl1 nl0 x1 g1 ⊢
    have x2 : Ex J1 (L2.upd J1 l1 (.lst [.int 5])) := Ex.new nl1
    have g2 : (L2.upd J1 l1 (.lst [.int 5])) l1 = some (.lst [.int 5]) := upd_same
    generalize L2.upd J1 l1 (.lst [.int 5]) = J2 at nl0 x2 g2 ⊢
    show tCall _ _ _ _ _ (L2.upd J2 l0 (.lst [.non, .int (-1), .int 21, .bl true, .str (Str.ofString "5"), .ref a1, .int (10 ^ (30 : Int).toNat), .ref l1])) _
    have x3 : Ex J2 (L2.upd J2 l0 (.lst [.non, .int (-1), .int 21, .bl true, .str (Str.ofString "5"), .ref a1, .int (10 ^ (30 : Int).toNat), .ref l1])) := Ex.new nl0
    have g3 : (L2.upd J2 l0 (.lst [.non, .int (-1), .int 21, .bl true, .str (Str.ofString "5"), .ref a1, .int (10 ^ (30 : Int).toNat), .ref l1])) l0 = some (.lst [.non, .int (-1), .int 21, .bl true, .str (Str.ofString "5"), .ref a1, .int (10 ^ (30 : Int).toNat), .ref l1]) := upd_same
    have PJ1 := P2.mono x1
    have PJ2 := PJ1.mono x2
    have q1 : l1 ≠ p := PJ1.nep nl1
    have q0 : l0 ≠ p := PJ2.nep nl0
    generalize L2.upd J2 l0 (.lst [.non, .int (-1), .int 21, .bl true, .str (Str.ofString "5"), .ref a1, .int (10 ^ (30 : Int).toNat), .ref l1]) = J3 at x3 g3 ⊢
    have PJ3 := PJ2.mono x3
    have x03 := (x1.trans x2).trans x3
    refine ⟨_, rfl, ⟨_, _, rfl, p, 8, rfl, rfl, PJ3, by decide, by decide, fun d H3 d0 d1 P3 K3 => ?_⟩⟩
    obtain ⟨v, e, hv, hR, hm⟩ := odd_most (K := K) (H := H3) (a := a1) (l := l1) (sqt_src (SqT.of (x3 _ _ (x2 _ _ g1))) PJ3 K3) (SqL.of (K3 _ _ q1 q1 (x3 _ _ g2))) d0 d1
    refine ⟨l0, _, d, v, rfl, rfl, SqL.of (K3 _ _ q0 q0 g3), hv, ?_⟩
    have hB3 := (hB.mono x03).src PJ3 K3
    have hW3 := (hW.mono x03).src PJ3 K3
    clear hB hW hS2 P2 PJ1 PJ2 PJ3 x1 x2 x3 g1 g2 g3 x03 K3 hv q0 q1
    -- wide
    refine ⟨9, rfl, by decide, by decide, fun D nD => lc_range (lo := 0) (n := 9) (fun i H' => Ls (WnAt K) H' D (widN i) ∧ Ex H3 H') ⟨Ls.new upd_same, Ex.new nD⟩ ?_ ?_⟩
    · rintro i H' hi ⟨p1, p2⟩
      refine ⟨rfl, _, rfl, _, rfl, _, _, rfl, rfl, (by show 2 ≤ sizeLine; decide), fun t nt => ?_⟩
      obtain ⟨acc, a1, a2, a3⟩ := wn_push (a := 0 + (i : Int)) (b := 0 + (i : Int) + 3) p1 nt
      rw [widN_len] at a2
      refine ⟨acc, a1, small1000 (by omega), ?_, (p2.trans (Ex.new nt)).mut nD⟩
      rw [widN_succ]
      exact a3
    rintro H4 ⟨p1, e34⟩
    obtain ⟨wv, hwv, hww⟩ := wn_win p1 (by rw [widN_len]; decide)
    refine ⟨D, _, rfl, .inl ⟨SqL.of hwv, fun ww nww => ?_⟩⟩
    have hW9 := hww ww nww
    have x4 : Ex H4 (L2.upd H4 ww (.tup wv)) := Ex.new nww
    generalize L2.upd H4 ww (.tup wv) = H5 at hW9 x4 ⊢
    have wid_in : ∀ q ∈ widN 9, inWin 1000000 q := fun q hq => by
      unfold widN at hq
      obtain ⟨k, hk, rfl⟩ := List.mem_map.mp hq
      have := List.mem_range.mp hk
      exact ⟨by show (0 : Int) ≤ 0 + (k : Int); omega, by show (0 : Int) + (k : Int) ≤ 0 + (k : Int) + 3; omega, by show (0 : Int) + (k : Int) + 3 ≤ 1000000; omega⟩
    have wl9 : (widN 9).length = 9 := widN_len 9
    have hok9 : winsD (.tup ((widN 9).map winDa)) = true := winsD_of (by omega) (by omega) wid_in
    refine fun b9 dx nb ndx nbx => ⟨_, _, rfl, b9, dx, _, rfl, upd_same, hW9.rp.mono ?_, fun _ H6 e6 => ⟨rfl, ?_⟩, fun hf => absurd hf (by rw [hok9]; decide)⟩
    · exact ((Ex.new ndx).trans (Ex.new (by rw [upd_ne nbx.symm]; exact nb)))
    have e57 : Ex H5 (L2.upd H6 b9 (.ins A.C_Book dx [("windows", .ref ww)])) := Ex.mut (((Ex.new ndx).trans (Ex.new (by rw [upd_ne nbx.symm]; exact nb))).trans e6) nb
    have hB9 : BookAt A.C_Book (L2.upd H6 b9 (.ins A.C_Book dx [("windows", .ref ww)])) b9 ww := ⟨dx, upd_same⟩
    generalize L2.upd H6 b9 (.ins A.C_Book dx [("windows", .ref ww)]) = H7 at e57 hB9 ⊢
    have hW97 := hW9.mono e57
    have e37 := (e34.trans x4).trans e57
    have P7 := P3.mono e37
    have hR7 := hR.mono e37
    have hB7 := hB3.mono e37
    have hW7 := hW3.mono e37
    clear hW9 e34 x4 e57 P3 hR hB3 hW3 p1 hwv hww e37
    have hle9 : ∀ q ∈ widN 9, q.1 ≤ q.2 := fun q hq => (wid_in q hq).2.1
    have eqn : (!PyData.eqv (.str (Str.ofString "number")) (.str (Str.ofString "number"))) = false := by decide +kernel
    -- words
    refine ⟨_, rfl, _, rfl, ⟨_, _, rfl, b9, ww, widN 9, e, rfl, hB9, hW97, hR7, hle9, by omega, by omega, .inl hm, fun _ H8 e8 => ⟨_, _, .str _, .str _, by decide +kernel, by decide +kernel, _, rfl, ?_⟩, fun hm' => absurd (hm.symm.trans hm') (by decide)⟩⟩
    rw [eqn]
    refine iteF ⟨_, rfl, ⟨_, _, rfl, b9, ww, widN 9, .int 5, rfl, hB9.mono e8, hW97.mono e8, .int 5, hle9, by omega, by omega, .inr (by omega), fun hm' => absurd hm' (by decide), fun _ t H9 e9 ht => ⟨(by show 2 ≤ sizeLine; decide), fun t2 nt2 => ⟨_, _, .tup (ex_t (Ex.new nt2) ht) (.cons (.str _) (.cons (.int _) .nil)), .tup (SqT.of upd_same) (.cons (.str _) (.cons (.int _) .nil)), by decide +kernel, by decide +kernel, _, rfl, ?_⟩⟩⟩⟩
    rw [show (!PyData.eqv (.tuple [.str (Str.ofString "many"), .int 8]) (.tuple [.str (Str.ofString "many"), .int 8])) = false by decide +kernel]
    have e7A : Ex H7 (L2.upd H9 t2 (.tup [.str (Str.ofString "many"), .int 8])) := (e8.trans e9).trans (Ex.new nt2)
    refine iteF ?_
    generalize L2.upd H9 t2 (.tup [.str (Str.ofString "many"), .int 8]) = HA at e7A ⊢
    refine ⟨_, rfl, _, rfl, ⟨_, _, rfl, b, w0, ws, e, rfl, hB7.mono e7A, hW7.mono e7A, hR7.mono e7A, hle, by omega, by omega, .inl hm, fun _ HB eB => ⟨_, _, .str _, .str _, by decide +kernel, by decide +kernel, _, rfl, ?_⟩, fun hm' => absurd (hm.symm.trans hm') (by decide)⟩⟩
    rw [eqn]
    have PB := P7.mono (e7A.trans eB)
    clear P7 hR7 hB7 hW7 hB9 hW97 e8 e9 e7A eB
    -- length
    refine iteF ⟨_, rfl, ⟨_, _, rfl, p, 4, rfl, rfl, PB, by decide, by decide, fun dl HC dl0 dl1 PC _ => ?_⟩⟩
    -- firsts
    refine ⟨_, rfl, ⟨_, _, rfl, p, 4, rfl, rfl, PC, by decide, by decide, fun d2 HD d20 d21 PD _ => ⟨_, _, rfl, rfl, 1 + d2, rfl, by omega, by omega, fun D1 nD1 => ?_⟩⟩⟩
    have Dp1 : D1 ≠ p := PD.nep nD1
    refine lc_range (lo := 0) (n := (1 + d2).toNat) (fun i H' => ∃ fs : List Int, H' D1 = some (.lst (fs.map V.int)) ∧ fs.length = i ∧ (∀ f ∈ fs, 0 ≤ f ∧ f < 9) ∧ SrcAt H' p) ⟨[], upd_same, rfl, (fun f hf => absurd hf (List.not_mem_nil)), PD.mono (Ex.new nD1)⟩ ?_ ?_
    · rintro i H' hi ⟨fs, h1, h2, h3, P'⟩
      refine ⟨rfl, _, rfl, ⟨_, _, rfl, p, 9, rfl, rfl, P', by decide, by decide, fun d' H'' d0' d1' P'' K'' => ⟨fs.map V.int, K'' _ _ Dp1 Dp1 h1, small1000 (by rw [List.length_map]; omega), fs ++ [d'], by rw [upd_same, List.map_append] <;> rfl, by rw [List.length_append, h2] <;> rfl, fun f hf => ?_, P''.beside (Ne.symm Dp1)⟩⟩⟩
      rcases List.mem_append.mp hf with c | c
      · exact h3 f c
      · rw [List.mem_singleton.mp c]
        exact ⟨d0', d1'⟩
    rintro HE ⟨fs, h1, h2, h3, PE⟩
    have fl : 1 ≤ fs.length ∧ fs.length ≤ 4 := by omega
    -- told
    refine ⟨_, rfl, D1, rfl, ⟨_, SqL.of h1⟩, fun D2 nD2 => lc_list (K := K) (a := D1) (xs := fs.map V.int) (fun i H' => Ls (WnAt K) H' D2 ((fs.take i).map fun f => (f, f + dl)) ∧ Ex HE H') ⟨Ls.new upd_same, Ex.new nD2⟩ (fun i H' _ q => ex_l q.2 (SqL.of h1)) ?_ ?_⟩
    · rintro i y H' hi ⟨p1, p2⟩
      obtain ⟨f, hf, rfl⟩ := ints_get hi
      refine ⟨rfl, _, rfl, _, rfl, _, rfl, _, _, rfl, rfl, (by show 2 ≤ sizeLine; decide), fun t nt => ?_⟩
      obtain ⟨acc, a1, a2, a3⟩ := wn_push (a := f) (b := f + dl) p1 nt
      rw [List.length_map, List.length_take] at a2
      refine ⟨acc, a1, small1000 (by omega), ?_, (p2.trans (Ex.new nt)).mut nD2⟩
      rw [List.take_succ_eq_append_getElem (List.getElem?_eq_some_iff.mp hf).1, (List.getElem?_eq_some_iff.mp hf).2, List.map_append]
      exact a3
    rintro HF ⟨p1, eEF⟩
    rw [List.length_map, List.take_length] at p1
    have ul : (fs.map fun f => (f, f + dl)).length = fs.length := List.length_map ..
    have u_in : ∀ q ∈ fs.map fun f => (f, f + dl), inWin 1000000 q := fun q hq => by
      obtain ⟨f, hf, rfl⟩ := List.mem_map.mp hq
      have := h3 f hf
      exact ⟨by show 0 ≤ f; omega, by show f ≤ f + dl; omega, by show f + dl ≤ 1000000; omega⟩
    have ual : ∀ k ∈ List.range (fs.length + 1), ∀ f0, lstAt ((fs.map fun f => (f, f + dl)) ++ [(f0, f0 + dl)]) k = fstAt ((fs.map fun f => (f, f + dl)) ++ [(f0, f0 + dl)]) k + dl := fun k hk f0 => by
      have hk := List.mem_range.mp hk
      have ap : (fs.map fun f => (f, f + dl)) ++ [(f0, f0 + dl)] = (fs ++ [f0]).map fun f => (f, f + dl) := by rw [List.map_append] <;> rfl
      rw [ap]
      unfold lstAt fstAt winAt
      rw [List.getD_eq_getElem?_getD, List.getElem?_map, List.getElem?_eq_getElem (by rw [List.length_append]; show k < fs.length + 1; omega)] <;> rfl
    generalize (fs.map fun f => (f, f + dl)) = us at p1 ul u_in ual
    obtain ⟨wv, hwv, hww⟩ := wn_win p1 (by omega)
    refine ⟨D2, _, rfl, .inl ⟨SqL.of hwv, fun w2 nw2 => ?_⟩⟩
    have hW2 := hww w2 nw2
    generalize L2.upd HF w2 (.tup wv) = HG at hW2 ⊢
    have hoku : winsD (.tup (us.map winDa)) = true := winsD_of (by omega) (by omega) u_in
    refine fun b2 dx nb ndx nbx => ⟨_, _, rfl, b2, dx, _, rfl, upd_same, hW2.rp.mono ?_, fun _ H6 e6 => ⟨rfl, ?_⟩, fun hf => absurd hf (by rw [hoku]; decide)⟩
    · exact ((Ex.new ndx).trans (Ex.new (by rw [upd_ne nbx.symm]; exact nb)))
    have eGH : Ex HG (L2.upd H6 b2 (.ins A.C_Book dx [("windows", .ref w2)])) := Ex.mut (((Ex.new ndx).trans (Ex.new (by rw [upd_ne nbx.symm]; exact nb))).trans e6) nb
    have hB2 : BookAt A.C_Book (L2.upd H6 b2 (.ins A.C_Book dx [("windows", .ref w2)])) b2 w2 := ⟨dx, upd_same⟩
    generalize L2.upd H6 b2 (.ins A.C_Book dx [("windows", .ref w2)]) = HH at eGH hB2 ⊢
    have ok12 : MostOk (.int ((12 : Nat) : Int)) = true := by decide
    refine ⟨_, _, rfl, b2, w2, us, .int ((12 : Nat) : Int), rfl, hB2, hW2.mono eGH, .int _, fun q hq => (u_in q hq).2.1, by omega, by omega, fun hf => absurd hf (by rw [ok12]; decide), fun _ h8 => absurd h8 (by omega), fun m em hm h7 pt HI npt eI Tt => ?_⟩
    obtain rfl : 12 = m := by
      injection em with em
      omega
    have tin : ∀ i : Nat, i < 9 → ((0 : Int) + (i : Int), (0 : Int) + (i : Int) + dl) ∈ welc us 12 := fun i hi => by
      unfold welc
      refine List.mem_filter.mpr ⟨mem_prs.mpr ⟨by show (0 : Int) ≤ 0 + (i : Int); omega, by show (0 : Int) + (i : Int) ≤ 0 + (i : Int) + dl; omega, by show (0 : Int) + (i : Int) + dl ≤ ((12 : Nat) : Int); omega⟩, oneB_iff.mpr (one_alike (z := dl) fun k hk => ?_)⟩
      rw [ul] at hk
      exact ual k hk _
    refine ⟨9, rfl, by decide, by decide, fun D3 nD3 => lc_range (lo := 0) (n := 9) (fun i H' => H' D3 = some (.lst ((List.replicate i true).map V.bl)) ∧ Ex HI H') ⟨upd_same, Ex.new nD3⟩ ?_ ?_⟩
    · rintro i H' hi ⟨p1, p2⟩
      refine ⟨rfl, _, rfl, _, rfl, _, rfl, _, _, rfl, rfl, (by show 2 ≤ sizeLine; decide), fun t nt => ⟨_, rfl, dPair ((0 : Int) + (i : Int), (0 : Int) + (i : Int) + dl), _, .tup (SqT.of upd_same) (.cons (.int _) (.cons (.int _) .nil)), wn_dp ((Tt.ext (wnAt K) p2).ext (wnAt K) (Ex.new nt)), shaped_pair _, shaped_pairs _, ?_⟩⟩
      rw [any_pairs, decide_eq_true (tin i hi)]
      refine ⟨_, Ex.new nt _ _ p1, small1000 (by rw [List.length_map, List.length_replicate]; omega), ?_, (p2.trans (Ex.new nt)).mut nD3⟩
      rw [upd_same, List.replicate_succ', List.map_append] <;> rfl
    rintro HJ ⟨p1, eJ⟩
    exact ⟨D3, List.replicate 9 true, rfl, SqL.of p1, kfin HJ⟩
end
theorem all_mk {l : PySem.W.OpenLaw} {w : World} {K : PySem.W.Frag} {h : Heap} {mg : Str → Option Value} {fa : Addr} (X : K.In h) (G : h.Ns mainGlobals mg) (hfa : mg "law" = some (.ref fa))
    {C_BadBook : Addr}
    {nm_BadBook q_BadBook : Str} {N_BadBook CM_BadBook : Addr} {bs_BadBook : List Value} {sn_BadBook : List Str} {sub_BadBook : List Value} {ab_BadBook : Bool} {col_BadBook : Option Bool} {dd_BadBook : Option Addr} {m0_BadBook m1_BadBook m2_BadBook m3_BadBook m5_BadBook : Option Value}
    {C_NoWork : Addr}
    {nm_NoWork q_NoWork : Str} {N_NoWork CM_NoWork : Addr} {bs_NoWork : List Value} {sn_NoWork : List Str} {sub_NoWork : List Value} {ab_NoWork : Bool} {col_NoWork : Option Bool} {dd_NoWork : Option Addr} {m0_NoWork m1_NoWork m2_NoWork m3_NoWork m5_NoWork : Option Value}
    {C_NoNumber : Addr}
    {nm_NoNumber q_NoNumber : Str} {N_NoNumber CM_NoNumber : Addr} {bs_NoNumber : List Value} {sn_NoNumber : List Str} {sub_NoNumber : List Value} {ab_NoNumber : Bool} {col_NoNumber : Option Bool} {dd_NoNumber : Option Addr} {m0_NoNumber m1_NoNumber m2_NoNumber m3_NoNumber m5_NoNumber : Option Value}
    {C_TooMany : Addr}
    {nm_TooMany q_TooMany : Str} {N_TooMany CM_TooMany : Addr} {bs_TooMany : List Value} {sn_TooMany : List Str} {sub_TooMany : List Value} {ab_TooMany : Bool} {col_TooMany : Option Bool} {dd_TooMany : Option Addr} {m0_TooMany m1_TooMany m2_TooMany m3_TooMany m5_TooMany : Option Value}
    {C_Book : Addr}
    {f_BadBook_init : Addr} {oc_BadBook_init kV_BadBook_init dc_BadBook_init pm_BadBook_init cd_BadBook_init ct_BadBook_init : Value} {od_BadBook_init an_BadBook_init : Option Addr} {sl_BadBook_init : Array (Option Value)}
    {f_NoWork_init : Addr} {oc_NoWork_init kV_NoWork_init dc_NoWork_init pm_NoWork_init cd_NoWork_init ct_NoWork_init : Value} {od_NoWork_init an_NoWork_init : Option Addr} {sl_NoWork_init : Array (Option Value)}
    {f_NoNumber_init : Addr} {oc_NoNumber_init kV_NoNumber_init dc_NoNumber_init pm_NoNumber_init cd_NoNumber_init ct_NoNumber_init : Value} {od_NoNumber_init an_NoNumber_init : Option Addr} {sl_NoNumber_init : Array (Option Value)}
    {f_TooMany_init : Addr} {oc_TooMany_init kV_TooMany_init dc_TooMany_init pm_TooMany_init cd_TooMany_init ct_TooMany_init : Value} {od_TooMany_init an_TooMany_init : Option Addr} {sl_TooMany_init : Array (Option Value)}
    {f_is_integer : Addr} {oc_is_integer kV_is_integer dc_is_integer pm_is_integer cd_is_integer ct_is_integer : Value} {od_is_integer an_is_integer : Option Addr} {sl_is_integer : Array (Option Value)}
    {f_is_pair : Addr} {oc_is_pair kV_is_pair dc_is_pair pm_is_pair cd_is_pair ct_is_pair : Value} {od_is_pair an_is_pair : Option Addr} {sl_is_pair : Array (Option Value)}
    {f_Book_init : Addr} {oc_Book_init kV_Book_init dc_Book_init pm_Book_init cd_Book_init ct_Book_init : Value} {od_Book_init an_Book_init : Option Addr} {sl_Book_init : Array (Option Value)}
    {f_is_windows : Addr} {oc_is_windows kV_is_windows dc_is_windows pm_is_windows cd_is_windows ct_is_windows : Value} {od_is_windows an_is_windows : Option Addr} {sl_is_windows : Array (Option Value)}
    {f_is_window : Addr} {oc_is_window kV_is_window dc_is_window pm_is_window cd_is_window ct_is_window : Value} {od_is_window an_is_window : Option Addr} {sl_is_window : Array (Option Value)}
    {f_unbounded : Addr} {oc_unbounded kV_unbounded dc_unbounded pm_unbounded cd_unbounded ct_unbounded : Value} {od_unbounded an_unbounded : Option Addr} {sl_unbounded : Array (Option Value)}
    {f_is_work : Addr} {oc_is_work kV_is_work dc_is_work pm_is_work cd_is_work ct_is_work : Value} {od_is_work an_is_work : Option Addr} {sl_is_work : Array (Option Value)}
    {f_middle : Addr} {oc_middle kV_middle dc_middle pm_middle cd_middle ct_middle : Value} {od_middle an_middle : Option Addr} {sl_middle : Array (Option Value)}
    {f_is_inside : Addr} {oc_is_inside kV_is_inside dc_is_inside pm_is_inside cd_is_inside ct_is_inside : Value} {od_is_inside an_is_inside : Option Addr} {sl_is_inside : Array (Option Value)}
    {f_shifted : Addr} {oc_shifted kV_shifted dc_shifted pm_shifted cd_shifted ct_shifted : Value} {od_shifted an_shifted : Option Addr} {sl_shifted : Array (Option Value)}
    {f_check_works : Addr} {oc_check_works kV_check_works dc_check_works pm_check_works cd_check_works ct_check_works : Value} {od_check_works an_check_works : Option Addr} {sl_check_works : Array (Option Value)}
    {f_thrown_over : Addr} {oc_thrown_over kV_thrown_over dc_thrown_over pm_thrown_over cd_thrown_over ct_thrown_over : Value} {od_thrown_over an_thrown_over : Option Addr} {sl_thrown_over : Array (Option Value)}
    {f_blocks : Addr} {oc_blocks kV_blocks dc_blocks pm_blocks cd_blocks ct_blocks : Value} {od_blocks an_blocks : Option Addr} {sl_blocks : Array (Option Value)}
    {f_joined_rows : Addr} {oc_joined_rows kV_joined_rows dc_joined_rows pm_joined_rows cd_joined_rows ct_joined_rows : Value} {od_joined_rows an_joined_rows : Option Addr} {sl_joined_rows : Array (Option Value)}
    {f_ends_of_block : Addr} {oc_ends_of_block kV_ends_of_block dc_ends_of_block pm_ends_of_block cd_ends_of_block ct_ends_of_block : Value} {od_ends_of_block an_ends_of_block : Option Addr} {sl_ends_of_block : Array (Option Value)}
    {f_has_no_throw : Addr} {oc_has_no_throw kV_has_no_throw dc_has_no_throw pm_has_no_throw cd_has_no_throw ct_has_no_throw : Value} {od_has_no_throw an_has_no_throw : Option Addr} {sl_has_no_throw : Array (Option Value)}
    {f_shapes_of : Addr} {oc_shapes_of kV_shapes_of dc_shapes_of pm_shapes_of cd_shapes_of ct_shapes_of : Value} {od_shapes_of an_shapes_of : Option Addr} {sl_shapes_of : Array (Option Value)}
    {f_row_of_shape : Addr} {oc_row_of_shape kV_row_of_shape dc_row_of_shape pm_row_of_shape cd_row_of_shape ct_row_of_shape : Value} {od_row_of_shape an_row_of_shape : Option Addr} {sl_row_of_shape : Array (Option Value)}
    {f_all_shapes : Addr} {oc_all_shapes kV_all_shapes dc_all_shapes pm_all_shapes cd_all_shapes ct_all_shapes : Value} {od_all_shapes an_all_shapes : Option Addr} {sl_all_shapes : Array (Option Value)}
    {f_has_one_order : Addr} {oc_has_one_order kV_has_one_order dc_has_one_order pm_has_one_order cd_has_one_order ct_has_one_order : Value} {od_has_one_order an_has_one_order : Option Addr} {sl_has_one_order : Array (Option Value)}
    {f_checked_shapes : Addr} {oc_checked_shapes kV_checked_shapes dc_checked_shapes pm_checked_shapes cd_checked_shapes ct_checked_shapes : Value} {od_checked_shapes an_checked_shapes : Option Addr} {sl_checked_shapes : Array (Option Value)}
    {f_many_of_block : Addr} {oc_many_of_block kV_many_of_block dc_many_of_block pm_many_of_block cd_many_of_block ct_many_of_block : Value} {od_many_of_block an_many_of_block : Option Addr} {sl_many_of_block : Array (Option Value)}
    {f_many_of_all : Addr} {oc_many_of_all kV_many_of_all dc_many_of_all pm_many_of_all cd_many_of_all ct_many_of_all : Value} {od_many_of_all an_many_of_all : Option Addr} {sl_many_of_all : Array (Option Value)}
    {f_one_order : Addr} {oc_one_order kV_one_order dc_one_order pm_one_order cd_one_order ct_one_order : Value} {od_one_order an_one_order : Option Addr} {sl_one_order : Array (Option Value)}
    {f_welcome : Addr} {oc_welcome kV_welcome dc_welcome pm_welcome cd_welcome ct_welcome : Value} {od_welcome an_welcome : Option Addr} {sl_welcome : Array (Option Value)}
    {f_l_source : Addr} {oc_l_source kV_l_source dc_l_source pm_l_source cd_l_source ct_l_source : Value} {od_l_source an_l_source : Option Addr} {sl_l_source : Array (Option Value)}
    {f_l_draw : Addr} {oc_l_draw kV_l_draw dc_l_draw pm_l_draw cd_l_draw ct_l_draw : Value} {od_l_draw an_l_draw : Option Addr} {sl_l_draw : Array (Option Value)}
    {f_l_lies_within : Addr} {oc_l_lies_within kV_l_lies_within dc_l_lies_within pm_l_lies_within cd_l_lies_within ct_l_lies_within : Value} {od_l_lies_within an_l_lies_within : Option Addr} {sl_l_lies_within : Array (Option Value)}
    {f_l_is_thrown : Addr} {oc_l_is_thrown kV_l_is_thrown dc_l_is_thrown pm_l_is_thrown cd_l_is_thrown ct_l_is_thrown : Value} {od_l_is_thrown an_l_is_thrown : Option Addr} {sl_l_is_thrown : Array (Option Value)}
    {f_l_rows : Addr} {oc_l_rows kV_l_rows dc_l_rows pm_l_rows cd_l_rows ct_l_rows : Value} {od_l_rows an_l_rows : Option Addr} {sl_l_rows : Array (Option Value)}
    {f_l_due : Addr} {oc_l_due kV_l_due dc_l_due pm_l_due cd_l_due ct_l_due : Value} {od_l_due an_l_due : Option Addr} {sl_l_due : Array (Option Value)}
    {f_l_word : Addr} {oc_l_word kV_l_word dc_l_word pm_l_word cd_l_word ct_l_word : Value} {od_l_word an_l_word : Option Addr} {sl_l_word : Array (Option Value)}
    {f_l_early_windows : Addr} {oc_l_early_windows kV_l_early_windows dc_l_early_windows pm_l_early_windows cd_l_early_windows ct_l_early_windows : Value} {od_l_early_windows an_l_early_windows : Option Addr} {sl_l_early_windows : Array (Option Value)}
    {f_law : Addr} {oc_law kV_law dc_law pm_law cd_law ct_law : Value} {od_law an_law : Option Addr} {sl_law : Array (Option Value)}
    {u_LATEST_WELCOME : Tok}
    {u_MOST_HOUR : Tok}
    {u_MOST_OF_ONE_MIDDLE : Tok}
    {u_MOST_WORKS : Tok}
    {u_MOST_WORKS_HERE : Tok}
    (aC_BadBook : PySem.W.nsIn K mainGlobals "BadBook" = some (some (.ref C_BadBook)))
    (xL_BadBook : K.lookup C_BadBook = some (excClassObj nm_BadBook q_BadBook C_BadBook N_BadBook bs_BadBook [.ref CM_BadBook, .type "ValueError", .type "Exception", .type "BaseException", .type "object"] true sn_BadBook sub_BadBook ab_BadBook col_BadBook dd_BadBook m0_BadBook m1_BadBook m2_BadBook m3_BadBook m5_BadBook "ValueError.__new__"))
    (sa_BadBook : PySem.W.findIn K (.ref C_BadBook) "__setattr__" = some (some (.builtin "object.__setattr__")))
    (kC_BadBook : PySem.W.keepIn K (.ref C_BadBook) = true)
    (eC_BadBook : PySem.W.subIn K (.ref C_BadBook) (.type "BaseException") = some true)
    (tC_BadBook : PySem.W.typeIn K (.ref C_BadBook) = some (.type "type"))
    (hC_BadBook : PySem.W.hasDictIn K C_BadBook = true)
    (sC_BadBook : PySem.W.subIn K (.ref C_BadBook) (.ref C_BadBook) = some true)
    (aC_NoWork : PySem.W.nsIn K mainGlobals "NoWork" = some (some (.ref C_NoWork)))
    (xL_NoWork : K.lookup C_NoWork = some (excClassObj nm_NoWork q_NoWork C_NoWork N_NoWork bs_NoWork [.ref CM_NoWork, .type "ValueError", .type "Exception", .type "BaseException", .type "object"] true sn_NoWork sub_NoWork ab_NoWork col_NoWork dd_NoWork m0_NoWork m1_NoWork m2_NoWork m3_NoWork m5_NoWork "ValueError.__new__"))
    (sa_NoWork : PySem.W.findIn K (.ref C_NoWork) "__setattr__" = some (some (.builtin "object.__setattr__")))
    (kC_NoWork : PySem.W.keepIn K (.ref C_NoWork) = true)
    (eC_NoWork : PySem.W.subIn K (.ref C_NoWork) (.type "BaseException") = some true)
    (tC_NoWork : PySem.W.typeIn K (.ref C_NoWork) = some (.type "type"))
    (hC_NoWork : PySem.W.hasDictIn K C_NoWork = true)
    (sC_NoWork : PySem.W.subIn K (.ref C_NoWork) (.ref C_NoWork) = some true)
    (aC_NoNumber : PySem.W.nsIn K mainGlobals "NoNumber" = some (some (.ref C_NoNumber)))
    (xL_NoNumber : K.lookup C_NoNumber = some (excClassObj nm_NoNumber q_NoNumber C_NoNumber N_NoNumber bs_NoNumber [.ref CM_NoNumber, .type "ValueError", .type "Exception", .type "BaseException", .type "object"] true sn_NoNumber sub_NoNumber ab_NoNumber col_NoNumber dd_NoNumber m0_NoNumber m1_NoNumber m2_NoNumber m3_NoNumber m5_NoNumber "ValueError.__new__"))
    (sa_NoNumber : PySem.W.findIn K (.ref C_NoNumber) "__setattr__" = some (some (.builtin "object.__setattr__")))
    (kC_NoNumber : PySem.W.keepIn K (.ref C_NoNumber) = true)
    (eC_NoNumber : PySem.W.subIn K (.ref C_NoNumber) (.type "BaseException") = some true)
    (tC_NoNumber : PySem.W.typeIn K (.ref C_NoNumber) = some (.type "type"))
    (hC_NoNumber : PySem.W.hasDictIn K C_NoNumber = true)
    (sC_NoNumber : PySem.W.subIn K (.ref C_NoNumber) (.ref C_NoNumber) = some true)
    (aC_TooMany : PySem.W.nsIn K mainGlobals "TooMany" = some (some (.ref C_TooMany)))
    (xL_TooMany : K.lookup C_TooMany = some (excClassObj nm_TooMany q_TooMany C_TooMany N_TooMany bs_TooMany [.ref CM_TooMany, .type "ValueError", .type "Exception", .type "BaseException", .type "object"] true sn_TooMany sub_TooMany ab_TooMany col_TooMany dd_TooMany m0_TooMany m1_TooMany m2_TooMany m3_TooMany m5_TooMany "ValueError.__new__"))
    (sa_TooMany : PySem.W.findIn K (.ref C_TooMany) "__setattr__" = some (some (.builtin "object.__setattr__")))
    (kC_TooMany : PySem.W.keepIn K (.ref C_TooMany) = true)
    (eC_TooMany : PySem.W.subIn K (.ref C_TooMany) (.type "BaseException") = some true)
    (tC_TooMany : PySem.W.typeIn K (.ref C_TooMany) = some (.type "type"))
    (hC_TooMany : PySem.W.hasDictIn K C_TooMany = true)
    (sC_TooMany : PySem.W.subIn K (.ref C_TooMany) (.ref C_TooMany) = some true)
    (aC_Book : PySem.W.nsIn K mainGlobals "Book" = some (some (.ref C_Book)))
    (pg_Book : PySem.W.plainGet K C_Book Str.empty = true)
    (hd_Book : PySem.W.hasDictIn K C_Book = true)
    (po_Book : PySem.W.plainOver K C_Book = true)
    (sa_Book : PySem.W.findIn K (.ref C_Book) "__setattr__" = some (some (.builtin "object.__setattr__")))
    (mk_Book : PySem.W.makesIn K C_Book = true)
    (kc_Book : PySem.W.keepIn K (.ref C_Book) = true)
    (na_windows : PySem.W.findIn K (.ref C_Book) "windows" = some none)
    (a_BadBook_init : PySem.W.findIn K (.ref C_BadBook) "__init__" = some (some (.ref f_BadBook_init)))
    (t_BadBook_init : PySem.W.typeIn K (.ref f_BadBook_init) = some (.type "function"))
    (l_BadBook_init : K.lookup f_BadBook_init = some ⟨oc_BadBook_init, od_BadBook_init, .func (PySem.W.fnOf "__init__" "BadBook.__init__" (defArgs s_BadBook_init) (defBody s_BadBook_init) (defScope s_BadBook_init) .none kV_BadBook_init dc_BadBook_init pm_BadBook_init an_BadBook_init cd_BadBook_init ct_BadBook_init), sl_BadBook_init⟩)
    (c_BadBook_init : PySem.W.codeIn K cd_BadBook_init "BadBook.__init__" = true)
    (k_BadBook_init : PySem.W.keepIn K (.ref f_BadBook_init) = true)
    (a_NoWork_init : PySem.W.findIn K (.ref C_NoWork) "__init__" = some (some (.ref f_NoWork_init)))
    (t_NoWork_init : PySem.W.typeIn K (.ref f_NoWork_init) = some (.type "function"))
    (l_NoWork_init : K.lookup f_NoWork_init = some ⟨oc_NoWork_init, od_NoWork_init, .func (PySem.W.fnOf "__init__" "NoWork.__init__" (defArgs s_NoWork_init) (defBody s_NoWork_init) (defScope s_NoWork_init) .none kV_NoWork_init dc_NoWork_init pm_NoWork_init an_NoWork_init cd_NoWork_init ct_NoWork_init), sl_NoWork_init⟩)
    (c_NoWork_init : PySem.W.codeIn K cd_NoWork_init "NoWork.__init__" = true)
    (k_NoWork_init : PySem.W.keepIn K (.ref f_NoWork_init) = true)
    (a_NoNumber_init : PySem.W.findIn K (.ref C_NoNumber) "__init__" = some (some (.ref f_NoNumber_init)))
    (t_NoNumber_init : PySem.W.typeIn K (.ref f_NoNumber_init) = some (.type "function"))
    (l_NoNumber_init : K.lookup f_NoNumber_init = some ⟨oc_NoNumber_init, od_NoNumber_init, .func (PySem.W.fnOf "__init__" "NoNumber.__init__" (defArgs s_NoNumber_init) (defBody s_NoNumber_init) (defScope s_NoNumber_init) .none kV_NoNumber_init dc_NoNumber_init pm_NoNumber_init an_NoNumber_init cd_NoNumber_init ct_NoNumber_init), sl_NoNumber_init⟩)
    (c_NoNumber_init : PySem.W.codeIn K cd_NoNumber_init "NoNumber.__init__" = true)
    (k_NoNumber_init : PySem.W.keepIn K (.ref f_NoNumber_init) = true)
    (a_TooMany_init : PySem.W.findIn K (.ref C_TooMany) "__init__" = some (some (.ref f_TooMany_init)))
    (t_TooMany_init : PySem.W.typeIn K (.ref f_TooMany_init) = some (.type "function"))
    (l_TooMany_init : K.lookup f_TooMany_init = some ⟨oc_TooMany_init, od_TooMany_init, .func (PySem.W.fnOf "__init__" "TooMany.__init__" (defArgs s_TooMany_init) (defBody s_TooMany_init) (defScope s_TooMany_init) .none kV_TooMany_init dc_TooMany_init pm_TooMany_init an_TooMany_init cd_TooMany_init ct_TooMany_init), sl_TooMany_init⟩)
    (c_TooMany_init : PySem.W.codeIn K cd_TooMany_init "TooMany.__init__" = true)
    (k_TooMany_init : PySem.W.keepIn K (.ref f_TooMany_init) = true)
    (a_is_integer : PySem.W.nsIn K mainGlobals "is_integer" = some (some (.ref f_is_integer)))
    (l_is_integer : K.lookup f_is_integer = some ⟨oc_is_integer, od_is_integer, .func (PySem.W.fnOf "is_integer" "is_integer" (defArgs s_is_integer) (defBody s_is_integer) (defScope s_is_integer) .none kV_is_integer dc_is_integer pm_is_integer an_is_integer cd_is_integer ct_is_integer), sl_is_integer⟩)
    (c_is_integer : PySem.W.codeIn K cd_is_integer "is_integer" = true)
    (k_is_integer : PySem.W.keepIn K (.ref f_is_integer) = true)
    (a_is_pair : PySem.W.nsIn K mainGlobals "is_pair" = some (some (.ref f_is_pair)))
    (l_is_pair : K.lookup f_is_pair = some ⟨oc_is_pair, od_is_pair, .func (PySem.W.fnOf "is_pair" "is_pair" (defArgs s_is_pair) (defBody s_is_pair) (defScope s_is_pair) .none kV_is_pair dc_is_pair pm_is_pair an_is_pair cd_is_pair ct_is_pair), sl_is_pair⟩)
    (c_is_pair : PySem.W.codeIn K cd_is_pair "is_pair" = true)
    (k_is_pair : PySem.W.keepIn K (.ref f_is_pair) = true)
    (a_Book_init : PySem.W.findIn K (.ref C_Book) "__init__" = some (some (.ref f_Book_init)))
    (i_Book_init : PySem.W.isFn K (.ref f_Book_init) = true)
    (l_Book_init : K.lookup f_Book_init = some ⟨oc_Book_init, od_Book_init, .func (PySem.W.fnOf "__init__" "Book.__init__" (defArgs s_Book_init) (defBody s_Book_init) (defScope s_Book_init) .none kV_Book_init dc_Book_init pm_Book_init an_Book_init cd_Book_init ct_Book_init), sl_Book_init⟩)
    (c_Book_init : PySem.W.codeIn K cd_Book_init "Book.__init__" = true)
    (k_Book_init : PySem.W.keepIn K (.ref f_Book_init) = true)
    (a_is_windows : PySem.W.nsIn K mainGlobals "is_windows" = some (some (.ref f_is_windows)))
    (l_is_windows : K.lookup f_is_windows = some ⟨oc_is_windows, od_is_windows, .func (PySem.W.fnOf "is_windows" "is_windows" (defArgs s_is_windows) (defBody s_is_windows) (defScope s_is_windows) .none kV_is_windows dc_is_windows pm_is_windows an_is_windows cd_is_windows ct_is_windows), sl_is_windows⟩)
    (c_is_windows : PySem.W.codeIn K cd_is_windows "is_windows" = true)
    (k_is_windows : PySem.W.keepIn K (.ref f_is_windows) = true)
    (a_is_window : PySem.W.nsIn K mainGlobals "is_window" = some (some (.ref f_is_window)))
    (l_is_window : K.lookup f_is_window = some ⟨oc_is_window, od_is_window, .func (PySem.W.fnOf "is_window" "is_window" (defArgs s_is_window) (defBody s_is_window) (defScope s_is_window) .none kV_is_window dc_is_window pm_is_window an_is_window cd_is_window ct_is_window), sl_is_window⟩)
    (c_is_window : PySem.W.codeIn K cd_is_window "is_window" = true)
    (k_is_window : PySem.W.keepIn K (.ref f_is_window) = true)
    (a_unbounded : PySem.W.nsIn K mainGlobals "unbounded" = some (some (.ref f_unbounded)))
    (l_unbounded : K.lookup f_unbounded = some ⟨oc_unbounded, od_unbounded, .func (PySem.W.fnOf "unbounded" "unbounded" (defArgs s_unbounded) (defBody s_unbounded) (defScope s_unbounded) .none kV_unbounded dc_unbounded pm_unbounded an_unbounded cd_unbounded ct_unbounded), sl_unbounded⟩)
    (c_unbounded : PySem.W.codeIn K cd_unbounded "unbounded" = true)
    (k_unbounded : PySem.W.keepIn K (.ref f_unbounded) = true)
    (a_is_work : PySem.W.nsIn K mainGlobals "is_work" = some (some (.ref f_is_work)))
    (l_is_work : K.lookup f_is_work = some ⟨oc_is_work, od_is_work, .func (PySem.W.fnOf "is_work" "is_work" (defArgs s_is_work) (defBody s_is_work) (defScope s_is_work) .none kV_is_work dc_is_work pm_is_work an_is_work cd_is_work ct_is_work), sl_is_work⟩)
    (c_is_work : PySem.W.codeIn K cd_is_work "is_work" = true)
    (k_is_work : PySem.W.keepIn K (.ref f_is_work) = true)
    (a_middle : PySem.W.nsIn K mainGlobals "middle" = some (some (.ref f_middle)))
    (l_middle : K.lookup f_middle = some ⟨oc_middle, od_middle, .func (PySem.W.fnOf "middle" "middle" (defArgs s_middle) (defBody s_middle) (defScope s_middle) .none kV_middle dc_middle pm_middle an_middle cd_middle ct_middle), sl_middle⟩)
    (c_middle : PySem.W.codeIn K cd_middle "middle" = true)
    (k_middle : PySem.W.keepIn K (.ref f_middle) = true)
    (a_is_inside : PySem.W.nsIn K mainGlobals "is_inside" = some (some (.ref f_is_inside)))
    (l_is_inside : K.lookup f_is_inside = some ⟨oc_is_inside, od_is_inside, .func (PySem.W.fnOf "is_inside" "is_inside" (defArgs s_is_inside) (defBody s_is_inside) (defScope s_is_inside) .none kV_is_inside dc_is_inside pm_is_inside an_is_inside cd_is_inside ct_is_inside), sl_is_inside⟩)
    (c_is_inside : PySem.W.codeIn K cd_is_inside "is_inside" = true)
    (k_is_inside : PySem.W.keepIn K (.ref f_is_inside) = true)
    (a_shifted : PySem.W.nsIn K mainGlobals "shifted" = some (some (.ref f_shifted)))
    (l_shifted : K.lookup f_shifted = some ⟨oc_shifted, od_shifted, .func (PySem.W.fnOf "shifted" "shifted" (defArgs s_shifted) (defBody s_shifted) (defScope s_shifted) .none kV_shifted dc_shifted pm_shifted an_shifted cd_shifted ct_shifted), sl_shifted⟩)
    (c_shifted : PySem.W.codeIn K cd_shifted "shifted" = true)
    (k_shifted : PySem.W.keepIn K (.ref f_shifted) = true)
    (a_check_works : PySem.W.nsIn K mainGlobals "check_works" = some (some (.ref f_check_works)))
    (l_check_works : K.lookup f_check_works = some ⟨oc_check_works, od_check_works, .func (PySem.W.fnOf "check_works" "check_works" (defArgs s_check_works) (defBody s_check_works) (defScope s_check_works) .none kV_check_works dc_check_works pm_check_works an_check_works cd_check_works ct_check_works), sl_check_works⟩)
    (c_check_works : PySem.W.codeIn K cd_check_works "check_works" = true)
    (k_check_works : PySem.W.keepIn K (.ref f_check_works) = true)
    (a_thrown_over : PySem.W.nsIn K mainGlobals "thrown_over" = some (some (.ref f_thrown_over)))
    (l_thrown_over : K.lookup f_thrown_over = some ⟨oc_thrown_over, od_thrown_over, .func (PySem.W.fnOf "thrown_over" "thrown_over" (defArgs s_thrown_over) (defBody s_thrown_over) (defScope s_thrown_over) .none kV_thrown_over dc_thrown_over pm_thrown_over an_thrown_over cd_thrown_over ct_thrown_over), sl_thrown_over⟩)
    (c_thrown_over : PySem.W.codeIn K cd_thrown_over "thrown_over" = true)
    (k_thrown_over : PySem.W.keepIn K (.ref f_thrown_over) = true)
    (a_blocks : PySem.W.nsIn K mainGlobals "blocks" = some (some (.ref f_blocks)))
    (l_blocks : K.lookup f_blocks = some ⟨oc_blocks, od_blocks, .func (PySem.W.fnOf "blocks" "blocks" (defArgs s_blocks) (defBody s_blocks) (defScope s_blocks) .none kV_blocks dc_blocks pm_blocks an_blocks cd_blocks ct_blocks), sl_blocks⟩)
    (c_blocks : PySem.W.codeIn K cd_blocks "blocks" = true)
    (k_blocks : PySem.W.keepIn K (.ref f_blocks) = true)
    (a_joined_rows : PySem.W.nsIn K mainGlobals "joined_rows" = some (some (.ref f_joined_rows)))
    (l_joined_rows : K.lookup f_joined_rows = some ⟨oc_joined_rows, od_joined_rows, .func (PySem.W.fnOf "joined_rows" "joined_rows" (defArgs s_joined_rows) (defBody s_joined_rows) (defScope s_joined_rows) .none kV_joined_rows dc_joined_rows pm_joined_rows an_joined_rows cd_joined_rows ct_joined_rows), sl_joined_rows⟩)
    (c_joined_rows : PySem.W.codeIn K cd_joined_rows "joined_rows" = true)
    (k_joined_rows : PySem.W.keepIn K (.ref f_joined_rows) = true)
    (a_ends_of_block : PySem.W.nsIn K mainGlobals "ends_of_block" = some (some (.ref f_ends_of_block)))
    (l_ends_of_block : K.lookup f_ends_of_block = some ⟨oc_ends_of_block, od_ends_of_block, .func (PySem.W.fnOf "ends_of_block" "ends_of_block" (defArgs s_ends_of_block) (defBody s_ends_of_block) (defScope s_ends_of_block) .none kV_ends_of_block dc_ends_of_block pm_ends_of_block an_ends_of_block cd_ends_of_block ct_ends_of_block), sl_ends_of_block⟩)
    (c_ends_of_block : PySem.W.codeIn K cd_ends_of_block "ends_of_block" = true)
    (k_ends_of_block : PySem.W.keepIn K (.ref f_ends_of_block) = true)
    (a_has_no_throw : PySem.W.nsIn K mainGlobals "has_no_throw" = some (some (.ref f_has_no_throw)))
    (l_has_no_throw : K.lookup f_has_no_throw = some ⟨oc_has_no_throw, od_has_no_throw, .func (PySem.W.fnOf "has_no_throw" "has_no_throw" (defArgs s_has_no_throw) (defBody s_has_no_throw) (defScope s_has_no_throw) .none kV_has_no_throw dc_has_no_throw pm_has_no_throw an_has_no_throw cd_has_no_throw ct_has_no_throw), sl_has_no_throw⟩)
    (c_has_no_throw : PySem.W.codeIn K cd_has_no_throw "has_no_throw" = true)
    (k_has_no_throw : PySem.W.keepIn K (.ref f_has_no_throw) = true)
    (a_shapes_of : PySem.W.nsIn K mainGlobals "shapes_of" = some (some (.ref f_shapes_of)))
    (l_shapes_of : K.lookup f_shapes_of = some ⟨oc_shapes_of, od_shapes_of, .func (PySem.W.fnOf "shapes_of" "shapes_of" (defArgs s_shapes_of) (defBody s_shapes_of) (defScope s_shapes_of) .none kV_shapes_of dc_shapes_of pm_shapes_of an_shapes_of cd_shapes_of ct_shapes_of), sl_shapes_of⟩)
    (c_shapes_of : PySem.W.codeIn K cd_shapes_of "shapes_of" = true)
    (k_shapes_of : PySem.W.keepIn K (.ref f_shapes_of) = true)
    (a_row_of_shape : PySem.W.nsIn K mainGlobals "row_of_shape" = some (some (.ref f_row_of_shape)))
    (l_row_of_shape : K.lookup f_row_of_shape = some ⟨oc_row_of_shape, od_row_of_shape, .func (PySem.W.fnOf "row_of_shape" "row_of_shape" (defArgs s_row_of_shape) (defBody s_row_of_shape) (defScope s_row_of_shape) .none kV_row_of_shape dc_row_of_shape pm_row_of_shape an_row_of_shape cd_row_of_shape ct_row_of_shape), sl_row_of_shape⟩)
    (c_row_of_shape : PySem.W.codeIn K cd_row_of_shape "row_of_shape" = true)
    (k_row_of_shape : PySem.W.keepIn K (.ref f_row_of_shape) = true)
    (a_all_shapes : PySem.W.nsIn K mainGlobals "all_shapes" = some (some (.ref f_all_shapes)))
    (l_all_shapes : K.lookup f_all_shapes = some ⟨oc_all_shapes, od_all_shapes, .func (PySem.W.fnOf "all_shapes" "all_shapes" (defArgs s_all_shapes) (defBody s_all_shapes) (defScope s_all_shapes) .none kV_all_shapes dc_all_shapes pm_all_shapes an_all_shapes cd_all_shapes ct_all_shapes), sl_all_shapes⟩)
    (c_all_shapes : PySem.W.codeIn K cd_all_shapes "all_shapes" = true)
    (k_all_shapes : PySem.W.keepIn K (.ref f_all_shapes) = true)
    (a_has_one_order : PySem.W.nsIn K mainGlobals "has_one_order" = some (some (.ref f_has_one_order)))
    (l_has_one_order : K.lookup f_has_one_order = some ⟨oc_has_one_order, od_has_one_order, .func (PySem.W.fnOf "has_one_order" "has_one_order" (defArgs s_has_one_order) (defBody s_has_one_order) (defScope s_has_one_order) .none kV_has_one_order dc_has_one_order pm_has_one_order an_has_one_order cd_has_one_order ct_has_one_order), sl_has_one_order⟩)
    (c_has_one_order : PySem.W.codeIn K cd_has_one_order "has_one_order" = true)
    (k_has_one_order : PySem.W.keepIn K (.ref f_has_one_order) = true)
    (a_checked_shapes : PySem.W.nsIn K mainGlobals "checked_shapes" = some (some (.ref f_checked_shapes)))
    (l_checked_shapes : K.lookup f_checked_shapes = some ⟨oc_checked_shapes, od_checked_shapes, .func (PySem.W.fnOf "checked_shapes" "checked_shapes" (defArgs s_checked_shapes) (defBody s_checked_shapes) (defScope s_checked_shapes) .none kV_checked_shapes dc_checked_shapes pm_checked_shapes an_checked_shapes cd_checked_shapes ct_checked_shapes), sl_checked_shapes⟩)
    (c_checked_shapes : PySem.W.codeIn K cd_checked_shapes "checked_shapes" = true)
    (k_checked_shapes : PySem.W.keepIn K (.ref f_checked_shapes) = true)
    (a_many_of_block : PySem.W.nsIn K mainGlobals "many_of_block" = some (some (.ref f_many_of_block)))
    (l_many_of_block : K.lookup f_many_of_block = some ⟨oc_many_of_block, od_many_of_block, .func (PySem.W.fnOf "many_of_block" "many_of_block" (defArgs s_many_of_block) (defBody s_many_of_block) (defScope s_many_of_block) .none kV_many_of_block dc_many_of_block pm_many_of_block an_many_of_block cd_many_of_block ct_many_of_block), sl_many_of_block⟩)
    (c_many_of_block : PySem.W.codeIn K cd_many_of_block "many_of_block" = true)
    (k_many_of_block : PySem.W.keepIn K (.ref f_many_of_block) = true)
    (a_many_of_all : PySem.W.nsIn K mainGlobals "many_of_all" = some (some (.ref f_many_of_all)))
    (l_many_of_all : K.lookup f_many_of_all = some ⟨oc_many_of_all, od_many_of_all, .func (PySem.W.fnOf "many_of_all" "many_of_all" (defArgs s_many_of_all) (defBody s_many_of_all) (defScope s_many_of_all) .none kV_many_of_all dc_many_of_all pm_many_of_all an_many_of_all cd_many_of_all ct_many_of_all), sl_many_of_all⟩)
    (c_many_of_all : PySem.W.codeIn K cd_many_of_all "many_of_all" = true)
    (k_many_of_all : PySem.W.keepIn K (.ref f_many_of_all) = true)
    (a_one_order : PySem.W.nsIn K mainGlobals "one_order" = some (some (.ref f_one_order)))
    (l_one_order : K.lookup f_one_order = some ⟨oc_one_order, od_one_order, .func (PySem.W.fnOf "one_order" "one_order" (defArgs s_one_order) (defBody s_one_order) (defScope s_one_order) .none kV_one_order dc_one_order pm_one_order an_one_order cd_one_order ct_one_order), sl_one_order⟩)
    (c_one_order : PySem.W.codeIn K cd_one_order "one_order" = true)
    (k_one_order : PySem.W.keepIn K (.ref f_one_order) = true)
    (a_welcome : PySem.W.nsIn K mainGlobals "welcome" = some (some (.ref f_welcome)))
    (l_welcome : K.lookup f_welcome = some ⟨oc_welcome, od_welcome, .func (PySem.W.fnOf "welcome" "welcome" (defArgs s_welcome) (defBody s_welcome) (defScope s_welcome) .none kV_welcome dc_welcome pm_welcome an_welcome cd_welcome ct_welcome), sl_welcome⟩)
    (c_welcome : PySem.W.codeIn K cd_welcome "welcome" = true)
    (k_welcome : PySem.W.keepIn K (.ref f_welcome) = true)
    (a_l_source : PySem.W.nsIn K mainGlobals "_law_source" = some (some (.ref f_l_source)))
    (l_l_source : K.lookup f_l_source = some ⟨oc_l_source, od_l_source, .func (PySem.W.fnOf "_law_source" "_law_source" (defArgs s_l_source) (defBody s_l_source) (defScope s_l_source) .none kV_l_source dc_l_source pm_l_source an_l_source cd_l_source ct_l_source), sl_l_source⟩)
    (c_l_source : PySem.W.codeIn K cd_l_source "_law_source" = true)
    (k_l_source : PySem.W.keepIn K (.ref f_l_source) = true)
    (a_l_draw : PySem.W.nsIn K mainGlobals "_law_draw" = some (some (.ref f_l_draw)))
    (l_l_draw : K.lookup f_l_draw = some ⟨oc_l_draw, od_l_draw, .func (PySem.W.fnOf "_law_draw" "_law_draw" (defArgs s_l_draw) (defBody s_l_draw) (defScope s_l_draw) .none kV_l_draw dc_l_draw pm_l_draw an_l_draw cd_l_draw ct_l_draw), sl_l_draw⟩)
    (c_l_draw : PySem.W.codeIn K cd_l_draw "_law_draw" = true)
    (k_l_draw : PySem.W.keepIn K (.ref f_l_draw) = true)
    (a_l_lies_within : PySem.W.nsIn K mainGlobals "_law_lies_within" = some (some (.ref f_l_lies_within)))
    (l_l_lies_within : K.lookup f_l_lies_within = some ⟨oc_l_lies_within, od_l_lies_within, .func (PySem.W.fnOf "_law_lies_within" "_law_lies_within" (defArgs s_l_lies_within) (defBody s_l_lies_within) (defScope s_l_lies_within) .none kV_l_lies_within dc_l_lies_within pm_l_lies_within an_l_lies_within cd_l_lies_within ct_l_lies_within), sl_l_lies_within⟩)
    (c_l_lies_within : PySem.W.codeIn K cd_l_lies_within "_law_lies_within" = true)
    (k_l_lies_within : PySem.W.keepIn K (.ref f_l_lies_within) = true)
    (a_l_is_thrown : PySem.W.nsIn K mainGlobals "_law_is_thrown" = some (some (.ref f_l_is_thrown)))
    (l_l_is_thrown : K.lookup f_l_is_thrown = some ⟨oc_l_is_thrown, od_l_is_thrown, .func (PySem.W.fnOf "_law_is_thrown" "_law_is_thrown" (defArgs s_l_is_thrown) (defBody s_l_is_thrown) (defScope s_l_is_thrown) .none kV_l_is_thrown dc_l_is_thrown pm_l_is_thrown an_l_is_thrown cd_l_is_thrown ct_l_is_thrown), sl_l_is_thrown⟩)
    (c_l_is_thrown : PySem.W.codeIn K cd_l_is_thrown "_law_is_thrown" = true)
    (k_l_is_thrown : PySem.W.keepIn K (.ref f_l_is_thrown) = true)
    (a_l_rows : PySem.W.nsIn K mainGlobals "_law_rows" = some (some (.ref f_l_rows)))
    (l_l_rows : K.lookup f_l_rows = some ⟨oc_l_rows, od_l_rows, .func (PySem.W.fnOf "_law_rows" "_law_rows" (defArgs s_l_rows) (defBody s_l_rows) (defScope s_l_rows) .none kV_l_rows dc_l_rows pm_l_rows an_l_rows cd_l_rows ct_l_rows), sl_l_rows⟩)
    (c_l_rows : PySem.W.codeIn K cd_l_rows "_law_rows" = true)
    (k_l_rows : PySem.W.keepIn K (.ref f_l_rows) = true)
    (a_l_due : PySem.W.nsIn K mainGlobals "_law_due" = some (some (.ref f_l_due)))
    (l_l_due : K.lookup f_l_due = some ⟨oc_l_due, od_l_due, .func (PySem.W.fnOf "_law_due" "_law_due" (defArgs s_l_due) (defBody s_l_due) (defScope s_l_due) .none kV_l_due dc_l_due pm_l_due an_l_due cd_l_due ct_l_due), sl_l_due⟩)
    (c_l_due : PySem.W.codeIn K cd_l_due "_law_due" = true)
    (k_l_due : PySem.W.keepIn K (.ref f_l_due) = true)
    (a_l_word : PySem.W.nsIn K mainGlobals "_law_word" = some (some (.ref f_l_word)))
    (l_l_word : K.lookup f_l_word = some ⟨oc_l_word, od_l_word, .func (PySem.W.fnOf "_law_word" "_law_word" (defArgs s_l_word) (defBody s_l_word) (defScope s_l_word) .none kV_l_word dc_l_word pm_l_word an_l_word cd_l_word ct_l_word), sl_l_word⟩)
    (c_l_word : PySem.W.codeIn K cd_l_word "_law_word" = true)
    (k_l_word : PySem.W.keepIn K (.ref f_l_word) = true)
    (a_l_early_windows : PySem.W.nsIn K mainGlobals "_law_early_windows" = some (some (.ref f_l_early_windows)))
    (l_l_early_windows : K.lookup f_l_early_windows = some ⟨oc_l_early_windows, od_l_early_windows, .func (PySem.W.fnOf "_law_early_windows" "_law_early_windows" (defArgs s_l_early_windows) (defBody s_l_early_windows) (defScope s_l_early_windows) .none kV_l_early_windows dc_l_early_windows pm_l_early_windows an_l_early_windows cd_l_early_windows ct_l_early_windows), sl_l_early_windows⟩)
    (c_l_early_windows : PySem.W.codeIn K cd_l_early_windows "_law_early_windows" = true)
    (k_l_early_windows : PySem.W.keepIn K (.ref f_l_early_windows) = true)
    (a_law : PySem.W.nsIn K mainGlobals "law" = some (some (.ref f_law)))
    (l_law : K.lookup f_law = some ⟨oc_law, od_law, .func (PySem.W.fnOf "law" "law" (defArgs s_law) (defBody s_law) (defScope s_law) .none kV_law dc_law pm_law an_law cd_law ct_law), sl_law⟩)
    (c_law : PySem.W.codeIn K cd_law "law" = true)
    (k_law : PySem.W.keepIn K (.ref f_law) = true)
    (gc_LATEST_WELCOME : PySem.W.nsIn K mainGlobals "LATEST_WELCOME" = some (some (.int 20 u_LATEST_WELCOME)))
    (gc_MOST_HOUR : PySem.W.nsIn K mainGlobals "MOST_HOUR" = some (some (.int 1000000 u_MOST_HOUR)))
    (gc_MOST_OF_ONE_MIDDLE : PySem.W.nsIn K mainGlobals "MOST_OF_ONE_MIDDLE" = some (some (.int 8 u_MOST_OF_ONE_MIDDLE)))
    (gc_MOST_WORKS : PySem.W.nsIn K mainGlobals "MOST_WORKS" = some (some (.int 40 u_MOST_WORKS)))
    (gc_MOST_WORKS_HERE : PySem.W.nsIn K mainGlobals "MOST_WORKS_HERE" = some (some (.int 8 u_MOST_WORKS_HERE)))
    (z_all : PySem.W.nsIn K mainGlobals "all" = some none)
    (z_bool : PySem.W.nsIn K mainGlobals "bool" = some none)
    (z_enumerate : PySem.W.nsIn K mainGlobals "enumerate" = some none)
    (z_int : PySem.W.nsIn K mainGlobals "int" = some none)
    (z_isinstance : PySem.W.nsIn K mainGlobals "isinstance" = some none)
    (z_len : PySem.W.nsIn K mainGlobals "len" = some none)
    (z_list : PySem.W.nsIn K mainGlobals "list" = some none)
    (z_max : PySem.W.nsIn K mainGlobals "max" = some none)
    (z_min : PySem.W.nsIn K mainGlobals "min" = some none)
    (z_range : PySem.W.nsIn K mainGlobals "range" = some none)
    (z_repr : PySem.W.nsIn K mainGlobals "repr" = some none)
    (z_sorted : PySem.W.nsIn K mainGlobals "sorted" = some none)
    (z_sum : PySem.W.nsIn K mainGlobals "sum" = some none)
    (z_tuple : PySem.W.nsIn K mainGlobals "tuple" = some none)
    (mx_factorial : PySem.W.nsIn K mainGlobals "factorial" = some (some (.builtin "math.factorial")))
    (xg_TooMany : PySem.W.findIn K (.ref C_TooMany) "__getattribute__" = some (some (.builtin "BaseException.__getattribute__")))
    (xk_TooMany : PySem.W.findIn K (.ref C_TooMany) "__getattr__" = some none)
    (nf_TooMany : PySem.W.findIn K (.ref C_TooMany) "most" = some none)
    (sq_TooMany : PySem.W.subIn K (.ref C_TooMany) (.ref C_NoNumber) = some false) :
    ∃ fd : FuncData, (∀ (s : Shared) (v : Value), BindsTo s fd ⟨[v], []⟩ [("_law_script", v)]) ∧ ∀ base : Heap, K.In base → base.Ns mainGlobals mg → FnOkG l.prog w K mg base CX0 11 fa fd ["_law_script"] (sp_law K ⟨fun _ => 0, fun _ => 0⟩) := by
  have e := (PySem.W.mg_of X G a_law).symm.trans hfa
  cases e
  have T : Txt K mg ⟨fun n => ([f_BadBook_init, f_NoWork_init, f_is_integer, f_is_pair, f_Book_init, f_is_windows, f_is_window, f_is_work, f_middle, f_is_inside, 0, 0, f_l_draw, 0, 0, fa, 0, 0, 0, 0, 0, 0, 0, 0, 0, 0, 0, 0, 0, 0, 0, 0, 0, 0, 0, 0, f_NoNumber_init, 0, f_unbounded, f_shifted, 0, 0, 0, 0, 0, 0, 0, 0, 0, 0, 0, 0, 0, 0, 0, 0, 0, 0, 0, 0, 0, 0, 0, 0, 0, 0, 0, 0, 0, 0, f_thrown_over, 0, 0, 0, 0, 0, 0, 0, 0, 0, 0, 0, 0, 0, 0, 0, 0, f_TooMany_init, 0, 0, 0, 0, 0, 0, 0, 0, 0, 0, 0, 0, 0, f_blocks, f_joined_rows, f_ends_of_block, f_has_no_throw, f_shapes_of, f_row_of_shape, f_all_shapes, f_checked_shapes, f_many_of_block, f_many_of_all, f_one_order, 0, 0, 0, 0, 0, 0, f_check_works, f_has_one_order, f_welcome, f_l_source, f_l_lies_within, f_l_is_thrown, f_l_rows, f_l_due, f_l_word, f_l_early_windows] : List Addr).getD n 0, fun n => ([C_BadBook, C_NoWork, C_Book, 0, 0, C_NoNumber, 0, 0, 0, 0, 0, 0, 0, 0, 0, C_TooMany, 0, 0, 0, 0] : List Addr).getD n 0⟩ ⟨fun n => ([PySem.W.fnOf "__init__" "BadBook.__init__" (defArgs s_BadBook_init) (defBody s_BadBook_init) (defScope s_BadBook_init) .none kV_BadBook_init dc_BadBook_init pm_BadBook_init an_BadBook_init cd_BadBook_init ct_BadBook_init, PySem.W.fnOf "__init__" "NoWork.__init__" (defArgs s_NoWork_init) (defBody s_NoWork_init) (defScope s_NoWork_init) .none kV_NoWork_init dc_NoWork_init pm_NoWork_init an_NoWork_init cd_NoWork_init ct_NoWork_init, PySem.W.fnOf "is_integer" "is_integer" (defArgs s_is_integer) (defBody s_is_integer) (defScope s_is_integer) .none kV_is_integer dc_is_integer pm_is_integer an_is_integer cd_is_integer ct_is_integer, PySem.W.fnOf "is_pair" "is_pair" (defArgs s_is_pair) (defBody s_is_pair) (defScope s_is_pair) .none kV_is_pair dc_is_pair pm_is_pair an_is_pair cd_is_pair ct_is_pair, PySem.W.fnOf "__init__" "Book.__init__" (defArgs s_Book_init) (defBody s_Book_init) (defScope s_Book_init) .none kV_Book_init dc_Book_init pm_Book_init an_Book_init cd_Book_init ct_Book_init, PySem.W.fnOf "is_windows" "is_windows" (defArgs s_is_windows) (defBody s_is_windows) (defScope s_is_windows) .none kV_is_windows dc_is_windows pm_is_windows an_is_windows cd_is_windows ct_is_windows, PySem.W.fnOf "is_window" "is_window" (defArgs s_is_window) (defBody s_is_window) (defScope s_is_window) .none kV_is_window dc_is_window pm_is_window an_is_window cd_is_window ct_is_window, PySem.W.fnOf "is_work" "is_work" (defArgs s_is_work) (defBody s_is_work) (defScope s_is_work) .none kV_is_work dc_is_work pm_is_work an_is_work cd_is_work ct_is_work, PySem.W.fnOf "middle" "middle" (defArgs s_middle) (defBody s_middle) (defScope s_middle) .none kV_middle dc_middle pm_middle an_middle cd_middle ct_middle, PySem.W.fnOf "is_inside" "is_inside" (defArgs s_is_inside) (defBody s_is_inside) (defScope s_is_inside) .none kV_is_inside dc_is_inside pm_is_inside an_is_inside cd_is_inside ct_is_inside, PySem.W.fnOf "law" "law" (defArgs s_law) (defBody s_law) (defScope s_law) .none kV_law dc_law pm_law an_law cd_law ct_law, PySem.W.fnOf "law" "law" (defArgs s_law) (defBody s_law) (defScope s_law) .none kV_law dc_law pm_law an_law cd_law ct_law, PySem.W.fnOf "_law_draw" "_law_draw" (defArgs s_l_draw) (defBody s_l_draw) (defScope s_l_draw) .none kV_l_draw dc_l_draw pm_l_draw an_l_draw cd_l_draw ct_l_draw, PySem.W.fnOf "law" "law" (defArgs s_law) (defBody s_law) (defScope s_law) .none kV_law dc_law pm_law an_law cd_law ct_law, PySem.W.fnOf "law" "law" (defArgs s_law) (defBody s_law) (defScope s_law) .none kV_law dc_law pm_law an_law cd_law ct_law, PySem.W.fnOf "law" "law" (defArgs s_law) (defBody s_law) (defScope s_law) .none kV_law dc_law pm_law an_law cd_law ct_law, PySem.W.fnOf "law" "law" (defArgs s_law) (defBody s_law) (defScope s_law) .none kV_law dc_law pm_law an_law cd_law ct_law, PySem.W.fnOf "law" "law" (defArgs s_law) (defBody s_law) (defScope s_law) .none kV_law dc_law pm_law an_law cd_law ct_law, PySem.W.fnOf "law" "law" (defArgs s_law) (defBody s_law) (defScope s_law) .none kV_law dc_law pm_law an_law cd_law ct_law, PySem.W.fnOf "law" "law" (defArgs s_law) (defBody s_law) (defScope s_law) .none kV_law dc_law pm_law an_law cd_law ct_law, PySem.W.fnOf "law" "law" (defArgs s_law) (defBody s_law) (defScope s_law) .none kV_law dc_law pm_law an_law cd_law ct_law, PySem.W.fnOf "law" "law" (defArgs s_law) (defBody s_law) (defScope s_law) .none kV_law dc_law pm_law an_law cd_law ct_law, PySem.W.fnOf "law" "law" (defArgs s_law) (defBody s_law) (defScope s_law) .none kV_law dc_law pm_law an_law cd_law ct_law, PySem.W.fnOf "law" "law" (defArgs s_law) (defBody s_law) (defScope s_law) .none kV_law dc_law pm_law an_law cd_law ct_law, PySem.W.fnOf "law" "law" (defArgs s_law) (defBody s_law) (defScope s_law) .none kV_law dc_law pm_law an_law cd_law ct_law, PySem.W.fnOf "law" "law" (defArgs s_law) (defBody s_law) (defScope s_law) .none kV_law dc_law pm_law an_law cd_law ct_law, PySem.W.fnOf "law" "law" (defArgs s_law) (defBody s_law) (defScope s_law) .none kV_law dc_law pm_law an_law cd_law ct_law, PySem.W.fnOf "law" "law" (defArgs s_law) (defBody s_law) (defScope s_law) .none kV_law dc_law pm_law an_law cd_law ct_law, PySem.W.fnOf "law" "law" (defArgs s_law) (defBody s_law) (defScope s_law) .none kV_law dc_law pm_law an_law cd_law ct_law, PySem.W.fnOf "law" "law" (defArgs s_law) (defBody s_law) (defScope s_law) .none kV_law dc_law pm_law an_law cd_law ct_law, PySem.W.fnOf "law" "law" (defArgs s_law) (defBody s_law) (defScope s_law) .none kV_law dc_law pm_law an_law cd_law ct_law, PySem.W.fnOf "law" "law" (defArgs s_law) (defBody s_law) (defScope s_law) .none kV_law dc_law pm_law an_law cd_law ct_law, PySem.W.fnOf "law" "law" (defArgs s_law) (defBody s_law) (defScope s_law) .none kV_law dc_law pm_law an_law cd_law ct_law, PySem.W.fnOf "law" "law" (defArgs s_law) (defBody s_law) (defScope s_law) .none kV_law dc_law pm_law an_law cd_law ct_law, PySem.W.fnOf "law" "law" (defArgs s_law) (defBody s_law) (defScope s_law) .none kV_law dc_law pm_law an_law cd_law ct_law, PySem.W.fnOf "law" "law" (defArgs s_law) (defBody s_law) (defScope s_law) .none kV_law dc_law pm_law an_law cd_law ct_law, PySem.W.fnOf "__init__" "NoNumber.__init__" (defArgs s_NoNumber_init) (defBody s_NoNumber_init) (defScope s_NoNumber_init) .none kV_NoNumber_init dc_NoNumber_init pm_NoNumber_init an_NoNumber_init cd_NoNumber_init ct_NoNumber_init, PySem.W.fnOf "law" "law" (defArgs s_law) (defBody s_law) (defScope s_law) .none kV_law dc_law pm_law an_law cd_law ct_law, PySem.W.fnOf "unbounded" "unbounded" (defArgs s_unbounded) (defBody s_unbounded) (defScope s_unbounded) .none kV_unbounded dc_unbounded pm_unbounded an_unbounded cd_unbounded ct_unbounded, PySem.W.fnOf "shifted" "shifted" (defArgs s_shifted) (defBody s_shifted) (defScope s_shifted) .none kV_shifted dc_shifted pm_shifted an_shifted cd_shifted ct_shifted, PySem.W.fnOf "law" "law" (defArgs s_law) (defBody s_law) (defScope s_law) .none kV_law dc_law pm_law an_law cd_law ct_law, PySem.W.fnOf "law" "law" (defArgs s_law) (defBody s_law) (defScope s_law) .none kV_law dc_law pm_law an_law cd_law ct_law, PySem.W.fnOf "law" "law" (defArgs s_law) (defBody s_law) (defScope s_law) .none kV_law dc_law pm_law an_law cd_law ct_law, PySem.W.fnOf "law" "law" (defArgs s_law) (defBody s_law) (defScope s_law) .none kV_law dc_law pm_law an_law cd_law ct_law, PySem.W.fnOf "law" "law" (defArgs s_law) (defBody s_law) (defScope s_law) .none kV_law dc_law pm_law an_law cd_law ct_law, PySem.W.fnOf "law" "law" (defArgs s_law) (defBody s_law) (defScope s_law) .none kV_law dc_law pm_law an_law cd_law ct_law, PySem.W.fnOf "law" "law" (defArgs s_law) (defBody s_law) (defScope s_law) .none kV_law dc_law pm_law an_law cd_law ct_law, PySem.W.fnOf "law" "law" (defArgs s_law) (defBody s_law) (defScope s_law) .none kV_law dc_law pm_law an_law cd_law ct_law, PySem.W.fnOf "law" "law" (defArgs s_law) (defBody s_law) (defScope s_law) .none kV_law dc_law pm_law an_law cd_law ct_law, PySem.W.fnOf "law" "law" (defArgs s_law) (defBody s_law) (defScope s_law) .none kV_law dc_law pm_law an_law cd_law ct_law, PySem.W.fnOf "law" "law" (defArgs s_law) (defBody s_law) (defScope s_law) .none kV_law dc_law pm_law an_law cd_law ct_law, PySem.W.fnOf "law" "law" (defArgs s_law) (defBody s_law) (defScope s_law) .none kV_law dc_law pm_law an_law cd_law ct_law, PySem.W.fnOf "law" "law" (defArgs s_law) (defBody s_law) (defScope s_law) .none kV_law dc_law pm_law an_law cd_law ct_law, PySem.W.fnOf "law" "law" (defArgs s_law) (defBody s_law) (defScope s_law) .none kV_law dc_law pm_law an_law cd_law ct_law, PySem.W.fnOf "law" "law" (defArgs s_law) (defBody s_law) (defScope s_law) .none kV_law dc_law pm_law an_law cd_law ct_law, PySem.W.fnOf "law" "law" (defArgs s_law) (defBody s_law) (defScope s_law) .none kV_law dc_law pm_law an_law cd_law ct_law, PySem.W.fnOf "law" "law" (defArgs s_law) (defBody s_law) (defScope s_law) .none kV_law dc_law pm_law an_law cd_law ct_law, PySem.W.fnOf "law" "law" (defArgs s_law) (defBody s_law) (defScope s_law) .none kV_law dc_law pm_law an_law cd_law ct_law, PySem.W.fnOf "law" "law" (defArgs s_law) (defBody s_law) (defScope s_law) .none kV_law dc_law pm_law an_law cd_law ct_law, PySem.W.fnOf "law" "law" (defArgs s_law) (defBody s_law) (defScope s_law) .none kV_law dc_law pm_law an_law cd_law ct_law, PySem.W.fnOf "law" "law" (defArgs s_law) (defBody s_law) (defScope s_law) .none kV_law dc_law pm_law an_law cd_law ct_law, PySem.W.fnOf "law" "law" (defArgs s_law) (defBody s_law) (defScope s_law) .none kV_law dc_law pm_law an_law cd_law ct_law, PySem.W.fnOf "law" "law" (defArgs s_law) (defBody s_law) (defScope s_law) .none kV_law dc_law pm_law an_law cd_law ct_law, PySem.W.fnOf "law" "law" (defArgs s_law) (defBody s_law) (defScope s_law) .none kV_law dc_law pm_law an_law cd_law ct_law, PySem.W.fnOf "law" "law" (defArgs s_law) (defBody s_law) (defScope s_law) .none kV_law dc_law pm_law an_law cd_law ct_law, PySem.W.fnOf "law" "law" (defArgs s_law) (defBody s_law) (defScope s_law) .none kV_law dc_law pm_law an_law cd_law ct_law, PySem.W.fnOf "law" "law" (defArgs s_law) (defBody s_law) (defScope s_law) .none kV_law dc_law pm_law an_law cd_law ct_law, PySem.W.fnOf "law" "law" (defArgs s_law) (defBody s_law) (defScope s_law) .none kV_law dc_law pm_law an_law cd_law ct_law, PySem.W.fnOf "law" "law" (defArgs s_law) (defBody s_law) (defScope s_law) .none kV_law dc_law pm_law an_law cd_law ct_law, PySem.W.fnOf "law" "law" (defArgs s_law) (defBody s_law) (defScope s_law) .none kV_law dc_law pm_law an_law cd_law ct_law, PySem.W.fnOf "thrown_over" "thrown_over" (defArgs s_thrown_over) (defBody s_thrown_over) (defScope s_thrown_over) .none kV_thrown_over dc_thrown_over pm_thrown_over an_thrown_over cd_thrown_over ct_thrown_over, PySem.W.fnOf "law" "law" (defArgs s_law) (defBody s_law) (defScope s_law) .none kV_law dc_law pm_law an_law cd_law ct_law, PySem.W.fnOf "law" "law" (defArgs s_law) (defBody s_law) (defScope s_law) .none kV_law dc_law pm_law an_law cd_law ct_law, PySem.W.fnOf "law" "law" (defArgs s_law) (defBody s_law) (defScope s_law) .none kV_law dc_law pm_law an_law cd_law ct_law, PySem.W.fnOf "law" "law" (defArgs s_law) (defBody s_law) (defScope s_law) .none kV_law dc_law pm_law an_law cd_law ct_law, PySem.W.fnOf "law" "law" (defArgs s_law) (defBody s_law) (defScope s_law) .none kV_law dc_law pm_law an_law cd_law ct_law, PySem.W.fnOf "law" "law" (defArgs s_law) (defBody s_law) (defScope s_law) .none kV_law dc_law pm_law an_law cd_law ct_law, PySem.W.fnOf "law" "law" (defArgs s_law) (defBody s_law) (defScope s_law) .none kV_law dc_law pm_law an_law cd_law ct_law, PySem.W.fnOf "law" "law" (defArgs s_law) (defBody s_law) (defScope s_law) .none kV_law dc_law pm_law an_law cd_law ct_law, PySem.W.fnOf "law" "law" (defArgs s_law) (defBody s_law) (defScope s_law) .none kV_law dc_law pm_law an_law cd_law ct_law, PySem.W.fnOf "law" "law" (defArgs s_law) (defBody s_law) (defScope s_law) .none kV_law dc_law pm_law an_law cd_law ct_law, PySem.W.fnOf "law" "law" (defArgs s_law) (defBody s_law) (defScope s_law) .none kV_law dc_law pm_law an_law cd_law ct_law, PySem.W.fnOf "law" "law" (defArgs s_law) (defBody s_law) (defScope s_law) .none kV_law dc_law pm_law an_law cd_law ct_law, PySem.W.fnOf "law" "law" (defArgs s_law) (defBody s_law) (defScope s_law) .none kV_law dc_law pm_law an_law cd_law ct_law, PySem.W.fnOf "law" "law" (defArgs s_law) (defBody s_law) (defScope s_law) .none kV_law dc_law pm_law an_law cd_law ct_law, PySem.W.fnOf "law" "law" (defArgs s_law) (defBody s_law) (defScope s_law) .none kV_law dc_law pm_law an_law cd_law ct_law, PySem.W.fnOf "law" "law" (defArgs s_law) (defBody s_law) (defScope s_law) .none kV_law dc_law pm_law an_law cd_law ct_law, PySem.W.fnOf "__init__" "TooMany.__init__" (defArgs s_TooMany_init) (defBody s_TooMany_init) (defScope s_TooMany_init) .none kV_TooMany_init dc_TooMany_init pm_TooMany_init an_TooMany_init cd_TooMany_init ct_TooMany_init, PySem.W.fnOf "law" "law" (defArgs s_law) (defBody s_law) (defScope s_law) .none kV_law dc_law pm_law an_law cd_law ct_law, PySem.W.fnOf "law" "law" (defArgs s_law) (defBody s_law) (defScope s_law) .none kV_law dc_law pm_law an_law cd_law ct_law, PySem.W.fnOf "law" "law" (defArgs s_law) (defBody s_law) (defScope s_law) .none kV_law dc_law pm_law an_law cd_law ct_law, PySem.W.fnOf "law" "law" (defArgs s_law) (defBody s_law) (defScope s_law) .none kV_law dc_law pm_law an_law cd_law ct_law, PySem.W.fnOf "law" "law" (defArgs s_law) (defBody s_law) (defScope s_law) .none kV_law dc_law pm_law an_law cd_law ct_law, PySem.W.fnOf "law" "law" (defArgs s_law) (defBody s_law) (defScope s_law) .none kV_law dc_law pm_law an_law cd_law ct_law, PySem.W.fnOf "law" "law" (defArgs s_law) (defBody s_law) (defScope s_law) .none kV_law dc_law pm_law an_law cd_law ct_law, PySem.W.fnOf "law" "law" (defArgs s_law) (defBody s_law) (defScope s_law) .none kV_law dc_law pm_law an_law cd_law ct_law, PySem.W.fnOf "law" "law" (defArgs s_law) (defBody s_law) (defScope s_law) .none kV_law dc_law pm_law an_law cd_law ct_law, PySem.W.fnOf "law" "law" (defArgs s_law) (defBody s_law) (defScope s_law) .none kV_law dc_law pm_law an_law cd_law ct_law, PySem.W.fnOf "law" "law" (defArgs s_law) (defBody s_law) (defScope s_law) .none kV_law dc_law pm_law an_law cd_law ct_law, PySem.W.fnOf "law" "law" (defArgs s_law) (defBody s_law) (defScope s_law) .none kV_law dc_law pm_law an_law cd_law ct_law, PySem.W.fnOf "law" "law" (defArgs s_law) (defBody s_law) (defScope s_law) .none kV_law dc_law pm_law an_law cd_law ct_law, PySem.W.fnOf "blocks" "blocks" (defArgs s_blocks) (defBody s_blocks) (defScope s_blocks) .none kV_blocks dc_blocks pm_blocks an_blocks cd_blocks ct_blocks, PySem.W.fnOf "joined_rows" "joined_rows" (defArgs s_joined_rows) (defBody s_joined_rows) (defScope s_joined_rows) .none kV_joined_rows dc_joined_rows pm_joined_rows an_joined_rows cd_joined_rows ct_joined_rows, PySem.W.fnOf "ends_of_block" "ends_of_block" (defArgs s_ends_of_block) (defBody s_ends_of_block) (defScope s_ends_of_block) .none kV_ends_of_block dc_ends_of_block pm_ends_of_block an_ends_of_block cd_ends_of_block ct_ends_of_block, PySem.W.fnOf "has_no_throw" "has_no_throw" (defArgs s_has_no_throw) (defBody s_has_no_throw) (defScope s_has_no_throw) .none kV_has_no_throw dc_has_no_throw pm_has_no_throw an_has_no_throw cd_has_no_throw ct_has_no_throw, PySem.W.fnOf "shapes_of" "shapes_of" (defArgs s_shapes_of) (defBody s_shapes_of) (defScope s_shapes_of) .none kV_shapes_of dc_shapes_of pm_shapes_of an_shapes_of cd_shapes_of ct_shapes_of, PySem.W.fnOf "row_of_shape" "row_of_shape" (defArgs s_row_of_shape) (defBody s_row_of_shape) (defScope s_row_of_shape) .none kV_row_of_shape dc_row_of_shape pm_row_of_shape an_row_of_shape cd_row_of_shape ct_row_of_shape, PySem.W.fnOf "all_shapes" "all_shapes" (defArgs s_all_shapes) (defBody s_all_shapes) (defScope s_all_shapes) .none kV_all_shapes dc_all_shapes pm_all_shapes an_all_shapes cd_all_shapes ct_all_shapes, PySem.W.fnOf "checked_shapes" "checked_shapes" (defArgs s_checked_shapes) (defBody s_checked_shapes) (defScope s_checked_shapes) .none kV_checked_shapes dc_checked_shapes pm_checked_shapes an_checked_shapes cd_checked_shapes ct_checked_shapes, PySem.W.fnOf "many_of_block" "many_of_block" (defArgs s_many_of_block) (defBody s_many_of_block) (defScope s_many_of_block) .none kV_many_of_block dc_many_of_block pm_many_of_block an_many_of_block cd_many_of_block ct_many_of_block, PySem.W.fnOf "many_of_all" "many_of_all" (defArgs s_many_of_all) (defBody s_many_of_all) (defScope s_many_of_all) .none kV_many_of_all dc_many_of_all pm_many_of_all an_many_of_all cd_many_of_all ct_many_of_all, PySem.W.fnOf "one_order" "one_order" (defArgs s_one_order) (defBody s_one_order) (defScope s_one_order) .none kV_one_order dc_one_order pm_one_order an_one_order cd_one_order ct_one_order, PySem.W.fnOf "law" "law" (defArgs s_law) (defBody s_law) (defScope s_law) .none kV_law dc_law pm_law an_law cd_law ct_law, PySem.W.fnOf "law" "law" (defArgs s_law) (defBody s_law) (defScope s_law) .none kV_law dc_law pm_law an_law cd_law ct_law, PySem.W.fnOf "law" "law" (defArgs s_law) (defBody s_law) (defScope s_law) .none kV_law dc_law pm_law an_law cd_law ct_law, PySem.W.fnOf "law" "law" (defArgs s_law) (defBody s_law) (defScope s_law) .none kV_law dc_law pm_law an_law cd_law ct_law, PySem.W.fnOf "law" "law" (defArgs s_law) (defBody s_law) (defScope s_law) .none kV_law dc_law pm_law an_law cd_law ct_law, PySem.W.fnOf "law" "law" (defArgs s_law) (defBody s_law) (defScope s_law) .none kV_law dc_law pm_law an_law cd_law ct_law, PySem.W.fnOf "check_works" "check_works" (defArgs s_check_works) (defBody s_check_works) (defScope s_check_works) .none kV_check_works dc_check_works pm_check_works an_check_works cd_check_works ct_check_works, PySem.W.fnOf "has_one_order" "has_one_order" (defArgs s_has_one_order) (defBody s_has_one_order) (defScope s_has_one_order) .none kV_has_one_order dc_has_one_order pm_has_one_order an_has_one_order cd_has_one_order ct_has_one_order, PySem.W.fnOf "welcome" "welcome" (defArgs s_welcome) (defBody s_welcome) (defScope s_welcome) .none kV_welcome dc_welcome pm_welcome an_welcome cd_welcome ct_welcome, PySem.W.fnOf "_law_source" "_law_source" (defArgs s_l_source) (defBody s_l_source) (defScope s_l_source) .none kV_l_source dc_l_source pm_l_source an_l_source cd_l_source ct_l_source, PySem.W.fnOf "_law_lies_within" "_law_lies_within" (defArgs s_l_lies_within) (defBody s_l_lies_within) (defScope s_l_lies_within) .none kV_l_lies_within dc_l_lies_within pm_l_lies_within an_l_lies_within cd_l_lies_within ct_l_lies_within, PySem.W.fnOf "_law_is_thrown" "_law_is_thrown" (defArgs s_l_is_thrown) (defBody s_l_is_thrown) (defScope s_l_is_thrown) .none kV_l_is_thrown dc_l_is_thrown pm_l_is_thrown an_l_is_thrown cd_l_is_thrown ct_l_is_thrown, PySem.W.fnOf "_law_rows" "_law_rows" (defArgs s_l_rows) (defBody s_l_rows) (defScope s_l_rows) .none kV_l_rows dc_l_rows pm_l_rows an_l_rows cd_l_rows ct_l_rows, PySem.W.fnOf "_law_due" "_law_due" (defArgs s_l_due) (defBody s_l_due) (defScope s_l_due) .none kV_l_due dc_l_due pm_l_due an_l_due cd_l_due ct_l_due, PySem.W.fnOf "_law_word" "_law_word" (defArgs s_l_word) (defBody s_l_word) (defScope s_l_word) .none kV_l_word dc_l_word pm_l_word an_l_word cd_l_word ct_l_word, PySem.W.fnOf "_law_early_windows" "_law_early_windows" (defArgs s_l_early_windows) (defBody s_l_early_windows) (defScope s_l_early_windows) .none kV_l_early_windows dc_l_early_windows pm_l_early_windows an_l_early_windows cd_l_early_windows ct_l_early_windows] : List FuncData).getD n (PySem.W.fnOf "law" "law" (defArgs s_law) (defBody s_law) (defScope s_law) .none kV_law dc_law pm_law an_law cd_law ct_law)⟩ := {
    g_BadBook := PySem.W.mg_of X G aC_BadBook,
    e_BadBook := ⟨⟨nm_BadBook, q_BadBook, N_BadBook, bs_BadBook, _, sn_BadBook, sub_BadBook, ab_BadBook, col_BadBook, dd_BadBook, m0_BadBook, m1_BadBook, m2_BadBook, m3_BadBook, m5_BadBook, xL_BadBook, rfl⟩, sa_BadBook, eC_BadBook, tC_BadBook, kC_BadBook⟩,
    i_BadBook := a_BadBook_init,
    t_BadBook := t_BadBook_init,
    m_BadBook := PySem.W.exm_ref eC_BadBook hC_BadBook tC_BadBook sC_BadBook,
    g_NoWork := PySem.W.mg_of X G aC_NoWork,
    e_NoWork := ⟨⟨nm_NoWork, q_NoWork, N_NoWork, bs_NoWork, _, sn_NoWork, sub_NoWork, ab_NoWork, col_NoWork, dd_NoWork, m0_NoWork, m1_NoWork, m2_NoWork, m3_NoWork, m5_NoWork, xL_NoWork, rfl⟩, sa_NoWork, eC_NoWork, tC_NoWork, kC_NoWork⟩,
    i_NoWork := a_NoWork_init,
    t_NoWork := t_NoWork_init,
    m_NoWork := PySem.W.exm_ref eC_NoWork hC_NoWork tC_NoWork sC_NoWork,
    g_NoNumber := PySem.W.mg_of X G aC_NoNumber,
    e_NoNumber := ⟨⟨nm_NoNumber, q_NoNumber, N_NoNumber, bs_NoNumber, _, sn_NoNumber, sub_NoNumber, ab_NoNumber, col_NoNumber, dd_NoNumber, m0_NoNumber, m1_NoNumber, m2_NoNumber, m3_NoNumber, m5_NoNumber, xL_NoNumber, rfl⟩, sa_NoNumber, eC_NoNumber, tC_NoNumber, kC_NoNumber⟩,
    i_NoNumber := a_NoNumber_init,
    t_NoNumber := t_NoNumber_init,
    m_NoNumber := PySem.W.exm_ref eC_NoNumber hC_NoNumber tC_NoNumber sC_NoNumber,
    g_TooMany := PySem.W.mg_of X G aC_TooMany,
    e_TooMany := ⟨⟨nm_TooMany, q_TooMany, N_TooMany, bs_TooMany, _, sn_TooMany, sub_TooMany, ab_TooMany, col_TooMany, dd_TooMany, m0_TooMany, m1_TooMany, m2_TooMany, m3_TooMany, m5_TooMany, xL_TooMany, rfl⟩, sa_TooMany, eC_TooMany, tC_TooMany, kC_TooMany⟩,
    i_TooMany := a_TooMany_init,
    t_TooMany := t_TooMany_init,
    m_TooMany := PySem.W.exm_ref eC_TooMany hC_TooMany tC_TooMany sC_TooMany,
    g_Book := PySem.W.mg_of X G aC_Book,
    cl_Book := ⟨pg_Book, hd_Book, po_Book, sa_Book⟩,
    mk_Book := ⟨mk_Book, a_Book_init, i_Book_init, kc_Book⟩,
    na_windows := na_windows,
    F_BadBook_init := fun_mk (st := s_BadBook_init) l_BadBook_init c_BadBook_init k_BadBook_init,
    F_NoWork_init := fun_mk (st := s_NoWork_init) l_NoWork_init c_NoWork_init k_NoWork_init,
    F_NoNumber_init := fun_mk (st := s_NoNumber_init) l_NoNumber_init c_NoNumber_init k_NoNumber_init,
    F_TooMany_init := fun_mk (st := s_TooMany_init) l_TooMany_init c_TooMany_init k_TooMany_init,
    g_is_integer := PySem.W.mg_of X G a_is_integer,
    F_is_integer := fun_mk (st := s_is_integer) l_is_integer c_is_integer k_is_integer,
    g_is_pair := PySem.W.mg_of X G a_is_pair,
    F_is_pair := fun_mk (st := s_is_pair) l_is_pair c_is_pair k_is_pair,
    F_Book_init := fun_mk (st := s_Book_init) l_Book_init c_Book_init k_Book_init,
    g_is_windows := PySem.W.mg_of X G a_is_windows,
    F_is_windows := fun_mk (st := s_is_windows) l_is_windows c_is_windows k_is_windows,
    g_is_window := PySem.W.mg_of X G a_is_window,
    F_is_window := fun_mk (st := s_is_window) l_is_window c_is_window k_is_window,
    g_unbounded := PySem.W.mg_of X G a_unbounded,
    F_unbounded := fun_mk (st := s_unbounded) l_unbounded c_unbounded k_unbounded,
    g_is_work := PySem.W.mg_of X G a_is_work,
    F_is_work := fun_mk (st := s_is_work) l_is_work c_is_work k_is_work,
    g_middle := PySem.W.mg_of X G a_middle,
    F_middle := fun_mk (st := s_middle) l_middle c_middle k_middle,
    g_is_inside := PySem.W.mg_of X G a_is_inside,
    F_is_inside := fun_mk (st := s_is_inside) l_is_inside c_is_inside k_is_inside,
    g_shifted := PySem.W.mg_of X G a_shifted,
    F_shifted := fun_mk (st := s_shifted) l_shifted c_shifted k_shifted,
    g_check_works := PySem.W.mg_of X G a_check_works,
    F_check_works := fun_mk (st := s_check_works) l_check_works c_check_works k_check_works,
    g_thrown_over := PySem.W.mg_of X G a_thrown_over,
    F_thrown_over := fun_mk (st := s_thrown_over) l_thrown_over c_thrown_over k_thrown_over,
    g_blocks := PySem.W.mg_of X G a_blocks,
    F_blocks := fun_mk (st := s_blocks) l_blocks c_blocks k_blocks,
    g_joined_rows := PySem.W.mg_of X G a_joined_rows,
    F_joined_rows := fun_mk (st := s_joined_rows) l_joined_rows c_joined_rows k_joined_rows,
    g_ends_of_block := PySem.W.mg_of X G a_ends_of_block,
    F_ends_of_block := fun_mk (st := s_ends_of_block) l_ends_of_block c_ends_of_block k_ends_of_block,
    g_has_no_throw := PySem.W.mg_of X G a_has_no_throw,
    F_has_no_throw := fun_mk (st := s_has_no_throw) l_has_no_throw c_has_no_throw k_has_no_throw,
    g_shapes_of := PySem.W.mg_of X G a_shapes_of,
    F_shapes_of := fun_mk (st := s_shapes_of) l_shapes_of c_shapes_of k_shapes_of,
    g_row_of_shape := PySem.W.mg_of X G a_row_of_shape,
    F_row_of_shape := fun_mk (st := s_row_of_shape) l_row_of_shape c_row_of_shape k_row_of_shape,
    g_all_shapes := PySem.W.mg_of X G a_all_shapes,
    F_all_shapes := fun_mk (st := s_all_shapes) l_all_shapes c_all_shapes k_all_shapes,
    g_has_one_order := PySem.W.mg_of X G a_has_one_order,
    F_has_one_order := fun_mk (st := s_has_one_order) l_has_one_order c_has_one_order k_has_one_order,
    g_checked_shapes := PySem.W.mg_of X G a_checked_shapes,
    F_checked_shapes := fun_mk (st := s_checked_shapes) l_checked_shapes c_checked_shapes k_checked_shapes,
    g_many_of_block := PySem.W.mg_of X G a_many_of_block,
    F_many_of_block := fun_mk (st := s_many_of_block) l_many_of_block c_many_of_block k_many_of_block,
    g_many_of_all := PySem.W.mg_of X G a_many_of_all,
    F_many_of_all := fun_mk (st := s_many_of_all) l_many_of_all c_many_of_all k_many_of_all,
    g_one_order := PySem.W.mg_of X G a_one_order,
    F_one_order := fun_mk (st := s_one_order) l_one_order c_one_order k_one_order,
    g_welcome := PySem.W.mg_of X G a_welcome,
    F_welcome := fun_mk (st := s_welcome) l_welcome c_welcome k_welcome,
    g_l_source := PySem.W.mg_of X G a_l_source,
    F_l_source := fun_mk (st := s_l_source) l_l_source c_l_source k_l_source,
    g_l_draw := PySem.W.mg_of X G a_l_draw,
    F_l_draw := fun_mk (st := s_l_draw) l_l_draw c_l_draw k_l_draw,
    g_l_lies_within := PySem.W.mg_of X G a_l_lies_within,
    F_l_lies_within := fun_mk (st := s_l_lies_within) l_l_lies_within c_l_lies_within k_l_lies_within,
    g_l_is_thrown := PySem.W.mg_of X G a_l_is_thrown,
    F_l_is_thrown := fun_mk (st := s_l_is_thrown) l_l_is_thrown c_l_is_thrown k_l_is_thrown,
    g_l_rows := PySem.W.mg_of X G a_l_rows,
    F_l_rows := fun_mk (st := s_l_rows) l_l_rows c_l_rows k_l_rows,
    g_l_due := PySem.W.mg_of X G a_l_due,
    F_l_due := fun_mk (st := s_l_due) l_l_due c_l_due k_l_due,
    g_l_word := PySem.W.mg_of X G a_l_word,
    F_l_word := fun_mk (st := s_l_word) l_l_word c_l_word k_l_word,
    g_l_early_windows := PySem.W.mg_of X G a_l_early_windows,
    F_l_early_windows := fun_mk (st := s_l_early_windows) l_l_early_windows c_l_early_windows k_l_early_windows,
    g_law := PySem.W.mg_of X G a_law,
    F_law := fun_mk (st := s_law) l_law c_law k_law,
    c_LATEST_WELCOME := ⟨_, PySem.W.mg_of X G gc_LATEST_WELCOME⟩,
    c_MOST_HOUR := ⟨_, PySem.W.mg_of X G gc_MOST_HOUR⟩,
    c_MOST_OF_ONE_MIDDLE := ⟨_, PySem.W.mg_of X G gc_MOST_OF_ONE_MIDDLE⟩,
    c_MOST_WORKS := ⟨_, PySem.W.mg_of X G gc_MOST_WORKS⟩,
    c_MOST_WORKS_HERE := ⟨_, PySem.W.mg_of X G gc_MOST_WORKS_HERE⟩,
    n_all := PySem.W.mg_none_of X G z_all,
    n_bool := PySem.W.mg_none_of X G z_bool,
    n_enumerate := PySem.W.mg_none_of X G z_enumerate,
    n_int := PySem.W.mg_none_of X G z_int,
    n_isinstance := PySem.W.mg_none_of X G z_isinstance,
    n_len := PySem.W.mg_none_of X G z_len,
    n_list := PySem.W.mg_none_of X G z_list,
    n_max := PySem.W.mg_none_of X G z_max,
    n_min := PySem.W.mg_none_of X G z_min,
    n_range := PySem.W.mg_none_of X G z_range,
    n_repr := PySem.W.mg_none_of X G z_repr,
    n_sorted := PySem.W.mg_none_of X G z_sorted,
    n_sum := PySem.W.mg_none_of X G z_sum,
    n_tuple := PySem.W.mg_none_of X G z_tuple,
    m_factorial := PySem.W.mg_of X G mx_factorial,
    xf_TooMany := ⟨xg_TooMany, xk_TooMany, eC_TooMany, hC_TooMany⟩,
    nf_TooMany := nf_TooMany,
    mn_TooMany := PySem.W.exm_ref eC_NoNumber hC_NoNumber tC_NoNumber sq_TooMany }
  exact ⟨PySem.W.fnOf "law" "law" (defArgs s_law) (defBody s_law) (defScope s_law) .none kV_law dc_law pm_law an_law cd_law ct_law, fun s v => .of_eq rfl, fun base _ _ => ok_law T⟩
theorem walk {l : PySem.W.OpenLaw} {q : Program} {loose : List Str} {XP : (Str → Option Value) → Heap → Prop} {YP : World → Heap → Prop} {d : DefRec} {K : Params → PySem.W.Frag} (hn : l.most = some 63) (hdf : d.params.defaults = [])
    (hY : ∀ (w : World) (h : Heap), YP w h → (K w.params).In h)
    (F : ∀ (w : World) (mg : Str → Option Value) (fa : Addr) (h : Heap), (K w.params).In h → h.Ns mainGlobals mg → mg d.name = some (.ref fa) →
      ∃ fd : FuncData, (∀ (s : Shared) (u : Value), BindsTo s fd ⟨[u], []⟩ [("_law_script", u)]) ∧ ∀ base : Heap, (K w.params).In base → base.Ns mainGlobals mg → FnOkG l.prog w (K w.params) mg base CX0 11 fa fd ["_law_script"] (sp_law (K w.params) ⟨fun _ => 0, fun _ => 0⟩)) :
    PySem.W.WalkO q loose XP YP l.row.toRowW d [] (fun f vs => PySem.call f vs) :=
  L2.walk_ofG (n := 63) (k := 11) (x := "_law_script") (CX := fun _ => CX0) (sp := fun w => sp_law (K w.params) ⟨fun _ => 0, fun _ => 0⟩) hn (by decide) hdf ⟨rfl, by decide, by decide⟩ hY F (fun _ _ a ns hl _ hS => ⟨a, ns, rfl, hS, hl, fun _ => rfl⟩) fun _ _ _ _ _ z => z
end My
open PySem PySem.W PyProof.Rows
set_option maxRecDepth 100000 in
set_option maxHeartbeats 0 in
theorem PySem.Challenge.cw_bymiddles_k93_whole_windows_that_are_wel_holds : PySem.Challenge.rw_bymiddles_k93_whole_windows_that_are_wel.Holds := by
  w_on; o_law; k_head; (case hw => w_witness2)
  k_fill
  refine My.walk (l := PySem.Challenge.rw_bymiddles_k93_whole_windows_that_are_wel) rfl rfl (fun w h Y => PySem.W.kIn_of Y) ?F
  case F =>
    intro w mg fa h KX G hmg
    refine' My.all_mk KX G hmg ?aC_BadBook ?xL_BadBook ?sa_BadBook ?kC_BadBook ?eC_BadBook ?tC_BadBook ?hC_BadBook ?sC_BadBook ?aC_NoWork ?xL_NoWork ?sa_NoWork ?kC_NoWork ?eC_NoWork ?tC_NoWork ?hC_NoWork ?sC_NoWork ?aC_NoNumber ?xL_NoNumber ?sa_NoNumber ?kC_NoNumber ?eC_NoNumber ?tC_NoNumber ?hC_NoNumber ?sC_NoNumber ?aC_TooMany ?xL_TooMany ?sa_TooMany ?kC_TooMany ?eC_TooMany ?tC_TooMany ?hC_TooMany ?sC_TooMany ?aC_Book ?pg_Book ?hd_Book ?po_Book ?sa_Book ?mk_Book ?kc_Book ?na_windows ?a_BadBook_init ?t_BadBook_init ?l_BadBook_init ?c_BadBook_init ?k_BadBook_init ?a_NoWork_init ?t_NoWork_init ?l_NoWork_init ?c_NoWork_init ?k_NoWork_init ?a_NoNumber_init ?t_NoNumber_init ?l_NoNumber_init ?c_NoNumber_init ?k_NoNumber_init ?a_TooMany_init ?t_TooMany_init ?l_TooMany_init ?c_TooMany_init ?k_TooMany_init ?a_is_integer ?l_is_integer ?c_is_integer ?k_is_integer ?a_is_pair ?l_is_pair ?c_is_pair ?k_is_pair ?a_Book_init ?i_Book_init ?l_Book_init ?c_Book_init ?k_Book_init ?a_is_windows ?l_is_windows ?c_is_windows ?k_is_windows ?a_is_window ?l_is_window ?c_is_window ?k_is_window ?a_unbounded ?l_unbounded ?c_unbounded ?k_unbounded ?a_is_work ?l_is_work ?c_is_work ?k_is_work ?a_middle ?l_middle ?c_middle ?k_middle ?a_is_inside ?l_is_inside ?c_is_inside ?k_is_inside ?a_shifted ?l_shifted ?c_shifted ?k_shifted ?a_check_works ?l_check_works ?c_check_works ?k_check_works ?a_thrown_over ?l_thrown_over ?c_thrown_over ?k_thrown_over ?a_blocks ?l_blocks ?c_blocks ?k_blocks ?a_joined_rows ?l_joined_rows ?c_joined_rows ?k_joined_rows ?a_ends_of_block ?l_ends_of_block ?c_ends_of_block ?k_ends_of_block ?a_has_no_throw ?l_has_no_throw ?c_has_no_throw ?k_has_no_throw ?a_shapes_of ?l_shapes_of ?c_shapes_of ?k_shapes_of ?a_row_of_shape ?l_row_of_shape ?c_row_of_shape ?k_row_of_shape ?a_all_shapes ?l_all_shapes ?c_all_shapes ?k_all_shapes ?a_has_one_order ?l_has_one_order ?c_has_one_order ?k_has_one_order ?a_checked_shapes ?l_checked_shapes ?c_checked_shapes ?k_checked_shapes ?a_many_of_block ?l_many_of_block ?c_many_of_block ?k_many_of_block ?a_many_of_all ?l_many_of_all ?c_many_of_all ?k_many_of_all ?a_one_order ?l_one_order ?c_one_order ?k_one_order ?a_welcome ?l_welcome ?c_welcome ?k_welcome ?a_l_source ?l_l_source ?c_l_source ?k_l_source ?a_l_draw ?l_l_draw ?c_l_draw ?k_l_draw ?a_l_lies_within ?l_l_lies_within ?c_l_lies_within ?k_l_lies_within ?a_l_is_thrown ?l_l_is_thrown ?c_l_is_thrown ?k_l_is_thrown ?a_l_rows ?l_l_rows ?c_l_rows ?k_l_rows ?a_l_due ?l_l_due ?c_l_due ?k_l_due ?a_l_word ?l_l_word ?c_l_word ?k_l_word ?a_l_early_windows ?l_l_early_windows ?c_l_early_windows ?k_l_early_windows ?a_law ?l_law ?c_law ?k_law ?gc_LATEST_WELCOME ?gc_MOST_HOUR ?gc_MOST_OF_ONE_MIDDLE ?gc_MOST_WORKS ?gc_MOST_WORKS_HERE ?z_all ?z_bool ?z_enumerate ?z_int ?z_isinstance ?z_len ?z_list ?z_max ?z_min ?z_range ?z_repr ?z_sorted ?z_sum ?z_tuple ?mx_factorial ?xg_TooMany ?xk_TooMany ?nf_TooMany ?sq_TooMany
    (case aC_BadBook => k_is)
    (case xL_BadBook => k_is)
    (case sa_BadBook => k_is)
    (case kC_BadBook => k_is)
    (case eC_BadBook => k_is)
    (case tC_BadBook => k_is)
    (case hC_BadBook => k_is)
    (case sC_BadBook => first | rfl | k_is)
    (case aC_NoWork => k_is)
    (case xL_NoWork => k_is)
    (case sa_NoWork => k_is)
    (case kC_NoWork => k_is)
    (case eC_NoWork => k_is)
    (case tC_NoWork => k_is)
    (case hC_NoWork => k_is)
    (case sC_NoWork => first | rfl | k_is)
    (case aC_NoNumber => k_is)
    (case xL_NoNumber => k_is)
    (case sa_NoNumber => k_is)
    (case kC_NoNumber => k_is)
    (case eC_NoNumber => k_is)
    (case tC_NoNumber => k_is)
    (case hC_NoNumber => k_is)
    (case sC_NoNumber => first | rfl | k_is)
    (case aC_TooMany => k_is)
    (case xL_TooMany => k_is)
    (case sa_TooMany => k_is)
    (case kC_TooMany => k_is)
    (case eC_TooMany => k_is)
    (case tC_TooMany => k_is)
    (case hC_TooMany => k_is)
    (case sC_TooMany => first | rfl | k_is)
    (case aC_Book => k_is)
    (case pg_Book => k_is)
    (case hd_Book => k_is)
    (case po_Book => k_is)
    (case sa_Book => k_is)
    (case mk_Book => k_is)
    (case kc_Book => k_is)
    (case na_windows => k_is)
    (case a_BadBook_init => k_is)
    (case t_BadBook_init => k_is)
    (case l_BadBook_init => k_is)
    (case c_BadBook_init => k_is)
    (case k_BadBook_init => k_is)
    (case a_NoWork_init => k_is)
    (case t_NoWork_init => k_is)
    (case l_NoWork_init => k_is)
    (case c_NoWork_init => k_is)
    (case k_NoWork_init => k_is)
    (case a_NoNumber_init => k_is)
    (case t_NoNumber_init => k_is)
    (case l_NoNumber_init => k_is)
    (case c_NoNumber_init => k_is)
    (case k_NoNumber_init => k_is)
    (case a_TooMany_init => k_is)
    (case t_TooMany_init => k_is)
    (case l_TooMany_init => k_is)
    (case c_TooMany_init => k_is)
    (case k_TooMany_init => k_is)
    (case a_is_integer => k_is)
    (case l_is_integer => k_is)
    (case c_is_integer => k_is)
    (case k_is_integer => k_is)
    (case a_is_pair => k_is)
    (case l_is_pair => k_is)
    (case c_is_pair => k_is)
    (case k_is_pair => k_is)
    (case a_Book_init => k_is)
    (case i_Book_init => k_is)
    (case l_Book_init => k_is)
    (case c_Book_init => k_is)
    (case k_Book_init => k_is)
    (case a_is_windows => k_is)
    (case l_is_windows => k_is)
    (case c_is_windows => k_is)
    (case k_is_windows => k_is)
    (case a_is_window => k_is)
    (case l_is_window => k_is)
    (case c_is_window => k_is)
    (case k_is_window => k_is)
    (case a_unbounded => k_is)
    (case l_unbounded => k_is)
    (case c_unbounded => k_is)
    (case k_unbounded => k_is)
    (case a_is_work => k_is)
    (case l_is_work => k_is)
    (case c_is_work => k_is)
    (case k_is_work => k_is)
    (case a_middle => k_is)
    (case l_middle => k_is)
    (case c_middle => k_is)
    (case k_middle => k_is)
    (case a_is_inside => k_is)
    (case l_is_inside => k_is)
    (case c_is_inside => k_is)
    (case k_is_inside => k_is)
    (case a_shifted => k_is)
    (case l_shifted => k_is)
    (case c_shifted => k_is)
    (case k_shifted => k_is)
    (case a_check_works => k_is)
    (case l_check_works => k_is)
    (case c_check_works => k_is)
    (case k_check_works => k_is)
    (case a_thrown_over => k_is)
    (case l_thrown_over => k_is)
    (case c_thrown_over => k_is)
    (case k_thrown_over => k_is)
    (case a_blocks => k_is)
    (case l_blocks => k_is)
    (case c_blocks => k_is)
    (case k_blocks => k_is)
    (case a_joined_rows => k_is)
    (case l_joined_rows => k_is)
    (case c_joined_rows => k_is)
    (case k_joined_rows => k_is)
    (case a_ends_of_block => k_is)
    (case l_ends_of_block => k_is)
    (case c_ends_of_block => k_is)
    (case k_ends_of_block => k_is)
    (case a_has_no_throw => k_is)
    (case l_has_no_throw => k_is)
    (case c_has_no_throw => k_is)
    (case k_has_no_throw => k_is)
    (case a_shapes_of => k_is)
    (case l_shapes_of => k_is)
    (case c_shapes_of => k_is)
    (case k_shapes_of => k_is)
    (case a_row_of_shape => k_is)
    (case l_row_of_shape => k_is)
    (case c_row_of_shape => k_is)
    (case k_row_of_shape => k_is)
    (case a_all_shapes => k_is)
    (case l_all_shapes => k_is)
    (case c_all_shapes => k_is)
    (case k_all_shapes => k_is)
    (case a_has_one_order => k_is)
    (case l_has_one_order => k_is)
    (case c_has_one_order => k_is)
    (case k_has_one_order => k_is)
    (case a_checked_shapes => k_is)
    (case l_checked_shapes => k_is)
    (case c_checked_shapes => k_is)
    (case k_checked_shapes => k_is)
    (case a_many_of_block => k_is)
    (case l_many_of_block => k_is)
    (case c_many_of_block => k_is)
    (case k_many_of_block => k_is)
    (case a_many_of_all => k_is)
    (case l_many_of_all => k_is)
    (case c_many_of_all => k_is)
    (case k_many_of_all => k_is)
    (case a_one_order => k_is)
    (case l_one_order => k_is)
    (case c_one_order => k_is)
    (case k_one_order => k_is)
    (case a_welcome => k_is)
    (case l_welcome => k_is)
    (case c_welcome => k_is)
    (case k_welcome => k_is)
    (case a_l_source => k_is)
    (case l_l_source => k_is)
    (case c_l_source => k_is)
    (case k_l_source => k_is)
    (case a_l_draw => k_is)
    (case l_l_draw => k_is)
    (case c_l_draw => k_is)
    (case k_l_draw => k_is)
    (case a_l_lies_within => k_is)
    (case l_l_lies_within => k_is)
    (case c_l_lies_within => k_is)
    (case k_l_lies_within => k_is)
    (case a_l_is_thrown => k_is)
    (case l_l_is_thrown => k_is)
    (case c_l_is_thrown => k_is)
    (case k_l_is_thrown => k_is)
    (case a_l_rows => k_is)
    (case l_l_rows => k_is)
    (case c_l_rows => k_is)
    (case k_l_rows => k_is)
    (case a_l_due => k_is)
    (case l_l_due => k_is)
    (case c_l_due => k_is)
    (case k_l_due => k_is)
    (case a_l_word => k_is)
    (case l_l_word => k_is)
    (case c_l_word => k_is)
    (case k_l_word => k_is)
    (case a_l_early_windows => k_is)
    (case l_l_early_windows => k_is)
    (case c_l_early_windows => k_is)
    (case k_l_early_windows => k_is)
    (case a_law => k_is)
    (case l_law => k_is)
    (case c_law => k_is)
    (case k_law => k_is)
    (case gc_LATEST_WELCOME => k_is)
    (case gc_MOST_HOUR => k_is)
    (case gc_MOST_OF_ONE_MIDDLE => k_is)
    (case gc_MOST_WORKS => k_is)
    (case gc_MOST_WORKS_HERE => k_is)
    (case z_all => k_is)
    (case z_bool => k_is)
    (case z_enumerate => k_is)
    (case z_int => k_is)
    (case z_isinstance => k_is)
    (case z_len => k_is)
    (case z_list => k_is)
    (case z_max => k_is)
    (case z_min => k_is)
    (case z_range => k_is)
    (case z_repr => k_is)
    (case z_sorted => k_is)
    (case z_sum => k_is)
    (case z_tuple => k_is)
    (case mx_factorial => k_is)
    (case xg_TooMany => k_is)
    (case xk_TooMany => k_is)
    (case nf_TooMany => k_is)
    (case sq_TooMany => k_is)
