import PyProof.Rows.All
import Wide.All
import OpenK.AllK
import Wide.FinOn
import PyProof.EqAt
import PyProof.EqKinds
import PyProof.TupleCall
import KE.KFromBytes
import KE.KMinKey
import KE.GoesEnum
import KE.GoesMore
import HandS.Base
import HandS.Call
import HandS.List
import HandS.Comp
import HandS.Ends
import HandS.Dict
import HandS.Iter
import HandS.Text
import HandS.Exc
import HandS.TryOnly
import HandS.ExcOwn
import HandS.ExcInit
import HandS.ExcIs
import HandS.Walk
import HandS.Wide
import HandS.Set
import HandS.SetFor
import HandS.TupAny
import HandS.TupMul
import HandS.SortKw
import HandS.TupLe
import HandS.IsInst
import HandS.Words
import HandS.WordsList
import HandS.WordsDict
import HandS.WordsExc
import HandS.Evl
import HandS.Conv
import HandS.Sort
import HandS.SortInts
import HandS.Flow
import HandS.TryMany
import PyProof.ListMulRight
import PyProof.TupleOfSeq
import PySem.Challenge.RW_bymiddles_k05_whole_parts_joined_and_shi
set_option Elab.async false
set_option linter.all false
set_option maxRecDepth 100000
set_option maxHeartbeats 4000000

namespace L2
open PySem PySem.Spec PyProof.Rows
/-! sorted(t) of a tuple of whole numbers; k * t; isinstance of any caught own error -/
section
variable {X : Cx}
def rSortedTI (K : PySem.W.Frag) : List V → Hp → VK → Prop := fun vs H Q => ∃ (a : Addr) (ns : List Int), vs = [V.ref a] ∧ SqT K H a (ns.map V.int) ∧
  ∀ (ms : List Int) (p : Addr), ms.Perm ns → ms.Pairwise (· ≤ ·) → H p = none → Q (.ref p) (upd H p (.lst (ms.map V.int)))
theorem cr_sortedTI : CallR X (.builtin "sorted") (rSortedTI X.K) := by
  intro pins s σ H vs us Q I r h
  obtain ⟨a, ns, rfl, hs, q⟩ := h
  obtain ⟨its, rv, ⟨o, ho, hc, n, hd⟩, hz⟩ := I.tuple hs
  rw [Vals.ref1 r]
  have hi := rv.ints
  have hzz : its.length ≤ sizeLine := by rw [← rv.length] <;> exact hz
  refine Calls.call_function_entry PyProof.Rows.kind_sorted PyProof.Rows.plain_sorted PyProof.Rows.entry_sorted (PyProof.Rows.args_sorted1 _) ?_
  unfold Builtin.«sorted»
  refine wpAny_bind (m := checkCount "sorted" 1 1 _) (wpAny_pure ?_)
  refine wpAny_bind (wpAny_collect_seq a (.inr rfl) ho hc hd (fun h' hk => ?_) (by rw [List.size_toArray] <;> exact hzz))
  have eL : its.toArray.toList = its := by simp
  rw [eL]
  refine wpAny_bind (wpAny_newList ?_ hzz)
  have I1 : Inv X pins σ H { s with heap := h' } := I.kept (t' := s.toks) hk
  have atL : (h'.push (seqObj "list" its.toArray 0)).get? h'.objs.size = some (seqObj "list" its.toArray 0) := Heap.get?_push_size _ rfl
  show wpAny _ _ _ _ _ { s with heap := h'.push (seqObj "list" its.toArray 0) }
  refine wpAny_bind (wpAny_holding (wpAny_call_entry PyProof.Rows.slot_list_sort ⟨_, atL, rfl⟩ PyProof.Rows.entry_list_sort
    (SrtO.list_sort_ord (s := { s with heap := h'.push (seqObj "list" its.toArray 0) }) SrtO.swo_int atL hzz (fun h2 => SrtO.ints_sortable hi h2) fun out h1 h2 => ⟨_, rfl, ?_⟩) (PyProof.Rows.args_list_sort _)))
  obtain ⟨k1, k2, k3⟩ := SrtO.ints_out hi h1 h2
  obtain ⟨ep, he'⟩ := PyProof.Rows.sortedHeap_at (vs := its) (out := out.toArray) atL
  have hlen : ((out.map SrtO.iv).map V.int).length ≤ sizeLine := by
    rw [List.length_map, k2.length_eq]
    rw [List.length_map] at hz
    exact hz
  refine wpAny_pure ⟨_, rfl, .ref h'.objs.size, upd H h'.objs.size (.lst ((out.map SrtO.iv).map V.int)), I1.laid (t' := s.toks) (fun b u e => ?_) (Nat.le_refl _) ⟨hlen, out, ep, vals_of_ints k1, he'⟩, rfl, q _ _ k2 k3 (I1.hok.fresh (Nat.le_refl _))⟩
  have hb : b < h'.objs.size := Heap.lt_size e
  rw [PyProof.Rows.sortedHeap_old (Nat.ne_of_lt hb) (by rw [size_push'] <;> exact Nat.lt_succ_of_lt hb)]
  exact Heap.get?_push_of_some _ e
theorem int_mul_tuple (a : Int) (t : Tok) (l : Addr) (items : Array Value) (n : Nat) (dd : Option Addr) (sl : Array (Option Value)) :
    Meets (Builtin.«int.__mul__» ⟨[.int a t, .ref l], []⟩) (fun _ R s => s.heap.get? l = some { cls := .type "tuple", dict := dd, data := .seq items n, slots := sl } ∧ R (.ok (.ret Value.notImplemented)) s) :=
  .of_wp fun prog w A R s h => by
    obtain ⟨hp, g, d, tk, os⟩ := s
    obtain ⟨hl, h⟩ := h
    wp_walk using wpAny_loadPart' hl
    exact ⟨_, rfl, h⟩
def rRepL (K : PySem.W.Frag) : R2 := fun x y H Q => ∃ l k xs, y = .ref l ∧ x = .int k ∧ SqT K H l xs ∧ xs ≠ [] ∧ 2 ≤ k ∧ k ≤ 1000 ∧ xs.length ≤ 1000 ∧ ∀ p, H p = none → Q (.ref p) (upd H p (.tup (List.replicate k.toNat xs).flatten))
theorem op_repL : OpR X (binaryOp .Mult) (rRepL X.K) := by
  intro pins s σ H y x u v Q I ry rx h
  obtain ⟨l, k, xs, rfl, rfl, hT, hne, h1, h2, hz, q⟩ := h
  cases rx
  obtain ⟨t, rfl⟩ := ry
  obtain ⟨its, r, ⟨⟨cls, dd, data, sl⟩, ho, hc, n, hd⟩, hs⟩ := I.tuple hT
  simp only at hc hd
  subst hc hd
  have hle : its.length = xs.length := r.length.symm
  have hi : its.toArray.isEmpty = false := by
    cases its with
    | nil => exact absurd (List.eq_nil_of_length_eq_zero hle.symm) hne
    | cons a b => rfl
  have hsz : its.toArray.size = xs.length := by rw [List.size_toArray, hle]
  have flat : (List.replicate k.toNat its).flatten.length = k.toNat * xs.length := by rw [PyProof.Rows.lm_len_rep_flat, hle]
  have top : k.toNat * xs.length ≤ 1000 * 1000 := Nat.mul_le_mul (by omega) hz
  have hm : ((its.toArray.size : Nat) : Int) * k ≤ 1000000 := by
    rw [hsz]
    have a1 : ((xs.length : Nat) : Int) * k ≤ 1000 * k := Int.mul_le_mul_of_nonneg_right (by omega) (by omega)
    omega
  have c0 : (decide (k < -(2 ^ 63)) || decide (k ≥ 2 ^ 63)) = false := by
    rw [Bool.or_eq_false_iff, decide_eq_false_iff_not, decide_eq_false_iff_not]
    omega
  have c1 : (its.toArray.isEmpty || k == 1) = false := by
    rw [hi, Bool.false_or, beq_eq_false_iff_ne]
    omega
  have c2 : (decide (k ≤ 0) || its.toArray.isEmpty) = false := by
    rw [hi, Bool.or_false, decide_eq_false_iff_not]
    omega
  have c4 : Builtin.Tuple.tupleTooMany (((its.toArray.size : Nat) : Int) * k) = false := by
    unfold Builtin.Tuple.tupleTooMany
    rw [sizeLine_eq, decide_eq_false_iff_not]
    omega
  refine lm_binaryOp_repeat_right (T := "tuple") (U := "int") (by decide) (fun s' => typeIs_int s' k t) ⟨_, ho, rfl⟩ F.fills_int_mul noFill_tuple_mul F.slot_int_mul lm_noRepeat_int repeat_tuple F.slot_int_index.lookup
    (call_meets F.slot_int_mul (typeIs_int s k t) F.entry_int_mul (F.args_int_mul_2 _ _) (int_mul_tuple k t l its.toArray n dd sl) ⟨ho, rfl, ⟨_, ho, rfl⟩, ?_⟩)
  refine call_meets F.slot_tuple_mul ⟨_, ho, rfl⟩ F.entry_tuple_mul (F.args_tuple_mul_2 _ _) (tuple_mulW l its.toArray n dd sl k t c0 c1 c2 (by omega) c4 (by rw [size_rep, List.size_toArray, flat, sizeLine_eq] <;> omega)) ⟨ho, ?_⟩
  rw [size_rep]
  refine ⟨.ref s.heap.objs.size, _, I.laid (t' := s.toks) (o := .tup (List.replicate k.toNat xs).flatten) (fun b ob q => Heap.get?_push_of_some _ q) (Nat.le_refl _) ?_, rfl, q _ (I.hok.fresh (Nat.le_refl _))⟩
  exact ⟨by rw [PyProof.Rows.lm_len_rep_flat, sizeLine_eq] <;> omega, _, r.rep k.toNat, IsTup.new _ _⟩
/-- isinstance(e, c), e what the suite holds, of whichever own class -/
def rIsAny (K : PySem.W.Frag) (a : Addr) (cls : Value) (d : Option Addr) : List V → Hp → VK → Prop := fun xs H Q => ∃ (D : Addr) (c : V) (cv : Value) (b : Bool), cls = .ref D ∧ d = none ∧ ExcC K D ∧ xs = [.ref a, c] ∧ (∀ u, RelV c u → u = cv) ∧ PySem.W.kitOne K (.ref D) cv = some b ∧ Q (.bl b) H
theorem call_isAny {a : Addr} {oe : Obj} {cls : Value} {d : Option Addr} {pn : List (Addr × Obj)} (hz : Zc cls d oe) (hf : ∃ vs, oe.data = .fields vs) : CallR (X.suite a ((a, oe) :: pn)) (.builtin "isinstance") (rIsAny X.K a cls d) := by
  intro pins s σ H xs us Q I r h
  obtain ⟨D, c, cv, b, rfl, rfl, C, e, h1, h2, q⟩ := h
  exact call_isE C hz hf pins s σ H xs us Q I r ⟨c, cv, b, e, h1, h2, q⟩
end
theorem kit_own {K : PySem.W.Frag} {C D : Addr} {b : Bool} (h1 : PySem.W.hasDictIn K D = true) (h2 : PySem.W.typeIn K (.ref D) = some (.type "type")) (h3 : PySem.W.subIn K (.ref C) (.ref D) = some b) (h4 : PySem.W.subIn K (.ref C) (.ref C) = some true) : PySem.W.kitOne K (.ref C) (.ref D) = some b := by
  obtain ⟨cd, hc, _⟩ := PySem.W.any_some h1
  have e2 : ((PySem.W.clsIn K D).isSome && PySem.W.typeIn K (.ref D) == some (.type "type")) = true := by rw [hc, h2] <;> rfl
  show (if ((Value.ref C : Value) == .ref D) = true then some true else (if ((PySem.W.clsIn K D).isSome && PySem.W.typeIn K (.ref D) == some (.type "type")) = true then PySem.W.subIn K (.ref C) (.ref D) else none)) = some b
  by_cases e : C = D
  · subst e
    rw [if_pos (by simp), ← h4, h3]
  · rw [if_neg (by simp [e]), if_pos e2, h3]
/-! own == and != : whatever the own __eq__ answers -/
section
variable {X : Cx} {n : Nat}
theorem callTwo {CX : CXT} {f : Addr} {fd : FuncData} {ps : List Str} {sp : Sp} {E : XK} (F : FnOk X.prog X.w X.K X.mg X.base CX n f fd ps sp) (hb : Binds X.K fd ps []) (hx : Passes CX X E)
    {A : Around} {pins : List (Addr × Obj)} {s : Shared} {σ : St} {H : Hp} {a b : Addr} {Q : VK} (rm : Room n A) (fr : A.frames = X.A.frames) (I : Inv X pins σ H s) (hsp : sp [.ref a, .ref b] H Q E) :
    wpAny (model X.prog X.w) A (call (.ref f) [.ref a, .ref b]) (EP X pins σ Q) X.xe s := by
  have z := I.env0
  have z0 : Env0 X.prog X.w X.K X.mg X.base A X.stack s H :=
    ⟨by rw [fr] <;> exact z.frames, z.mod, z.bs, z.bsz, z.funs, z.frf, z.hok, z.bare⟩
  have two := F.len _ _ _ _ hsp
  have vs : Vals [V.ref a, V.ref b] [Value.ref a, Value.ref b] := .cons rfl (.cons rfl .nil)
  have bd := hb s [.ref a, .ref b] I.kIn (by simpa using two)
  refine wpAny_call (codeAny_mono (F.run A X.stack s H ⟨[.ref a, .ref b], []⟩ [.ref a, .ref b] [.ref a, .ref b] _ E rm z0 (by simpa using bd) vs hsp) fun r s' hq => ?_)
  cases r with
  | error er => exact hx pins σ H s er s' I hq
  | ok fl =>
    cases fl with
    | ret w => exact I.after hq
    | _ => exact False.elim hq
/-- two instances of the class at C, asked by the own __eq__ -/
def rOwnCmp (C : Addr) (sp : Sp) (E : XK) (neg : Bool) : R2 := fun x y H Q => ∃ a b dx dy fs gs, x = .ref a ∧ y = .ref b ∧ H a = some (.ins C dx fs) ∧ H b = some (.ins C dy gs) ∧
  sp [.ref a, .ref b] H (fun v H' => ∃ k : Bool, v = .bl k ∧ Q (.bl (k != neg)) H') E
theorem op_ownEq {CX : CXT} {C f : Addr} {fd : FuncData} {ps : List Str} {sp : Sp} {E : XK} (F : FnOk X.prog X.w X.K X.mg X.base CX n f fd ps sp) (hr : Room n X.A)
    (hs : PySem.W.findIn X.K (.ref C) "__eq__" = some (some (.ref f))) (hf : PySem.W.isFn X.K (.ref f) = true) (hb : Binds X.K fd ps []) (hx : Passes CX X E) : OpR X (compareOp .Eq) (rOwnCmp C sp E false) := by
  intro pins s σ H x y v u Q I rx ry hq
  obtain ⟨a, b, dx, dy, fs, gs, rfl, rfl, ha, hb', hsp⟩ := hq
  cases rx
  cases ry
  obtain ⟨_, J, _⟩ := ins_get I.hok ha
  obtain ⟨_, J', _⟩ := ins_get I.hok hb'
  obtain ⟨_, J, _⟩ := J.look
  obtain ⟨_, J', _⟩ := J'.look
  obtain ⟨m, hF⟩ := I.fr
  refine PySem.W.cmp_K (op := .Eq) (tb := .ref C) hr.units0 hF I.ok.mod.kin J J'.type (by simp [PySem.W.notFirst]) hs hf (wpAny_mono (callTwo F hb hx hr rfl I hsp) (fun r s' z => ?_) fun _ _ e => e)
  obtain ⟨z, H', I', rz, k, rfl, q⟩ := z
  cases rz
  refine ⟨.bl k, H', I', rfl, ?_⟩
  cases k <;> exact q
open PySem.W Builtin in
theorem ne_own {A : Around} {K : PySem.W.Frag} {a b C f : Addr} {oa ob : Obj} {da db : Option Obj} {prog : Program} {w : World} {E : Value → Shared → Prop} {s : Shared} {Q : Value → Shared → Prop} (hu : A.units < cLine) (hu1 : A.in1.units < cLine) (hK : K.In s.heap) (I : InstAt s.heap a oa C da) (J : InstAt s.heap b ob C db)
    (hs : findIn K (.ref C) "__eq__" = some (some (.ref f))) (hf : isFn K (.ref f) = true) (hn : findIn K (.ref C) "__ne__" = some (some (.builtin "object.__ne__"))) (hm : mroIn K C (.type "object") = some true)
    (h : wpAny (model prog w) A.in1 (call (.ref f) [.ref a, .ref b]) (fun v s' => ∃ k : Bool, v = .bool k ∧ Q (.bool (!k)) s') E s) : wpAny (model prog w) A (richCompare .NotEq (.ref a) (.ref b)) Q E s := by
  have body : wpAny (model prog w) A (call (.builtin "object.__ne__") [.ref a, .ref b]) (fun v s' => ∃ k : Bool, v = .bool k ∧ Q v s') E s := by
    refine wpAny_call (codeAny_call_builtin PySem.F.slot_object_ne.plain PySem.F.entry_object_ne (check_slot (i := "object.__ne__") (owner := "object") (n := "__ne__") (by decide +kernel) (by decide +kernel) (I.type.andThen (looks_mroIn hK hm)) (PySem.F.args_object_ne_2 _ _) ?_))
    unfold Builtin.«object.__ne__»
    refine wpAny_bind (m := slotArgs "__ne__" 1 _) (wpAny_pure ?_)
    refine wpAny_bind (m := cRoomFor _ _) (wpAny_cRoomFor hu1 ?_)
    refine wpAny_bind (m := callSpecialIfBound? (.ref a) (Str.ofString "__eq__") _) (ifBound_K hK I hs hf (wpAny_mono h (fun v s' hv => ?_) fun _ _ y => y))
    obtain ⟨k, rfl, q⟩ := hv
    refine wpAny_bind (m := truthy _) (wpAny_truthy_bool ?_)
    exact wpAny_pure ⟨!k, rfl, q⟩
  have one : wpAny (model prog w) A (tryCompare (.ref a) "__ne__" (.ref b)) (fun r s' => ∃ v, r = some v ∧ Q v s') E s := by
    unfold tryCompare
    refine wpAny_bind ?_
    simp only [callSpecialIfBound?, bindSpecialIfBound?]
    refine wpAny_holding (wpAny_bind (wpAny_bind (wpAny_bind (I.type.here ((looks_findIn hK hn).here ?_)))))
    simp only [PySem.F.slot_object_ne.bind]
    refine wpAny_bind (wpAny_askSetting (wpAny_ite ?_))
    have fin : wpAny (model prog w) A (call (.builtin "object.__ne__") ([.ref a] ++ [.ref b]) >>= fun v => pure (some v)) (fun r s' => wpAny (model prog w) A (match r with | some Value.notImplemented => pure none | none => pure none | some v => pure (some v)) (fun r s' => ∃ v, r = some v ∧ Q v s') E s') E s := by
      refine wpAny_bind (wpAny_mono body (fun v s' hv => ?_) fun _ _ y => y)
      obtain ⟨k, rfl, q⟩ := hv
      exact wpAny_pure (wpAny_pure ⟨_, rfl, q⟩)
    split
    · exact wpAny_bind (wpAny_pure (wpAny_pure fin))
    · exact wpAny_tryCatch (wpAny_bind (wpAny_pure (wpAny_pure fin)))
  unfold richCompare
  simp only [oneThing_ref]
  refine wpAny_holding (wpAny_bind (wpAny_cRoomFor hu ?_))
  refine wpAny_bind (I.type.here (wpAny_bind (J.type.here ?_)))
  split
  · rename_i q
    simp at q
  · refine wpAny_bind (wpAny_pure ?_)
    simp only [Bool.false_eq_true, if_false]
    refine wpAny_bind (wpAny_mono one (fun r s' z => ?_) fun _ _ e => e)
    obtain ⟨v, rfl, hq⟩ := z
    exact wpAny_pure hq
theorem op_ownNe {CX : CXT} {C f : Addr} {fd : FuncData} {ps : List Str} {sp : Sp} {E : XK} (F : FnOk X.prog X.w X.K X.mg X.base CX n f fd ps sp) (hr : Room (n + 1) X.A)
    (hs : PySem.W.findIn X.K (.ref C) "__eq__" = some (some (.ref f))) (hf : PySem.W.isFn X.K (.ref f) = true) (hb : Binds X.K fd ps []) (hx : Passes CX X E)
    (hn : PySem.W.findIn X.K (.ref C) "__ne__" = some (some (.builtin "object.__ne__"))) (hm : PySem.W.mroIn X.K C (.type "object") = some true) : OpR X (compareOp .NotEq) (rOwnCmp C sp E true) := by
  intro pins s σ H x y v u Q I rx ry hq
  obtain ⟨a, b, dx, dy, fs, gs, rfl, rfl, ha, hb', hsp⟩ := hq
  cases rx
  cases ry
  obtain ⟨_, J, _⟩ := ins_get I.hok ha
  obtain ⟨_, J', _⟩ := ins_get I.hok hb'
  obtain ⟨_, J, _⟩ := J.look
  obtain ⟨_, J', _⟩ := J'.look
  refine ne_own hr.units0 hr.in1.units0 I.kIn J J' hs hf hn hm (wpAny_mono (callTwo F hb hx hr.in1 rfl I hsp) (fun r s' z => ?_) fun _ _ e => e)
  obtain ⟨z, H', I', rz, k, rfl, q⟩ := z
  cases rz
  refine ⟨k, rfl, .bl (!k), H', I', rfl, ?_⟩
  cases k <;> exact q
end
/-! t[::-1] of a tuple -/
theorem fmSame {α β : Type} {f g : α → Option β} : ∀ {l : List α}, (∀ m ∈ l, f m = g m) → l.filterMap f = l.filterMap g
  | [], _ => rfl
  | a :: r, h => by
    rw [List.filterMap_cons, List.filterMap_cons, h a (List.mem_cons_self ..), fmSame fun m hm => h m (List.mem_cons_of_mem _ hm)]
theorem turnAll {α : Type} : ∀ ys : List α, (List.range ys.length).filterMap (fun m => ys[m]?) = ys
  | [] => rfl
  | y :: r => by
    rw [List.length_cons, List.range_succ_eq_map, List.filterMap_cons]
    show y :: _ = _
    rw [List.filterMap_map]
    exact congrArg (y :: ·) (turnAll r)
theorem turnAdjust (n : Nat) : Builtin.Slice.sliceAdjust none none (-1) (n : Int) = ((n : Int) - 1, -1) := by
  unfold Builtin.Slice.sliceAdjust
  simp
theorem turnPlaces (n : Nat) : Builtin.Slice.slicePlaces ((n : Int) - 1) (-1) (-1) = n := by
  unfold Builtin.Slice.slicePlaces
  rw [if_neg (by decide)]
  by_cases h : (n : Int) - 1 > -1
  · rw [if_pos h, show (-(-1) : Int) = 1 by decide, Int.ediv_one]
    omega
  · rw [if_neg h]
    omega
theorem turnPick (xs : Array Value) : ((List.range xs.size).filterMap fun (m : Nat) => xs[(((xs.size : Int) - 1) + (m : Int) * (-1)).toNat]?).toArray = xs.toList.reverse.toArray := by
  have g : ∀ m ∈ List.range xs.size, xs[(((xs.size : Int) - 1) + (m : Int) * (-1)).toNat]? = xs.toList.reverse[m]? := by
    intro m hm
    have hm' : m < xs.toList.length := by simpa using hm
    rw [List.getElem?_reverse hm']
    have e : ((((xs.size : Int) - 1) + (m : Int) * (-1)).toNat) = xs.toList.length - 1 - m := by
      rw [Array.length_toList]
      omega
    rw [e]
    simp
  have e : xs.size = xs.toList.reverse.length := by simp
  rw [fmSame g, e, turnAll]
section
variable {prog : Program} {w : World} {A : Around} {E : Value → Shared → Prop} {s : Shared}
theorem getItem_turn {t sl : Addr} {items : Array Value} {u : Tok} {Q : Value → Shared → Prop} (ht : IsTup s.heap t items) (hs : s.heap.IsSliceOf sl .none .none (.int (-1) u))
    (h : Q (.ref s.heap.objs.size) { s with heap := s.heap.push { cls := .type "tuple", data := .seq items.toList.reverse.toArray } }) (hz : items.size ≤ sizeLine) : wpAny (model prog w) A (getItem (.ref t) (.ref sl)) Q E s := by
  have room : sizeOk (.seq items.toList.reverse.toArray) := by
    show items.toList.reverse.toArray.size ≤ sizeLine
    simpa using hz
  obtain ⟨os, hos, hcs, hds⟩ := id hs
  have isl : s.TypeIs (.ref sl) "slice" := ⟨os, hos, hcs⟩
  unfold getItem
  try with_reducible refine wpAny_holding ?_
  first | refine wpAny_bind (wpAny_pure ?_) | skip
  refine wpAny_bind (wpAny_sequenceKey ht.typeIs (by decide) ?_)
  refine wpAny_bind (wpAny_callSpecial?_slot (name := Str.ofString "__getitem__") ht.typeIs slot_tuple_getitem (wpAny_call_entry slot_tuple_getitem ht.typeIs entry_tuple_getitem ?_ (args_tuple_getitem _ _)))
  show wpAny _ _ (Builtin.Tuple.tupleItemsOf (.ref t) >>= _) _ _ s
  refine wpAny_bind (tupleItemsOf_ ht ?_)
  refine wpAny_bind (wpAny_typeOf isl ?_)
  rw [if_pos (by decide)]
  have app : ∀ {R : Int × Int × Nat → Shared → Prop}, R (((items.size : Nat) : Int) - 1, -1, items.size) s → wpAny (model prog w) (A.in1) (Builtin.Slice.sliceApplied (.ref sl) (pure ((items.size : Nat) : Int))) R E s := by
    intro R hR
    unfold Builtin.Slice.sliceApplied Builtin.Slice.sliceFields
    refine wpAny_bind (wpAny_bind (wpAny_field hos hds (x := .none) rfl (wpAny_bind (wpAny_field hos hds (x := .none) rfl (wpAny_bind (wpAny_field hos hds (x := .int (-1) u) rfl (wpAny_pure ?_)))))))
    refine wpAny_bind (slicePart_int ?_)
    show wpAny _ _ (if ((-1 : Int) == 0) = true then _ else _) _ _ s
    rw [if_neg (by decide)]
    refine wpAny_bind (slicePart_none (wpAny_bind (slicePart_none (wpAny_bind (wpAny_pure ?_)))))
    show wpAny _ _ (match Builtin.Slice.sliceAdjust none none (-1) ((items.size : Nat) : Int) with | (lo, hi) => pure (lo, (-1 : Int), Builtin.Slice.slicePlaces lo hi (-1))) _ _ s
    rw [turnAdjust]
    show wpAny _ _ (pure (((items.size : Nat) : Int) - 1, (-1 : Int), Builtin.Slice.slicePlaces (((items.size : Nat) : Int) - 1) (-1) (-1))) _ _ s
    rw [turnPlaces]
    exact wpAny_pure hR
  refine wpAny_bind (app ?_)
  have hno : ¬ (((((items.size : Nat) : Int) - 1) == 0 && (-1 : Int) == 1 && items.size == items.size) = true) := by simp
  show wpAny _ _ (if ((((items.size : Nat) : Int) - 1) == 0 && (-1 : Int) == 1 && items.size == items.size) = true then _ else _) _ _ s
  rw [if_neg hno, turnPick]
  first
    | exact wpAny_bind (m := Builtin.Tuple.tupleExact _) (wpAny_newObj_type (wpAny_pure ⟨_, rfl, wpAny_pure h⟩) room)
    | exact wpAny_bind (m := Builtin.Tuple.tupleExact _) (wpAny_newObj_type (wpAny_bind (wpAny_pure (wpAny_pure ⟨_, rfl, wpAny_pure h⟩))) room)
    | exact wpAny_bind (wpAny_bind (m := Builtin.Tuple.tupleExact _) (wpAny_newObj_type (wpAny_pure (wpAny_pure ⟨_, rfl, wpAny_pure h⟩)) room))
    | exact wpAny_bind (wpAny_bind (m := Builtin.Tuple.tupleExact _) (wpAny_newObj_type (wpAny_pure ⟨_, rfl, wpAny_pure h⟩) room))
end
section
variable {X : Cx} {e ee : Expr} {te : TE} {tk : TO} {pos p2 : Pos}
theorem turn_read {pins : List (Addr × Obj)} {s : Shared} {σ : St} {H : Hp} {a sl : Addr} {xs : List V} {u : Tok} {Q : VK} (I : Inv X pins σ H s) (hs : s.heap.IsSliceOf sl .none .none (.int (-1) u)) (hx : SqT X.K H a xs) (q : ∀ p, H p = none → Q (.ref p) (upd H p (.tup xs.reverse))) :
    s.TypeIs (.ref a) "tuple" ∧ wpAny (model X.prog X.w) X.A (getItem (.ref a) (.ref sl)) (EP X pins σ Q) X.xe s := by
  obtain ⟨its, r, ht, hz⟩ := I.tuple hx
  have hlen : its.toArray.size = xs.length := by rw [List.size_toArray] <;> exact r.length.symm
  refine ⟨ht.typeIs, getItem_turn ht hs ?_ (by rw [hlen] <;> exact hz)⟩
  refine ⟨.ref s.heap.objs.size, _, I.laid (t' := s.toks) (o := .tup xs.reverse) (fun b ob z => Heap.get?_push_of_some _ z) (Nat.le_refl _) ?_, rfl, q _ (I.hok.fresh (Nat.le_refl _))⟩
  exact ⟨by rw [List.length_reverse] <;> exact hz, _, r.reverse, IsTup.new _ _⟩
def tTurn (K : PySem.W.Frag) (te : TE) (tk : TO) : TE := fun σ H Q => te σ H fun x H1 => tk σ H1 fun k H2 => k = some (-1) ∧ ∃ a xs, x = .ref a ∧ SqT K H2 a xs ∧ ∀ p, H2 p = none → Q (.ref p) (upd H2 p (.tup xs.reverse))
theorem pe_turn (he : PE X e te) (hk : PO X (some ee) tk) : PE X (.Subscript e (.Slice none none (some ee) p2) pos) (tTurn X.K te tk) := by
  refine ⟨fun pins s σ H Q I h => Subscript_ (thn (he.run pins s σ H _ I h) fun v s1 ⟨x, H1, I1, r1, q1⟩ => ?_)⟩
  refine wpAny_Slice ?_
  rw [evalPart_none]
  refine wpAny_pure ?_
  refine wpAny_pure (thn (hk.run pins s1 σ H1 _ I1 q1) fun vk s3 ⟨k, H2, I3, pk, q2⟩ => ?_)
  obtain ⟨rfl, a, xs, rfl, hx, q⟩ := q2
  cases r1
  cases pk with
  | int i u =>
    have I4 : Inv X pins σ H2 { s3 with heap := s3.heap.push { cls := .type "slice", data := .fields #[.none, .none, .int (-1) u] } } := I3.kept (t' := s3.toks) fun b ob z => Heap.get?_push_of_some _ z
    obtain ⟨hT, hg⟩ := turn_read I4 (Heap.IsSliceOf.new ..) hx q
    exact tail_any (ops := [.ref a, .ref s3.heap.objs.size]) hT slot_tuple_getitem.lookup hg (by with_unfolding_all rfl)
end
/-! ### raise X(), X an own error with an __init__(self) that passes -/
def tMkO0 (C : Addr) : St → Hp → XK → Prop := fun _ H Q => Q (.ref C) none H
def sp_pass : Sp := fun vs H Q _ => ∃ a, vs = [.ref a] ∧ Q .non H
section
variable {X : Cx}
theorem mk_end00 {pins : List (Addr × Obj)} {σ : L2.St} {H1 : Hp} {hp hp2 h2 : Heap} {g1 g2 : Array GenState} {d1 d2 : Drawn} {t1 t2 : Nat} {os1 os2 : OsState} {a C : Addr} (I1 : Inv X pins σ H1 ⟨hp, g1, d1, t1, os1⟩)
    (ha : hp.objs.size ≤ a) (k : ∀ b o, hp.get? b = some o → hp2.get? b = some o) (un : Un (frs X.stack) [] (upd H1 a (exo a C none)) (upd H1 a (exo a C none)) hp2 h2) (hok : HOk X.prog X.w (upd H1 a (exo a C none)) h2) (ho : os2 = os1) (hb : AllBare g2) :
    ∃ (t0 : Addr) (G : Heap), Inv X pins σ H1 ⟨G, g2, d2, t2, os2⟩ ∧ (∀ b o, G.get? b = some o → h2.get? b = some o) ∧ G.get? a = none ∧
      h2.get? a = some ({ cls := .ref C, dict := none, data := .fields #[.ref t0, .none, .none, .none, .bool false, .none] } : Obj) := by
  have ea : (upd H1 a (exo a C none)) a = some (exo a C none) := upd_same
  obtain ⟨t0, hoe⟩ := exo_at hok ea
  have hn : H1 a = none := I1.hok.fresh ha
  obtain ⟨G, g1', g2'⟩ := restrict h2 fun b => decide (b ≠ a)
  have gk : ∀ b, b ≠ a → G.get? b = h2.get? b := fun b hb => g1' b (decide_eq_true hb)
  have ge : G.get? a = none := g2' a (by simp)
  have nha : ∀ {b : Addr} {o : Obj}, hp.get? b = some o → b ≠ a := fun {b o} z => Nat.ne_of_lt (Nat.lt_of_lt_of_le (Heap.lt_size z) ha)
  have up : ∀ {b : Addr}, b ≠ a → H1 b = none → upd H1 a (exo a C none) b = none := fun {b} hb n => by rw [upd_ne hb]; exact n
  have U : Un (frs X.stack) [] H1 H1 hp G := {
    keep := fun b o z n hf hx => by
      rw [gk b (nha z)]
      exact un.keep b o (k b o z) (up (nha z) n) hf hx
    slot := fun b o z n hf hx => by
      rw [gk b (nha z)]
      exact un.slot b o (k b o z) (up (nha z) n) hf hx
    free := fun b o z n hx => n
    there := fun b o z hx => by
      rw [gk b (nha z)]
      exact un.there b o (k b o z) hx
    tups := fun b xs z => z
    frzs := fun b o v z => z
    tbls := fun b ps z => ⟨#[], by simpa using z⟩ }
  have hok3 : HOk X.prog X.w H1 G := fun b o z => by
    have hba : b ≠ a := fun e => by
      rw [e, hn] at z
      cases z
    have z' : (upd H1 a (exo a C none)) b = some o := by rw [upd_ne hba]; exact z
    have noa : ∀ {c : Addr}, (upd H1 a (exo a C none)) c = some (.own b) → c ≠ a := fun {c} hc => at_ne ea hc exo_own
    exact (hok b o z').stay (fun c v hc y => by
        have hca : c ≠ a := by
          rcases hc with hc | hc
          · rw [hc]
            exact hba
          · exact noa hc
        rw [gk c hca]
        exact y)
      (fun c hc => by have q := hc; rw [upd_ne (noa hc)] at q; exact q) (fun c xs hc => by have q := hc; rw [upd_ne (at_ne ea hc exo_tup)] at q; exact q)
  have J : Inv X pins σ H1 ⟨G, g2, d2, t2, os2⟩ := I1.call' (ch := []) ho U hok3 hb (fun b z => absurd z (by simp))
  refine ⟨t0, G, J, fun b o z => ?_, ge, hoe⟩
  by_cases hba : b = a
  · rw [hba, ge] at z
    cases z
  · exact (gk b hba).symm.trans z
theorem pmk_oex0 {p pos : Pos} {CX : CXT} {x : Str} {C fI : Addr} {k : Nat} {fd : FuncData} {ps : List Str} (T : OexC X.K C) (iC : PySem.W.findIn X.K (.ref C) "__init__" = some (some (.ref fI))) (tI : PySem.W.typeIn X.K (.ref fI) = some (.type "function"))
    (F1 : FnOk X.prog X.w X.K X.mg X.base CX k fI fd ps sp_pass) (hr : Room (k + 1) X.A) (hb : Binds X.K fd ps []) (hx : Passes CX X (fun _ _ _ => False)) (hg : Gl X x) (hm : X.mg x = some (.ref C))
    (hdb : (x == ("__debug__" : Str)) = false := by decide) :
    PMk X (.Call (.Name x p) [] [] pos) (tMkO0 C) := by
  intro pins s σ H Q I h
  obtain ⟨nm, q, N, bs, bm, sn, sub, ab, col, dd, k0, k1, k2, k3, k5, hC, hbm⟩ := T.cls
  refine wpAny_Call_Name_kw (ld_glob I hg hm ?_ hdb)
  refine PySem.W.callWith_K0 I.kIn T.kC ?_
  show wpAny _ _ (call (.ref C) []) _ _ _
  obtain ⟨hp, g, dr, tk, os⟩ := s
  have hsz : hp.objs.size ≤ hp.objs.size + 1 := Nat.le_succ _
  have hn : H (hp.objs.size + 1) = none := I.hok.fresh hsz
  have kk : ∀ b o, hp.get? b = some o → ((hp.push (PySem.W.kdv_tup [])).push (PySem.HandSPX.excO C hp.objs.size)).get? b = some o := fun b o e => Heap.get?_push_of_some _ (Heap.get?_push_of_some _ e)
  have hget : ((hp.push (PySem.W.kdv_tup [])).push (PySem.HandSPX.excO C hp.objs.size)).get? (hp.objs.size + 1) = some (PySem.HandSPX.excO C hp.objs.size) := by heap_get
  have I2 : Inv X pins σ (upd H (hp.objs.size + 1) (exo (hp.objs.size + 1) C none)) ⟨(hp.push (PySem.W.kdv_tup [])).push (PySem.HandSPX.excO C hp.objs.size), g, dr, tk, os⟩ :=
    I.laid (t' := tk) (a := hp.objs.size + 1) (o := exo (hp.objs.size + 1) C none) (h' := (hp.push (PySem.W.kdv_tup [])).push (PySem.HandSPX.excO C hp.objs.size)) kk hsz (exo_ok hget)
  have r2 : Vals [V.ref (hp.objs.size + 1)] [Value.ref (hp.objs.size + 1)] := .cons rfl .nil
  have hq : sp_pass [V.ref (hp.objs.size + 1)] (upd H (hp.objs.size + 1) (exo (hp.objs.size + 1) C none)) (fun v H2 => v = .non ∧ H2 = upd H (hp.objs.size + 1) (exo (hp.objs.size + 1) C none)) (fun _ _ _ => False) := ⟨_, rfl, rfl, rfl⟩
  have hl : [Value.ref (hp.objs.size + 1)].length = ps.length := by
    have e := r2.length
    rw [F1.len _ _ _ _ hq] at e
    exact e.symm
  refine wpAny_call (PySem.HandSPX.call_own F.excBase_ValueError (fun Y => PySem.HandSPX.refsVE_contains Y bm hbm) (I.kIn _ _ hC) (PySem.W.looks_findIn I.kIn iC) (fun self => PySem.W.bind_fn I.kIn self tI) (by rw [sizeLine_eq]; exact Nat.zero_le _)
    (codeAny_mono (F1.run _ X.stack _ _ ⟨[Value.ref (hp.objs.size + 1)], []⟩ [Value.ref (hp.objs.size + 1)] _ _ (fun _ _ _ => False) (hr.make C [] []) (I2.env0.make C [] []) (hb _ [Value.ref (hp.objs.size + 1)] I2.kIn hl) r2 hq) fun r s' hq' => ?_))
  cases r with
  | error er => exact hx pins σ _ _ er s' I2 hq'
  | ok fl =>
    cases fl with
    | ret u =>
      obtain ⟨v, H2, os2, bare2, un2, hok2, rv, ev, eH⟩ := hq'
      subst ev
      subst eH
      obtain ⟨h2, g2, d2, t2, os'⟩ := s'
      obtain ⟨t0, G, J, kG, ge, hoe⟩ := mk_end00 (d2 := d2) (t2 := t2) I hsz kk un2 hok2 os2 bare2
      exact ⟨rv, hp.objs.size + 1, _, _, ⟨G, g2, d2, t2, os'⟩, _, .ref C, none, rfl, J, kG, ge, hoe, ⟨rfl, rfl⟩, rfl, rfl, hn, rfl, bare2, raises_own T.exC T.tyC, h⟩
    | next => exact False.elim hq'
    | brk => exact False.elim hq'
    | cont => exact False.elim hq'
end
/-! ### enumerate over a tuple -/
abbrev enO (it : Addr) : Obj := { cls := .type "enumerate", data := .fields #[.none, .bool false, .ref it, rawInt 0, .none, .none] }
set_option maxHeartbeats 1000000 in
theorem en_new {v : Value} {o : Obj} {Hd : Heap → Prop} (B : Begins v o Hd) :
    Meets (Builtin.«enumerate.__new__» ⟨[.type "enumerate", v], []⟩) (fun _ R s => Hd s.heap ∧ R (.ok (.ret (.ref (s.heap.push o).objs.size))) { s with heap := (s.heap.push o).push (enO s.heap.objs.size) }) := .of_wp fun prog w A R s h => by
  obtain ⟨hp, g, d, tk, os⟩ := s
  obtain ⟨h1, h2⟩ := h
  have su := sub_enumerate
  have go : ∀ {A' : Around} {E : Value → Shared → Prop} {Q : Value → Shared → Prop}, Q (.ref hp.objs.size) ⟨hp.push o, g, d, tk, os⟩ → wpAny (model prog w) A' (pyIter v) Q E ⟨hp, g, d, tk, os⟩ := fun q => B.iter prog w _ _ ⟨hp, g, d, tk, os⟩ _ h1 q
  wp_walk using go
  refine wpAny_stack_any fun st => wpAny_pure ?_
  split
  · rename_i c _ _ _ _ _
    cases (c == Value.type "enumerate") <;> (wp_walk using go; exact ⟨_, rfl, h2⟩)
  · wp_walk using go
    exact ⟨_, rfl, h2⟩
theorem en_call {prog : Program} {w : World} {A : Around} {E : Value → Shared → Prop} {s : Shared} {v : Value} {o : Obj} {Hd : Heap → Prop} {Q : Value → Shared → Prop} (B : Begins v o Hd) (h1 : Hd s.heap)
    (k : ∀ h', IsEnum h' (s.heap.objs.size + 1) s.heap.objs.size 0 .none → h'.get? s.heap.objs.size = some o → (∀ b u, s.heap.get? b = some u → h'.get? b = some u) → Q (.ref (s.heap.objs.size + 1)) { s with heap := h' }) :
    wpAny (model prog w) A (call (.type "enumerate") [v]) Q E s := by
  refine callType_new F.called_enumerate (by decide) (F.typeCall_enumerate_1 _) (F.newCall_enumerate_1 _) (fun obj => F.args_object_init_2 obj _) F.entry_enumerate_new (en_new B) ⟨h1, ?_⟩
  have z : (s.heap.push o).objs.size = s.heap.objs.size + 1 := Heap.size_push ..
  show _ ∧ _
  rw [z]
  have he : IsEnum ((s.heap.push o).push (enO s.heap.objs.size)) (s.heap.objs.size + 1) s.heap.objs.size 0 .none := by
    have y := Heap.get?_push_size (s.heap.push o) (o := enO s.heap.objs.size) rfl
    rw [z] at y
    exact y
  exact ⟨⟨_, he, rfl⟩, k _ he (Heap.get?_push_of_some _ (Heap.get?_push_size _ B.free)) fun b u x => Heap.get?_push_of_some _ (Heap.get?_push_of_some _ x)⟩
/-- the tuple at a, each item in a new pair behind its place -/
def Iet (K : PySem.W.Frag) (a : Addr) : It :=
  ⟨fun i H => ∃ (xs : List V) (x : V), SqT K H a xs ∧ xs[i]? = some x, fun i H v H' => ∃ T x, v = .ref T ∧ H T = none ∧ H' = upd H T (.tup [.int (i : Nat), x]) ∧ ∀ xs, SqT K H a xs → xs[i]? = some x, fun i H => ∃ xs : List V, SqT K H a xs ∧ xs.length ≤ i⟩
theorem tup_apart {h : Heap} {it a e : Addr} {i : Nat} {z : Int} {old : Value} {its : Array Value} (he : IsEnum h e it z old) (hi : h.IsTupleIter it a i) (hp : IsTup h a its) : a ≠ it ∧ e ≠ a := by
  obtain ⟨o, ho, hc, _⟩ := hi
  obtain ⟨u, hu, hv, _⟩ := hp
  constructor
  · intro y
    rw [y, ho] at hu
    cases hu
    rw [hc] at hv
    simp at hv
  · intro y
    have he' : h.get? e = some { cls := .type "enumerate", dict := none, data := .fields #[.none, .bool false, .ref it, rawInt z, .none, old], slots := #[] } := he
    rw [y, hu] at he'
    cases he'
    simp at hv
theorem en_end {prog : Program} {w : World} {A : Around} {E : Value → Shared → Prop} {s : Shared} {e it l : Addr} {i : Nat} {items : Array Value} {old : Value} {Q : Option Value → Shared → Prop} (hh : A.handled = none) (he : IsEnum s.heap e it i old) (hit : s.heap.IsTupleIter it l i) (hl : s.heap.IsTuple l items) (hx : items[i]? = none)
    (k : ∀ h', Heap.ExtBut it s.heap h' → Q none { s with heap := h' }) : wpAny (model prog w) A (pyNext (.ref e)) Q E s := by
  have ty : s.TypeIs (.ref e) "enumerate" := ⟨_, he, rfl⟩
  unfold pyNext
  refine wpAny_bind (wpAny_attempt (wpAny_callSpecial?_slot (name := Str.ofString "__next__") ty F.slot_enumerate_next (wpAny_call_entry F.slot_enumerate_next ty F.entry_enumerate_next ?_ (F.args_enumerate_next_1 _))))
  show wpAny _ _ (field (.ref e) 2 >>= _) _ _ _
  refine wpAny_bind (wpAny_field he rfl (x := .ref it) rfl (wpAny_bind (wpAny_nextOf_tuple_end hh hit hl hx fun h' x a b => ?_)))
  obtain ⟨o, ho, hc⟩ := b
  exact wpAny_bind (wpAny_isInstance (T := "StopIteration") (b := true) ⟨o, ho, hc⟩ isSubtype_stop (wpAny_pure (k _ a)))
theorem turn_enT {P : Program} {w : World} {K : PySem.W.Frag} {elts : List Expr} {kk : Nat} {tpos : Pos} (a e it : Addr) :
    Turn P w K (.Tuple elts kk tpos) (Iet K a) [e, it] e (fun i h => (∃ old, IsEnum h e it ((i : Nat) : Int) old) ∧ h.IsTupleIter it a i ∧ e ≠ it) where
  mem := by simp
  obj := fun i h st b hb => by
    obtain ⟨⟨old, he⟩, ⟨o, ho, hc, hd⟩, _⟩ := st
    rcases (show b = e ∨ b = it by simpa using hb) with z | z
    · rw [z]
      exact ⟨_, he, fun v q => nomatch q⟩
    · rw [z]
      exact ⟨o, ho, fun v q => by rw [hd] at q; cases q⟩
  keep := fun i h h' st k => ⟨⟨st.1.choose, k e (by simp) _ st.1.choose_spec⟩, st.2.1.at fun o q => k it (by simp) o q, st.2.2⟩
  item := by
    intro X hP hw hK hc i pins s σ H E I hf st hg
    subst hP hw hK
    obtain ⟨⟨old, he⟩, hit, hne⟩ := st
    obtain ⟨xs, x, hq, hx⟩ := hg
    obtain ⟨its, rv, p, hz⟩ := I.tuple hq
    obtain ⟨u, hu, ru⟩ := rv.get hx
    obtain ⟨ai, ea⟩ := tup_apart he hit p
    have hel : e < s.heap.objs.size := Heap.lt_size he
    have hil : it < s.heap.objs.size := by
      obtain ⟨_, q, _⟩ := hit
      exact Heap.lt_size q
    have hlt : i < its.toArray.size := by
      have := (List.getElem?_eq_some_iff.mp hu).1
      simpa using this
    refine wpAny_pyNext_enum_itemC (Draws.tuple (A := X.A.in1) (show X.A.in1.handled = none from I.ok.hd hc) it a ai its.toArray) he ⟨hit, p⟩ hlt hne (by simp [hne, ea]) fun y h' tk hP ho hst hT hsz hk => ?_
    have ey : y = u := by
      have hP' : its.toArray[i]? = some y := hP
      rw [show its.toArray[i]? = some u by simpa using hu] at hP'
      exact (Option.some.inj hP').symm
    subst ey
    refine ⟨_, rfl, wpAny_letOwnedTupleGo_enum (s := { s with heap := h', toks := tk + 1 }) ho fun h2 he2 sb => ?_⟩
    have hT2 : h2.get? s.heap.objs.size = some { cls := .type "tuple", data := .seq #[.int i tk, y] } := (sb.2 _ (Nat.ne_of_gt hel)).trans hT
    have new : ObjOk X.prog X.w (upd H s.heap.objs.size (.tup [.int (i : Nat), x])) h2 s.heap.objs.size (.tup [.int (i : Nat), x]) := ⟨by show 2 ≤ sizeLine; decide, [.int i tk, y], .cons ⟨_, rfl⟩ (.cons ru .nil), ⟨_, hT2, rfl, _, rfl⟩⟩
    have J : Inv X pins σ (upd H s.heap.objs.size (.tup [.int (i : Nat), x])) { s with heap := h2, toks := tk + 1 } :=
      I.turnedNew (ch := [e, it]) (t' := tk + 1) (fun b ob hb q => (sb.2 b (fun z => hb (by simp [z]))).trans (hk b ob (fun z => hb (by simp [z])) (fun z => hb (by simp [z])) q)) hf (Nat.le_refl _) new
    refine ⟨.ref s.heap.objs.size, _, J, rfl, ⟨_, x, rfl, I.hok.fresh (Nat.le_refl _), rfl, fun ys hy => by rw [I.tuple_inj hy hq]; exact hx⟩, ⟨⟨y, by rw [show ((i + 1 : Nat) : Int) = (i : Int) + 1 by omega]; exact he2⟩, hst.1.at fun o q => (sb.2 it (Ne.symm hne)).trans q, hne⟩, fun b hb => ?_⟩
    have hb' : b < s.heap.objs.size := by
      rcases (show b = e ∨ b = it by simpa using hb) with z | z <;> rw [z] <;> assumption
    rw [upd_ne (Nat.ne_of_lt hb')]
    exact (hf b hb).1
  done := by
    intro X hP hw hK hc i pins s σ H E I hf st hg
    subst hP hw hK
    obtain ⟨⟨old, he⟩, hit, hne⟩ := st
    obtain ⟨xs, hq, hx⟩ := hg
    obtain ⟨its, rv, p, hz⟩ := I.tuple hq
    obtain ⟨ai, _⟩ := tup_apart he hit p
    obtain ⟨f0, f1, f2, f3, f4, f5⟩ := hf it (by simp)
    have hl := rv.length
    have fin : its.toArray[i]? = none := by
      simp
      omega
    exact en_end (I.ok.hd hc) he hit p fin fun h' eb => ⟨rfl, I.turned (t' := s.toks) (fun b o hb q => eb b o hb q) f0 f1 f3 f4 f5⟩
  self := fun A i s Q E st h => wpAny_pyIter_enum st.1.choose_spec h
def iEnT (K : PySem.W.Frag) (ta : TA) : TI := fun σ H R => ta σ H fun vs H1 => ∃ a xs, vs = [.ref a] ∧ SqT K H1 a xs ∧ R (Iet K a) H1
theorem pi_enT {X : Cx} {e : Expr} {ta : TA} {p pos tpos : Pos} {elts : List Expr} {kk : Nat} (hg : Gl X "enumerate") (hm : X.mg "enumerate" = none) (ha : PA X [e] ta) (hs : starEach [e] X.env = [(false, eval e X.env)] := by rfl) :
    PI X (.Tuple elts kk tpos) (.Call (.Name "enumerate" p) [e] [] pos) (iEnT X.K ta) := ⟨fun pins s σ H R I h => by
  refine Call_ (ld_blt I hg hm boot_enumerate (PyProof.Rows.callWith_type1 (thn (ha.run pos pins s σ H _ I h) fun us s1 ⟨vs, H1, I1, r1, q1⟩ => ?_) hs rfl))
  obtain ⟨a, xs, ex, hq, q⟩ := q1
  subst ex
  cases r1 with
  | cons r rr =>
    cases rr
    cases r
    obtain ⟨its, rv, p', hz⟩ := I1.tuple hq
    refine en_call (begins_tuple a its.toArray) p' fun h' he hit hk => wpAny_pyIter_enum he ?_
    have I2 : Inv X pins σ H1 { s1 with heap := h' } := I1.kept (t' := s1.toks) hk
    refine ⟨s1.heap.objs.size + 1, [s1.heap.objs.size + 1, s1.heap.objs.size], _, _, H1, rfl, I2, turn_enT a (s1.heap.objs.size + 1) s1.heap.objs.size, ⟨⟨.none, he⟩, ⟨_, hit, rfl, rfl⟩, Nat.succ_ne_self _⟩, fun b hb => ?_, q⟩
    have hle : s1.heap.objs.size ≤ b := by
      rcases (show b = s1.heap.objs.size + 1 ∨ b = s1.heap.objs.size by simpa using hb) with z | z <;> rw [z]
      · exact Nat.le_add_right _ _
      · exact Nat.le_refl _
    exact I1.fpOk hle (I1.hok.fresh hle)⟩
theorem walk_enT {K : PySem.W.Frag} {a : Addr} {xs : List V} : Walk (Iet K a) xs.length (fun H => SqT K H a xs) (YPair (fun i => some (.int (i : Nat))) (fun i => xs[i]?)) :=
  ⟨fun i H hi h => ⟨xs, xs[i], h, List.getElem?_eq_getElem hi⟩, fun H h => ⟨xs, h, Nat.le_refl _⟩, fun i H x H' hi h y => by
    obtain ⟨T, u, e1, e2, e3, e4⟩ := y
    exact ⟨T, _, u, e1, e2, e3, rfl, e4 xs h⟩⟩
/-! ### a op b op c op d -/
def tChain3 (r r' r'' : R2) (ta tb tc td : TE) : TE := fun σ H Q => ta σ H fun x H1 => tb σ H1 fun y H2 => r x y H2 fun z H3 => ∃ k, z = .bl k ∧
  (if k = true then tc σ H3 fun u H4 => r' y u H4 fun z2 H5 => ∃ k2, z2 = .bl k2 ∧ (if k2 = true then td σ H5 fun v H6 => r'' u v H6 Q else Q (.bl false) H5) else Q (.bl false) H3)
theorem pe_chain3 {X : Cx} {a b c d : Expr} {ta tb tc td : TE} {pos : Pos} {op op' op2 : CmpOp} {r r' r'' : R2} (ho : OpR X (compareOp op) r) (ho' : OpR X (compareOp op') r') (ho2 : OpR X (compareOp op2) r'') (ha : PE X a ta) (hb : PE X b tb) (hc : PE X c tc) (hd : PE X d td)
    (hm : lastMarks [op, op', op2] [b, c, d] = false := by with_unfolding_all rfl) : PE X (.Compare a [op, op', op2] [b, c, d] pos) (tChain3 r r' r'' ta tb tc td) := ⟨fun pins s σ H Q I h => by
  refine Compare_chain (thn (ha.run pins s σ H _ I h) fun v s1 ⟨x, H1, I1, r1, q1⟩ => chain_link (thn (hb.run pins s1 σ H1 _ I1 q1) fun u s2 ⟨y, H2, I2, r2, q2⟩ => thn (ho pins s2 σ H2 x y v u _ I2 r1 r2 q2) fun e s3 ⟨z, H3, I3, r3, k, ez, q3⟩ => ?_)) hm
  subst ez
  cases r3
  refine wpAny_truthy_bool ?_
  cases k with
  | false => exact ite_ff ⟨.bl false, H3, I3, rfl, q3⟩
  | true =>
    refine ite_tt (chain_link (thn (hc.run pins s3 σ H3 _ I3 q3) fun u2 s4 ⟨y2, H4, I4, r4, q4⟩ => thn (ho' pins s4 σ H4 y y2 u u2 _ I4 r2 r4 q4) fun e2 s5 ⟨z2, H5, I5, r5, k2, ez2, q5⟩ => ?_))
    subst ez2
    cases r5
    refine wpAny_truthy_bool ?_
    cases k2 with
    | false => exact ite_ff ⟨.bl false, H5, I5, rfl, q5⟩
    | true => exact ite_tt (chain_last (thn (hd.run pins s5 σ H5 _ I5 q5) fun u3 s6 ⟨y3, H6, I6, r6, q6⟩ => ho2 pins s6 σ H6 y2 y3 u2 u3 Q I6 r4 r6 q6))⟩
/-! ### rules within a comprehension, the written part named -/
section
variable {X : Cx} {K : PySem.W.Frag}
theorem ix_tupB (h : X.K = K := by rfl) : IxR X (rIxT K) := h ▸ ix_tup
theorem ix_listB (h : X.K = K := by rfl) : IxR X (rIxL K) := h ▸ ix_list
theorem op_in_seqB (h : X.K = K := by rfl) : OpR X (compareOp .In) (rIn K false) := h ▸ op_in_seq
theorem op_notIn_seqB (h : X.K = K := by rfl) : OpR X (compareOp .NotIn) (rIn K true) := h ▸ op_notIn_seq
theorem call_isiB (h : X.K = K := by rfl) : CallR X (.builtin "isinstance") (rIsi K) := h ▸ call_isi
theorem call_len_seqB (h : X.K = K := by rfl) : CallR X (.builtin "len") (fun xs H Q => ∃ p ys, xs = [.ref p] ∧ (SqL K H p ys ∨ SqT K H p ys) ∧ Q (.int ys.length) H) := h ▸ call_len_seq
theorem op_eqDB (h : X.K = K) (hu : X.A.units + 64 < cLine) : OpR X (compareOp .Eq) (rEqD K) := h ▸ op_eqD hu
theorem op_neDB (h : X.K = K) (hu : X.A.units + 64 < cLine) : OpR X (compareOp .NotEq) (rNeD K) := h ▸ op_neD hu
end
/-! ### len(set(t)), t a tuple of ints -/
def tLenSetT (K : PySem.W.Frag) (ta : TE) : TE := fun σ H Q => ta σ H fun x H1 => ∃ (l : Addr) (ns : List Int), x = .ref l ∧ SqT K H1 l (ns.map V.int) ∧ ns.length ≤ 1000 ∧ ∀ m : List Int, m.Nodup → (∀ k, k ∈ m ↔ k ∈ ns) → Q (.int (m.length : Nat)) H1
theorem pe_lenSetT {X : Cx} {a : Expr} {ta : TE} {p p2 q pos : Pos} (hg : Gl X "len") (hm : X.mg "len" = none) (hg2 : Gl X "set") (hm2 : X.mg "set" = none) (ha : PE X a ta) (hc : X.calm = true := by rfl)
    (na : starEach [a] X.env = (false, eval a X.env) :: starEach [] X.env := by rfl) : PE X (.Call (.Name "len" p) [.Call (.Name "set" p2) [a] [] q] [] pos) (tLenSetT X.K ta) := ⟨fun pins s σ H Q I h => by
  refine Call_ (ld_blt I hg hm boot_len (PyProof.Rows.callWith_builtin1 (PyProof.Rows.args_cons (Call_ (ld_blt I hg2 hm2 boot_set (PyProof.Rows.callWith_type1 (PyProof.Rows.args_cons (thn (ha.run pins s σ H _ I h) fun v s1 ⟨x, H1, I1, r1, q1⟩ => PyProof.Rows.args_nil ?_) na) na rfl))) rfl) rfl rfl))
  obtain ⟨l, ns, rfl, hq, hl, k⟩ := q1
  cases r1
  obtain ⟨its, r, pt, hz⟩ := I1.tuple hq
  refine call_set_tupI ns (I1.ok.hd hc) (show s1.heap.IsTuple l its.toArray from pt) (ints_of_vals r) (by unfold scanBound; omega) fun h' tk c R hcn hk => PyProof.Rows.args_nil ?_
  obtain ⟨o, es, ep, t, ho, hex, hd, _, nd, hm3, hb, hf, hn, _⟩ := R
  have I2 : Inv X pins σ H1 { s1 with heap := h', toks := tk } := I1.kept fun b o e => hk b o e
  refine call_len_set ho hex hd hf (by unfold scanBound at hb; omega) ⟨.int ((es.toList.map keyOf).length : Nat), H1, I2.tok _, ⟨_, by rw [List.length_map, Array.length_toList]⟩, k _ nd fun j => ?_⟩
  rw [← hm3 j, decide_eq_true_eq]⟩
/-! ### t * k, k from 1 on -/
theorem tuple_mul_one (l : Addr) (items : Array Value) (n : Nat) (dd : Option Addr) (sl : Array (Option Value)) (u : Tok) :
    Meets (Builtin.«tuple.__mul__» ⟨[.ref l, .int 1 u], []⟩) (fun _ R s => s.heap.get? l = some { cls := .type "tuple", dict := dd, data := .seq items n, slots := sl } ∧ R (.ok (.ret (Value.ref l))) s) :=
  .of_wp fun prog w A R s h => by
    obtain ⟨hp, g, d, tk, os⟩ := s
    obtain ⟨hl, h⟩ := h
    have f1 := AutoSeq1.idx_int
    wp_walk using wpAny_loadPart' hl
    repeat (first
      | (refine wpAny_ite_false (decide_eq_false (by decide)) ?_; wp_walk using wpAny_loadPart' hl)
      | (refine wpAny_ite_true (decide_eq_true (by simp)) ?_; wp_walk using wpAny_loadPart' hl))
    exact ⟨_, rfl, h⟩
def rRep1 (K : PySem.W.Frag) : R2 := fun x y H Q => ∃ l k xs, x = .ref l ∧ y = .int k ∧ SqT K H l xs ∧ xs ≠ [] ∧ 1 ≤ k ∧ k ≤ 1000 ∧ xs.length ≤ 1000 ∧ (k = 1 → Q (.ref l) H) ∧ (2 ≤ k → ∀ p, H p = none → Q (.ref p) (upd H p (.tup (List.replicate k.toNat xs).flatten)))
theorem op_rep1 {X : Cx} : OpR X (binaryOp .Mult) (rRep1 X.K) := by
  intro pins s σ H x y v u Q I rx ry h
  obtain ⟨l, k, xs, rfl, rfl, hT, hne, h1, h2, hz, q1, q2⟩ := h
  by_cases hk : k = 1
  · subst hk
    cases rx
    obtain ⟨t, rfl⟩ := ry
    obtain ⟨its, r, ⟨⟨cls, dd, data, sl⟩, ho, hc, n, hd⟩, hs⟩ := I.tuple hT
    simp only at hc hd
    subst hc hd
    exact wpAny_binaryOp_repeat_ref (T := "tuple") (U := "int") (by decide) ⟨_, ho, rfl⟩ (fun s' => typeIs_int s' 1 t) noFill_tuple_mul F.fills_int_mul F.slot_int_rmul repeat_tuple F.slot_int_index.lookup
      (call_meets F.slot_int_rmul (typeIs_int s 1 t) F.entry_int_rmul (F.args_int_rmul_2 _ _) (int_rmul_tuple 1 t l its.toArray n dd sl)
        ⟨ho, rfl, ⟨_, ho, rfl⟩, call_meets F.slot_tuple_mul ⟨_, ho, rfl⟩ F.entry_tuple_mul (F.args_tuple_mul_2 _ _) (tuple_mul_one l its.toArray n dd sl t) ⟨ho, ⟨.ref l, H, I, rfl, q1 rfl⟩⟩⟩)
  · exact op_repT pins s σ H _ _ v u Q I rx ry ⟨l, k, xs, rfl, rfl, hT, hne, by omega, h2, hz, q2 (by omega)⟩
/-! ### max(xs, default=d) of whole numbers -/
abbrev mxW : String := "max.loop"
theorem mx_args (a d : Value) : argsOk "max" ⟨[a], [(Str.ofString "default", d)]⟩ := by unfold argsOk; kernel_rfl
theorem mx_name : (toString "max" ++ toString ".loop" : String) = mxW := by decide
section
variable {prog : Program} {w : World} {A : Around} {R : Result → Shared → Prop} {J : Addr} {fp wr : List Addr} {n : Nat} {P : Nat → Value → Prop} {St : Nat → Heap → Prop} {d : Value}
theorem mx_loop (W : Walks prog w A.in1 J fp wr n P St) (bt : Nat → Nat → Bool) (hc : CmpOf prog w A.in1 .Gt P bt) (B : Addr) (hB : B ∉ fp) : ∀ (k j : Nat) (s : Shared) (vb : Value) (c : Nat), n - (j + 1) = k → j + 1 ≤ n → St (j + 1) s.heap → P (argBest bt j) vb → s.heap.get? B = some { cls := .type "list", dict := none, data := .seq #[vb, vb] c, slots := #[] } →
    (∀ v h' tk, P (argBest bt (n - 1)) v → (∀ b o, b ∉ wr → b ≠ B → s.heap.get? b = some o → h'.get? b = some o) → R (.ok (.ret v)) { s with heap := h', toks := tk }) → codeAny (model prog w) A (.builtin mxW ⟨[.ref J, .none, .ref B], [(Str.ofString "default", d)]⟩) R s := by
  have hBw : B ∉ wr := fun h => hB (W.sub _ h)
  intro k
  induction k with
  | zero =>
    intro j s vb c hk hj hst hP hs hR
    have hin : j + 1 = n := by omega
    refine codeAny_builtin PySem.F.entry_max_loop ?_
    rw [Around.under_plainId PySem.F.plain_max_loop _]
    show wpAny _ A.in1 (seqItems? (.ref B) >>= _) _ _ s
    refine wpAny_bind (wpAny_seqItems hs rfl ?_)
    show wpAny _ A.in1 (tryCatch (pyNext (.ref J)) _ >>= _) _ _ s
    refine wpAny_bind (wpAny_tryCatch (W.done s _ _ (hin ▸ hst) fun h' tk kk => ?_))
    show wpAny _ A.in1 (updateSeq B (fun _ => #[]) >>= _) _ _ _
    refine wpAny_bind (wpAny_updateSeq (kk B _ hBw hs) rfl (wpAny_bind (wpAny_letGo (wpAny_pure ?_))))
    exact hR vb _ tk (by rw [← hin]; exact hP) fun b o h1 h2 e => (Heap.get?_update_other _ _ (Ne.symm h2)).trans (kk b o h1 e)
  | succ k ih =>
    intro j s vb c hk hj hst hP hs hR
    have hlt : j + 1 < n := by omega
    refine codeAny_builtin PySem.F.entry_max_loop ?_
    rw [Around.under_plainId PySem.F.plain_max_loop _]
    show wpAny _ A.in1 (seqItems? (.ref B) >>= _) _ _ s
    refine wpAny_bind (wpAny_seqItems hs rfl ?_)
    show wpAny _ A.in1 (tryCatch (pyNext (.ref J)) _ >>= _) _ _ s
    refine wpAny_bind (wpAny_tryCatch (W.item (j + 1) s _ _ hlt hst fun v h' tk hPv hst' kk => ?_))
    have hs' := kk B _ hBw hs
    show wpAny _ A.in1 (tryCatch (holding [v, v] (richCompare .Gt v vb >>= _)) _ >>= _) _ _ _
    refine wpAny_bind (wpAny_tryCatch (wpAny_holding (wpAny_bind (hc (j + 1) (argBest bt j) v vb _ _ _ hPv hP (wpAny_bind (wpAny_holding (wpAny_truthy_bool (wpAny_bind (wpAny_letGo (wpAny_pure ?_))))))))))
    cases hb : bt (j + 1) (argBest bt j) with
    | true =>
      simp only [if_true]
      refine wpAny_bind (wpAny_updateSeq hs' rfl (wpAny_bind (wpAny_letGo ?_)))
      rw [mx_name]
      refine wpAny_pure ⟨plainId_quiet PySem.F.plain_max_loop _, ih (j + 1) _ v _ (by omega) hlt (W.frame _ _ _ hst' fun b hbf o e => (Heap.get?_update_other _ _ (fun h : B = b => hB (by rw [h]; exact hbf))).trans e) (by simp only [argBest, hb, if_true]; exact hPv) (Heap.get?_update_self _ hs' rfl) fun v2 h2 tk2 hP2 kk2 => ?_⟩
      exact hR v2 h2 tk2 hP2 fun b o h1 h2 e => kk2 b o h1 h2 ((Heap.get?_update_other _ _ (Ne.symm h2)).trans (kk b o h1 e))
    | false =>
      simp only [Bool.false_eq_true, if_false]
      refine wpAny_bind (wpAny_letGo ?_)
      rw [mx_name]
      exact wpAny_pure ⟨plainId_quiet PySem.F.plain_max_loop _, ih (j + 1) _ vb c (by omega) hlt hst' (by simp only [argBest, hb, Bool.false_eq_true, if_false]; exact hP) hs' fun v2 h2 tk2 hP2 kk2 => hR v2 h2 tk2 hP2 fun b o h1 h2 e => kk2 b o h1 h2 (kk b o h1 e)⟩
end
theorem mx_raw {prog : Program} {w : World} {A : Around} {E : Value → Shared → Prop} {s : Shared} {l : Addr} {its : List Value} {ns : List Int} {d : Value} {Q : Value → Shared → Prop} (hh : A.handled = none) (hl : s.heap.IsList l its.toArray) (hi : IntsAre its ns)
    (h0 : ns = [] → ∀ h' tk, (∀ b o, s.heap.get? b = some o → h'.get? b = some o) → Q d { s with heap := h', toks := tk })
    (h1 : ∀ h' tk M t', (∀ b o, s.heap.get? b = some o → h'.get? b = some o) → M ∈ ns → (∀ a, a ∈ ns → a ≤ M) → Q (.int M t') { s with heap := h', toks := tk }) : wpAny (model prog w) A (call (.builtin "max") [.ref l] [(Str.ofString "default", d)]) Q E s := by
  obtain ⟨xs, e⟩ := hi.allInts.items
  have hn : numsOf (intItems xs).toList = ns := by rw [← e]; exact hi.numsOf
  rw [nums_intItems] at hn
  subst hn
  rw [e] at hl
  refine PyProof.Rows.kmk_tree PySem.F.kind_max PySem.F.plain_max PySem.F.entry_max (mx_args _ _) ?_
  show wpAny _ A.in1 (Builtin.Builtins.bindParams "max" ["key", "default"] 0 ⟨[], [(Str.ofString "default", d)]⟩ >>= _) _ _ s
  refine wpAny_bind (wpAny_of_eq (show Builtin.Builtins.bindParams "max" ["key", "default"] 0 ⟨[], [(Str.ofString "default", d)]⟩ = pure [none, some d] from rfl) (wpAny_bind (wpAny_pure (wpAny_bind (iter_intList hl fun s₂ e st hfp hlI => ?_)))))
  subst e
  refine wpAny_bind (wpAny_newList ?_ (Nat.zero_le _))
  rw [mx_name]
  have W := Walks.list (prog := prog) (w := w) (A := A.in1) hh s.heap.objs.size l hlI (intItems xs)
  generalize hz : s.heap.push { cls := .type "list_iterator", data := .fields #[.ref l, .int 0 0] } = hp1 at st hfp
  have hBf : hp1.objs.size ∉ [s.heap.objs.size, l] := fun hm => Nat.lt_irrefl _ (hfp _ hm)
  have up : ∀ b o, s.heap.get? b = some o → hp1.get? b = some o := fun b o e => by rw [← hz]; exact Heap.get?_push_of_some _ e
  refine wpAny_pure ⟨plainId_quiet PySem.F.plain_max_loop _, codeAny_builtin PySem.F.entry_max_loop ?_⟩
  rw [Around.under_plainId PySem.F.plain_max_loop _]
  have gS : (hp1.push (seqObj "list" #[] 0)).get? hp1.objs.size = some { cls := .type "list", dict := none, data := .seq #[] 0, slots := #[] } := Heap.get?_push_size _ rfl
  have st2 := W.frame 0 hp1 (hp1.push (seqObj "list" #[] 0)) st fun b _ o e => Heap.get?_push_of_some _ e
  have out : ∀ b o, s.heap.get? b = some o → b ∉ [s.heap.objs.size] ∧ b ≠ hp1.objs.size ∧ (hp1.push (seqObj "list" #[] 0)).get? b = some o := fun b o e => by
    have h1 := Heap.lt_size e
    have h2 := Heap.lt_size (up b o e)
    exact ⟨by simp; exact Nat.ne_of_lt h1, Nat.ne_of_lt h2, Heap.get?_push_of_some _ (up b o e)⟩
  show wpAny _ A.in1 (seqItems? (.ref hp1.objs.size) >>= _) _ _ _
  refine wpAny_bind (wpAny_seqItems gS rfl ?_)
  show wpAny _ A.in1 (tryCatch (pyNext (.ref s.heap.objs.size)) _ >>= _) _ _ _
  by_cases hne : xs.size = 0
  · have hx : xs.toList.map (·.1) = [] := by
      rw [List.map_eq_nil_iff]
      exact List.eq_nil_of_length_eq_zero (by rw [Array.length_toList]; exact hne)
    have hn0 : (intItems xs).size = 0 := by simpa [intItems] using hne
    have st3 : (hp1.push (seqObj "list" #[] 0)).IsListIter s.heap.objs.size l (intItems xs).size ∧ (hp1.push (seqObj "list" #[] 0)).IsList l (intItems xs) := by
      rw [hn0]
      exact st2
    refine wpAny_bind (wpAny_tryCatch (W.done _ _ _ st3 fun h' tk kk => ?_))
    show wpAny _ A.in1 (rule _ >>= _) _ _ _
    refine wpAny_bind (wpAny_rule (wpAny_pure ?_))
    exact h0 hx h' tk fun b o e => kk b o (out b o e).1 (out b o e).2.2
  · have hpos : 0 < (intItems xs).size := by
      have : (intItems xs).size = xs.size := by simp [intItems]
      omega
    have hBw : hp1.objs.size ∉ [s.heap.objs.size] := fun h => hBf (W.sub _ h)
    refine wpAny_bind (wpAny_tryCatch (W.item 0 _ _ _ hpos st2 fun v h' tk hP hst' kk => ?_))
    have hs' := kk _ _ hBw gS
    show wpAny _ A.in1 (updateSeq hp1.objs.size (fun _ => #[v, v]) >>= _) _ _ _
    refine wpAny_bind (wpAny_updateSeq hs' rfl ?_)
    rw [mx_name]
    refine wpAny_pure ⟨plainId_quiet PySem.F.plain_max_loop _, mx_loop W _ (CmpOf.ints_gt (numAt xs) (fun _ _ => intItems_at)) _ hBf _ 0 _ v _ rfl hpos (W.frame _ _ _ hst' fun b hbf o e => (Heap.get?_update_other _ _ (fun h => hBf (by rw [h]; exact hbf))).trans e) hP (Heap.get?_update_self _ hs' rfl) fun v2 h2 tk2 hP2 kk2 => ?_⟩
    have hv : (intItems xs)[argBest (fun i j => decide (numAt xs i > numAt xs j)) (xs.size - 1)]? = some v2 := by simpa [intItems] using hP2
    obtain ⟨t, rfl⟩ := intItems_at hv
    obtain ⟨g1, g2⟩ := argBest_gt (numAt xs) (xs.size - 1)
    refine h1 _ _ _ t (fun b o e => kk2 b o (out b o e).1 (out b o e).2.1 ((Heap.get?_update_other _ _ (Ne.symm (out b o e).2.1)).trans (kk b o (out b o e).1 (out b o e).2.2))) ?_ fun a ha => ?_
    · rw [numAt_eq]
      exact PySem.getD_mem (by rw [List.length_map, Array.length_toList]; omega)
    · obtain ⟨j, hj, rfl⟩ := mem_getD ha
      rw [List.length_map, Array.length_toList] at hj
      have := g2 j (by omega)
      rwa [numAt_eq] at this
def rMaxD (K : PySem.W.Frag) : List V → List V → Hp → VK → Prop := fun vs zs H Q => ∃ (a : Addr) (ns : List Int) (d : V), vs = [V.ref a] ∧ zs = [d] ∧ SqL K H a (ns.map V.int) ∧ (ns = [] → Q d H) ∧ ∀ M, M ∈ ns → (∀ k, k ∈ ns → k ≤ M) → Q (.int M) H
theorem cr_maxD {X : Cx} (hc : X.calm = true) : CallRK X (.builtin "max") [Str.ofString "default"] (rMaxD X.K) := by
  intro pins s σ H xs zs us ws Q I r1 r2 h
  obtain ⟨a, ns, d, rfl, rfl, hs, q0, q1⟩ := h
  obtain ⟨its, rv, hl, _⟩ := I.list hs
  rw [Vals.ref1 r1]
  cases r2 with
  | cons rd rn =>
    cases rn
    exact mx_raw (I.ok.hd hc) hl.isList rv.ints (fun e h' tk hk => ⟨d, H, I.kept hk, rd, q0 e⟩) fun h' tk m t' hk h1 h2 => ⟨.int _, H, I.kept hk, ⟨_, rfl⟩, q1 m h1 h2⟩
theorem pe_fldB {X : Cx} {K : PySem.W.Frag} {o : Expr} {to : TE} {f : Str} {pos : Pos} (h : X.K = K) (ho : PE X o to) (hb : attributeBase o f X.env (eval o X.env) = eval o X.env := by rfl) : PE X (.Attribute o f pos) (tFld K to f) := h ▸ pe_fld ho hb
end L2
namespace My
open PySem PySem.Spec PyProof.Rows L2 Evl
theorem if_pos_of {c : Bool} {A B : Prop} (hc : c = true) (h : A) : if c = true then A else B := by
  rw [if_pos hc]
  exact h
theorem if_neg_of {c : Bool} {A B : Prop} (hc : c = false) (h : B) : if c = true then A else B := by
  rw [hc, if_neg Bool.false_ne_true]
  exact h
theorem atI0 (x : V) (xs : List V) : atI (x :: xs) 0 = some x := by
  unfold atI ixN
  rw [if_pos (by decide), if_pos (by simp only [List.length_cons]; omega)]
  rfl
theorem ixN0 (n : Nat) : ixN (n + 1) 0 = some 0 := by
  unfold ixN
  rw [if_pos (by decide), if_pos (by omega)]
  rfl
theorem atI_of {xs : List V} {i : Nat} {v : V} (h : xs[i]? = some v) : atI xs (i : Int) = some v := by
  have hi := (List.getElem?_eq_some_iff.mp h).1
  unfold atI ixN
  rw [if_pos (by omega), if_pos (by omega)]
  simpa using h
theorem seqIx0 (n : Nat) : seqIndex? 0 (n + 1) = some 0 := by
  unfold seqIndex?
  simp
theorem cutV_ints (ns : List Int) (lo hi : Option Int) : ∃ ms : List Int, cutV (ns.map V.int) lo hi = ms.map V.int ∧ ms.length ≤ ns.length := by
  unfold cutV
  refine ⟨_, by rw [← List.map_drop, ← List.map_take], ?_⟩
  rw [List.length_take, List.length_drop]
  omega
theorem ints_get {ms : List Int} {i : Nat} {y : V} (h : (ms.map V.int)[i]? = some y) : ∃ z, ms[i]? = some z ∧ y = .int z := by
  rw [List.getElem?_map] at h
  cases e : ms[i]? with
  | none =>
    rw [e] at h
    cases h
  | some z =>
    rw [e] at h
    exact ⟨z, rfl, (Option.some.inj h).symm⟩

structure Ad where
  a : Nat → Addr
  C : Nat → Addr
structure Fd where
  d : Nat → FuncData
abbrev Ad.a_BadBook_init (A : Ad) : Addr := A.a 0
abbrev Fd.d_BadBook_init (D : Fd) : FuncData := D.d 0
abbrev Ad.a_NoWork_init (A : Ad) : Addr := A.a 1
abbrev Fd.d_NoWork_init (D : Fd) : FuncData := D.d 1
abbrev Ad.a_is_integer (A : Ad) : Addr := A.a 2
abbrev Fd.d_is_integer (D : Fd) : FuncData := D.d 2
abbrev Ad.a_is_pair (A : Ad) : Addr := A.a 3
abbrev Fd.d_is_pair (D : Fd) : FuncData := D.d 3
abbrev Ad.a_Book_init (A : Ad) : Addr := A.a 4
abbrev Fd.d_Book_init (D : Fd) : FuncData := D.d 4
abbrev Ad.a_is_windows (A : Ad) : Addr := A.a 5
abbrev Fd.d_is_windows (D : Fd) : FuncData := D.d 5
abbrev Ad.a_is_window (A : Ad) : Addr := A.a 6
abbrev Fd.d_is_window (D : Fd) : FuncData := D.d 6
abbrev Ad.a_is_work (A : Ad) : Addr := A.a 7
abbrev Fd.d_is_work (D : Fd) : FuncData := D.d 7
abbrev Ad.a_middle (A : Ad) : Addr := A.a 8
abbrev Fd.d_middle (D : Fd) : FuncData := D.d 8
abbrev Ad.a_is_inside (A : Ad) : Addr := A.a 9
abbrev Fd.d_is_inside (D : Fd) : FuncData := D.d 9
abbrev Ad.a_within (A : Ad) : Addr := A.a 10
abbrev Fd.d_within (D : Fd) : FuncData := D.d 10
abbrev Ad.a_l_pool (A : Ad) : Addr := A.a 11
abbrev Fd.d_l_pool (D : Fd) : FuncData := D.d 11
abbrev Ad.a_l_draw (A : Ad) : Addr := A.a 12
abbrev Fd.d_l_draw (D : Fd) : FuncData := D.d 12
abbrev Ad.a_l_windows (A : Ad) : Addr := A.a 13
abbrev Fd.d_l_windows (D : Fd) : FuncData := D.d 13
abbrev Ad.a_l_refused (A : Ad) : Addr := A.a 14
abbrev Fd.d_l_refused (D : Fd) : FuncData := D.d 14
abbrev Ad.a_law (A : Ad) : Addr := A.a 15
abbrev Fd.d_law (D : Fd) : FuncData := D.d 15
abbrev Ad.a_NoLot_init (A : Ad) : Addr := A.a 16
abbrev Fd.d_NoLot_init (D : Fd) : FuncData := D.d 16
abbrev Ad.a_NoRow_init (A : Ad) : Addr := A.a 17
abbrev Fd.d_NoRow_init (D : Fd) : FuncData := D.d 17
abbrev Ad.a_is_row (A : Ad) : Addr := A.a 18
abbrev Fd.d_is_row (D : Fd) : FuncData := D.d 18
abbrev Ad.a_is_length_or_none (A : Ad) : Addr := A.a 19
abbrev Fd.d_is_length_or_none (D : Fd) : FuncData := D.d 19
abbrev Ad.a_is_lot (A : Ad) : Addr := A.a 20
abbrev Fd.d_is_lot (D : Fd) : FuncData := D.d 20
abbrev Ad.a_check_run (A : Ad) : Addr := A.a 21
abbrev Fd.d_check_run (D : Fd) : FuncData := D.d 21
abbrev Ad.a_is_all_in (A : Ad) : Addr := A.a 22
abbrev Fd.d_is_all_in (D : Fd) : FuncData := D.d 22
abbrev Ad.a_coming (A : Ad) : Addr := A.a 23
abbrev Fd.d_coming (D : Fd) : FuncData := D.d 23
abbrev Ad.a_steps (A : Ad) : Addr := A.a 24
abbrev Fd.d_steps (D : Fd) : FuncData := D.d 24
abbrev Ad.a_run (A : Ad) : Addr := A.a 25
abbrev Fd.d_run (D : Fd) : FuncData := D.d 25
abbrev Ad.a_l_row (A : Ad) : Addr := A.a 26
abbrev Fd.d_l_row (D : Fd) : FuncData := D.d 26
abbrev Ad.a_l_lot (A : Ad) : Addr := A.a 27
abbrev Fd.d_l_lot (D : Fd) : FuncData := D.d 27
abbrev Ad.a_l_some (A : Ad) : Addr := A.a 28
abbrev Fd.d_l_some (D : Fd) : FuncData := D.d 28
abbrev Ad.a_l_run (A : Ad) : Addr := A.a 29
abbrev Fd.d_l_run (D : Fd) : FuncData := D.d 29
abbrev Ad.a_is_served (A : Ad) : Addr := A.a 30
abbrev Fd.d_is_served (D : Fd) : FuncData := D.d 30
abbrev Ad.a_serves (A : Ad) : Addr := A.a 31
abbrev Fd.d_serves (D : Fd) : FuncData := D.d 31
abbrev Ad.a_lateness (A : Ad) : Addr := A.a 32
abbrev Fd.d_lateness (D : Fd) : FuncData := D.d 32
abbrev Ad.a_l_lateness (A : Ad) : Addr := A.a 33
abbrev Fd.d_l_lateness (D : Fd) : FuncData := D.d 33
abbrev Ad.a_l_flag (A : Ad) : Addr := A.a 34
abbrev Fd.d_l_flag (D : Fd) : FuncData := D.d 34
abbrev Ad.a_broken (A : Ad) : Addr := A.a 35
abbrev Fd.d_broken (D : Fd) : FuncData := D.d 35
abbrev Ad.a_NoNumber_init (A : Ad) : Addr := A.a 36
abbrev Fd.d_NoNumber_init (D : Fd) : FuncData := D.d 36
abbrev Ad.a_Book_eq (A : Ad) : Addr := A.a 37
abbrev Fd.d_Book_eq (D : Fd) : FuncData := D.d 37
abbrev Ad.a_unbounded (A : Ad) : Addr := A.a 38
abbrev Fd.d_unbounded (D : Fd) : FuncData := D.d 38
abbrev Ad.a_shifted (A : Ad) : Addr := A.a 39
abbrev Fd.d_shifted (D : Fd) : FuncData := D.d 39
abbrev Ad.a_last_of_all (A : Ad) : Addr := A.a 40
abbrev Fd.d_last_of_all (D : Fd) : FuncData := D.d 40
abbrev Ad.a_mirrored (A : Ad) : Addr := A.a 41
abbrev Fd.d_mirrored (D : Fd) : FuncData := D.d 41
abbrev Ad.a_NoGroup_init (A : Ad) : Addr := A.a 42
abbrev Fd.d_NoGroup_init (D : Fd) : FuncData := D.d 42
abbrev Ad.a_is_group (A : Ad) : Addr := A.a 43
abbrev Fd.d_is_group (D : Fd) : FuncData := D.d 43
abbrev Ad.a_part (A : Ad) : Addr := A.a 44
abbrev Fd.d_part (D : Fd) : FuncData := D.d 44
abbrev Ad.a_joined (A : Ad) : Addr := A.a 45
abbrev Fd.d_joined (D : Fd) : FuncData := D.d 45
abbrev Ad.a_l_main (A : Ad) : Addr := A.a 46
abbrev Fd.d_l_main (D : Fd) : FuncData := D.d 46
abbrev Ad.a_l_told (A : Ad) : Addr := A.a 47
abbrev Fd.d_l_told (D : Fd) : FuncData := D.d 47
abbrev Ad.a_l_more (A : Ad) : Addr := A.a 48
abbrev Fd.d_l_more (D : Fd) : FuncData := D.d 48
abbrev Ad.C_BadBook (A : Ad) : Addr := A.C 0
abbrev Ad.C_NoWork (A : Ad) : Addr := A.C 1
abbrev Ad.C_Book (A : Ad) : Addr := A.C 2
abbrev Ad.C_NoLot (A : Ad) : Addr := A.C 3
abbrev Ad.C_NoRow (A : Ad) : Addr := A.C 4
abbrev Ad.C_NoNumber (A : Ad) : Addr := A.C 5
abbrev Ad.C_MiddleError (A : Ad) : Addr := A.C 6
abbrev Ad.C_NoGroup (A : Ad) : Addr := A.C 7

/-- the pool at p: its list, its cells at c -/
structure PoolAt (H : Hp) (p c : Addr) : Prop where
  ob : ∃ i j : Int, H p = some (.lst [.int i, .int j, .ref c])
  cl : ∃ ns : List Int, H c = some (.lst (ns.map V.int))
  ne : p ≠ c
def Kept (p c : Addr) (H H' : Hp) : Prop := ∀ a o, a ≠ p → a ≠ c → H a = some o → H' a = some o
structure SpDraw (vs : List V) (H : Hp) (Q : VK) : Prop where
  ex : ∃ (p c : Addr) (m : Int), vs = [.ref p, .int m] ∧ PoolAt H p c ∧ 0 < m ∧ m < 1267650600228229401496703205376 ∧
    ∀ (d : Int) (H' : Hp), 0 ≤ d → d < m → PoolAt H' p c → Kept p c H H' → Q (.int d) H'
theorem SpDraw.len {vs : List V} {H : Hp} {Q : VK} (h : SpDraw vs H Q) : vs.length = 2 := by
  obtain ⟨p, c, m, rfl, _⟩ := h.ex
  rfl
abbrev sp_l_draw (K : PySem.W.Frag) (A : Ad) : Sp := fun vs H Q _ => SpDraw vs H Q
structure SpPool (K : PySem.W.Frag) (vs : List V) (H : Hp) (Q : VK) : Prop where
  ex : ∃ (a : Addr) (ns : List Int), vs = [.ref a] ∧ SqL K H a (ns.map V.int) ∧ ns.length ≤ 63 ∧ ∀ (p c : Addr) (H' : Hp), H p = none → H c = none → PoolAt H' p c → Ex H H' → Q (.ref p) H'
theorem SpPool.len {K : PySem.W.Frag} {vs : List V} {H : Hp} {Q : VK} (h : SpPool K vs H Q) : vs.length = 1 := by
  obtain ⟨a, ns, rfl, _⟩ := h.ex
  rfl
abbrev sp_l_pool (K : PySem.W.Frag) (A : Ad) : Sp := fun vs H Q _ => SpPool K vs H Q
/-- a tuple of pairs of ints at w -/
structure WinAt (K : PySem.W.Frag) (H : Hp) (w : Addr) (ws : List (Int × Int)) : Prop where
  le : ws.length ≤ 1000
  ex : ∃ as : List Addr, SqT K H w (as.map V.ref) ∧ as.length = ws.length ∧ ∀ (i : Nat) (a : Addr) (q : Int × Int), as[i]? = some a → ws[i]? = some q → SqT K H a [.int q.1, .int q.2]
theorem WinAt.mono {K : PySem.W.Frag} {H H' : Hp} {w : Addr} {ws : List (Int × Int)} (h : WinAt K H w ws) (e : Ex H H') : WinAt K H' w ws := by
  obtain ⟨as, h1, h2, h3⟩ := h.ex
  exact ⟨h.le, ⟨as, ex_t e h1, h2, fun i a q x y => ex_t e (h3 i a q x y)⟩⟩
theorem PoolAt.mono {H H' : Hp} {p c : Addr} (h : PoolAt H p c) (e : Ex H H') : PoolAt H' p c := by
  obtain ⟨⟨i, j, h1⟩, ⟨ns, h2⟩, h3⟩ := h
  exact ⟨⟨i, j, e _ _ h1⟩, ⟨ns, e _ _ h2⟩, h3⟩
theorem Kept.refl (p c : Addr) (H : Hp) : Kept p c H H := fun _ _ _ _ h => h
theorem Kept.trans {p c : Addr} {H H1 H2 : Hp} (a : Kept p c H H1) (b : Kept p c H1 H2) : Kept p c H H2 := fun x o h1 h2 h => b x o h1 h2 (a x o h1 h2 h)
theorem kept_of {p c : Addr} {H H1 : Hp} (a : Ex H H1) : Kept p c H H1 := fun x o _ _ h => a x o h
theorem PoolAt.nep {H : Hp} {p c a : Addr} (h : PoolAt H p c) (n : H a = none) : a ≠ p := by
  obtain ⟨i, j, e⟩ := h.ob
  exact (ne_of_none e n).symm
theorem PoolAt.nec {H : Hp} {p c a : Addr} (h : PoolAt H p c) (n : H a = none) : a ≠ c := by
  obtain ⟨ns, e⟩ := h.cl
  exact (ne_of_none e n).symm
theorem PoolAt.upd {H : Hp} {p c f : Addr} {o : HO} (h : PoolAt H p c) (h1 : p ≠ f) (h2 : c ≠ f) : PoolAt (upd H f o) p c := by
  obtain ⟨⟨i, j, e1⟩, ⟨ns, e2⟩, e3⟩ := h
  exact ⟨⟨i, j, by rw [upd_ne h1]; exact e1⟩, ⟨ns, by rw [upd_ne h2]; exact e2⟩, e3⟩
def inWin (b : Int) (q : Int × Int) : Prop := 0 ≤ q.1 ∧ q.1 ≤ q.2 ∧ q.2 ≤ b
structure SpWin (K : PySem.W.Frag) (vs : List V) (H : Hp) (Q : VK) : Prop where
  ex : ∃ (p c : Addr) (n t : Int), vs = [.ref p, .int n, .int t] ∧ PoolAt H p c ∧ 0 ≤ n ∧ n ≤ 1000 ∧ 0 ≤ t ∧ t ≤ 1000000 ∧
    ∀ (w : Addr) (ws : List (Int × Int)) (H' : Hp), H w = none → WinAt K H' w ws → (ws.length : Int) = n → (∀ q ∈ ws, inWin (2 * t + n + 4) q) → PoolAt H' p c → Kept p c H H' → Q (.ref w) H'
theorem SpWin.len {K : PySem.W.Frag} {vs : List V} {H : Hp} {Q : VK} (h : SpWin K vs H Q) : vs.length = 3 := by
  obtain ⟨p, c, n, t, rfl, _⟩ := h.ex
  rfl
abbrev sp_l_windows (K : PySem.W.Frag) (A : Ad) : Sp := fun vs H Q _ => SpWin K vs H Q
/-- the list of pairs that grows at f -/
structure Grows (K : PySem.W.Frag) (H : Hp) (f : Addr) (ws : List (Int × Int)) : Prop where
  ex : ∃ as : List Addr, H f = some (.lst (as.map V.ref)) ∧ as.length = ws.length ∧ ∀ (i : Nat) (a : Addr) (q : Int × Int), as[i]? = some a → ws[i]? = some q → H a = some (.tup [.int q.1, .int q.2])
theorem Grows.mono {K : PySem.W.Frag} {H H' : Hp} {p c f : Addr} {ws : List (Int × Int)} (h : Grows K H f ws) (P : PoolAt H p c) (k : Kept p c H H') (n1 : f ≠ p) (n2 : f ≠ c) : Grows K H' f ws := by
  obtain ⟨as, h1, h2, h3⟩ := h.ex
  refine ⟨⟨as, k _ _ n1 n2 h1, h2, fun i a q x y => ?_⟩⟩
  have z := h3 i a q x y
  refine k _ _ ?_ ?_ z
  · intro e
    obtain ⟨u, v, hp⟩ := P.ob
    rw [e, hp] at z
    cases z
  · intro e
    obtain ⟨ns, hc⟩ := P.cl
    rw [e, hc] at z
    cases z
theorem Grows.add {K : PySem.W.Frag} {H : Hp} {f r : Addr} {ws : List (Int × Int)} {q : Int × Int} {as : List Addr} (h1 : H f = some (.lst (as.map V.ref))) (h2 : as.length = ws.length) (h3 : ∀ (i : Nat) (a : Addr) (q : Int × Int), as[i]? = some a → ws[i]? = some q → H a = some (.tup [.int q.1, .int q.2]))
    (hr : H r = some (.tup [.int q.1, .int q.2])) : Grows K (L2.upd H f (.lst (as.map V.ref ++ [.ref r]))) f (ws ++ [q]) := by
  have nf : ∀ {a : Addr} {xs : List V}, H a = some (.tup xs) → a ≠ f := fun {a xs} z e => by
    rw [e, h1] at z
    cases z
  refine ⟨⟨as ++ [r], by rw [upd_same, List.map_append] <;> rfl, by rw [List.length_append, List.length_append, h2] <;> rfl, fun i a q' x y => ?_⟩⟩
  by_cases hi : i < as.length
  · rw [List.getElem?_append_left hi] at x
    rw [List.getElem?_append_left (by omega)] at y
    have z := h3 i a q' x y
    rw [upd_ne (nf z)]
    exact z
  · rw [List.getElem?_append_right (by omega)] at x
    rw [List.getElem?_append_right (by omega)] at y
    have e0 : i - as.length = 0 := by
      have := (List.getElem?_eq_some_iff.mp x).1
      simp at this
      omega
    rw [e0] at x
    rw [← h2, e0] at y
    cases (Option.some.inj x)
    cases (Option.some.inj y)
    rw [upd_ne (nf hr)]
    exact hr
theorem Grows.win {K : PySem.W.Frag} {H : Hp} {f w : Addr} {ws : List (Int × Int)} {as : List Addr} (h2 : as.length = ws.length) (h3 : ∀ (i : Nat) (a : Addr) (q : Int × Int), as[i]? = some a → ws[i]? = some q → H a = some (.tup [.int q.1, .int q.2])) (nw : H w = none) (hl : ws.length ≤ 1000) :
    WinAt K (L2.upd H w (.tup (as.map V.ref))) w ws :=
  ⟨hl, ⟨as, SqT.of upd_same, h2, fun i a q x y => SqT.of (by rw [upd_ne (ne_of_none (h3 i a q x y) nw)]; exact h3 i a q x y)⟩⟩
/-! ### things -/
inductive Da where
  | non | bl (b : Bool) | int (i : Int) | str (x : Str) | lst | dic | tup (xs : List Da)
mutual
inductive Rp (K : PySem.W.Frag) (H : Hp) : V → Da → Prop
  | non : Rp K H .non .non
  | bl (b : Bool) : Rp K H (.bl b) (.bl b)
  | int (i : Int) : Rp K H (.int i) (.int i)
  | str (x : Str) : Rp K H (.str x) (.str x)
  | lst {a : Addr} {xs : List V} : SqL K H a xs → Rp K H (.ref a) .lst
  | dic {a : Addr} {kvs : List (Key × V)} : H a = some (.dK kvs) → Rp K H (.ref a) .dic
  | tup {a : Addr} {xs : List V} {ds : List Da} : SqT K H a xs → RpAll K H xs ds → Rp K H (.ref a) (.tup ds)
inductive RpAll (K : PySem.W.Frag) (H : Hp) : List V → List Da → Prop
  | nil : RpAll K H [] []
  | cons {v : V} {vs : List V} {d : Da} {ds : List Da} : Rp K H v d → RpAll K H vs ds → RpAll K H (v :: vs) (d :: ds)
end
mutual
theorem Rp.mono {K : PySem.W.Frag} {H H' : Hp} (e : Ex H H') : ∀ {v : V} {d : Da}, Rp K H v d → Rp K H' v d
  | _, _, .non => .non
  | _, _, .bl b => .bl b
  | _, _, .int i => .int i
  | _, _, .str x => .str x
  | _, _, .lst h => .lst (ex_l e h)
  | _, _, .dic h => .dic (e _ _ h)
  | _, _, .tup h r => .tup (ex_t e h) (RpAll.mono e r)
theorem RpAll.mono {K : PySem.W.Frag} {H H' : Hp} (e : Ex H H') : ∀ {vs : List V} {ds : List Da}, RpAll K H vs ds → RpAll K H' vs ds
  | _, _, .nil => .nil
  | _, _, .cons h r => .cons (Rp.mono e h) (RpAll.mono e r)
end
theorem RpAll.length {K : PySem.W.Frag} {H : Hp} : ∀ {vs : List V} {ds : List Da}, RpAll K H vs ds → vs.length = ds.length
  | _, _, .nil => rfl
  | _, _, .cons _ r => congrArg (· + 1) r.length
theorem RpAll.get {K : PySem.W.Frag} {H : Hp} : ∀ {vs : List V} {ds : List Da} {i : Nat} {v : V}, RpAll K H vs ds → vs[i]? = some v → ∃ d, ds[i]? = some d ∧ Rp K H v d
  | _, _, 0, _, .cons h _, e => by
    cases e
    exact ⟨_, rfl, h⟩
  | _, _, i + 1, _, .cons _ r, e => RpAll.get (i := i) r e
/-- what isinstance says of int, bool, tuple -/
def isI : Da → Bool | .int _ => true | .bl _ => true | _ => false
def isB : Da → Bool | .bl _ => true | _ => false
def isT : Da → Bool | .tup _ => true | _ => false
def isZ : Da → Bool | .int _ => true | _ => false
theorem isZ_eq (d : Da) : (isI d && !isB d) = isZ d := by cases d <;> rfl
theorem ty_list {K : PySem.W.Frag} {H : Hp} {a : Addr} {xs : List V} (h : SqL K H a xs) : TyX K H (.ref a) (.type "list") := by
  rcases h with (h | ⟨o, h⟩) | ⟨o, its, n, h, c, _⟩
  · exact .base (.lst h)
  · exact .base (.frz h)
  · exact .kList h c
theorem ty_tup {K : PySem.W.Frag} {H : Hp} {a : Addr} {xs : List V} (h : SqT K H a xs) : TyX K H (.ref a) (.type "tuple") := by
  rcases h with (h | ⟨o, h⟩) | ⟨o, its, n, h, c, _⟩
  · exact .base (.tup h)
  · exact .fTuple h
  · exact .kTuple h c
theorem Rp.ty {K : PySem.W.Frag} {H : Hp} {v : V} {d : Da} (h : Rp K H v d) : ∃ t, TyX K H v t ∧ PySem.W.kitOne K t (.type "int") = some (isI d) ∧ PySem.W.kitOne K t (.type "bool") = some (isB d) ∧ PySem.W.kitOne K t (.type "tuple") = some (isT d) := by
  cases h with
  | non => exact ⟨_, .base .non, kit_ty (by decide +kernel : kitB "NoneType" "int" = some false), kit_ty (by decide +kernel : kitB "NoneType" "bool" = some false), kit_ty (by decide +kernel : kitB "NoneType" "tuple" = some false)⟩
  | bl b => exact ⟨_, .base (.bl b), kit_ty (by decide +kernel : kitB "bool" "int" = some true), kit_ty (by decide +kernel : kitB "bool" "bool" = some true), kit_ty (by decide +kernel : kitB "bool" "tuple" = some false)⟩
  | int i => exact ⟨_, .base (.int i), kit_ty (by decide +kernel : kitB "int" "int" = some true), kit_ty (by decide +kernel : kitB "int" "bool" = some false), kit_ty (by decide +kernel : kitB "int" "tuple" = some false)⟩
  | str x => exact ⟨_, .base (.str x), kit_ty (by decide +kernel : kitB "str" "int" = some false), kit_ty (by decide +kernel : kitB "str" "bool" = some false), kit_ty (by decide +kernel : kitB "str" "tuple" = some false)⟩
  | lst h => exact ⟨_, ty_list h, kit_ty (by decide +kernel : kitB "list" "int" = some false), kit_ty (by decide +kernel : kitB "list" "bool" = some false), kit_ty (by decide +kernel : kitB "list" "tuple" = some false)⟩
  | dic h => exact ⟨_, .base (.dK h), kit_ty (by decide +kernel : kitB "dict" "int" = some false), kit_ty (by decide +kernel : kitB "dict" "bool" = some false), kit_ty (by decide +kernel : kitB "dict" "tuple" = some false)⟩
  | tup h r => exact ⟨_, ty_tup h, kit_ty (by decide +kernel : kitB "tuple" "int" = some false), kit_ty (by decide +kernel : kitB "tuple" "bool" = some false), kit_ty (by decide +kernel : kitB "tuple" "tuple" = some true)⟩
/-- a window, as a thing -/
def winD : Da → Bool
  | .tup [.int f, .int l] => decide (0 ≤ f) && decide (f ≤ l) && decide (l ≤ 1000000)
  | _ => false
def pairD : Da → Bool | .tup xs => decide (xs.length = 2) | _ => false
def winsD : Da → Bool
  | .tup ds => decide (1 ≤ ds.length) && decide (ds.length ≤ 40) && ds.all winD
  | _ => false
def workD (n : Nat) : Da → Bool | .int z => decide (0 ≤ z) && decide (z < (n : Int)) | _ => false
def winDa (q : Int × Int) : Da := .tup [.int q.1, .int q.2]
structure Sp1 (vs : List V) (P : V → Prop) : Prop where
  ex : ∃ x, vs = [x] ∧ P x
theorem Sp1.len {vs : List V} {P : V → Prop} (h : Sp1 vs P) : vs.length = 1 := by
  obtain ⟨x, rfl, _⟩ := h.ex
  rfl
structure Sp2 (vs : List V) (P : V → V → Prop) : Prop where
  ex : ∃ x y, vs = [x, y] ∧ P x y
theorem Sp2.len {vs : List V} {P : V → V → Prop} (h : Sp2 vs P) : vs.length = 2 := by
  obtain ⟨x, y, rfl, _⟩ := h.ex
  rfl
structure Sp3 (vs : List V) (P : V → V → V → Prop) : Prop where
  ex : ∃ x y z, vs = [x, y, z] ∧ P x y z
theorem Sp3.len {vs : List V} {P : V → V → V → Prop} (h : Sp3 vs P) : vs.length = 3 := by
  obtain ⟨x, y, z, rfl, _⟩ := h.ex
  rfl
/-- a def that judges a thing, by f -/
abbrev spJudge (K : PySem.W.Frag) (f : Da → Bool) : Sp := fun vs H Q _ => Sp1 vs fun x => ∃ d, Rp K H x d ∧ ∀ H', Ex H H' → Q (.bl (f d)) H'
abbrev sp_is_integer (K : PySem.W.Frag) (A : Ad) : Sp := spJudge K isZ
abbrev sp_is_pair (K : PySem.W.Frag) (A : Ad) : Sp := spJudge K pairD
abbrev sp_is_window (K : PySem.W.Frag) (A : Ad) : Sp := spJudge K winD
abbrev sp_is_windows (K : PySem.W.Frag) (A : Ad) : Sp := spJudge K winsD
/-- a book at b, its windows' tuple at w -/
def BookAt (C : Addr) (H : Hp) (b w : Addr) : Prop := ∃ dx, H b = some (.ins C dx [("windows", .ref w)])
theorem BookAt.mono {C : Addr} {H H' : Hp} {b w : Addr} (h : BookAt C H b w) (e : Ex H H') : BookAt C H' b w := by
  obtain ⟨dx, h⟩ := h
  exact ⟨dx, e _ _ h⟩
abbrev sp_NoWork_init (K : PySem.W.Frag) (A : Ad) : Sp := sp_pass
abbrev sp_BadBook_init (K : PySem.W.Frag) (A : Ad) : Sp := sp_pass
abbrev sp_Book_init (K : PySem.W.Frag) (A : Ad) : Sp := fun vs H Q E => Sp2 vs fun x y => ∃ (p dx : Addr) (d : Da), x = .ref p ∧ H p = some (.ins A.C_Book dx []) ∧ Rp K H y d ∧
  (winsD d = true → ∀ H', Ex H H' → Q .non (L2.upd H' p (.ins A.C_Book dx [("windows", y)]))) ∧ (winsD d = false → ∀ H', Ex H H' → E (.ref A.C_BadBook) none H')
abbrev sp_is_work (K : PySem.W.Frag) (A : Ad) : Sp := fun vs H Q _ => Sp2 vs fun x y => ∃ (b w : Addr) (ws : List (Int × Int)) (d : Da), x = .ref b ∧ BookAt A.C_Book H b w ∧ WinAt K H w ws ∧ Rp K H y d ∧ ∀ H', Ex H H' → Q (.bl (workD ws.length d)) H'
/-- a def upon a book and a work, or NoWork -/
structure OnWork (K : PySem.W.Frag) (A : Ad) (H : Hp) (x y : V) (E : XK) (G : List (Int × Int) → Nat → Prop) : Prop where
  ex : ∃ (b w : Addr) (ws : List (Int × Int)) (d : Da), x = .ref b ∧ BookAt A.C_Book H b w ∧ WinAt K H w ws ∧ Rp K H y d ∧ (workD ws.length d = false → ∀ H', Ex H H' → E (.ref A.C_NoWork) none H') ∧
    ∀ i : Nat, d = .int i → i < ws.length → G ws i
def winAt (ws : List (Int × Int)) (i : Nat) : Int × Int := ws.getD i (0, 0)
def insideB (p q : Int × Int) : Bool := decide (q.1 < p.1) && decide (p.2 < q.2)
def withinL (ws : List (Int × Int)) (i : Nat) : List V := given ws.length (fun j => insideB (winAt ws j) (winAt ws i)) (fun j => .int (j : Nat))
abbrev sp_middle (K : PySem.W.Frag) (A : Ad) : Sp := fun vs H Q E => Sp2 vs fun x y => OnWork K A H x y E fun ws i => ∀ H', Ex H H' → Q (.int ((winAt ws i).1 + (winAt ws i).2)) H'
abbrev sp_within (K : PySem.W.Frag) (A : Ad) : Sp := fun vs H Q E => Sp2 vs fun x y => OnWork K A H x y E fun ws i => ∀ p H', H p = none → Ex H H' → H' p = some (.tup (withinL ws i)) → Q (.ref p) H'
abbrev sp_is_inside (K : PySem.W.Frag) (A : Ad) : Sp := fun vs H Q _ => Sp2 vs fun x y => ∃ (a b : Addr) (p q : Int × Int), x = .ref a ∧ y = .ref b ∧ SqT K H a [.int p.1, .int p.2] ∧ SqT K H b [.int q.1, .int q.2] ∧ Q (.bl (insideB p q)) H
theorem workD_int {n : Nat} {d : Da} (h : workD n d = true) : ∃ i : Nat, d = .int i ∧ i < n := by
  cases d with
  | int z =>
    simp only [workD, Bool.and_eq_true, decide_eq_true_eq] at h
    exact ⟨z.toNat, by rw [Int.toNat_of_nonneg h.1], by omega⟩
  | _ => cases h
theorem WinAt.item {K : PySem.W.Frag} {H : Hp} {ws : List (Int × Int)} {as : List Addr} (h2 : as.length = ws.length) (h3 : ∀ (i : Nat) (a : Addr) (q : Int × Int), as[i]? = some a → ws[i]? = some q → SqT K H a [.int q.1, .int q.2]) {i : Nat} (hi : i < ws.length) :
    ∃ a, (as.map V.ref)[i]? = some (.ref a) ∧ SqT K H a [.int (winAt ws i).1, .int (winAt ws i).2] := by
  have e1 : as[i]? = some (as[i]'(by omega)) := List.getElem?_eq_getElem _
  have e2 : ws[i]? = some (ws[i]) := List.getElem?_eq_getElem _
  have e3 : winAt ws i = ws[i] := by
    unfold winAt
    rw [List.getD_eq_getElem?_getD, e2] <;> rfl
  rw [e3]
  exact ⟨_, by rw [List.getElem?_map, e1] <;> rfl, h3 i _ _ e1 e2⟩
/-! ### tuples of ints, compared -/
def dInts (l : List Int) : PyData := .tuple (l.map .int)
theorem dpAll_ints {K : PySem.W.Frag} {H : Hp} : ∀ l : List Int, DpAll K H (l.map V.int) (l.map PyData.int)
  | [] => .nil
  | i :: r => .cons (.int i) (dpAll_ints r)
theorem dp_ints {K : PySem.W.Frag} {H : Hp} {a : Addr} {l : List Int} (h : SqT K H a (l.map V.int)) : Dp K H (.ref a) (dInts l) := .tup h (dpAll_ints l)
theorem lay_ints : ∀ l : List Int, PyData.canLayAll0 (l.map .int) = true
  | [] => by simp only [List.map_nil, PyData.canLayAll0]
  | i :: r => by
    simp only [List.map_cons, PyData.canLayAll0, PyData.canLay0, lay_ints r]
    rfl
theorem deep_ints : ∀ l : List Int, PyData.depthAll (l.map .int) = 0
  | [] => by simp only [List.map_nil, PyData.depthAll]
  | i :: r => by
    simp only [List.map_cons, PyData.depthAll, PyData.depth, deep_ints r]
    rfl
theorem shaped_ints (l : List Int) : SeqAt.shaped (dInts l) = true := by
  unfold SeqAt.shaped dInts
  simp only [PyData.canLay0, PyData.depth, lay_ints, deep_ints]
  decide
theorem eqvAll_ints : ∀ l m : List Int, PyData.eqvAll (l.map .int) (m.map .int) = decide (l = m)
  | [], [] => by simp [PyData.eqvAll]
  | [], _ :: _ => by simp [PyData.eqvAll]
  | _ :: _, [] => by simp [PyData.eqvAll]
  | i :: l, j :: m => by
    simp only [List.map_cons, PyData.eqvAll, PyData.eqv, eqvAll_ints l m]
    by_cases h1 : i = j <;> by_cases h2 : l = m <;> simp [h1, h2]
theorem eqv_dInts (l m : List Int) : PyData.eqv (dInts l) (dInts m) = decide (l = m) := by
  unfold dInts
  simp only [PyData.eqv, eqvAll_ints]
theorem inV_ints (z : Int) (l : List Int) : inV (.int z) (l.map V.int) = decide (z ∈ l) := by
  unfold inV
  induction l with
  | nil => simp
  | cons i r ih =>
    rw [List.map_cons, List.any_cons, ih]
    by_cases h : i = z
    · simp [eqV, h]
    · have h' : ¬ z = i := fun e => h e.symm
      simp [eqV, h, h']
theorem flat_ints (l : List Int) : (l.map V.int).all flatV = true := by
  rw [List.all_eq_true]
  intro x hx
  obtain ⟨i, _, rfl⟩ := List.mem_map.mp hx
  rfl
theorem WinAt.rp {K : PySem.W.Frag} {H : Hp} {w : Addr} {ws : List (Int × Int)} (h : WinAt K H w ws) : Rp K H (.ref w) (.tup (ws.map winDa)) := by
  obtain ⟨_, as, h1, h2, h3⟩ := h
  refine .tup h1 ?_
  clear h1
  induction ws generalizing as with
  | nil =>
    cases as with
    | nil => exact .nil
    | cons _ _ => simp at h2
  | cons q r ih =>
    cases as with
    | nil => simp at h2
    | cons a s =>
      refine .cons (.tup (h3 0 a q rfl rfl) (.cons (.int _) (.cons (.int _) .nil))) (ih ?_ s (by simpa using h2) fun i a q x y => h3 (i + 1) a q x y)
      have : (q :: r).length ≤ 1000 := by assumption
      simp at this
      omega
theorem winsD_of {ws : List (Int × Int)} (h1 : 1 ≤ ws.length) (h2 : ws.length ≤ 40) (h3 : ∀ q ∈ ws, inWin 1000000 q) : winsD (.tup (ws.map winDa)) = true := by
  simp only [winsD, List.length_map, Bool.and_eq_true, decide_eq_true_eq, List.all_eq_true]
  refine ⟨⟨h1, h2⟩, fun x hx => ?_⟩
  obtain ⟨q, hq, rfl⟩ := List.mem_map.mp hx
  obtain ⟨a, b, c⟩ := h3 q hq
  simp [winDa, winD, a, b, c]
def withinN (ws : List (Int × Int)) (i : Nat) : List Int := ((List.range ws.length).filter fun j => insideB (winAt ws j) (winAt ws i)).map fun j => ((j : Nat) : Int)
theorem withinL_eq (ws : List (Int × Int)) (i : Nat) : withinL ws i = (withinN ws i).map V.int := by
  unfold withinL withinN given
  rw [List.map_map] <;> rfl
theorem mem_withinN {ws : List (Int × Int)} {i : Nat} {z : Int} : z ∈ withinN ws i ↔ ∃ j : Nat, z = (j : Int) ∧ j < ws.length ∧ insideB (winAt ws j) (winAt ws i) = true := by
  unfold withinN
  rw [List.mem_map]
  constructor
  · rintro ⟨j, hj, rfl⟩
    rw [List.mem_filter, List.mem_range] at hj
    exact ⟨j, rfl, hj.1, hj.2⟩
  · rintro ⟨j, rfl, h1, h2⟩
    exact ⟨j, List.mem_filter.mpr ⟨List.mem_range.mpr h1, h2⟩, rfl⟩
theorem insideB_iff {p q : Int × Int} : insideB p q = true ↔ q.1 < p.1 ∧ p.2 < q.2 := by
  unfold insideB
  rw [Bool.and_eq_true, decide_eq_true_eq, decide_eq_true_eq]
abbrev sp_l_refused (K : PySem.W.Frag) (A : Ad) : Sp := fun vs H Q _ => Sp3 vs fun x y z => ∃ (k : Int) (b w : Addr) (ws : List (Int × Int)) (d : Da), x = .int k ∧ y = .ref b ∧ BookAt A.C_Book H b w ∧ WinAt K H w ws ∧ Rp K H z d ∧ workD ws.length d = false ∧ ∀ H', Ex H H' → Q (.bl true) H'
/-- the law's own promise: the script's ints are handed in, True comes out -/
structure SpLaw (K : PySem.W.Frag) (vs : List V) (H : Hp) (Q : VK) : Prop where
  ex : ∃ (a : Addr) (ns : List Int), vs = [.ref a] ∧ SqL K H a (ns.map V.int) ∧ ns.length ≤ 63 ∧ ∀ H', Q (.bl true) H'
theorem SpLaw.len {K : PySem.W.Frag} {vs : List V} {H : Hp} {Q : VK} (h : SpLaw K vs H Q) : vs.length = 1 := by
  obtain ⟨a, ns, rfl, _⟩ := h.ex
  rfl
abbrev sp_law (K : PySem.W.Frag) (A : Ad) : Sp := fun vs H Q _ => SpLaw K vs H Q
theorem atI_three {a b c : Int} {d : Int} (h0 : 0 ≤ d) (h1 : d < 3) : ∃ t, atI [V.int a, .int b, .int c] d = some (.int t) ∧ (t = a ∨ t = b ∨ t = c) := by
  have : d = 0 ∨ d = 1 ∨ d = 2 := by omega
  rcases this with rfl | rfl | rfl
  · exact ⟨a, rfl, .inl rfl⟩
  · exact ⟨b, rfl, .inr (.inl rfl)⟩
  · exact ⟨c, rfl, .inr (.inr rfl)⟩
/-! ### rows, lots, runs -/
def daInt : Da → Int | .int z => z | _ => 0
def rowD (n : Nat) : Da → Bool
  | .tup ds => ds.all (workD n) && decide ((ds.map daInt).Nodup)
  | _ => false
def lenD : Da → Bool | .non => true | .int z => decide (0 ≤ z) | _ => false
def lotD (n : Nat) : Da → Bool
  | .tup ds => decide (ds.length = n) && ds.all lenD
  | _ => false
def isNon : Da → Bool | .non => true | _ => false
def inAt (ls : List Da) (rs : List Int) (i : Nat) : Bool := (match ls[i]? with | some d => isNon d | none => false) || decide ((i : Int) ∈ rs)
def allInD : Da → Da → Bool
  | .tup ls, .tup rs => (List.range ls.length).all (inAt ls (rs.map daInt))
  | _, _ => false
/-- 0: right, 1: no row, 2: no lot -/
def runD (n : Nat) (r l : Da) : Nat := if rowD n r = true then (if lotD n l = true ∧ allInD l r = true then 0 else 2) else 1
def smallD : Da → Prop | .tup ds => ds.length ≤ 1000 | _ => True
abbrev sp_NoRow_init (K : PySem.W.Frag) (A : Ad) : Sp := sp_pass
abbrev sp_NoLot_init (K : PySem.W.Frag) (A : Ad) : Sp := sp_pass
/-- a def that judges a thing of a book -/
structure OnBook (K : PySem.W.Frag) (A : Ad) (H : Hp) (x y : V) (G : List (Int × Int) → Da → Prop) : Prop where
  ex : ∃ (b w : Addr) (ws : List (Int × Int)) (d : Da), x = .ref b ∧ BookAt A.C_Book H b w ∧ WinAt K H w ws ∧ Rp K H y d ∧ smallD d ∧ G ws d
abbrev sp_is_row (K : PySem.W.Frag) (A : Ad) : Sp := fun vs H Q _ => Sp2 vs fun x y => OnBook K A H x y fun ws d => ∀ H', Ex H H' → Q (.bl (rowD ws.length d)) H'
abbrev sp_is_length_or_none (K : PySem.W.Frag) (A : Ad) : Sp := spJudge K lenD
abbrev sp_is_lot (K : PySem.W.Frag) (A : Ad) : Sp := fun vs H Q _ => Sp2 vs fun x y => OnBook K A H x y fun ws d => ∀ H', Ex H H' → Q (.bl (lotD ws.length d)) H'
abbrev sp_is_all_in (K : PySem.W.Frag) (A : Ad) : Sp := fun vs H Q _ => Sp2 vs fun x y => ∃ (ls rs : List Da) (zs : List Int), Rp K H x (.tup ls) ∧ Rp K H y (.tup rs) ∧ rs = zs.map .int ∧ ls.length ≤ 1000 ∧ ∀ H', Ex H H' → Q (.bl (allInD (.tup ls) (.tup rs))) H'
abbrev sp_check_run (K : PySem.W.Frag) (A : Ad) : Sp := fun vs H Q E => Sp3 vs fun x y z => ∃ (b w : Addr) (ws : List (Int × Int)) (r l : Da), x = .ref b ∧ BookAt A.C_Book H b w ∧ WinAt K H w ws ∧ Rp K H y r ∧ Rp K H z l ∧ smallD r ∧ smallD l ∧
  (runD ws.length r l = 1 → ∀ H', Ex H H' → E (.ref A.C_NoRow) none H') ∧ (runD ws.length r l = 2 → ∀ H', Ex H H' → E (.ref A.C_NoLot) none H') ∧ (runD ws.length r l = 0 → ∀ H', Ex H H' → Q .non H')
def vNat (j : Nat) : V := .int (j : Int)
def vO : Option Int → V | none => .non | some n => .int n
def dNat (j : Nat) : Da := .int (j : Int)
def dO : Option Int → Da | none => .non | some n => .int n
/-- those of the row that are there -/
def comingN (row : List Nat) (lot : List (Option Int)) : List Nat := row.filter fun j => ((lot[j]?).getD none).isSome
def lenAt (lot : List (Option Int)) (j : Nat) : Int := ((lot[j]?).getD none).getD 0
/-- (work, begin, end), from this hour on -/
def stepsF (ws : List (Int × Int)) (lot : List (Option Int)) : Int → List Nat → List (Int × Int × Int)
  | _, [] => []
  | h, j :: r =>
    let b := if (winAt ws j).1 > h then (winAt ws j).1 else h
    ((j : Int), b, b + lenAt lot j) :: stepsF ws lot (b + lenAt lot j) r
def stepsN (ws : List (Int × Int)) (row : List Nat) (lot : List (Option Int)) : List (Int × Int × Int) := stepsF ws lot 0 (comingN row lot)
def vTri (q : Int × Int × Int) : List V := [.int q.1, .int q.2.1, .int q.2.2]
/-- the addresses of triples -/
def TrisAt (K : PySem.W.Frag) (H : Hp) (as : List Addr) (ts : List (Int × Int × Int)) : Prop := as.length = ts.length ∧ ∀ (i : Nat) (a : Addr) (q : Int × Int × Int), as[i]? = some a → ts[i]? = some q → H a = some (.tup (vTri q))
theorem TrisAt.mono {K : PySem.W.Frag} {H H' : Hp} {as : List Addr} {ts : List (Int × Int × Int)} (h : TrisAt K H as ts) (e : Ex H H') : TrisAt K H' as ts := ⟨h.1, fun i a q x y => e _ _ (h.2 i a q x y)⟩
/-- a right row and a right lot of a book -/
structure Right (ws : List (Int × Int)) (row : List Nat) (lot : List (Option Int)) : Prop where
  lt : ∀ j ∈ row, j < ws.length
  nd : row.Nodup
  sz : lot.length = ws.length
  ge : ∀ n, some n ∈ lot → 0 ≤ n
  isin : ∀ j : Nat, (lot[j]?).getD none ≠ none → j ∈ row
structure RunOn (K : PySem.W.Frag) (A : Ad) (H : Hp) (x y z : V) (G : List (Int × Int) → List Nat → List (Option Int) → Prop) : Prop where
  ex : ∃ (b w : Addr) (ws : List (Int × Int)) (row : List Nat) (lot : List (Option Int)) (a c : Addr), x = .ref b ∧ y = .ref a ∧ z = .ref c ∧ BookAt A.C_Book H b w ∧ WinAt K H w ws ∧ SqT K H a (row.map vNat) ∧ SqT K H c (lot.map vO) ∧
    (∀ j ∈ row, j < ws.length) ∧ lot.length = ws.length ∧ row.length ≤ 1000 ∧ G ws row lot
abbrev sp_coming (K : PySem.W.Frag) (A : Ad) : Sp := fun vs H Q _ => Sp2 vs fun y z => ∃ (row : List Nat) (lot : List (Option Int)) (a c : Addr), y = .ref a ∧ z = .ref c ∧ SqT K H a (row.map vNat) ∧ SqT K H c (lot.map vO) ∧ (∀ j ∈ row, j < lot.length) ∧ row.length ≤ 1000 ∧ RetL ((comingN row lot).map vNat) H Q
abbrev sp_steps (K : PySem.W.Frag) (A : Ad) : Sp := fun vs H Q _ => Sp3 vs fun x y z => RunOn K A H x y z fun ws row lot => ∀ (l : Addr) (as : List Addr) (H' : Hp), H l = none → Ex H H' → H' l = some (.lst (as.map V.ref)) → TrisAt K H' as (stepsN ws row lot) → Q (.ref l) H'
abbrev sp_run (K : PySem.W.Frag) (A : Ad) : Sp := fun vs H Q E => Sp3 vs fun x y z => RunOn K A H x y z fun ws row lot => Right ws row lot ∧ ∀ (l : Addr) (as : List Addr) (H' : Hp), H l = none → Ex H H' → H' l = some (.tup (as.map V.ref)) → TrisAt K H' as (stepsN ws row lot) → Q (.ref l) H'
theorem works_ints {K : PySem.W.Frag} {H : Hp} {n : Nat} : ∀ {xs : List V} {ds : List Da}, RpAll K H xs ds → ds.all (workD n) = true → xs = (ds.map daInt).map V.int ∧ ds = (ds.map daInt).map Da.int
  | _, _, .nil, _ => ⟨rfl, rfl⟩
  | _, _, .cons h r, e => by
    rw [List.all_cons, Bool.and_eq_true] at e
    obtain ⟨e1, e2⟩ := works_ints r e.2
    obtain ⟨i, rfl, _⟩ := workD_int e.1
    cases h
    refine ⟨?_, ?_⟩
    · rw [List.map_cons, List.map_cons, ← e1] <;> rfl
    · rw [List.map_cons, List.map_cons, ← e2] <;> rfl
theorem len_le_of_nodup : ∀ {m l : List Int}, m.Nodup → (∀ k ∈ m, k ∈ l) → m.length ≤ l.length
  | [], _, _, _ => Nat.zero_le _
  | x :: r, l, nd, h => by
    have hx := h x (List.mem_cons_self ..)
    obtain ⟨n1, n2⟩ := List.nodup_cons.mp nd
    have ih := len_le_of_nodup (m := r) (l := l.erase x) n2 fun k hk => (List.mem_erase_of_ne (fun e : k = x => n1 (by rw [← e]; exact hk))).mpr (h k (List.mem_cons_of_mem _ hk))
    have := List.length_erase_of_mem hx
    have h0 : 0 < l.length := List.length_pos_of_mem hx
    rw [List.length_cons]
    omega
theorem dup_of : ∀ {l : List Int}, ¬ l.Nodup → ∃ x ∈ l, x ∈ l.erase x
  | [], h => absurd List.nodup_nil h
  | y :: r, h => by
    by_cases hy : y ∈ r
    · exact ⟨y, List.mem_cons_self .., by rw [List.erase_cons_head]; exact hy⟩
    · have hr : ¬ r.Nodup := fun n => h (List.nodup_cons.mpr ⟨hy, n⟩)
      obtain ⟨x, hx, he⟩ := dup_of hr
      refine ⟨x, List.mem_cons_of_mem _ hx, ?_⟩
      have hn : y ≠ x := fun e => hy (by rw [e]; exact hx)
      rw [List.erase_cons_tail (by simpa using hn)]
      exact List.mem_cons_of_mem _ he
theorem len_nodup {m l : List Int} (nd : m.Nodup) (h : ∀ k, k ∈ m ↔ k ∈ l) : m.length = l.length ↔ l.Nodup := by
  have h1 := len_le_of_nodup nd fun k hk => (h k).mp hk
  constructor
  · intro e
    apply Classical.byContradiction
    intro n
    obtain ⟨x, hx, he⟩ := dup_of n
    have h2 := len_le_of_nodup (l := l.erase x) nd fun k hk => by
      by_cases hkx : k = x
      · rw [hkx]
        exact he
      · exact (List.mem_erase_of_ne hkx).mpr ((h k).mp hk)
    have := List.length_erase_of_mem hx
    have h0 : 0 < l.length := List.length_pos_of_mem hx
    omega
  · intro n
    have h2 := len_le_of_nodup n fun k hk => (h k).mpr hk
    omega
theorem rp_row {K : PySem.W.Frag} {H : Hp} {a : Addr} {row : List Nat} (h : SqT K H a (row.map vNat)) : Rp K H (.ref a) (.tup (row.map dNat)) := by
  refine .tup h ?_
  clear h
  induction row with
  | nil => exact .nil
  | cons j r ih => exact .cons (.int _) ih
theorem rp_lot {K : PySem.W.Frag} {H : Hp} {a : Addr} {lot : List (Option Int)} (h : SqT K H a (lot.map vO)) : Rp K H (.ref a) (.tup (lot.map dO)) := by
  refine .tup h ?_
  clear h
  induction lot with
  | nil => exact .nil
  | cons j r ih =>
    cases j with
    | none => exact .cons .non ih
    | some n => exact .cons (.int n) ih
theorem da_row (row : List Nat) : (row.map dNat).map daInt = row.map fun j => ((j : Nat) : Int) := by
  rw [List.map_map] <;> rfl
theorem right_run {ws : List (Int × Int)} {row : List Nat} {lot : List (Option Int)} (R : Right ws row lot) : runD ws.length (.tup (row.map dNat)) (.tup (lot.map dO)) = 0 := by
  have h1 : rowD ws.length (.tup (row.map dNat)) = true := by
    simp only [rowD, Bool.and_eq_true, decide_eq_true_eq, List.all_eq_true]
    refine ⟨fun x hx => ?_, ?_⟩
    · obtain ⟨j, hj, rfl⟩ := List.mem_map.mp hx
      have := R.lt j hj
      simp [dNat, workD, this]
    · rw [da_row]
      refine List.pairwise_map.mpr (R.nd.imp fun h e => h ?_)
      omega
  have h2 : lotD ws.length (.tup (lot.map dO)) = true := by
    simp only [lotD, List.length_map, Bool.and_eq_true, decide_eq_true_eq, List.all_eq_true]
    refine ⟨R.sz, fun x hx => ?_⟩
    obtain ⟨j, hj, rfl⟩ := List.mem_map.mp hx
    cases j with
    | none => rfl
    | some n =>
      have := R.ge n hj
      simp [dO, lenD, this]
  have h3 : allInD (.tup (lot.map dO)) (.tup (row.map dNat)) = true := by
    simp only [allInD, List.all_eq_true, List.length_map]
    intro i hi
    rw [List.mem_range] at hi
    unfold inAt
    rw [da_row, List.getElem?_map]
    have e : lot[i]? = some lot[i] := List.getElem?_eq_getElem hi
    have is := R.isin i
    rw [e] at is
    rw [e]
    cases h : lot[i] with
    | none => rfl
    | some n =>
      rw [h] at is
      have : i ∈ row := is (by simp)
      simp [dO, isNon]
      exact ⟨i, this, rfl⟩
  unfold runD
  rw [if_pos h1, if_pos ⟨h2, h3⟩]
theorem TrisAt.add {K : PySem.W.Frag} {H : Hp} {f r : Addr} {xs ys : List V} {as : List Addr} {ts : List (Int × Int × Int)} {q : Int × Int × Int} (h : TrisAt K H as ts) (hf : H f = some (.lst xs)) (hr : H r = some (.tup (vTri q))) : TrisAt K (L2.upd H f (.lst ys)) (as ++ [r]) (ts ++ [q]) := by
  obtain ⟨h2, h3⟩ := h
  have nf : ∀ {a : Addr} {zs : List V}, H a = some (.tup zs) → a ≠ f := fun {a zs} z e => by
    rw [e, hf] at z
    cases z
  refine ⟨by rw [List.length_append, List.length_append, h2] <;> rfl, fun i a q' x y => ?_⟩
  by_cases hi : i < as.length
  · rw [List.getElem?_append_left hi] at x
    rw [List.getElem?_append_left (by omega)] at y
    have z := h3 i a q' x y
    rw [upd_ne (nf z)]
    exact z
  · rw [List.getElem?_append_right (by omega)] at x
    rw [List.getElem?_append_right (by omega)] at y
    have e0 : i - as.length = 0 := by
      have := (List.getElem?_eq_some_iff.mp x).1
      simp at this
      omega
    rw [e0] at x
    rw [← h2, e0] at y
    cases (Option.some.inj x)
    cases (Option.some.inj y)
    rw [upd_ne (nf hr)]
    exact hr
theorem nats_get {ms : List Nat} {i : Nat} {y : V} (h : (ms.map vNat)[i]? = some y) : ∃ z, ms[i]? = some z ∧ y = .int (z : Int) := by
  rw [List.getElem?_map] at h
  cases e : ms[i]? with
  | none =>
    rw [e] at h
    cases h
  | some z =>
    rw [e] at h
    exact ⟨z, rfl, (Option.some.inj h).symm⟩
theorem lot_at {lot : List (Option Int)} {j : Nat} (h : j < lot.length) : atI (lot.map vO) (j : Int) = some (vO ((lot[j]?).getD none)) := by
  refine atI_of ?_
  rw [List.getElem?_map, List.getElem?_eq_getElem h] <;> rfl
theorem comingN_le (row : List Nat) (lot : List (Option Int)) : (comingN row lot).length ≤ row.length := List.length_filter_le ..
theorem comingN_mem {row : List Nat} {lot : List (Option Int)} {j : Nat} (h : j ∈ comingN row lot) : j ∈ row ∧ ∃ n, (lot[j]?).getD none = some n := by
  obtain ⟨h1, h2⟩ := List.mem_filter.mp h
  exact ⟨h1, Option.isSome_iff_exists.mp h2⟩
theorem drop_of {α : Type} {l : List α} {i : Nat} {x : α} (h : l[i]? = some x) : l.drop i = x :: l.drop (i + 1) := by
  obtain ⟨hi, e⟩ := List.getElem?_eq_some_iff.mp h
  rw [List.drop_eq_getElem_cons hi, e]
/-! ### the law's own drawn rows and lots -/
theorem sqt_kept {K : PySem.W.Frag} {H H' : Hp} {p c a : Addr} {xs : List V} (h : SqT K H a xs) (P : PoolAt H p c) (k : Kept p c H H') : SqT K H' a xs := by
  have ne : ∀ {o : HO}, H a = some o → (∀ ys, o ≠ .lst ys) → a ≠ p ∧ a ≠ c := fun {o} e n => by
    constructor
    · intro z
      obtain ⟨i, j, q⟩ := P.ob
      rw [z, q] at e
      exact n _ (Option.some.inj e).symm
    · intro z
      obtain ⟨ns, q⟩ := P.cl
      rw [z, q] at e
      exact n _ (Option.some.inj e).symm
  rcases h with (h | ⟨o, h⟩) | h
  · have q := ne h (fun ys z => by cases z)
    exact .inl (.inl (k _ _ q.1 q.2 h))
  · have q := ne h (fun ys z => by cases z)
    exact .inl (.inr ⟨o, k _ _ q.1 q.2 h⟩)
  · exact .inr h
theorem WinAt.kept {K : PySem.W.Frag} {H H' : Hp} {p c w : Addr} {ws : List (Int × Int)} (h : WinAt K H w ws) (P : PoolAt H p c) (k : Kept p c H H') : WinAt K H' w ws := by
  obtain ⟨hl, as, h1, h2, h3⟩ := h
  exact ⟨hl, ⟨as, sqt_kept h1 P k, h2, fun i a q x y => sqt_kept (h3 i a q x y) P k⟩⟩
theorem BookAt.kept {C : Addr} {H H' : Hp} {p c b w : Addr} (h : BookAt C H b w) (P : PoolAt H p c) (k : Kept p c H H') : BookAt C H' b w := by
  obtain ⟨dx, h⟩ := h
  refine ⟨dx, k _ _ ?_ ?_ h⟩
  · intro z
    obtain ⟨i, j, q⟩ := P.ob
    rw [z, q] at h
    cases h
  · intro z
    obtain ⟨ns, q⟩ := P.cl
    rw [z, q] at h
    cases h
theorem free_kept {H H' : Hp} {p c a : Addr} (P : PoolAt H' p c) (k : Kept p c H H') (n : H' a = none) : H a = none := by
  cases e : H a with
  | none => rfl
  | some o =>
    rw [k a o (P.nep n) (P.nec n) e] at n
    cases n
/-- a list or a tuple of works, told by numbers, not of the pool -/
def WorksAt (K : PySem.W.Frag) (H : Hp) (p c a : Addr) (row : List Nat) : Prop := SqT K H a (row.map vNat) ∨ (H a = some (.lst (row.map vNat)) ∧ a ≠ p ∧ a ≠ c)
theorem WorksAt.kept {K : PySem.W.Frag} {H H' : Hp} {p c a : Addr} {row : List Nat} (h : WorksAt K H p c a row) (P : PoolAt H p c) (k : Kept p c H H') : WorksAt K H' p c a row := by
  rcases h with h | ⟨h, n1, n2⟩
  · exact .inl (sqt_kept h P k)
  · exact .inr ⟨k _ _ n1 n2 h, n1, n2⟩
theorem WorksAt.mono {K : PySem.W.Frag} {H H' : Hp} {p c a : Addr} {row : List Nat} (h : WorksAt K H p c a row) (e : Ex H H') : WorksAt K H' p c a row := by
  rcases h with h | ⟨h, n1, n2⟩
  · exact .inl (ex_t e h)
  · exact .inr ⟨e _ _ h, n1, n2⟩
theorem WorksAt.seq {K : PySem.W.Frag} {H : Hp} {p c a : Addr} {row : List Nat} (h : WorksAt K H p c a row) : SqL K H a (row.map vNat) ∨ SqT K H a (row.map vNat) := by
  rcases h with h | ⟨h, _⟩
  · exact .inr h
  · exact .inl (SqL.of h)
abbrev sp_l_row (K : PySem.W.Frag) (A : Ad) : Sp := fun vs H Q _ => Sp2 vs fun x y => ∃ (p c a : Addr) (row : List Nat), x = .ref p ∧ y = .ref a ∧ PoolAt H p c ∧ WorksAt K H p c a row ∧ row.length ≤ 1000 ∧
  ∀ (w : Addr) (out : List Nat) (H' : Hp), H w = none → out.Perm row → H' w = some (.tup (out.map vNat)) → PoolAt H' p c → Kept p c H H' → Q (.ref w) H'
abbrev sp_l_some (K : PySem.W.Frag) (A : Ad) : Sp := fun vs H Q _ => Sp2 vs fun x y => ∃ (p c : Addr) (n : Nat), x = .ref p ∧ y = .int (n : Int) ∧ PoolAt H p c ∧ n ≤ 1000 ∧
  ∀ (w : Addr) (out : List Nat) (H' : Hp), H w = none → (∀ j ∈ out, j < n) → out.Nodup → H' w = some (.tup (out.map vNat)) → PoolAt H' p c → Kept p c H H' → Q (.ref w) H'
abbrev sp_l_lot (K : PySem.W.Frag) (A : Ad) : Sp := fun vs H Q _ => Sp3 vs fun x y z => ∃ (p c w a : Addr) (ws : List (Int × Int)) (row : List Nat), x = .ref p ∧ y = .ref w ∧ z = .ref a ∧ PoolAt H p c ∧ WinAt K H w ws ∧ WorksAt K H p c a row ∧ (∀ q ∈ ws, inWin 1000000 q) ∧
  ∀ (l : Addr) (lot : List (Option Int)) (H' : Hp), H l = none → lot.length = ws.length → (∀ n, some n ∈ lot → 0 ≤ n ∧ n ≤ 1000001) → (∀ j : Nat, j < ws.length → ((lot[j]?).getD none ≠ none ↔ j ∈ row)) → H' l = some (.tup (lot.map vO)) → PoolAt H' p c → Kept p c H H' → Q (.ref l) H'
abbrev sp_l_run (K : PySem.W.Frag) (A : Ad) : Sp := fun vs H Q _ => Sp3 vs fun x y z => ∃ (w a c : Addr) (ws : List (Int × Int)) (row : List Nat) (lot : List (Option Int)), x = .ref w ∧ y = .ref a ∧ z = .ref c ∧ WinAt K H w ws ∧ SqT K H a (row.map vNat) ∧ SqT K H c (lot.map vO) ∧
  (∀ j ∈ row, j < ws.length) ∧ lot.length = ws.length ∧ row.length ≤ 1000 ∧ ∀ (l : Addr) (as : List Addr) (H' : Hp), H l = none → Ex H H' → H' l = some (.lst (as.map V.ref)) → TrisAt K H' as (stepsN ws row lot) → Q (.ref l) H'
theorem seqIx_of {d : Int} {n : Nat} (h0 : 0 ≤ d) (h1 : d < n) : seqIndex? d n = some d.toNat := by
  unfold seqIndex?
  simp [h0, h1, show ¬ d < 0 by omega]
theorem inV_nats (z : Nat) (l : List Nat) : inV (.int (z : Int)) (l.map vNat) = decide (z ∈ l) := by
  unfold inV
  induction l with
  | nil => simp
  | cons i r ih =>
    rw [List.map_cons, List.any_cons, ih]
    by_cases h : i = z
    · simp [eqV, vNat, h]
    · have h' : ¬ z = i := fun e => h e.symm
      have h2 : ¬ ((i : Int) = (z : Int)) := by omega
      simp [eqV, vNat, h', h2]
theorem flat_nats (l : List Nat) : (l.map vNat).all flatV = true := by
  rw [List.all_eq_true]
  intro x hx
  obtain ⟨i, _, rfl⟩ := List.mem_map.mp hx
  rfl
theorem fdiv_two {n : Int} (h0 : 0 ≤ n) : 0 ≤ n / 2 ∧ n / 2 ≤ n := by omega
theorem map_eraseIdx' {α β : Type} (f : α → β) : ∀ (l : List α) (k : Nat), (l.map f).eraseIdx k = (l.eraseIdx k).map f
  | [], _ => rfl
  | _ :: _, 0 => rfl
  | a :: l, k + 1 => congrArg (f a :: ·) (map_eraseIdx' f l k)
theorem perm_eraseIdx : ∀ {l : List Nat} {k : Nat} (h : k < l.length), (l[k] :: l.eraseIdx k).Perm l
  | a :: l, 0, _ => List.Perm.refl _
  | a :: l, k + 1, h => (List.Perm.swap a (l[k]'(by simpa using h)) (l.eraseIdx k)).trans ((perm_eraseIdx (l := l) (k := k) (by simpa using h)).cons a)
/-! ### tuples of triples, compared -/
def dTri (q : Int × Int × Int) : PyData := .tuple [.int q.1, .int q.2.1, .int q.2.2]
def dTris (ts : List (Int × Int × Int)) : PyData := .tuple (ts.map dTri)
theorem dp_tris {K : PySem.W.Frag} {H : Hp} {l : Addr} {as : List Addr} {ts : List (Int × Int × Int)} (h : SqT K H l (as.map V.ref)) (t : TrisAt K H as ts) : Dp K H (.ref l) (dTris ts) := by
  refine .tup h ?_
  obtain ⟨t1, t2⟩ := t
  clear h
  induction ts generalizing as with
  | nil =>
    cases as with
    | nil => exact .nil
    | cons _ _ => simp at t1
  | cons q r ih =>
    cases as with
    | nil => simp at t1
    | cons a s => exact .cons (.tup (SqT.of (t2 0 a q rfl rfl)) (.cons (.int _) (.cons (.int _) (.cons (.int _) .nil)))) (ih (by simpa using t1) fun i a q x y => t2 (i + 1) a q x y)
theorem lay_tris : ∀ ts : List (Int × Int × Int), PyData.canLayAll0 (ts.map dTri) = true
  | [] => by simp only [List.map_nil, PyData.canLayAll0]
  | q :: r => by
    simp only [List.map_cons, PyData.canLayAll0, dTri, PyData.canLay0, lay_tris r]
    rfl
theorem deep_tris : ∀ ts : List (Int × Int × Int), PyData.depthAll (ts.map dTri) ≤ 1
  | [] => by simp only [List.map_nil, PyData.depthAll]; omega
  | q :: r => by
    have := deep_tris r
    simp only [List.map_cons, PyData.depthAll, dTri, PyData.depth]
    omega
theorem shaped_tris (ts : List (Int × Int × Int)) : SeqAt.shaped (dTris ts) = true := by
  have h := deep_tris ts
  unfold SeqAt.shaped dTris
  have e1 : PyData.canLay0 (.tuple (ts.map dTri)) = true := by simp only [PyData.canLay0, lay_tris]
  rw [e1, Bool.true_and]
  apply decide_eq_true
  simp only [PyData.depth]
  omega
theorem eqv_tris (ts : List (Int × Int × Int)) : PyData.eqv (dTris ts) (dTris ts) = true := SeqAt.eqv_refl _ (by
  unfold dTris
  simp only [PyData.canLay0, lay_tris])
theorem comingN_self (row : List Nat) (lot : List (Option Int)) : comingN (comingN row lot) lot = comingN row lot := by
  unfold comingN
  rw [List.filter_filter]
  congr 1
  funext j
  rw [Bool.and_self]
theorem comingN_app (r s : List Nat) (lot : List (Option Int)) : comingN (r ++ s) lot = comingN r lot ++ comingN s lot := List.filter_append ..
theorem comingN_away {r : List Nat} {lot : List (Option Int)} (h : ∀ j ∈ r, (lot[j]?).getD none = none) : comingN r lot = [] := by
  unfold comingN
  rw [List.filter_eq_nil_iff]
  intro j hj
  rw [h j hj]
  exact Bool.false_ne_true
theorem cat_read {K : PySem.W.Frag} {H : Hp} {a b : Addr} {xs ys : List V} {Q : VK} (ha : SqT K H a xs) (hb : SqT K H b ys) (hl : xs.length + ys.length ≤ 2000) (k : ∀ r H', Ex H H' → SqT K H' r (xs ++ ys) → Q (.ref r) H') : rCatA K (.ref a) (.ref b) H Q := by
  refine ⟨a, b, xs, ys, rfl, rfl, ha, hb, sz_of (by omega), fun e => ?_, fun _ e => ?_, fun _ _ p np => k p _ (Ex.new np) (SqT.of upd_same)⟩
  · refine k b H (Ex.refl H) ?_
    rw [e, List.nil_append]
    exact hb
  · refine k a H (Ex.refl H) ?_
    rw [e, List.append_nil]
    exact ha
theorem map_setO (lot : List (Option Int)) (j : Nat) (d : Int) : (lot.map vO).set j (.int d) = (lot.set j (some d)).map vO := by
  rw [List.map_set] <;> rfl
/-- a lot just of these works -/
structure LotOf (ws : List (Int × Int)) (works : List Nat) (lot : List (Option Int)) : Prop where
  sz : lot.length = ws.length
  ge : ∀ n, some n ∈ lot → 0 ≤ n
  isin : ∀ j : Nat, j < ws.length → ((lot[j]?).getD none ≠ none ↔ j ∈ works)
theorem LotOf.out {ws : List (Int × Int)} {works : List Nat} {lot : List (Option Int)} (L : LotOf ws works lot) {j : Nat} (h : (lot[j]?).getD none ≠ none) : j < ws.length ∧ j ∈ works := by
  have hj : j < ws.length := by
    rw [← L.sz]
    apply Classical.byContradiction
    intro n
    rw [List.getElem?_eq_none (by omega)] at h
    exact h rfl
  exact ⟨hj, (L.isin j hj).mp h⟩
theorem LotOf.set {ws : List (Int × Int)} {works : List Nat} {lot : List (Option Int)} (L : LotOf ws works lot) {j : Nat} {d : Int} (hj : j ∈ works) (hd : 0 ≤ d) : LotOf ws works (lot.set j (some d)) := by
  refine ⟨by rw [List.length_set]; exact L.sz, fun n hn => ?_, fun i hi => ?_⟩
  · rcases List.mem_or_eq_of_mem_set hn with h | h
    · exact L.ge n h
    · cases h
      exact hd
  · by_cases e : j = i
    · subst e
      rw [List.getElem?_set_self (by rw [L.sz]; exact hi)]
      exact ⟨fun _ => hj, fun _ => by simp⟩
    · rw [List.getElem?_set_ne e]
      exact L.isin i hi
theorem LotOf.right {ws : List (Int × Int)} {works row : List Nat} {lot : List (Option Int)} (L : LotOf ws works lot) (h1 : ∀ j ∈ row, j < ws.length) (h2 : row.Nodup) (h3 : ∀ j ∈ works, j ∈ row) : Right ws row lot :=
  ⟨h1, h2, L.sz, L.ge, fun j h => h3 j (L.out h).2⟩
theorem flat_none : ∀ m : Nat, (List.replicate m [V.non]).flatten = (List.replicate m (none : Option Int)).map vO
  | 0 => rfl
  | m + 1 => by
    rw [List.replicate_succ, List.replicate_succ, List.flatten_cons, flat_none m]
    rfl
/-! ### lateness -/
def maxL : List Int → Option Int
  | [] => none
  | a :: r => some (r.foldl (fun m k => if k > m then k else m) a)
theorem foldl_max (r : List Int) : ∀ a : Int, (r.foldl (fun m k => if k > m then k else m) a ∈ a :: r) ∧ ∀ k ∈ a :: r, k ≤ r.foldl (fun m k => if k > m then k else m) a := by
  induction r with
  | nil => intro a; exact ⟨List.mem_cons_self .., fun k hk => by cases List.mem_singleton.mp hk; exact Int.le_refl _⟩
  | cons b r ih =>
    intro a
    obtain ⟨h1, h2⟩ := ih (if b > a then b else a)
    rw [List.foldl_cons]
    refine ⟨?_, fun k hk => ?_⟩
    · rcases List.mem_cons.mp h1 with h | h
      · rw [h]
        split <;> simp
      · exact List.mem_cons_of_mem _ (List.mem_cons_of_mem _ h)
    · have hm := h2 _ (List.mem_cons_self ..)
      rcases List.mem_cons.mp hk with h | h
      · subst h
        refine Int.le_trans ?_ hm
        split <;> omega
      · rcases List.mem_cons.mp h with h | h
        · subst h
          refine Int.le_trans ?_ hm
          split <;> omega
        · exact h2 k (List.mem_cons_of_mem _ h)
theorem maxL_some {l : List Int} {m : Int} (h : maxL l = some m) : m ∈ l ∧ ∀ k ∈ l, k ≤ m := by
  cases l with
  | nil => cases h
  | cons a r =>
    cases h
    exact foldl_max r a
theorem maxL_of {l : List Int} {m : Int} (h1 : m ∈ l) (h2 : ∀ k ∈ l, k ≤ m) : maxL l = some m := by
  cases l with
  | nil => cases h1
  | cons a r =>
    obtain ⟨g1, g2⟩ := foldl_max r a
    have e : r.foldl (fun m k => if k > m then k else m) a = m := Int.le_antisymm (h2 _ g1) (g2 _ h1)
    show some _ = some m
    rw [e]
theorem maxL_none {l : List Int} : maxL l = none ↔ l = [] := by
  cases l with
  | nil => exact ⟨fun _ => rfl, fun _ => rfl⟩
  | cons a r => exact ⟨fun h => (by cases h), fun h => (by cases h)⟩
def lateAt (ws : List (Int × Int)) (q : Int × Int × Int) : Int := q.2.2 - (winAt ws q.1.toNat).2
def latesN (ws : List (Int × Int)) (ts : List (Int × Int × Int)) : List Int := ts.map (lateAt ws)
def inTime (ws : List (Int × Int)) (q : Int × Int × Int) : Bool := decide (q.2.2 ≤ (winAt ws q.1.toNat).2)
def servesB (ws : List (Int × Int)) (ts : List (Int × Int × Int)) : Bool := (ts.map (inTime ws)).all id
abbrev sp_is_served (K : PySem.W.Frag) (A : Ad) : Sp := fun vs H Q _ => Sp3 vs fun x y z => RunOn K A H x y z fun ws row lot => ∀ H', Ex H H' → Q (.bl (servesB ws (stepsN ws row lot))) H'
abbrev sp_serves (K : PySem.W.Frag) (A : Ad) : Sp := fun vs H Q E => Sp3 vs fun x y z => RunOn K A H x y z fun ws row lot => Right ws row lot ∧ ∀ H', Ex H H' → Q (.bl (servesB ws (stepsN ws row lot))) H'
abbrev sp_lateness (K : PySem.W.Frag) (A : Ad) : Sp := fun vs H Q E => Sp3 vs fun x y z => RunOn K A H x y z fun ws row lot => Right ws row lot ∧ ∀ H', Ex H H' → Q (vO (maxL (latesN ws (stepsN ws row lot)))) H'
abbrev sp_l_lateness (K : PySem.W.Frag) (A : Ad) : Sp := fun vs H Q _ => Sp3 vs fun x y z => ∃ (w a c : Addr) (ws : List (Int × Int)) (row : List Nat) (lot : List (Option Int)), x = .ref w ∧ y = .ref a ∧ z = .ref c ∧ WinAt K H w ws ∧ SqT K H a (row.map vNat) ∧ SqT K H c (lot.map vO) ∧
  (∀ j ∈ row, j < ws.length) ∧ lot.length = ws.length ∧ row.length ≤ 1000 ∧ ∀ H', Ex H H' → Q (vO (maxL (latesN ws (stepsN ws row lot)))) H'
abbrev sp_l_flag (K : PySem.W.Frag) (A : Ad) : Sp := fun vs H Q _ => Sp2 vs fun x y => ∃ a b : Bool, x = .bl a ∧ y = .bl b ∧ Q (.bl (decide (a = b))) H
theorem stepsF_len (ws : List (Int × Int)) (lot : List (Option Int)) : ∀ (l : List Nat) (h : Int), (stepsF ws lot h l).length = l.length
  | [], _ => rfl
  | j :: r, h => by
    show (stepsF ws lot _ r).length + 1 = r.length + 1
    rw [stepsF_len ws lot r]
theorem stepsF_mem {ws : List (Int × Int)} {lot : List (Option Int)} : ∀ {l : List Nat} {h : Int} {q : Int × Int × Int}, q ∈ stepsF ws lot h l → ∃ j ∈ l, q.1 = (j : Int)
  | [], _, _, hq => by cases hq
  | j :: r, h, q, hq => by
    rcases List.mem_cons.mp hq with e | hq
    · exact ⟨j, List.mem_cons_self .., by rw [e]⟩
    · obtain ⟨i, hi, e⟩ := stepsF_mem (l := r) hq
      exact ⟨i, List.mem_cons_of_mem _ hi, e⟩
theorem steps_len {ws : List (Int × Int)} {row : List Nat} {lot : List (Option Int)} : (stepsN ws row lot).length ≤ row.length := by
  unfold stepsN
  rw [stepsF_len]
  exact comingN_le row lot
theorem steps_work {ws : List (Int × Int)} {row : List Nat} {lot : List (Option Int)} (h : ∀ j ∈ row, j < ws.length) {q : Int × Int × Int} (hq : q ∈ stepsN ws row lot) : ∃ j : Nat, q.1 = (j : Int) ∧ j < ws.length := by
  obtain ⟨j, hj, e⟩ := stepsF_mem hq
  exact ⟨j, e, h j (comingN_mem hj).1⟩
/-! ### shorter, fewer, longer -/
theorem lates_mono {ws : List (Int × Int)} {A B : List (Option Int)} (p : Nat → Bool) : ∀ (l : List Nat) (h1 h2 : Int), h1 ≤ h2 → (∀ j ∈ l, 0 ≤ lenAt B j) → (∀ j ∈ l, p j = true → lenAt A j ≤ lenAt B j) → ∀ x ∈ latesN ws (stepsF ws A h1 (l.filter p)), ∃ y ∈ latesN ws (stepsF ws B h2 l), x ≤ y
  | [], _, _, _, _, _, x, hx => by cases hx
  | j :: r, h1, h2, hh, g0, g1, x, hx => by
    have b0 := g0 j (List.mem_cons_self ..)
    have ih := fun h1 h2 hh => lates_mono (ws := ws) p r h1 h2 hh (fun i hi => g0 i (List.mem_cons_of_mem _ hi)) (fun i hi => g1 i (List.mem_cons_of_mem _ hi))
    cases hp : p j with
    | false =>
      rw [List.filter_cons_of_neg (by rw [hp]; exact Bool.false_ne_true)] at hx
      obtain ⟨y, hy, e⟩ := ih h1 ((if (winAt ws j).1 > h2 then (winAt ws j).1 else h2) + lenAt B j) (by split <;> omega) x hx
      exact ⟨y, List.mem_cons_of_mem _ hy, e⟩
    | true =>
      rw [List.filter_cons_of_pos hp] at hx
      have a1 := g1 j (List.mem_cons_self ..) hp
      have m : (if (winAt ws j).1 > h1 then (winAt ws j).1 else h1) + lenAt A j ≤ (if (winAt ws j).1 > h2 then (winAt ws j).1 else h2) + lenAt B j := by split <;> split <;> omega
      rcases List.mem_cons.mp hx with e | hx
      · refine ⟨_, List.mem_cons_self .., ?_⟩
        rw [e]
        exact Int.sub_le_sub_right m _
      · obtain ⟨y, hy, e⟩ := ih _ _ m x hx
        exact ⟨y, List.mem_cons_of_mem _ hy, e⟩
theorem lates_more {ws : List (Int × Int)} {A B : List (Option Int)} : ∀ (l : List Nat) (h1 h2 : Int), h1 ≤ h2 → (∀ j ∈ l, lenAt A j + 1 ≤ lenAt B j) → ∀ x ∈ latesN ws (stepsF ws A h1 l), ∃ y ∈ latesN ws (stepsF ws B h2 l), x + 1 ≤ y
  | [], _, _, _, _, x, hx => by cases hx
  | j :: r, h1, h2, hh, g1, x, hx => by
    have a1 := g1 j (List.mem_cons_self ..)
    have m : (if (winAt ws j).1 > h1 then (winAt ws j).1 else h1) + lenAt A j + 1 ≤ (if (winAt ws j).1 > h2 then (winAt ws j).1 else h2) + lenAt B j := by split <;> split <;> omega
    rcases List.mem_cons.mp hx with e | hx
    · refine ⟨_, List.mem_cons_self .., ?_⟩
      rw [e]
      show ((if (winAt ws j).1 > h1 then (winAt ws j).1 else h1) + lenAt A j) - (winAt ws ((j : Int)).toNat).2 + 1 ≤ ((if (winAt ws j).1 > h2 then (winAt ws j).1 else h2) + lenAt B j) - (winAt ws ((j : Int)).toNat).2
      generalize (if (winAt ws j).1 > h1 then (winAt ws j).1 else h1) + lenAt A j = u at m
      generalize (if (winAt ws j).1 > h2 then (winAt ws j).1 else h2) + lenAt B j = v at m
      omega
    · have m' : (if (winAt ws j).1 > h1 then (winAt ws j).1 else h1) + lenAt A j ≤ (if (winAt ws j).1 > h2 then (winAt ws j).1 else h2) + lenAt B j := by
        generalize (if (winAt ws j).1 > h1 then (winAt ws j).1 else h1) + lenAt A j = u at m ⊢
        generalize (if (winAt ws j).1 > h2 then (winAt ws j).1 else h2) + lenAt B j = v at m ⊢
        omega
      obtain ⟨y, hy, e⟩ := lates_more r _ _ m' (fun i hi => g1 i (List.mem_cons_of_mem _ hi)) x hx
      exact ⟨y, List.mem_cons_of_mem _ hy, e⟩
def dueN (ws : List (Int × Int)) (row : List Nat) (lot : List (Option Int)) : Option Int := maxL (latesN ws (stepsN ws row lot))
theorem due_none {ws : List (Int × Int)} {row : List Nat} {lot : List (Option Int)} : dueN ws row lot = none ↔ comingN row lot = [] := by
  unfold dueN
  rw [maxL_none]
  have e : (latesN ws (stepsN ws row lot)).length = (comingN row lot).length := by
    unfold latesN stepsN
    rw [List.length_map, stepsF_len]
  rw [← List.length_eq_zero_iff, ← List.length_eq_zero_iff, e]
theorem due_le {ws : List (Int × Int)} {row : List Nat} {A B : List (Option Int)} (p : Nat → Bool) (hc : comingN row A = (comingN row B).filter p) (g0 : ∀ j ∈ comingN row B, 0 ≤ lenAt B j) (g1 : ∀ j ∈ comingN row B, p j = true → lenAt A j ≤ lenAt B j) {m n : Int} (hm : dueN ws row A = some m) (hn : dueN ws row B = some n) : m ≤ n := by
  obtain ⟨m1, _⟩ := maxL_some hm
  unfold stepsN at m1
  rw [hc] at m1
  obtain ⟨y, hy, e⟩ := lates_mono p _ _ _ (Int.le_refl 0) g0 g1 m m1
  exact Int.le_trans e ((maxL_some hn).2 y hy)
theorem due_lt {ws : List (Int × Int)} {row : List Nat} {A B : List (Option Int)} (hc : comingN row A = comingN row B) (g1 : ∀ j ∈ comingN row B, lenAt A j + 1 ≤ lenAt B j) {m n : Int} (hm : dueN ws row A = some m) (hn : dueN ws row B = some n) : m < n := by
  obtain ⟨m1, _⟩ := maxL_some hm
  unfold stepsN at m1
  rw [hc] at m1
  obtain ⟨y, hy, e⟩ := lates_more _ _ _ (Int.le_refl 0) g1 m m1
  have := (maxL_some hn).2 y hy
  omega
theorem serves_due {ws : List (Int × Int)} {row : List Nat} {lot : List (Option Int)} : servesB ws (stepsN ws row lot) = (match dueN ws row lot with | none => true | some m => decide (m ≤ 0)) := by
  have key : servesB ws (stepsN ws row lot) = true ↔ ∀ x ∈ latesN ws (stepsN ws row lot), x ≤ 0 := by
    unfold servesB latesN
    rw [List.all_eq_true]
    constructor
    · intro h x hx
      obtain ⟨q, hq, rfl⟩ := List.mem_map.mp hx
      have := h _ (List.mem_map_of_mem (f := inTime ws) hq)
      have t : q.2.2 ≤ (winAt ws q.1.toNat).2 := of_decide_eq_true this
      unfold lateAt
      omega
    · intro h x hx
      obtain ⟨q, hq, rfl⟩ := List.mem_map.mp hx
      have := h _ (List.mem_map_of_mem (f := lateAt ws) hq)
      unfold lateAt at this
      exact decide_eq_true (by omega)
  cases hd : dueN ws row lot with
  | none =>
    refine key.mpr fun x hx => ?_
    rw [maxL_none.mp hd] at hx
    cases hx
  | some m =>
    obtain ⟨m1, m2⟩ := maxL_some hd
    show _ = decide (m ≤ 0)
    rw [Bool.eq_iff_iff, key, decide_eq_true_eq]
    exact ⟨fun h => h m m1, fun h x hx => Int.le_trans (m2 x hx) h⟩
def halfO : Option Int → Option Int | none => none | some n => some (n / 2)
def moreO : Option Int → Option Int | none => none | some n => some (n + 1)
theorem at_map (f : Option Int → Option Int) (hf : f none = none) (lot : List (Option Int)) (j : Nat) : (((lot.map f)[j]?).getD none) = f ((lot[j]?).getD none) := by
  rw [List.getElem?_map]
  cases lot[j]? with
  | none => exact hf.symm
  | some o => rfl
theorem coming_map (f : Option Int → Option Int) (hf : f none = none) (hs : ∀ n, (f (some n)).isSome = true) (row : List Nat) (lot : List (Option Int)) : comingN row (lot.map f) = comingN row lot := by
  unfold comingN
  congr 1
  funext j
  rw [at_map f hf]
  cases (lot[j]?).getD none with
  | none => rw [hf]
  | some n => exact hs n
theorem at_set (lot : List (Option Int)) (s j : Nat) : ((lot.set s none)[j]?).getD none = if j = s then none else (lot[j]?).getD none := by
  by_cases e : j = s
  · subst e
    rw [if_pos rfl, List.getElem?_set]
    by_cases h : j < lot.length
    · simp [h]
    · simp [h]
  · rw [if_neg e, List.getElem?_set_ne (fun z => e z.symm)]
theorem coming_set (row : List Nat) (lot : List (Option Int)) (s : Nat) : comingN row (lot.set s none) = (comingN row lot).filter fun j => decide (j ≠ s) := by
  unfold comingN
  rw [List.filter_filter]
  congr 1
  funext j
  rw [at_set]
  by_cases e : j = s
  · simp [e]
  · simp [e]
theorem Right.map {ws : List (Int × Int)} {row : List Nat} {lot : List (Option Int)} (R : Right ws row lot) (f : Option Int → Option Int) (hf : f none = none) (hg : ∀ n m, 0 ≤ n → f (some n) = some m → 0 ≤ m) : Right ws row (lot.map f) := by
  refine ⟨R.lt, R.nd, by rw [List.length_map]; exact R.sz, fun n hn => ?_, fun j hj => R.isin j fun z => hj (by rw [at_map f hf, z, hf])⟩
  obtain ⟨o, ho, e⟩ := List.mem_map.mp hn
  cases o with
  | none =>
    rw [hf] at e
    cases e
  | some k => exact hg k n (R.ge k ho) e
theorem Right.gone {ws : List (Int × Int)} {row : List Nat} {lot : List (Option Int)} (R : Right ws row lot) (s : Nat) : Right ws row (lot.set s none) := by
  refine ⟨R.lt, R.nd, by rw [List.length_set]; exact R.sz, fun n hn => ?_, fun j hj => R.isin j fun z => hj ?_⟩
  · rcases List.mem_or_eq_of_mem_set hn with h | h
    · exact R.ge n h
    · cases h
  · rw [at_set]
    split
    · rfl
    · exact z
theorem Right.len0 {ws : List (Int × Int)} {row : List Nat} {lot : List (Option Int)} (R : Right ws row lot) (j : Nat) : 0 ≤ lenAt lot j := by
  unfold lenAt
  cases h : lot[j]? with
  | none => exact Int.le_refl _
  | some o =>
    cases o with
    | none => exact Int.le_refl _
    | some n => exact R.ge n (List.mem_of_getElem? h)
theorem lot_gone {lot : List (Option Int)} {s : Nat} (h : s < lot.length) : cutV (lot.map vO) none (some (s : Int)) ++ [V.non] ++ cutV (lot.map vO) (some ((s : Int) + 1)) none = (lot.set s none).map vO := by
  unfold cutV
  have e : ((s : Int) + 1) = ((s + 1 : Nat) : Int) := rfl
  rw [e, HT.sIx_none, HT.sIx_nat, HT.sIx_nat, HT.sIx_none, List.length_map, List.set_eq_take_append_cons_drop, if_pos h]
  rw [Nat.min_eq_left (by omega), Nat.min_eq_left (by omega), List.drop_zero, Nat.sub_zero, List.take_of_length_le (l := List.drop (s + 1) (lot.map vO)) (by rw [List.length_drop, List.length_map] <;> omega), List.map_append, List.map_cons, List.append_assoc, List.map_take, List.map_drop]
  rfl
theorem lates_empty {ws : List (Int × Int)} {row : List Nat} {lot : List (Option Int)} (h : ∀ j ∈ row, (lot[j]?).getD none = none) : stepsN ws row lot = [] := by
  unfold stepsN
  rw [comingN_away h] <;> rfl
theorem os_get {ms : List (Option Int)} {i : Nat} {y : V} (h : (ms.map vO)[i]? = some y) : ∃ z, ms[i]? = some z ∧ y = vO z := by
  rw [List.getElem?_map] at h
  cases e : ms[i]? with
  | none =>
    rw [e] at h
    cases h
  | some z =>
    rw [e] at h
    exact ⟨z, rfl, (Option.some.inj h).symm⟩
theorem slice_read {K : PySem.W.Frag} {H : Hp} {a : Addr} {xs : List V} {lo hi : Option Int} {Q : VK} (ha : SqT K H a xs) (k : ∀ r H', Ex H H' → SqT K H' r (cutV xs lo hi) → Q (.ref r) H') : rSlA K (.ref a) lo hi H Q := by
  refine ⟨a, xs, rfl, ha, fun e => k a H (Ex.refl H) ?_, fun _ p np => k p _ (Ex.new np) (SqT.of upd_same)⟩
  unfold cutV
  rw [e.1, e.2, List.drop_zero, Nat.sub_zero, List.take_length]
  exact ha
theorem len_half {lot : List (Option Int)} {j : Nat} (h : 0 ≤ lenAt lot j) : lenAt (lot.map halfO) j ≤ lenAt lot j := by
  unfold lenAt at h ⊢
  rw [at_map halfO rfl]
  cases e : (lot[j]?).getD none with
  | none => exact Int.le_refl _
  | some n =>
    rw [e] at h
    have h' : 0 ≤ n := h
    show n / 2 ≤ n
    omega
theorem len_more {row : List Nat} {lot : List (Option Int)} {j : Nat} (h : j ∈ comingN row lot) : lenAt lot j + 1 ≤ lenAt (lot.map moreO) j := by
  obtain ⟨_, n, e⟩ := comingN_mem h
  unfold lenAt
  rw [at_map moreO rfl, e]
  exact Int.le_refl _
theorem len_gone {lot : List (Option Int)} {s j : Nat} (h : j ≠ s) : lenAt (lot.set s none) j = lenAt lot j := by
  unfold lenAt
  rw [at_set, if_neg h]
theorem rep_read {K : PySem.W.Frag} {H : Hp} {a : Addr} {k : Int} {Q : VK} (ha : SqT K H a [.non]) (h1 : 1 ≤ k) (h2 : k ≤ 1000) (q : ∀ r H', Ex H H' → SqT K H' r ((List.replicate k.toNat (none : Option Int)).map vO) → Q (.ref r) H') : rRep1 K (.ref a) (.int k) H Q :=
  ⟨a, k, [.non], rfl, rfl, ha, by simp, h1, h2, by decide, fun e => q a H (Ex.refl H) (by rw [e]; exact ha), fun _ p np => q p _ (Ex.new np) (SqT.of (by rw [upd_same, flat_none]))⟩
theorem rgV_nats (n : Nat) : rgV 0 (n : Int) = (List.range n).map vNat := by
  unfold rgV
  rw [Int.sub_zero, Int.toNat_natCast]
  congr 1
  funext i
  rw [Int.zero_add] <;> rfl
theorem right_bare {ws : List (Int × Int)} {row : List Nat} (h1 : ∀ j ∈ row, j < ws.length) (h2 : row.Nodup) : Right ws row (List.replicate ws.length (none : Option Int)) := by
  refine ⟨h1, h2, List.length_replicate .., fun m hm => ?_, fun j hj => ?_⟩
  · rw [List.mem_replicate] at hm
    cases hm.2
  · refine absurd ?_ hj
    by_cases hjn : j < ws.length
    · rw [List.getElem?_replicate, if_pos hjn] <;> rfl
    · rw [List.getElem?_replicate, if_neg hjn] <;> rfl
theorem steps_bare {ws : List (Int × Int)} {row : List Nat} (n : Nat) : stepsN ws row (List.replicate n (none : Option Int)) = [] := by
  refine lates_empty fun j _ => ?_
  by_cases hjn : j < n
  · rw [List.getElem?_replicate, if_pos hjn] <;> rfl
  · rw [List.getElem?_replicate, if_neg hjn] <;> rfl
theorem slice_readN {K : PySem.W.Frag} {σ : L2.St} {H : Hp} {a : Addr} {xs : List V} {lo : Option Int} {Q : VK} (ha : SqT K H a xs) (k : ∀ r H', Ex H H' → SqT K H' r (cutV xs lo none) → Q (.ref r) H') : tNoPart σ H fun u H3 => rSlA K (.ref a) lo u H3 Q := slice_read ha k
/-! ### lateness by stretches -/
def fstAt (ws : List (Int × Int)) (j : Nat) : Int := (winAt ws j).1
def lstAt (ws : List (Int × Int)) (j : Nat) : Int := (winAt ws j).2
/-- of the stretches that begin at this hour with the head of the row: how late each one ends -/
def fromF (ws : List (Int × Int)) (lot : List (Option Int)) : Int → List Nat → List Int
  | _, [] => []
  | h, j :: r => (h + lenAt lot j - lstAt ws j) :: fromF ws lot (h + lenAt lot j) r
/-- of all stretches -/
def strsF (ws : List (Int × Int)) (lot : List (Option Int)) : List Nat → List Int
  | [] => []
  | j :: r => fromF ws lot (fstAt ws j) (j :: r) ++ strsF ws lot r
theorem lates_cons (ws : List (Int × Int)) (lot : List (Option Int)) (h : Int) (j : Nat) (r : List Nat) : latesN ws (stepsF ws lot h (j :: r)) = ((if (winAt ws j).1 > h then (winAt ws j).1 else h) + lenAt lot j - lstAt ws j) :: latesN ws (stepsF ws lot ((if (winAt ws j).1 > h then (winAt ws j).1 else h) + lenAt lot j) r) := rfl
theorem lates_str {ws : List (Int × Int)} {lot : List (Option Int)} : ∀ (l : List Nat) (h x : Int), x ∈ latesN ws (stepsF ws lot h l) → x ∈ fromF ws lot h l ∨ x ∈ strsF ws lot l
  | [], _, _, hx => by cases hx
  | j :: r, h, x, hx => by
    have ih := lates_str (ws := ws) (lot := lot) r ((if (winAt ws j).1 > h then (winAt ws j).1 else h) + lenAt lot j) x
    by_cases c : (winAt ws j).1 > h
    · rw [if_pos c] at ih
      refine .inr (List.mem_append.mpr ?_)
      have e : latesN ws (stepsF ws lot h (j :: r)) = ((winAt ws j).1 + lenAt lot j - lstAt ws j) :: latesN ws (stepsF ws lot ((winAt ws j).1 + lenAt lot j) r) := by
        rw [lates_cons, if_pos c]
      rw [e] at hx
      rcases List.mem_cons.mp hx with e | hx
      · rw [e]
        exact .inl (List.mem_cons_self ..)
      · rcases ih hx with h1 | h1
        · exact .inl (List.mem_cons_of_mem _ h1)
        · exact .inr h1
    · rw [if_neg c] at ih
      have e : latesN ws (stepsF ws lot h (j :: r)) = (h + lenAt lot j - lstAt ws j) :: latesN ws (stepsF ws lot (h + lenAt lot j) r) := by
        rw [lates_cons, if_neg c]
      rw [e] at hx
      rcases List.mem_cons.mp hx with e | hx
      · rw [e]
        exact .inl (List.mem_cons_self ..)
      · rcases ih hx with h1 | h1
        · exact .inl (List.mem_cons_of_mem _ h1)
        · exact .inr (List.mem_append_right _ h1)
theorem from_le {ws : List (Int × Int)} {lot : List (Option Int)} : ∀ (l : List Nat) (h h' y : Int), (h' ≤ h ∨ ∃ j r, l = j :: r ∧ h' ≤ fstAt ws j) → y ∈ fromF ws lot h' l → ∃ x ∈ latesN ws (stepsF ws lot h l), y ≤ x
  | [], _, _, _, _, hy => by cases hy
  | j :: r, h, h', y, hh, hy => by
    have m : h' + lenAt lot j ≤ (if (winAt ws j).1 > h then (winAt ws j).1 else h) + lenAt lot j := by
      have hh' : h' ≤ h ∨ h' ≤ (winAt ws j).1 := by
        rcases hh with a | ⟨i, s, e, a⟩
        · exact .inl a
        · cases e
          exact .inr a
      split <;> omega
    rcases List.mem_cons.mp hy with e | hy
    · refine ⟨_, List.mem_cons_self .., ?_⟩
      rw [e]
      exact Int.sub_le_sub_right m _
    · obtain ⟨x, hx, e⟩ := from_le r _ _ y (.inl m) hy
      exact ⟨x, List.mem_cons_of_mem _ hx, e⟩
theorem str_le {ws : List (Int × Int)} {lot : List (Option Int)} : ∀ (l : List Nat) (h y : Int), y ∈ strsF ws lot l → ∃ x ∈ latesN ws (stepsF ws lot h l), y ≤ x
  | [], _, _, hy => by cases hy
  | j :: r, h, y, hy => by
    rcases List.mem_append.mp hy with hy | hy
    · exact from_le (j :: r) h _ y (.inr ⟨j, r, rfl, Int.le_refl _⟩) hy
    · obtain ⟨x, hx, e⟩ := str_le r _ y hy
      exact ⟨x, List.mem_cons_of_mem _ hx, e⟩
theorem from_mono {ws : List (Int × Int)} {lot : List (Option Int)} : ∀ (l : List Nat) (h h' x : Int), h ≤ h' → x ∈ fromF ws lot h l → ∃ y ∈ fromF ws lot h' l, x ≤ y
  | [], _, _, _, _, hx => by cases hx
  | j :: r, h, h', x, hh, hx => by
    rcases List.mem_cons.mp hx with e | hx
    · exact ⟨_, List.mem_cons_self .., by rw [e]; omega⟩
    · obtain ⟨y, hy, e⟩ := from_mono r _ (h' + lenAt lot j) x (by omega) hx
      exact ⟨y, List.mem_cons_of_mem _ hy, e⟩
/-- lateness is the greatest of the stretches -/
theorem due_strs {ws : List (Int × Int)} {row : List Nat} {lot : List (Option Int)} (h0 : ∀ j ∈ row, 0 ≤ fstAt ws j) : dueN ws row lot = maxL (strsF ws lot (comingN row lot)) := by
  cases hd : dueN ws row lot with
  | none =>
    rw [due_none.mp hd]
    rfl
  | some M =>
    obtain ⟨m1, m2⟩ := maxL_some hd
    have up : ∀ y ∈ strsF ws lot (comingN row lot), y ≤ M := fun y hy => by
      obtain ⟨x, hx, e⟩ := str_le (comingN row lot) 0 y hy
      exact Int.le_trans e (m2 x hx)
    refine (maxL_of ?_ up).symm
    rcases lates_str _ _ _ m1 with h1 | h1
    · -- a stretch from hour 0 is no later than the same from its own first hour
      cases hc : comingN row lot with
      | nil =>
        rw [hc] at h1
        cases h1
      | cons j r =>
        rw [hc] at h1 up
        have hj : j ∈ row := (comingN_mem (row := row) (lot := lot) (by rw [hc]; exact List.mem_cons_self ..)).1
        obtain ⟨y, hy, e⟩ := from_mono (j :: r) 0 (fstAt ws j) M (h0 j hj) h1
        have hy' : y ∈ strsF ws lot (j :: r) := List.mem_append_left _ hy
        have := up y hy'
        have ey : y = M := by omega
        rw [ey] at hy'
        exact hy'
    · exact h1
def loadN (lot : List (Option Int)) (l : List Nat) : Int := (l.map (lenAt lot)).sum
theorem fromF_get {ws : List (Int × Int)} {lot : List (Option Int)} : ∀ (l : List Nat) (h : Int) (t : Nat) (ht : t < l.length), (fromF ws lot h l)[t]? = some (h + loadN lot (l.take (t + 1)) - lstAt ws l[t])
  | j :: r, h, 0, _ => by
    show some _ = some _
    simp [loadN]
  | j :: r, h, t + 1, ht => by
    have ht' : t < r.length := by simpa using ht
    show (fromF ws lot (h + lenAt lot j) r)[t]? = _
    rw [fromF_get r _ t ht']
    simp only [List.take_succ_cons, List.getElem_cons_succ, loadN, List.map_cons, List.sum_cons]
    congr 1
    omega
theorem fromF_len {ws : List (Int × Int)} {lot : List (Option Int)} : ∀ (l : List Nat) (h : Int), (fromF ws lot h l).length = l.length
  | [], _ => rfl
  | j :: r, h => by
    show (fromF ws lot _ r).length + 1 = r.length + 1
    rw [fromF_len r]
/-- the stretches whose heads are the first i works -/
def strsTo (ws : List (Int × Int)) (lot : List (Option Int)) (row : List Nat) : Nat → List Int
  | 0 => []
  | i + 1 => strsTo ws lot row i ++ fromF ws lot (fstAt ws (row.getD i 0)) (row.drop i)
theorem strsTo_cons {ws : List (Int × Int)} {lot : List (Option Int)} (j : Nat) (r : List Nat) : ∀ i : Nat, strsTo ws lot (j :: r) (i + 1) = fromF ws lot (fstAt ws j) (j :: r) ++ strsTo ws lot r i
  | 0 => by simp [strsTo]
  | i + 1 => by
    show strsTo ws lot (j :: r) (i + 1) ++ fromF ws lot (fstAt ws (r.getD i 0)) (r.drop i) = fromF ws lot (fstAt ws j) (j :: r) ++ (strsTo ws lot r i ++ fromF ws lot (fstAt ws (r.getD i 0)) (r.drop i))
    rw [strsTo_cons j r i, List.append_assoc]
theorem strsTo_all {ws : List (Int × Int)} {lot : List (Option Int)} : ∀ row : List Nat, strsTo ws lot row row.length = strsF ws lot row
  | [] => rfl
  | j :: r => by
    show strsTo ws lot (j :: r) (r.length + 1) = _
    rw [strsTo_cons, strsTo_all r] <;> rfl
/-! ### broken stretches -/
def brkFrom (ws : List (Int × Int)) (lot : List (Option Int)) (one : Nat) : Int → List Nat → List (Int × Int)
  | _, [] => []
  | h, j :: r => (if h + lenAt lot j > lstAt ws j then [((one : Int), (j : Int))] else []) ++ brkFrom ws lot one (h + lenAt lot j) r
def brkF (ws : List (Int × Int)) (lot : List (Option Int)) : List Nat → List (Int × Int)
  | [] => []
  | j :: r => brkFrom ws lot j (fstAt ws j) (j :: r) ++ brkF ws lot r
theorem brkFrom_len {ws : List (Int × Int)} {lot : List (Option Int)} {one : Nat} : ∀ (l : List Nat) (h : Int), (brkFrom ws lot one h l).length ≤ l.length
  | [], _ => Nat.le_refl _
  | j :: r, h => by
    have := brkFrom_len (ws := ws) (lot := lot) (one := one) r (h + lenAt lot j)
    show ((if h + lenAt lot j > lstAt ws j then [((one : Int), (j : Int))] else []) ++ brkFrom ws lot one (h + lenAt lot j) r).length ≤ r.length + 1
    rw [List.length_append]
    split <;> simp <;> omega
theorem brkF_len {ws : List (Int × Int)} {lot : List (Option Int)} {m : Nat} : ∀ l : List Nat, l.length ≤ m → (brkF ws lot l).length ≤ l.length * m
  | [], _ => Nat.zero_le _
  | j :: r, h => by
    have h1 := brkFrom_len (ws := ws) (lot := lot) (one := j) (j :: r) (fstAt ws j)
    have h' : r.length + 1 ≤ m := by simpa using h
    have h2 := brkF_len (ws := ws) (lot := lot) (m := m) r (by omega)
    show (brkFrom ws lot j (fstAt ws j) (j :: r) ++ brkF ws lot r).length ≤ (r.length + 1) * m
    rw [List.length_append, Nat.succ_mul]
    simp only [List.length_cons] at h1
    omega
/-- refs to pairs: just these pairs -/
structure BrkAt (H : Hp) (ys : List V) (bs : List (Int × Int)) : Prop where
  all : ∀ y ∈ ys, ∃ a q, y = V.ref a ∧ H a = some (.tup [.int q.1, .int q.2]) ∧ q ∈ bs
  has : ∀ q ∈ bs, ∃ a, V.ref a ∈ ys ∧ H a = some (.tup [.int q.1, .int q.2])
theorem BrkAt.mono {H H' : Hp} {ys : List V} {bs : List (Int × Int)} (h : BrkAt H ys bs) (e : Ex H H') : BrkAt H' ys bs := by
  refine ⟨fun y hy => ?_, fun q hq => ?_⟩
  · obtain ⟨a, q, h1, h2, h3⟩ := h.all y hy
    exact ⟨a, q, h1, e _ _ h2, h3⟩
  · obtain ⟨a, h1, h2⟩ := h.has q hq
    exact ⟨a, h1, e _ _ h2⟩
theorem Grows.brk {K : PySem.W.Frag} {H : Hp} {as : List Addr} {ps : List (Int × Int)} {ys : List V} (h2 : as.length = ps.length) (h3 : ∀ (i : Nat) (a : Addr) (q : Int × Int), as[i]? = some a → ps[i]? = some q → H a = some (.tup [.int q.1, .int q.2])) (hp : ys.Perm (as.map V.ref)) : BrkAt H ys ps := by
  refine ⟨fun y hy => ?_, fun q hq => ?_⟩
  · obtain ⟨a, ha, rfl⟩ := List.mem_map.mp (hp.mem_iff.mp hy)
    obtain ⟨i, hi, e⟩ := List.mem_iff_getElem.mp ha
    have hi' : i < ps.length := by omega
    exact ⟨a, ps[i], rfl, h3 i a _ (by rw [List.getElem?_eq_getElem hi, e]) (List.getElem?_eq_getElem hi'), List.getElem_mem hi'⟩
  · obtain ⟨i, hi, e⟩ := List.mem_iff_getElem.mp hq
    have hi' : i < as.length := by omega
    exact ⟨as[i], hp.mem_iff.mpr (List.mem_map_of_mem (List.getElem_mem hi')), h3 i _ q (List.getElem?_eq_getElem hi') (by rw [List.getElem?_eq_getElem hi, e])⟩
theorem Grows.ext {K : PySem.W.Frag} {H H' : Hp} {f : Addr} {ps : List (Int × Int)} (h : Grows K H f ps) (e : Ex H H') : Grows K H' f ps := by
  obtain ⟨as, h1, h2, h3⟩ := h.ex
  exact ⟨⟨as, e _ _ h1, h2, fun i a q x y => e _ _ (h3 i a q x y)⟩⟩
theorem cut_drop (l : List Nat) (i : Nat) : cutV (l.map vNat) (some (i : Int)) none = (l.drop i).map vNat := by
  unfold cutV
  rw [HT.sIx_none, HT.sIx_nat, List.length_map, List.map_drop]
  by_cases h : i ≤ l.length
  · rw [Nat.min_eq_left h, List.take_of_length_le (by rw [List.length_drop, List.length_map] <;> omega)]
  · rw [Nat.min_eq_right (by omega), Nat.sub_self, List.take_zero, List.drop_of_length_le (by rw [List.length_map]; omega)]
theorem cutL_read {K : PySem.W.Frag} {σ : L2.St} {H : Hp} {a : Addr} {xs : List V} {lo : Option Int} {Q : VK} (ha : SqL K H a xs) (k : ∀ r, H r = none → Q (.ref r) (L2.upd H r (.lst (cutV xs lo none)))) : tNoPart σ H fun u H3 => rSlL K (.ref a) lo u H3 Q := ⟨a, xs, rfl, ha, k⟩
theorem free_ex {H H' : Hp} {a : Addr} (e : Ex H H') (n : H' a = none) : H a = none := by
  cases h : H a with
  | none => rfl
  | some o =>
    rw [e _ _ h] at n
    cases n
abbrev sp_broken (K : PySem.W.Frag) (A : Ad) : Sp := fun vs H Q E => Sp3 vs fun x y z => RunOn K A H x y z fun ws row lot => Right ws row lot ∧ ∀ (l : Addr) (ys : List V) (H' : Hp), H l = none → Ex H H' → H' l = some (.lst ys) → ys.length ≤ 1000000 → BrkAt H' ys (brkF ws lot (comingN row lot)) → Q (.ref l) H'
/-! ### a late work has a stretch -/
theorem brk_str {ws : List (Int × Int)} {lot : List (Option Int)} {one : Nat} : ∀ (l : List Nat) (h : Int), brkFrom ws lot one h l = [] ↔ ∀ y ∈ fromF ws lot h l, y ≤ 0
  | [], _ => ⟨fun _ y hy => (by cases hy), fun _ => rfl⟩
  | j :: r, h => by
    have ih := brk_str (ws := ws) (lot := lot) (one := one) r (h + lenAt lot j)
    show (if h + lenAt lot j > lstAt ws j then [((one : Int), (j : Int))] else []) ++ brkFrom ws lot one (h + lenAt lot j) r = [] ↔ ∀ y ∈ (h + lenAt lot j - lstAt ws j) :: fromF ws lot (h + lenAt lot j) r, y ≤ 0
    rw [List.append_eq_nil_iff, ih, List.forall_mem_cons]
    by_cases c : h + lenAt lot j > lstAt ws j
    · rw [if_pos c]
      exact ⟨fun z => (by cases z.1), fun z => absurd z.1 (by omega)⟩
    · rw [if_neg c]
      exact ⟨fun z => ⟨by omega, z.2⟩, fun z => ⟨rfl, z.2⟩⟩
theorem brkF_str {ws : List (Int × Int)} {lot : List (Option Int)} : ∀ l : List Nat, brkF ws lot l = [] ↔ ∀ y ∈ strsF ws lot l, y ≤ 0
  | [] => ⟨fun _ y hy => (by cases hy), fun _ => rfl⟩
  | j :: r => by
    have ih := brkF_str (ws := ws) (lot := lot) r
    show brkFrom ws lot j (fstAt ws j) (j :: r) ++ brkF ws lot r = [] ↔ ∀ y ∈ fromF ws lot (fstAt ws j) (j :: r) ++ strsF ws lot r, y ≤ 0
    rw [List.append_eq_nil_iff, ih, brk_str, List.forall_mem_append]
theorem serves_brk {ws : List (Int × Int)} {row : List Nat} {lot : List (Option Int)} (h0 : ∀ j ∈ row, 0 ≤ fstAt ws j) : servesB ws (stepsN ws row lot) = decide (brkF ws lot (comingN row lot) = []) := by
  rw [serves_due, due_strs h0]
  cases hm : maxL (strsF ws lot (comingN row lot)) with
  | none =>
    have e := maxL_none.mp hm
    refine (decide_eq_true ((brkF_str _).mpr fun y hy => ?_)).symm
    rw [e] at hy
    cases hy
  | some m =>
    obtain ⟨m1, m2⟩ := maxL_some hm
    show decide (m ≤ 0) = _
    apply decide_eq_decide.mpr
    rw [brkF_str]
    exact ⟨fun h y hy => Int.le_trans (m2 y hy) h, fun h => h m m1⟩
theorem brk_mono {ws : List (Int × Int)} {lot : List (Option Int)} {one : Nat} : ∀ (l : List Nat) (h h' : Int) (x : Int × Int), h ≤ h' → x ∈ brkFrom ws lot one h l → x ∈ brkFrom ws lot one h' l
  | [], _, _, _, _, hx => by cases hx
  | j :: r, h, h', x, hh, hx => by
    rcases List.mem_append.mp hx with hx | hx
    · refine List.mem_append_left _ ?_
      by_cases c : h + lenAt lot j > lstAt ws j
      · rw [if_pos c] at hx
        rw [if_pos (by omega)]
        exact hx
      · rw [if_neg c] at hx
        cases hx
    · exact List.mem_append_right _ (brk_mono r _ _ x (by omega) hx)
theorem late_has {ws : List (Int × Int)} {lot : List (Option Int)} : ∀ (l : List Nat) (h : Int) (q : Int × Int × Int), q ∈ stepsF ws lot h l → q.2.2 > (winAt ws q.1.toNat).2 →
    (∀ one : Nat, ((one : Int), q.1) ∈ brkFrom ws lot one h l) ∨ ∃ q' ∈ stepsF ws lot h l, q'.2.1 = (winAt ws q'.1.toNat).1 ∧ (q'.1, q.1) ∈ brkF ws lot l
  | [], _, _, hq, _ => by cases hq
  | j :: r, h, q, hq, hl => by
    have ih := late_has (ws := ws) (lot := lot) r ((if (winAt ws j).1 > h then (winAt ws j).1 else h) + lenAt lot j) q
    rcases List.mem_cons.mp hq with e | hq
    · subst e
      have hl' : (if (winAt ws j).1 > h then (winAt ws j).1 else h) + lenAt lot j > lstAt ws j := hl
      by_cases c : (winAt ws j).1 > h
      · rw [if_pos c] at hl'
        refine .inr ⟨_, List.mem_cons_self .., ?_, ?_⟩
        · show (if (winAt ws j).1 > h then (winAt ws j).1 else h) = (winAt ws j).1
          rw [if_pos c]
        · refine List.mem_append_left _ (List.mem_append_left _ ?_)
          rw [if_pos (show fstAt ws j + lenAt lot j > lstAt ws j from hl')]
          exact List.mem_singleton.mpr rfl
      · rw [if_neg c] at hl'
        refine .inl fun one => List.mem_append_left _ ?_
        rw [if_pos hl']
        exact List.mem_singleton.mpr rfl
    · rcases ih hq hl with h1 | ⟨q', h1, h2, h3⟩
      · by_cases c : (winAt ws j).1 > h
        · rw [if_pos c] at h1
          refine .inr ⟨_, List.mem_cons_self .., ?_, List.mem_append_left _ (List.mem_append_right _ (h1 j))⟩
          show (if (winAt ws j).1 > h then (winAt ws j).1 else h) = (winAt ws j).1
          rw [if_pos c]
        · rw [if_neg c] at h1
          exact .inl fun one => List.mem_append_right _ (h1 one)
      · exact .inr ⟨q', List.mem_cons_of_mem _ h1, h2, List.mem_append_right _ h3⟩
theorem late_stretch {ws : List (Int × Int)} {row : List Nat} {lot : List (Option Int)} (h0 : ∀ j ∈ row, 0 ≤ fstAt ws j) {q : Int × Int × Int} (hq : q ∈ stepsN ws row lot) (hl : q.2.2 > (winAt ws q.1.toNat).2) :
    ∃ q' ∈ stepsN ws row lot, q'.2.1 = (winAt ws q'.1.toNat).1 ∧ (q'.1, q.1) ∈ brkF ws lot (comingN row lot) := by
  rcases late_has _ _ _ hq hl with h1 | h1
  · unfold stepsN at hq ⊢
    cases hc : comingN row lot with
    | nil =>
      rw [hc] at hq
      cases hq
    | cons j r =>
      rw [hc] at h1
      have hj := h0 j (comingN_mem (row := row) (lot := lot) (by rw [hc]; exact List.mem_cons_self ..)).1
      refine ⟨_, List.mem_cons_self .., ?_, List.mem_append_left _ (brk_mono _ _ _ _ hj (h1 j))⟩
      show (if (winAt ws j).1 > 0 then (winAt ws j).1 else 0) = (winAt ws j).1
      have hj' : 0 ≤ (winAt ws j).1 := hj
      split <;> omega
  · exact h1
/-! ### a list of pairs against [] -/
def dPair (q : Int × Int) : PyData := .tuple [.int q.1, .int q.2]
theorem BrkAt.data {K : PySem.W.Frag} {H : Hp} {bs : List (Int × Int)} : ∀ {ys : List V}, BrkAt H ys bs → ∃ qs : List (Int × Int), DpAll K H ys (qs.map dPair) ∧ qs.length = ys.length
  | [], _ => ⟨[], .nil, rfl⟩
  | y :: r, h => by
    obtain ⟨a, q, rfl, h2, h3⟩ := h.all y (List.mem_cons_self ..)
    have go : ∀ r : List V, (∀ y ∈ r, ∃ a q, y = V.ref a ∧ H a = some (.tup [.int q.1, .int q.2]) ∧ q ∈ bs) → ∃ qs : List (Int × Int), DpAll K H r (qs.map dPair) ∧ qs.length = r.length := by
      intro r
      induction r with
      | nil => exact fun _ => ⟨[], .nil, rfl⟩
      | cons y s ih =>
        intro g
        obtain ⟨a, q, rfl, h2, _⟩ := g y (List.mem_cons_self ..)
        obtain ⟨qs, d, e⟩ := ih fun z hz => g z (List.mem_cons_of_mem _ hz)
        exact ⟨q :: qs, .cons (.tup (SqT.of h2) (.cons (.int _) (.cons (.int _) .nil))) d, congrArg (· + 1) e⟩
    exact go _ h.all
theorem lay_pairs : ∀ ts : List (Int × Int), PyData.canLayAll0 (ts.map dPair) = true
  | [] => by simp only [List.map_nil, PyData.canLayAll0]
  | q :: r => by
    simp only [List.map_cons, PyData.canLayAll0, dPair, PyData.canLay0, lay_pairs r]
    rfl
theorem deep_pairs : ∀ ts : List (Int × Int), PyData.depthAll (ts.map dPair) ≤ 1
  | [] => by simp only [List.map_nil, PyData.depthAll]; omega
  | q :: r => by
    have := deep_pairs r
    simp only [List.map_cons, PyData.depthAll, dPair, PyData.depth]
    omega
theorem shaped_pairs (ts : List (Int × Int)) : SeqAt.shaped (.list (ts.map dPair)) = true := by
  have h := deep_pairs ts
  unfold SeqAt.shaped
  have e1 : PyData.canLay0 (.list (ts.map dPair)) = true := by simp only [PyData.canLay0, lay_pairs]
  rw [e1, Bool.true_and]
  apply decide_eq_true
  simp only [PyData.depth]
  omega
theorem cut_mid (l : List Nat) (i t : Nat) (h : i + t < l.length) : cutV (l.map vNat) (some (i : Int)) (some ((i : Int) + (t : Int) + 1)) = ((l.drop i).take (t + 1)).map vNat := by
  have e : (i : Int) + (t : Int) + 1 = ((i + t + 1 : Nat) : Int) := by omega
  unfold cutV
  rw [e, HT.sIx_nat, HT.sIx_nat, List.length_map, Nat.min_eq_left (by omega), Nat.min_eq_left (by omega), show i + t + 1 - i = t + 1 by omega, List.map_take, List.map_drop]
theorem eqv_nil : ∀ qs : List (Int × Int), PyData.eqv (.list (qs.map dPair)) (.list []) = decide (qs = [])
  | [] => by simp [PyData.eqv, PyData.eqvAll]
  | q :: r => by simp [PyData.eqv, PyData.eqvAll]
theorem BrkAt.nil_iff {H : Hp} {ys : List V} {bs : List (Int × Int)} (h : BrkAt H ys bs) : ys = [] ↔ bs = [] := by
  constructor
  · intro e
    cases hb : bs with
    | nil => rfl
    | cons q r =>
      obtain ⟨a, h1, _⟩ := h.has q (by rw [hb]; exact List.mem_cons_self ..)
      rw [e] at h1
      cases h1
  · intro e
    cases hy : ys with
    | nil => rfl
    | cons y r =>
      obtain ⟨_, _, _, _, h3⟩ := h.all y (by rw [hy]; exact List.mem_cons_self ..)
      rw [e] at h3
      cases h3
theorem strsTo_len {ws : List (Int × Int)} {lot : List (Option Int)} {row : List Nat} : ∀ i : Nat, (strsTo ws lot row i).length ≤ i * row.length
  | 0 => Nat.zero_le _
  | i + 1 => by
    have := strsTo_len (ws := ws) (lot := lot) (row := row) i
    show (strsTo ws lot row i ++ fromF ws lot (fstAt ws (row.getD i 0)) (row.drop i)).length ≤ (i + 1) * row.length
    rw [List.length_append, fromF_len, List.length_drop, Nat.succ_mul]
    omega
/-! ### turned about -/
theorem from_iff {ws : List (Int × Int)} {lot : List (Option Int)} {x : Int} : ∀ (l : List Nat) (h : Int), x ∈ fromF ws lot h l ↔ ∃ m q b, l = m ++ q ∧ m.getLast? = some b ∧ x = h + loadN lot m - lstAt ws b
  | [], h => by
    refine ⟨fun hx => (by cases hx), fun ⟨m, q, b, e, hb, _⟩ => ?_⟩
    rw [(List.append_eq_nil_iff.mp e.symm).1] at hb
    cases hb
  | j :: r, h => by
    have ih := from_iff (ws := ws) (lot := lot) (x := x) r (h + lenAt lot j)
    constructor
    · intro hx
      rcases List.mem_cons.mp hx with e | hx
      · exact ⟨[j], r, j, rfl, rfl, by rw [e]; simp [loadN]⟩
      · obtain ⟨m, q, b, e, hb, hx⟩ := ih.mp hx
        refine ⟨j :: m, q, b, by rw [e] <;> rfl, by rw [List.getLast?_cons, hb] <;> rfl, ?_⟩
        rw [hx]
        simp only [loadN, List.map_cons, List.sum_cons]
        omega
    · rintro ⟨m, q, b, e, hb, hx⟩
      cases m with
      | nil => cases hb
      | cons i m =>
        obtain ⟨rfl, rfl⟩ := List.cons.inj e
        rw [List.getLast?_cons] at hb
        cases hm : m.getLast? with
        | none =>
          rw [hm] at hb
          cases hb
          rw [List.getLast?_eq_none_iff.mp hm] at hx
          refine List.mem_cons.mpr (.inl ?_)
          rw [hx]
          simp [loadN]
        | some b' =>
          rw [hm] at hb
          cases hb
          refine List.mem_cons_of_mem _ (ih.mpr ⟨m, q, _, rfl, hm, ?_⟩)
          rw [hx]
          simp only [loadN, List.map_cons, List.sum_cons, Option.getD_some]
          omega
theorem strs_iff {ws : List (Int × Int)} {lot : List (Option Int)} {x : Int} : ∀ l : List Nat, x ∈ strsF ws lot l ↔ ∃ p m q a b, l = p ++ (m ++ q) ∧ m.head? = some a ∧ m.getLast? = some b ∧ x = fstAt ws a + loadN lot m - lstAt ws b
  | [] => by
    refine ⟨fun hx => (by cases hx), fun ⟨p, m, q, a, b, e, ha, _⟩ => ?_⟩
    rw [(List.append_eq_nil_iff.mp (List.append_eq_nil_iff.mp e.symm).2).1] at ha
    cases ha
  | j :: r => by
    have ih := strs_iff (ws := ws) (lot := lot) (x := x) r
    constructor
    · intro hx
      rcases List.mem_append.mp hx with hx | hx
      · obtain ⟨m, q, b, e, hb, hy⟩ := (from_iff _ _).mp hx
        cases m with
        | nil => cases hb
        | cons i m =>
          obtain ⟨rfl, rfl⟩ := List.cons.inj e
          exact ⟨[], j :: m, q, j, b, rfl, rfl, hb, hy⟩
      · obtain ⟨p, m, q, a, b, e, ha, hb, hx⟩ := ih.mp hx
        exact ⟨j :: p, m, q, a, b, by rw [e] <;> rfl, ha, hb, hx⟩
    · rintro ⟨p, m, q, a, b, e, ha, hb, hx⟩
      cases p with
      | nil =>
        refine List.mem_append_left _ ((from_iff _ _).mpr ⟨m, q, b, e, hb, ?_⟩)
        cases m with
        | nil => cases hb
        | cons i m =>
          obtain ⟨rfl, rfl⟩ := List.cons.inj e
          cases ha
          exact hx
      | cons i p =>
        obtain ⟨rfl, rfl⟩ := List.cons.inj e
        exact List.mem_append_right _ (ih.mpr ⟨p, m, q, a, b, rfl, ha, hb, hx⟩)
theorem maxL_same {l m : List Int} (h : ∀ x, x ∈ l ↔ x ∈ m) : maxL l = maxL m := by
  cases e : maxL m with
  | none =>
    rw [maxL_none] at e ⊢
    refine List.eq_nil_iff_forall_not_mem.mpr fun x hx => ?_
    rw [h, e] at hx
    cases hx
  | some k =>
    obtain ⟨h1, h2⟩ := maxL_some e
    exact maxL_of ((h k).mpr h1) fun x hx => h2 x ((h x).mp hx)
theorem loadN_rev (lot : List (Option Int)) (m : List Nat) : loadN lot m.reverse = loadN lot m := by
  unfold loadN
  rw [List.map_reverse, List.sum_reverse]
theorem coming_rev (row : List Nat) (lot : List (Option Int)) : comingN row.reverse lot = (comingN row lot).reverse := List.filter_reverse ..
theorem due_turn {ws ws' : List (Int × Int)} {row : List Nat} {lot : List (Option Int)} {u : Int} (h0 : ∀ j ∈ row, 0 ≤ fstAt ws j) (h1 : ∀ j ∈ row, lstAt ws j ≤ u) (hf : ∀ j ∈ row, fstAt ws' j = u - lstAt ws j) (hl : ∀ j ∈ row, lstAt ws' j = u - fstAt ws j) :
    dueN ws' row.reverse lot = dueN ws row lot := by
  rw [due_strs h0, due_strs (fun j hj => by
    have hj := List.mem_reverse.mp hj
    rw [hf j hj]
    have := h1 j hj
    omega), coming_rev]
  have sub : ∀ j ∈ comingN row lot, j ∈ row := fun j hj => (comingN_mem hj).1
  refine maxL_same fun x => ?_
  rw [strs_iff, strs_iff]
  constructor
  · rintro ⟨p, m, q, a, b, e, ha, hb, hx⟩
    have e' : comingN row lot = q.reverse ++ (m.reverse ++ p.reverse) := by
      rw [← List.reverse_reverse (comingN row lot), e]
      simp
    have am : a ∈ m := List.mem_of_head? ha
    have bm : b ∈ m := List.mem_of_getLast? hb
    have ar : a ∈ row := sub a (by rw [e']; simp [am])
    have br : b ∈ row := sub b (by rw [e']; simp [bm])
    refine ⟨q.reverse, m.reverse, p.reverse, b, a, e', by rw [List.head?_reverse]; exact hb, by rw [List.getLast?_reverse]; exact ha, ?_⟩
    rw [hx, loadN_rev, hf a ar, hl b br]
    omega
  · rintro ⟨p, m, q, a, b, e, ha, hb, hx⟩
    have am : a ∈ m := List.mem_of_head? ha
    have bm : b ∈ m := List.mem_of_getLast? hb
    have ar : a ∈ row := sub a (by rw [e]; simp [am])
    have br : b ∈ row := sub b (by rw [e]; simp [bm])
    refine ⟨q.reverse, m.reverse, p.reverse, b, a, by rw [e]; simp, by rw [List.head?_reverse]; exact hb, by rw [List.getLast?_reverse]; exact ha, ?_⟩
    rw [hx, loadN_rev, hf b br, hl a ar]
    omega
/-! ### mirrored, shifted -/
def mirW (u : Int) (ws : List (Int × Int)) : List (Int × Int) := ws.map fun q => (u - q.2, u - q.1)
def shW (k : Int) (ws : List (Int × Int)) : List (Int × Int) := ws.map fun q => (q.1 + k, q.2 + k)
structure MaxW (u : Int) (ws : List (Int × Int)) : Prop where
  mem : ∃ q ∈ ws, q.2 = u
  le : ∀ q ∈ ws, q.2 ≤ u
structure MinW (u : Int) (ws : List (Int × Int)) : Prop where
  mem : ∃ q ∈ ws, q.1 = u
  le : ∀ q ∈ ws, u ≤ q.1
theorem MaxW.eq {u v : Int} {ws : List (Int × Int)} (a : MaxW u ws) (b : MaxW v ws) : u = v := by
  obtain ⟨q, h1, h2⟩ := a.mem
  obtain ⟨r, h3, h4⟩ := b.mem
  have := a.le r h3
  have := b.le q h1
  omega
theorem MinW.eq {u v : Int} {ws : List (Int × Int)} (a : MinW u ws) (b : MinW v ws) : u = v := by
  obtain ⟨q, h1, h2⟩ := a.mem
  obtain ⟨r, h3, h4⟩ := b.mem
  have := a.le r h3
  have := b.le q h1
  omega
theorem max_mir {u low : Int} {ws : List (Int × Int)} (b : MinW low ws) : MaxW (u - low) (mirW u ws) := by
  obtain ⟨q, h1, h2⟩ := b.mem
  refine ⟨⟨_, List.mem_map_of_mem h1, by rw [h2]⟩, fun r hr => ?_⟩
  obtain ⟨p, hp, rfl⟩ := List.mem_map.mp hr
  have := b.le p hp
  show u - p.1 ≤ u - low
  omega
theorem max_sh {u k : Int} {ws : List (Int × Int)} (b : MaxW u ws) : MaxW (u + k) (shW k ws) := by
  obtain ⟨q, h1, h2⟩ := b.mem
  refine ⟨⟨_, List.mem_map_of_mem h1, by rw [h2]⟩, fun r hr => ?_⟩
  obtain ⟨p, hp, rfl⟩ := List.mem_map.mp hr
  have := b.le p hp
  show p.2 + k ≤ u + k
  omega
theorem mir_mir (u v : Int) (ws : List (Int × Int)) : mirW v (mirW u ws) = shW (v - u) ws := by
  unfold mirW shW
  rw [List.map_map]
  refine List.map_congr_left fun q _ => ?_
  refine Prod.ext ?_ ?_
  · show v - (u - q.1) = q.1 + (v - u)
    omega
  · show v - (u - q.2) = q.2 + (v - u)
    omega
theorem mir_sh (v k : Int) (ws : List (Int × Int)) : mirW v (shW k ws) = mirW (v - k) ws := by
  unfold mirW shW
  rw [List.map_map]
  refine List.map_congr_left fun q _ => ?_
  refine Prod.ext ?_ ?_
  · show v - (q.2 + k) = v - k - q.2
    omega
  · show v - (q.1 + k) = v - k - q.1
    omega
theorem winAt_map {f : Int × Int → Int × Int} {ws : List (Int × Int)} {j : Nat} (h : j < ws.length) : winAt (ws.map f) j = f (winAt ws j) := by
  unfold winAt
  rw [List.getD_eq_getElem?_getD, List.getD_eq_getElem?_getD, List.getElem?_map, List.getElem?_eq_getElem h] <;> rfl
theorem winAt_mem {ws : List (Int × Int)} {j : Nat} (h : j < ws.length) : winAt ws j ∈ ws := by
  unfold winAt
  rw [List.getD_eq_getElem?_getD, List.getElem?_eq_getElem h]
  exact List.getElem_mem h
/-! ### lists of pairs laid one by one -/
/-- refs to pairs -/
def PairsAt (K : PySem.W.Frag) (H : Hp) (as : List Addr) (ps : List (Int × Int)) : Prop := as.length = ps.length ∧ ∀ (i : Nat) (a : Addr) (q : Int × Int), as[i]? = some a → ps[i]? = some q → SqT K H a [.int q.1, .int q.2]
theorem PairsAt.mono {K : PySem.W.Frag} {H H' : Hp} {as : List Addr} {ps : List (Int × Int)} (h : PairsAt K H as ps) (e : Ex H H') : PairsAt K H' as ps := ⟨h.1, fun i a q x y => ex_t e (h.2 i a q x y)⟩
theorem PairsAt.nil {K : PySem.W.Frag} {H : Hp} : PairsAt K H [] [] := ⟨rfl, fun i a q x => by simp at x⟩
theorem PairsAt.add {K : PySem.W.Frag} {H : Hp} {as : List Addr} {ps : List (Int × Int)} {r : Addr} {q : Int × Int} (h : PairsAt K H as ps) (hr : SqT K H r [.int q.1, .int q.2]) : PairsAt K H (as ++ [r]) (ps ++ [q]) := by
  obtain ⟨h2, h3⟩ := h
  refine ⟨by rw [List.length_append, List.length_append, h2] <;> rfl, fun i a q' x y => ?_⟩
  by_cases hi : i < as.length
  · rw [List.getElem?_append_left hi] at x
    rw [List.getElem?_append_left (by omega)] at y
    exact h3 i a q' x y
  · rw [List.getElem?_append_right (by omega)] at x
    rw [List.getElem?_append_right (by omega)] at y
    have e0 : i - as.length = 0 := by
      have := (List.getElem?_eq_some_iff.mp x).1
      simp at this
      omega
    rw [e0] at x
    rw [← h2, e0] at y
    cases (Option.some.inj x)
    cases (Option.some.inj y)
    exact hr
theorem WinAt.of {K : PySem.W.Frag} {H : Hp} {w : Addr} {as : List Addr} {ps : List (Int × Int)} (h : SqT K H w (as.map V.ref)) (p : PairsAt K H as ps) (hl : ps.length ≤ 1000) : WinAt K H w ps := ⟨hl, as, h, p.1, p.2⟩
theorem sqt_upd {K : PySem.W.Frag} {H : Hp} {D : Addr} {ys zs : List V} {a : Addr} {xs : List V} (hD : H D = some (.lst ys)) (h : SqT K H a xs) : SqT K (L2.upd H D (.lst zs)) a xs := by
  have ne : ∀ {o : HO}, H a = some o → (∀ us, o ≠ .lst us) → a ≠ D := fun {o} e n z => by
    rw [z, hD] at e
    exact n _ (Option.some.inj e).symm
  rcases h with (h | ⟨o, h⟩) | h
  · exact .inl (.inl (by rw [upd_ne (ne h (fun us z => by cases z))]; exact h))
  · exact .inl (.inr ⟨o, by rw [upd_ne (ne h (fun us z => by cases z))]; exact h⟩)
  · exact .inr h
theorem PairsAt.upd {K : PySem.W.Frag} {H : Hp} {D : Addr} {ys zs : List V} {as : List Addr} {ps : List (Int × Int)} (h : PairsAt K H as ps) (hD : H D = some (.lst ys)) : PairsAt K (L2.upd H D (.lst zs)) as ps := ⟨h.1, fun i a q x y => sqt_upd hD (h.2 i a q x y)⟩
theorem dp_wins {K : PySem.W.Frag} {H : Hp} {w : Addr} {ws : List (Int × Int)} (h : WinAt K H w ws) : Dp K H (.ref w) (.tuple (ws.map dPair)) := by
  obtain ⟨_, as, h1, h2, h3⟩ := h
  refine .tup h1 ?_
  clear h1
  induction ws generalizing as with
  | nil =>
    cases as with
    | nil => exact .nil
    | cons _ _ => simp at h2
  | cons q r ih =>
    cases as with
    | nil => simp at h2
    | cons a s =>
      refine .cons (.tup (h3 0 a q rfl rfl) (.cons (.int _) (.cons (.int _) .nil))) (ih ?_ s (by simpa using h2) fun i a q x y => h3 (i + 1) a q x y)
      have : (q :: r).length ≤ 1000 := by assumption
      simp at this
      omega
theorem shaped_wins (ws : List (Int × Int)) : SeqAt.shaped (.tuple (ws.map dPair)) = true := by
  have h := deep_pairs ws
  unfold SeqAt.shaped
  have e1 : PyData.canLay0 (.tuple (ws.map dPair)) = true := by simp only [PyData.canLay0, lay_pairs]
  rw [e1, Bool.true_and]
  apply decide_eq_true
  simp only [PyData.depth]
  omega
theorem eqvAll_pairs : ∀ l m : List (Int × Int), PyData.eqvAll (l.map dPair) (m.map dPair) = decide (l = m)
  | [], [] => by simp [PyData.eqvAll]
  | [], _ :: _ => by simp [PyData.eqvAll]
  | _ :: _, [] => by simp [PyData.eqvAll]
  | (a, b) :: l, (c, d) :: m => by
    simp only [List.map_cons, PyData.eqvAll, dPair, PyData.eqv, eqvAll_pairs l m]
    by_cases h1 : a = c <;> by_cases h2 : b = d <;> by_cases h3 : l = m <;> simp [h1, h2, h3]
theorem eqv_wins (l m : List (Int × Int)) : PyData.eqv (.tuple (l.map dPair)) (.tuple (m.map dPair)) = decide (l = m) := by
  simp only [PyData.eqv, eqvAll_pairs]
/-! ### the defs of books -/
abbrev sp_unbounded (K : PySem.W.Frag) (A : Ad) : Sp := fun vs H Q _ => Sp1 vs fun x => ∃ (l : Addr) (as : List Addr) (ws : List (Int × Int)), x = .ref l ∧ (SqL K H l (as.map V.ref) ∨ SqT K H l (as.map V.ref)) ∧ PairsAt K H as ws ∧ ws.length ≤ 1000 ∧
  ∀ (b w : Addr) (H' : Hp), H b = none → Ex H H' → BookAt A.C_Book H' b w → WinAt K H' w ws → Q (.ref b) H'
abbrev sp_last_of_all (K : PySem.W.Frag) (A : Ad) : Sp := fun vs H Q _ => Sp1 vs fun x => ∃ (b w : Addr) (ws : List (Int × Int)), x = .ref b ∧ BookAt A.C_Book H b w ∧ WinAt K H w ws ∧ 0 < ws.length ∧ ∀ (u : Int) (H' : Hp), MaxW u ws → Ex H H' → Q (.int u) H'
abbrev sp_mirrored (K : PySem.W.Frag) (A : Ad) : Sp := fun vs H Q _ => Sp1 vs fun x => ∃ (b w : Addr) (ws : List (Int × Int)), x = .ref b ∧ BookAt A.C_Book H b w ∧ WinAt K H w ws ∧ 0 < ws.length ∧
  ∀ (b2 w2 : Addr) (u : Int) (H' : Hp), H b2 = none → MaxW u ws → Ex H H' → BookAt A.C_Book H' b2 w2 → WinAt K H' w2 (mirW u ws) → Q (.ref b2) H'
def byD (ws : List (Int × Int)) : Da → Bool | .int z => ws.all (fun q => decide (0 ≤ q.1 + z)) | _ => false
abbrev sp_NoNumber_init (K : PySem.W.Frag) (A : Ad) : Sp := sp_pass
abbrev sp_shifted (K : PySem.W.Frag) (A : Ad) : Sp := fun vs H Q E => Sp2 vs fun x y => ∃ (b w : Addr) (ws : List (Int × Int)) (d : Da), x = .ref b ∧ BookAt A.C_Book H b w ∧ WinAt K H w ws ∧ 0 < ws.length ∧ Rp K H y d ∧
  (byD ws d = false → ∀ H', Ex H H' → E (.ref A.C_NoNumber) none H') ∧
  ∀ z : Int, d = .int z → byD ws d = true → ∀ (b2 w2 : Addr) (H' : Hp), H b2 = none → Ex H H' → BookAt A.C_Book H' b2 w2 → WinAt K H' w2 (shW z ws) → Q (.ref b2) H'
abbrev sp_Book_eq (K : PySem.W.Frag) (A : Ad) : Sp := fun vs H Q _ => Sp2 vs fun x y => ∃ (a wa b wb : Addr) (us ws : List (Int × Int)), x = .ref a ∧ y = .ref b ∧ BookAt A.C_Book H a wa ∧ WinAt K H wa us ∧ BookAt A.C_Book H b wb ∧ WinAt K H wb ws ∧ Q (.bl (decide (us = ws))) H
theorem shW_len (k : Int) (ws : List (Int × Int)) : (shW k ws).length = ws.length := List.length_map ..
theorem mirW_len (k : Int) (ws : List (Int × Int)) : (mirW k ws).length = ws.length := List.length_map ..
theorem win_step {K : PySem.W.Frag} {H : Hp} {ws : List (Int × Int)} {was : List Addr} (h2 : was.length = ws.length) (h3 : ∀ (i : Nat) (a : Addr) (q : Int × Int), was[i]? = some a → ws[i]? = some q → SqT K H a [.int q.1, .int q.2]) {i : Nat} {y : V} (hi : (was.map V.ref)[i]? = some y) :
    ∃ a q, y = .ref a ∧ SqT K H a [.int q.1, .int q.2] ∧ ws.take (i + 1) = ws.take i ++ [q] ∧ i < ws.length ∧ q ∈ ws := by
  have hia : i < was.length := by
    have := (List.getElem?_eq_some_iff.mp hi).1
    rw [List.length_map] at this
    exact this
  have hiw : i < ws.length := by omega
  rw [List.getElem?_map, List.getElem?_eq_getElem hia] at hi
  exact ⟨was[i], ws[i], (Option.some.inj hi).symm, h3 i _ _ (List.getElem?_eq_getElem hia) (List.getElem?_eq_getElem hiw), List.take_succ_eq_append_getElem hiw, hiw, List.getElem_mem hiw⟩
/-! ### groups, parts, joined books -/
def upD (ds : List Da) : Bool := decide ((ds.map daInt).Pairwise (· ≤ ·))
def groupD (n : Nat) : Da → Bool
  | .tup ds => rowD n (.tup ds) && upD ds
  | _ => false
def partD (n : Nat) : Da → Bool
  | .tup ds => groupD n (.tup ds) && !ds.isEmpty
  | _ => false
abbrev sp_NoGroup_init (K : PySem.W.Frag) (A : Ad) : Sp := sp_pass
abbrev sp_is_group (K : PySem.W.Frag) (A : Ad) : Sp := fun vs H Q _ => Sp2 vs fun x y => OnBook K A H x y fun ws d => ∀ H', Ex H H' → Q (.bl (groupD ws.length d)) H'
def partW (ws : List (Int × Int)) (row : List Nat) : List (Int × Int) := row.map (winAt ws)
abbrev sp_part (K : PySem.W.Frag) (A : Ad) : Sp := fun vs H Q E => Sp2 vs fun x y => OnBook K A H x y fun ws d =>
  (partD ws.length d = false → ∀ H', Ex H H' → E (.ref A.C_NoGroup) none H') ∧
  ∀ row : List Nat, d = .tup (row.map dNat) → partD ws.length d = true → ∀ (b2 w2 : Addr) (H' : Hp), H b2 = none → Ex H H' → BookAt A.C_Book H' b2 w2 → WinAt K H' w2 (partW ws row) → Q (.ref b2) H'
abbrev sp_joined (K : PySem.W.Frag) (A : Ad) : Sp := fun vs H Q _ => Sp2 vs fun x y => ∃ (a wa b wb : Addr) (us ws : List (Int × Int)), x = .ref a ∧ y = .ref b ∧ BookAt A.C_Book H a wa ∧ WinAt K H wa us ∧ BookAt A.C_Book H b wb ∧ WinAt K H wb ws ∧ us.length + ws.length ≤ 1000 ∧
  ∀ (b2 w2 : Addr) (H' : Hp), H b2 = none → Ex H H' → BookAt A.C_Book H' b2 w2 → WinAt K H' w2 (us ++ ws) → Q (.ref b2) H'
theorem PairsAt.append {K : PySem.W.Frag} {H : Hp} {as bs : List Addr} {ps qs : List (Int × Int)} (h : PairsAt K H as ps) (g : PairsAt K H bs qs) : PairsAt K H (as ++ bs) (ps ++ qs) := by
  obtain ⟨h2, h3⟩ := h
  obtain ⟨g2, g3⟩ := g
  refine ⟨by rw [List.length_append, List.length_append, h2, g2], fun i a q x y => ?_⟩
  by_cases hi : i < as.length
  · rw [List.getElem?_append_left hi] at x
    rw [List.getElem?_append_left (by omega)] at y
    exact h3 i a q x y
  · rw [List.getElem?_append_right (by omega)] at x
    rw [List.getElem?_append_right (by omega)] at y
    rw [h2] at x
    exact g3 _ a q x y
/-- the list of a row's works is ascending just if sorting leaves it -/
theorem up_iff {ns ms : List Int} (hp : ms.Perm ns) (hs : ms.Pairwise (· ≤ ·)) : decide (ns = ms) = decide (ns.Pairwise (· ≤ ·)) := by
  apply decide_eq_decide.mpr
  constructor
  · intro e
    rw [e]
    exact hs
  · intro h
    exact List.Perm.eq_of_pairwise (le := (· ≤ ·)) (fun a b _ _ h1 h2 => Int.le_antisymm h1 h2) h hs hp.symm
def dIntL (l : List Int) : PyData := .list (l.map .int)
theorem shaped_intL (l : List Int) : SeqAt.shaped (dIntL l) = true := by
  unfold SeqAt.shaped dIntL
  simp only [PyData.canLay0, PyData.depth, lay_ints, deep_ints]
  decide
theorem eqv_intL (l m : List Int) : PyData.eqv (dIntL l) (dIntL m) = decide (l = m) := by
  unfold dIntL
  simp only [PyData.eqv, eqvAll_ints]
theorem partD_row {ws : List (Int × Int)} {row : List Nat} (h1 : ∀ j ∈ row, j < ws.length) (h2 : row.Pairwise (· < ·)) (h3 : row ≠ []) : partD ws.length (.tup (row.map dNat)) = true := by
  have e1 : rowD ws.length (.tup (row.map dNat)) = true := by
    simp only [rowD, Bool.and_eq_true, decide_eq_true_eq, List.all_eq_true]
    refine ⟨fun x hx => ?_, ?_⟩
    · obtain ⟨j, hj, rfl⟩ := List.mem_map.mp hx
      have := h1 j hj
      simp [dNat, workD, this]
    · rw [da_row]
      refine List.pairwise_map.mpr (h2.imp fun h e => ?_)
      omega
  have e2 : upD (row.map dNat) = true := by
    unfold upD
    rw [da_row]
    refine decide_eq_true (List.pairwise_map.mpr (h2.imp fun h => ?_))
    omega
  have e3 : (!(row.map dNat).isEmpty) = true := by
    cases row with
    | nil => exact absurd rfl h3
    | cons a b => rfl
  simp only [partD, groupD, e1, e2, e3, Bool.and_self]
theorem partD_nats {n : Nat} {d : Da} (h : partD n d = true) : ∃ row : List Nat, d = .tup (row.map dNat) ∧ ∀ j ∈ row, j < n := by
  cases d with
  | tup ds =>
    simp only [partD, groupD, rowD, Bool.and_eq_true, List.all_eq_true] at h
    have h1 := h.1.1.1
    refine ⟨ds.map fun d => (daInt d).toNat, ?_, fun j hj => ?_⟩
    · rw [List.map_map]
      congr 1
      symm
      refine (List.map_congr_left fun d hd => ?_).trans (List.map_id _)
      obtain ⟨i, rfl, _⟩ := workD_int (h1 d hd)
      rfl
    · obtain ⟨d, hd, rfl⟩ := List.mem_map.mp hj
      obtain ⟨i, rfl, hi⟩ := workD_int (h1 d hd)
      exact hi
  | _ => cases h
theorem nats_inj {r s : List Nat} (h : r.map dNat = s.map dNat) : r = s := by
  induction r generalizing s with
  | nil =>
    cases s with
    | nil => rfl
    | cons _ _ => cases h
  | cons a r ih =>
    cases s with
    | nil => cases h
    | cons b s =>
      obtain ⟨h1, h2⟩ := List.cons.inj h
      have e := Da.int.inj h1
      rw [ih h2, show a = b by omega]
theorem ex_kept {H H1 H2 : Hp} {p c : Addr} (np : H p = none) (nc : H c = none) (e : Ex H H1) (k : Kept p c H1 H2) : Ex H H2 := fun a o h => k a o (fun z => by
  rw [z, np] at h
  cases h) (fun z => by
  rw [z, nc] at h
  cases h) (e a o h)
structure SpFlagLaw (K : PySem.W.Frag) (vs : List V) (H : Hp) (Q : VK) : Prop where
  ex : ∃ (a : Addr) (ns : List Int), vs = [.ref a] ∧ SqL K H a (ns.map V.int) ∧ ns.length ≤ 63 ∧ ∀ H', Ex H H' → Q (.bl true) H'
theorem SpFlagLaw.len {K : PySem.W.Frag} {vs : List V} {H : Hp} {Q : VK} (h : SpFlagLaw K vs H Q) : vs.length = 1 := by
  obtain ⟨a, ns, rfl, _⟩ := h.ex
  rfl
abbrev sp_l_main (K : PySem.W.Frag) (A : Ad) : Sp := fun vs H Q _ => SpFlagLaw K vs H Q
abbrev sp_l_more (K : PySem.W.Frag) (A : Ad) : Sp := fun vs H Q _ => SpFlagLaw K vs H Q
abbrev sp_l_someU (K : PySem.W.Frag) (A : Ad) : Sp := fun vs H Q _ => Sp2 vs fun x y => ∃ (p c : Addr) (n : Nat), x = .ref p ∧ y = .int (n : Int) ∧ PoolAt H p c ∧ n ≤ 1000 ∧
  ∀ (w : Addr) (out : List Nat) (H' : Hp), H w = none → (∀ j ∈ out, j < n) → out.Pairwise (· < ·) → H' w = some (.tup (out.map vNat)) → PoolAt H' p c → Kept p c H H' → Q (.ref w) H'
/-- let, or which error -/
def toldD (x y : Bool) : PyData := .list [.bool x, .bool y]
abbrev sp_l_told5 (K : PySem.W.Frag) (A : Ad) : Sp := fun vs H Q _ => Sp3 vs fun x y z => ∃ (k : Int) (b w : Addr) (ws : List (Int × Int)) (d : Da), x = .int k ∧ y = .ref b ∧ BookAt A.C_Book H b w ∧ WinAt K H w ws ∧ 0 < ws.length ∧ Rp K H z d ∧ smallD d ∧
  ((if k = 0 then partD ws.length d else byD ws d) = true → ∀ H', Ex H H' → Q (.str "let") H') ∧
  ((if k = 0 then partD ws.length d else byD ws d) = false → ∀ l H', Ex H H' → H' l = some (.lst [.bl (decide (k = 0)), .bl (decide (k ≠ 0))]) → Q (.ref l) H')
theorem pair_nums {ws : List (Int × Int)} {j : Nat} (h : j < ws.length) : winAt ws j = ws[j] := by
  unfold winAt
  rw [List.getD_eq_getElem?_getD, List.getElem?_eq_getElem h] <;> rfl
theorem rpAll_nats {K : PySem.W.Frag} {H : Hp} : ∀ {row : List Nat} {xs : List V}, RpAll K H xs (row.map dNat) → xs = row.map vNat
  | [], _, h => by
    cases h
    rfl
  | j :: r, _, h => by
    cases h with
    | cons h1 h2 =>
      cases h1
      rw [rpAll_nats h2]
      rfl
theorem WinAt.pairs {K : PySem.W.Frag} {H : Hp} {w : Addr} {ws : List (Int × Int)} (h : WinAt K H w ws) : ∃ as : List Addr, SqT K H w (as.map V.ref) ∧ PairsAt K H as ws := by
  obtain ⟨_, as, h1, h2, h3⟩ := h
  exact ⟨as, h1, h2, h3⟩
theorem cat_wins {K : PySem.W.Frag} {H : Hp} {a b : Addr} {us ws : List (Int × Int)} {Q : VK} (ha : WinAt K H a us) (hb : WinAt K H b ws) (hl : us.length + ws.length ≤ 1000) (k : ∀ r H', Ex H H' → WinAt K H' r (us ++ ws) → Q (.ref r) H') : rCatA K (.ref a) (.ref b) H Q := by
  obtain ⟨as, a1, a2⟩ := ha.pairs
  obtain ⟨bs, b1, b2⟩ := hb.pairs
  have e1 := a2.1
  have e2 := b2.1
  refine cat_read a1 b1 (by rw [List.length_map, List.length_map]; omega) fun r H' e h => k r H' e ?_
  rw [← List.map_append] at h
  exact WinAt.of h (PairsAt.append (a2.mono e) (b2.mono e)) (by rw [List.length_append]; exact hl)
theorem rep_wins {K : PySem.W.Frag} {H : Hp} {a : Addr} {us : List (Int × Int)} {Q : VK} (ha : WinAt K H a us) (h0 : us ≠ []) (hl : us.length + us.length ≤ 1000) (k : ∀ r H', Ex H H' → WinAt K H' r (us ++ us) → Q (.ref r) H') : rRepL K (.int 2) (.ref a) H Q := by
  obtain ⟨as, a1, a2⟩ := ha.pairs
  have e1 := a2.1
  refine ⟨a, 2, _, rfl, rfl, a1, ?_, by decide, by decide, by rw [List.length_map]; omega, fun p np => k p _ (Ex.new np) ?_⟩
  · intro e
    have e0 : as = [] := List.map_eq_nil_iff.mp e
    rw [e0] at e1
    exact h0 (List.eq_nil_of_length_eq_zero e1.symm)
  · have x := Ex.new (o := .tup (List.replicate (2 : Int).toNat (as.map V.ref)).flatten) np
    refine WinAt.of (as := as ++ as) (SqT.of ?_) (PairsAt.append (a2.mono x) (a2.mono x)) (by rw [List.length_append]; exact hl)
    rw [upd_same, List.map_append]
    show some (HO.tup (as.map V.ref ++ (as.map V.ref ++ []))) = _
    rw [List.append_nil]
theorem winAt_app {us ws : List (Int × Int)} {j : Nat} (h : j < us.length) : winAt (us ++ ws) j = winAt us j := by
  unfold winAt
  rw [List.getD_eq_getElem?_getD, List.getD_eq_getElem?_getD, List.getElem?_append_left h]
theorem winAt_app2 {us ws : List (Int × Int)} (j : Nat) : winAt (us ++ ws) (us.length + j) = winAt ws j := by
  unfold winAt
  rw [List.getD_eq_getElem?_getD, List.getD_eq_getElem?_getD, List.getElem?_append_right (by omega)]
  congr 2
  omega
theorem partW_app {us ws : List (Int × Int)} {row : List Nat} (h : ∀ j ∈ row, j < us.length) : partW (us ++ ws) row = partW us row := List.map_congr_left fun j hj => winAt_app (h j hj)
theorem partW_range (ws : List (Int × Int)) : partW ws (List.range ws.length) = ws := by
  show (List.range ws.length).map (winAt ws) = ws
  refine List.ext_getElem (by simp) fun i h1 h2 => ?_
  rw [List.getElem_map, List.getElem_range, pair_nums h2]
theorem partW_rest (us ws : List (Int × Int)) : partW (us ++ ws) ((List.range ws.length).map fun i => us.length + i) = ws := by
  unfold partW
  rw [List.map_map]
  refine Eq.trans (List.map_congr_left fun j hj => ?_) (partW_range ws)
  exact winAt_app2 j
theorem partW_sh {ws : List (Int × Int)} {row : List Nat} {k : Int} (h : ∀ j ∈ row, j < ws.length) : partW (shW k ws) row = shW k (partW ws row) := by
  unfold partW shW
  rw [List.map_map]
  exact List.map_congr_left fun j hj => winAt_map (h j hj)
theorem sh_back (k : Int) (ws : List (Int × Int)) : shW (-k) (shW k ws) = ws := by
  unfold shW
  rw [List.map_map]
  refine (List.map_congr_left fun q _ => ?_).trans (List.map_id _)
  refine Prod.ext ?_ ?_
  · show q.1 + k + -k = q.1
    omega
  · show q.2 + k + -k = q.2
    omega
theorem byD_of {ws : List (Int × Int)} {z : Int} (h : ∀ q ∈ ws, 0 ≤ q.1 + z) : byD ws (.int z) = true := by
  simp only [byD, List.all_eq_true, decide_eq_true_eq]
  exact h
theorem rgV_from (n k : Nat) : rgV (n : Int) ((n : Int) + (k : Int)) = (((List.range k).map fun i => n + i).map vNat) := by
  unfold rgV
  rw [show ((n : Int) + (k : Int) - (n : Int)).toNat = k by omega, List.map_map]
  rfl
theorem RpAll.append {K : PySem.W.Frag} {H : Hp} : ∀ {vs us : List V} {ds es : List Da}, RpAll K H vs ds → RpAll K H us es → RpAll K H (vs ++ us) (ds ++ es)
  | _, _, _, _, .nil, g => g
  | _, _, _, _, .cons h r, g => .cons h (RpAll.append r g)
theorem rpAll_row {K : PySem.W.Frag} {H : Hp} : ∀ row : List Nat, RpAll K H (row.map vNat) (row.map dNat)
  | [] => .nil
  | j :: r => .cons (.int _) (rpAll_row r)
def BadD (n : Nat) (d : Da) : Prop := smallD d ∧ partD n d = false
theorem bad_work {n : Nat} {ds : List Da} (h0 : ds.length ≤ 1000) (h : ds.all (workD n) = false) : BadD n (.tup ds) := ⟨h0, by simp only [partD, groupD, rowD, h, Bool.false_and]⟩
theorem bad_twice {n : Nat} {ds : List Da} (h0 : ds.length ≤ 1000) (h : ¬ (ds.map daInt).Nodup) : BadD n (.tup ds) := ⟨h0, by simp only [partD, groupD, rowD, decide_eq_false h, Bool.and_false, Bool.false_and]⟩
theorem bad_up {n : Nat} {ds : List Da} (h0 : ds.length ≤ 1000) (h : ¬ (ds.map daInt).Pairwise (· ≤ ·)) : BadD n (.tup ds) := ⟨h0, by simp only [partD, groupD, upD, decide_eq_false h, Bool.and_false, Bool.false_and]⟩
theorem bad_nil (n : Nat) : BadD n (.tup []) := ⟨Nat.zero_le _, by simp [partD]⟩
theorem byD_bad {ws : List (Int × Int)} {z : Int} (h : ∃ q ∈ ws, q.1 + z < 0) : byD ws (.int z) = false := by
  obtain ⟨q, hq, h⟩ := h
  simp only [byD]
  rw [List.all_eq_false]
  exact ⟨q, hq, by simp; omega⟩

end My

namespace My
open PySem PySem.Spec PyProof.Rows L2 Evl
def top (i : Nat) : Stmt := PySem.Challenge.pw_bymiddles_k05_whole_parts_joined_and_shi.main.body.getD i (.Pass ⟨0, 0, 0, 0⟩)
abbrev s_BadBook_init : Stmt := (inClass (top 2) 0)
abbrev n_BadBook_init : List Str := ["self"]
abbrev p_BadBook_init : List Str := ["self"]
theorem sc_BadBook_init : FnScope n_BadBook_init p_BadBook_init (defScope s_BadBook_init) := ⟨rfl, rfl, rfl, by decide +kernel, rfl, by decide +kernel, by decide +kernel⟩
abbrev s_NoGroup_init : Stmt := (inClass (top 3) 0)
abbrev n_NoGroup_init : List Str := ["self"]
abbrev p_NoGroup_init : List Str := ["self"]
theorem sc_NoGroup_init : FnScope n_NoGroup_init p_NoGroup_init (defScope s_NoGroup_init) := ⟨rfl, rfl, rfl, by decide +kernel, rfl, by decide +kernel, by decide +kernel⟩
abbrev s_NoNumber_init : Stmt := (inClass (top 4) 0)
abbrev n_NoNumber_init : List Str := ["self"]
abbrev p_NoNumber_init : List Str := ["self"]
theorem sc_NoNumber_init : FnScope n_NoNumber_init p_NoNumber_init (defScope s_NoNumber_init) := ⟨rfl, rfl, rfl, by decide +kernel, rfl, by decide +kernel, by decide +kernel⟩
abbrev s_is_integer : Stmt := (top 6)
abbrev n_is_integer : List Str := ["thing"]
abbrev p_is_integer : List Str := ["thing"]
theorem sc_is_integer : FnScope n_is_integer p_is_integer (defScope s_is_integer) := ⟨rfl, rfl, rfl, by decide +kernel, rfl, by decide +kernel, by decide +kernel⟩
abbrev s_is_pair : Stmt := (top 7)
abbrev n_is_pair : List Str := ["thing"]
abbrev p_is_pair : List Str := ["thing"]
theorem sc_is_pair : FnScope n_is_pair p_is_pair (defScope s_is_pair) := ⟨rfl, rfl, rfl, by decide +kernel, rfl, by decide +kernel, by decide +kernel⟩
abbrev s_Book_init : Stmt := (inClass (top 11) 0)
abbrev n_Book_init : List Str := ["self", "windows"]
abbrev p_Book_init : List Str := ["self", "windows"]
theorem sc_Book_init : FnScope n_Book_init p_Book_init (defScope s_Book_init) := ⟨rfl, rfl, rfl, by decide +kernel, rfl, by decide +kernel, by decide +kernel⟩
abbrev s_Book_eq : Stmt := (inClass (top 11) 1)
abbrev n_Book_eq : List Str := ["self", "other"]
abbrev p_Book_eq : List Str := ["self", "other"]
theorem sc_Book_eq : FnScope n_Book_eq p_Book_eq (defScope s_Book_eq) := ⟨rfl, rfl, rfl, by decide +kernel, rfl, by decide +kernel, by decide +kernel⟩
abbrev s_is_windows : Stmt := (top 12)
abbrev n_is_windows : List Str := ["thing", "window"]
abbrev p_is_windows : List Str := ["thing"]
theorem sc_is_windows : FnScope n_is_windows p_is_windows (defScope s_is_windows) := ⟨rfl, rfl, rfl, by decide +kernel, rfl, by decide +kernel, by decide +kernel⟩
abbrev s_is_window : Stmt := (top 13)
abbrev n_is_window : List Str := ["thing", "first", "last"]
abbrev p_is_window : List Str := ["thing"]
theorem sc_is_window : FnScope n_is_window p_is_window (defScope s_is_window) := ⟨rfl, rfl, rfl, by decide +kernel, rfl, by decide +kernel, by decide +kernel⟩
abbrev s_unbounded : Stmt := (top 14)
abbrev n_unbounded : List Str := ["windows", "book"]
abbrev p_unbounded : List Str := ["windows"]
theorem sc_unbounded : FnScope n_unbounded p_unbounded (defScope s_unbounded) := ⟨rfl, rfl, rfl, by decide +kernel, rfl, by decide +kernel, by decide +kernel⟩
abbrev s_is_work : Stmt := (top 15)
abbrev n_is_work : List Str := ["book", "thing"]
abbrev p_is_work : List Str := ["book", "thing"]
theorem sc_is_work : FnScope n_is_work p_is_work (defScope s_is_work) := ⟨rfl, rfl, rfl, by decide +kernel, rfl, by decide +kernel, by decide +kernel⟩
abbrev s_is_row : Stmt := (top 16)
abbrev n_is_row : List Str := ["book", "thing", "work"]
abbrev p_is_row : List Str := ["book", "thing"]
theorem sc_is_row : FnScope n_is_row p_is_row (defScope s_is_row) := ⟨rfl, rfl, rfl, by decide +kernel, rfl, by decide +kernel, by decide +kernel⟩
abbrev s_is_group : Stmt := (top 17)
abbrev n_is_group : List Str := ["book", "thing"]
abbrev p_is_group : List Str := ["book", "thing"]
theorem sc_is_group : FnScope n_is_group p_is_group (defScope s_is_group) := ⟨rfl, rfl, rfl, by decide +kernel, rfl, by decide +kernel, by decide +kernel⟩
abbrev s_part : Stmt := (top 18)
abbrev n_part : List Str := ["book", "group", "work"]
abbrev p_part : List Str := ["book", "group"]
theorem sc_part : FnScope n_part p_part (defScope s_part) := ⟨rfl, rfl, rfl, by decide +kernel, rfl, by decide +kernel, by decide +kernel⟩
abbrev s_joined : Stmt := (top 19)
abbrev n_joined : List Str := ["one_book", "other_book"]
abbrev p_joined : List Str := ["one_book", "other_book"]
theorem sc_joined : FnScope n_joined p_joined (defScope s_joined) := ⟨rfl, rfl, rfl, by decide +kernel, rfl, by decide +kernel, by decide +kernel⟩
abbrev s_shifted : Stmt := (top 20)
abbrev n_shifted : List Str := ["book", "by", "first", "last"]
abbrev p_shifted : List Str := ["book", "by"]
theorem sc_shifted : FnScope n_shifted p_shifted (defScope s_shifted) := ⟨rfl, rfl, rfl, by decide +kernel, rfl, by decide +kernel, by decide +kernel⟩
abbrev s_l_pool : Stmt := (top 22)
abbrev n_l_pool : List Str := ["_law_script", "_law_seed", "_law_cell"]
abbrev p_l_pool : List Str := ["_law_script"]
theorem sc_l_pool : FnScope n_l_pool p_l_pool (defScope s_l_pool) := ⟨rfl, rfl, rfl, by decide +kernel, rfl, by decide +kernel, by decide +kernel⟩
abbrev s_l_draw : Stmt := (top 23)
abbrev n_l_draw : List Str := ["_law_pool_here", "_law_many", "_law_cells", "_law_digit", "_law_mixed"]
abbrev p_l_draw : List Str := ["_law_pool_here", "_law_many"]
theorem sc_l_draw : FnScope n_l_draw p_l_draw (defScope s_l_draw) := ⟨rfl, rfl, rfl, by decide +kernel, rfl, by decide +kernel, by decide +kernel⟩
abbrev s_l_windows : Stmt := (top 24)
abbrev n_l_windows : List Str := ["_law_pool_here", "_law_many", "_law_top", "_law_kind", "_law_found", "_law_total", "_law_k", "_law_one", "_law_other"]
abbrev p_l_windows : List Str := ["_law_pool_here", "_law_many", "_law_top"]
theorem sc_l_windows : FnScope n_l_windows p_l_windows (defScope s_l_windows) := ⟨rfl, rfl, rfl, by decide +kernel, rfl, by decide +kernel, by decide +kernel⟩
abbrev s_l_some : Stmt := (top 25)
abbrev n_l_some : List Str := ["_law_pool_here", "_law_many", "_law_of", "_law_work"]
abbrev p_l_some : List Str := ["_law_pool_here", "_law_many"]
theorem sc_l_some : FnScope n_l_some p_l_some (defScope s_l_some) := ⟨rfl, rfl, rfl, by decide +kernel, rfl, by decide +kernel, by decide +kernel⟩
abbrev s_l_main : Stmt := (top 26)
abbrev n_l_main : List Str := ["_law_script", "_law_pool_here", "_law_many", "_law_windows_here", "_law_others", "_law_book", "_law_other", "_law_both", "_law_turn", "_law_group", "_law_told_here", "_law_work", "_law_first", "_law_last", "_law_low", "_law_by", "_law_moved"]
abbrev p_l_main : List Str := ["_law_script"]
theorem sc_l_main : FnScope n_l_main p_l_main (defScope s_l_main) := ⟨rfl, rfl, rfl, by decide +kernel, rfl, by decide +kernel, by decide +kernel⟩
abbrev s_l_told : Stmt := (top 27)
abbrev n_l_told : List Str := ["_law_which", "_law_book", "_law_thing", "_law_told_here", "e"]
abbrev p_l_told : List Str := ["_law_which", "_law_book", "_law_thing"]
theorem sc_l_told : FnScope n_l_told p_l_told (defScope s_l_told) := ⟨rfl, rfl, rfl, by decide +kernel, rfl, by decide +kernel, by decide +kernel⟩
abbrev s_l_more : Stmt := (top 28)
abbrev n_l_more : List Str := ["_law_script", "_law_pool_here", "_law_many", "_law_windows_here", "_law_book", "_law_things", "_law_thing", "_law_first", "_law_last", "_law_low"]
abbrev p_l_more : List Str := ["_law_script"]
theorem sc_l_more : FnScope n_l_more p_l_more (defScope s_l_more) := ⟨rfl, rfl, rfl, by decide +kernel, rfl, by decide +kernel, by decide +kernel⟩
abbrev s_law : Stmt := (top 29)
abbrev n_law : List Str := ["_law_script"]
abbrev p_law : List Str := ["_law_script"]
theorem sc_law : FnScope n_law p_law (defScope s_law) := ⟨rfl, rfl, rfl, by decide +kernel, rfl, by decide +kernel, by decide +kernel⟩
structure Txt (K : PySem.W.Frag) (mg : Str → Option Value) (A : Ad) (D : Fd) : Prop where
  F_BadBook_init : Fun K "__init__" "BadBook.__init__" s_BadBook_init A.a_BadBook_init D.d_BadBook_init
  F_NoGroup_init : Fun K "__init__" "NoGroup.__init__" s_NoGroup_init A.a_NoGroup_init D.d_NoGroup_init
  F_NoNumber_init : Fun K "__init__" "NoNumber.__init__" s_NoNumber_init A.a_NoNumber_init D.d_NoNumber_init
  F_is_integer : Fun K "is_integer" "is_integer" s_is_integer A.a_is_integer D.d_is_integer
  g_is_integer : mg "is_integer" = some (.ref A.a_is_integer)
  F_is_pair : Fun K "is_pair" "is_pair" s_is_pair A.a_is_pair D.d_is_pair
  g_is_pair : mg "is_pair" = some (.ref A.a_is_pair)
  F_Book_init : Fun K "__init__" "Book.__init__" s_Book_init A.a_Book_init D.d_Book_init
  F_Book_eq : Fun K "__eq__" "Book.__eq__" s_Book_eq A.a_Book_eq D.d_Book_eq
  F_is_windows : Fun K "is_windows" "is_windows" s_is_windows A.a_is_windows D.d_is_windows
  g_is_windows : mg "is_windows" = some (.ref A.a_is_windows)
  F_is_window : Fun K "is_window" "is_window" s_is_window A.a_is_window D.d_is_window
  g_is_window : mg "is_window" = some (.ref A.a_is_window)
  F_unbounded : Fun K "unbounded" "unbounded" s_unbounded A.a_unbounded D.d_unbounded
  g_unbounded : mg "unbounded" = some (.ref A.a_unbounded)
  F_is_work : Fun K "is_work" "is_work" s_is_work A.a_is_work D.d_is_work
  g_is_work : mg "is_work" = some (.ref A.a_is_work)
  F_is_row : Fun K "is_row" "is_row" s_is_row A.a_is_row D.d_is_row
  g_is_row : mg "is_row" = some (.ref A.a_is_row)
  F_is_group : Fun K "is_group" "is_group" s_is_group A.a_is_group D.d_is_group
  g_is_group : mg "is_group" = some (.ref A.a_is_group)
  F_part : Fun K "part" "part" s_part A.a_part D.d_part
  g_part : mg "part" = some (.ref A.a_part)
  F_joined : Fun K "joined" "joined" s_joined A.a_joined D.d_joined
  g_joined : mg "joined" = some (.ref A.a_joined)
  F_shifted : Fun K "shifted" "shifted" s_shifted A.a_shifted D.d_shifted
  g_shifted : mg "shifted" = some (.ref A.a_shifted)
  F_l_pool : Fun K "_law_pool" "_law_pool" s_l_pool A.a_l_pool D.d_l_pool
  g_l_pool : mg "_law_pool" = some (.ref A.a_l_pool)
  F_l_draw : Fun K "_law_draw" "_law_draw" s_l_draw A.a_l_draw D.d_l_draw
  g_l_draw : mg "_law_draw" = some (.ref A.a_l_draw)
  F_l_windows : Fun K "_law_windows" "_law_windows" s_l_windows A.a_l_windows D.d_l_windows
  g_l_windows : mg "_law_windows" = some (.ref A.a_l_windows)
  F_l_some : Fun K "_law_some" "_law_some" s_l_some A.a_l_some D.d_l_some
  g_l_some : mg "_law_some" = some (.ref A.a_l_some)
  F_l_main : Fun K "_law_main" "_law_main" s_l_main A.a_l_main D.d_l_main
  g_l_main : mg "_law_main" = some (.ref A.a_l_main)
  F_l_told : Fun K "_law_told" "_law_told" s_l_told A.a_l_told D.d_l_told
  g_l_told : mg "_law_told" = some (.ref A.a_l_told)
  F_l_more : Fun K "_law_more" "_law_more" s_l_more A.a_l_more D.d_l_more
  g_l_more : mg "_law_more" = some (.ref A.a_l_more)
  F_law : Fun K "law" "law" s_law A.a_law D.d_law
  g_law : mg "law" = some (.ref A.a_law)
  g_MiddleError : mg "MiddleError" = some (.ref A.C_MiddleError)
  g_BadBook : mg "BadBook" = some (.ref A.C_BadBook)
  g_NoGroup : mg "NoGroup" = some (.ref A.C_NoGroup)
  g_NoNumber : mg "NoNumber" = some (.ref A.C_NoNumber)
  g_Book : mg "Book" = some (.ref A.C_Book)
  c_MOST_HOUR : ∃ u, mg "MOST_HOUR" = some (.int 1000000 u)
  c_MOST_WORKS : ∃ u, mg "MOST_WORKS" = some (.int 40 u)
  n_abs : mg "abs" = none
  n_all : mg "all" = none
  n_bool : mg "bool" = none
  n_int : mg "int" = none
  n_isinstance : mg "isinstance" = none
  n_len : mg "len" = none
  n_list : mg "list" = none
  n_max : mg "max" = none
  n_min : mg "min" = none
  n_range : mg "range" = none
  n_set : mg "set" = none
  n_sorted : mg "sorted" = none
  n_sum : mg "sum" = none
  n_tuple : mg "tuple" = none
  cl_Book : Cls K A.C_Book
  na_windows : NoAttr K A.C_Book "windows"
  mk_Book : Mk K A.C_Book A.a_Book_init
  e_Book : PySem.W.findIn K (.ref A.C_Book) "__eq__" = some (some (.ref A.a_Book_eq))
  kf_Book : PySem.W.isFn K (.ref A.a_Book_eq) = true
  ne_Book : PySem.W.findIn K (.ref A.C_Book) "__ne__" = some (some (.builtin "object.__ne__"))
  ob_Book : PySem.W.mroIn K A.C_Book (.type "object") = some true
  ty_Book : PySem.W.findIn K (.ref A.C_Book) "__class__" = some (some (.builtin "object.__class__")) ∧ PySem.W.specialIn K (.builtin "object.__class__") "__get__" = some (some (.builtin "getset_descriptor.__get__")) ∧ PySem.W.takesIn K (.builtin "object.__class__") = some true
  e_BadBook : OexC K A.C_BadBook
  i_BadBook : PySem.W.findIn K (.ref A.C_BadBook) "__init__" = some (some (.ref A.a_BadBook_init))
  t_BadBook : PySem.W.typeIn K (.ref A.a_BadBook_init) = some (.type "function")
  m_BadBook : PySem.W.exmOne K (.ref A.C_BadBook) (.ref A.C_BadBook) = some true
  e_NoGroup : OexC K A.C_NoGroup
  i_NoGroup : PySem.W.findIn K (.ref A.C_NoGroup) "__init__" = some (some (.ref A.a_NoGroup_init))
  t_NoGroup : PySem.W.typeIn K (.ref A.a_NoGroup_init) = some (.type "function")
  m_NoGroup : PySem.W.exmOne K (.ref A.C_NoGroup) (.ref A.C_NoGroup) = some true
  e_NoNumber : OexC K A.C_NoNumber
  i_NoNumber : PySem.W.findIn K (.ref A.C_NoNumber) "__init__" = some (some (.ref A.a_NoNumber_init))
  t_NoNumber : PySem.W.typeIn K (.ref A.a_NoNumber_init) = some (.type "function")
  m_NoNumber : PySem.W.exmOne K (.ref A.C_NoNumber) (.ref A.C_NoNumber) = some true
  x_NoGroup : ExcC K A.C_NoGroup
  mm_NoGroup : PySem.W.exmOne K (.ref A.C_NoGroup) (.ref A.C_MiddleError) = some true
  k_NoGroup_NoGroup : PySem.W.kitOne K (.ref A.C_NoGroup) (.ref A.C_NoGroup) = some true
  k_NoGroup_NoNumber : PySem.W.kitOne K (.ref A.C_NoGroup) (.ref A.C_NoNumber) = some false
  x_NoNumber : ExcC K A.C_NoNumber
  mm_NoNumber : PySem.W.exmOne K (.ref A.C_NoNumber) (.ref A.C_MiddleError) = some true
  k_NoNumber_NoGroup : PySem.W.kitOne K (.ref A.C_NoNumber) (.ref A.C_NoGroup) = some false
  k_NoNumber_NoNumber : PySem.W.kitOne K (.ref A.C_NoNumber) (.ref A.C_NoNumber) = some true
section
variable {P : Program} {w : World} {K : PySem.W.Frag} {mg : Str → Option Value} {base : Heap} {A : Ad} {D : Fd}
theorem k_BadBook_init (T : Txt K mg A D) : PySem.W.keepIn K (.ref A.a_BadBook_init) = true := T.F_BadBook_init.kp
theorem b_BadBook_init (T : Txt K mg A D) : Binds K D.d_BadBook_init p_BadBook_init [] := T.F_BadBook_init.binds (ps := p_BadBook_init) fun _ _ _ _ _ _ us hl => match us, hl with | [_], _ => rfl
theorem k_NoGroup_init (T : Txt K mg A D) : PySem.W.keepIn K (.ref A.a_NoGroup_init) = true := T.F_NoGroup_init.kp
theorem b_NoGroup_init (T : Txt K mg A D) : Binds K D.d_NoGroup_init p_NoGroup_init [] := T.F_NoGroup_init.binds (ps := p_NoGroup_init) fun _ _ _ _ _ _ us hl => match us, hl with | [_], _ => rfl
theorem k_NoNumber_init (T : Txt K mg A D) : PySem.W.keepIn K (.ref A.a_NoNumber_init) = true := T.F_NoNumber_init.kp
theorem b_NoNumber_init (T : Txt K mg A D) : Binds K D.d_NoNumber_init p_NoNumber_init [] := T.F_NoNumber_init.binds (ps := p_NoNumber_init) fun _ _ _ _ _ _ us hl => match us, hl with | [_], _ => rfl
theorem k_is_integer (T : Txt K mg A D) : PySem.W.keepIn K (.ref A.a_is_integer) = true := T.F_is_integer.kp
theorem b_is_integer (T : Txt K mg A D) : Binds K D.d_is_integer p_is_integer [] := T.F_is_integer.binds (ps := p_is_integer) fun _ _ _ _ _ _ us hl => match us, hl with | [_], _ => rfl
theorem k_is_pair (T : Txt K mg A D) : PySem.W.keepIn K (.ref A.a_is_pair) = true := T.F_is_pair.kp
theorem b_is_pair (T : Txt K mg A D) : Binds K D.d_is_pair p_is_pair [] := T.F_is_pair.binds (ps := p_is_pair) fun _ _ _ _ _ _ us hl => match us, hl with | [_], _ => rfl
theorem k_Book_init (T : Txt K mg A D) : PySem.W.keepIn K (.ref A.a_Book_init) = true := T.F_Book_init.kp
theorem b_Book_init (T : Txt K mg A D) : Binds K D.d_Book_init p_Book_init [] := T.F_Book_init.binds (ps := p_Book_init) fun _ _ _ _ _ _ us hl => match us, hl with | [_, _], _ => rfl
theorem k_Book_eq (T : Txt K mg A D) : PySem.W.keepIn K (.ref A.a_Book_eq) = true := T.F_Book_eq.kp
theorem b_Book_eq (T : Txt K mg A D) : Binds K D.d_Book_eq p_Book_eq [] := T.F_Book_eq.binds (ps := p_Book_eq) fun _ _ _ _ _ _ us hl => match us, hl with | [_, _], _ => rfl
theorem k_is_windows (T : Txt K mg A D) : PySem.W.keepIn K (.ref A.a_is_windows) = true := T.F_is_windows.kp
theorem b_is_windows (T : Txt K mg A D) : Binds K D.d_is_windows p_is_windows [] := T.F_is_windows.binds (ps := p_is_windows) fun _ _ _ _ _ _ us hl => match us, hl with | [_], _ => rfl
theorem k_is_window (T : Txt K mg A D) : PySem.W.keepIn K (.ref A.a_is_window) = true := T.F_is_window.kp
theorem b_is_window (T : Txt K mg A D) : Binds K D.d_is_window p_is_window [] := T.F_is_window.binds (ps := p_is_window) fun _ _ _ _ _ _ us hl => match us, hl with | [_], _ => rfl
theorem k_unbounded (T : Txt K mg A D) : PySem.W.keepIn K (.ref A.a_unbounded) = true := T.F_unbounded.kp
theorem b_unbounded (T : Txt K mg A D) : Binds K D.d_unbounded p_unbounded [] := T.F_unbounded.binds (ps := p_unbounded) fun _ _ _ _ _ _ us hl => match us, hl with | [_], _ => rfl
theorem k_is_work (T : Txt K mg A D) : PySem.W.keepIn K (.ref A.a_is_work) = true := T.F_is_work.kp
theorem b_is_work (T : Txt K mg A D) : Binds K D.d_is_work p_is_work [] := T.F_is_work.binds (ps := p_is_work) fun _ _ _ _ _ _ us hl => match us, hl with | [_, _], _ => rfl
theorem k_is_row (T : Txt K mg A D) : PySem.W.keepIn K (.ref A.a_is_row) = true := T.F_is_row.kp
theorem b_is_row (T : Txt K mg A D) : Binds K D.d_is_row p_is_row [] := T.F_is_row.binds (ps := p_is_row) fun _ _ _ _ _ _ us hl => match us, hl with | [_, _], _ => rfl
theorem k_is_group (T : Txt K mg A D) : PySem.W.keepIn K (.ref A.a_is_group) = true := T.F_is_group.kp
theorem b_is_group (T : Txt K mg A D) : Binds K D.d_is_group p_is_group [] := T.F_is_group.binds (ps := p_is_group) fun _ _ _ _ _ _ us hl => match us, hl with | [_, _], _ => rfl
theorem k_part (T : Txt K mg A D) : PySem.W.keepIn K (.ref A.a_part) = true := T.F_part.kp
theorem b_part (T : Txt K mg A D) : Binds K D.d_part p_part [] := T.F_part.binds (ps := p_part) fun _ _ _ _ _ _ us hl => match us, hl with | [_, _], _ => rfl
theorem k_joined (T : Txt K mg A D) : PySem.W.keepIn K (.ref A.a_joined) = true := T.F_joined.kp
theorem b_joined (T : Txt K mg A D) : Binds K D.d_joined p_joined [] := T.F_joined.binds (ps := p_joined) fun _ _ _ _ _ _ us hl => match us, hl with | [_, _], _ => rfl
theorem k_shifted (T : Txt K mg A D) : PySem.W.keepIn K (.ref A.a_shifted) = true := T.F_shifted.kp
theorem b_shifted (T : Txt K mg A D) : Binds K D.d_shifted p_shifted [] := T.F_shifted.binds (ps := p_shifted) fun _ _ _ _ _ _ us hl => match us, hl with | [_, _], _ => rfl
theorem k_l_pool (T : Txt K mg A D) : PySem.W.keepIn K (.ref A.a_l_pool) = true := T.F_l_pool.kp
theorem b_l_pool (T : Txt K mg A D) : Binds K D.d_l_pool p_l_pool [] := T.F_l_pool.binds (ps := p_l_pool) fun _ _ _ _ _ _ us hl => match us, hl with | [_], _ => rfl
theorem k_l_draw (T : Txt K mg A D) : PySem.W.keepIn K (.ref A.a_l_draw) = true := T.F_l_draw.kp
theorem b_l_draw (T : Txt K mg A D) : Binds K D.d_l_draw p_l_draw [] := T.F_l_draw.binds (ps := p_l_draw) fun _ _ _ _ _ _ us hl => match us, hl with | [_, _], _ => rfl
theorem k_l_windows (T : Txt K mg A D) : PySem.W.keepIn K (.ref A.a_l_windows) = true := T.F_l_windows.kp
theorem b_l_windows (T : Txt K mg A D) : Binds K D.d_l_windows p_l_windows [] := T.F_l_windows.binds (ps := p_l_windows) fun _ _ _ _ _ _ us hl => match us, hl with | [_, _, _], _ => rfl
theorem k_l_some (T : Txt K mg A D) : PySem.W.keepIn K (.ref A.a_l_some) = true := T.F_l_some.kp
theorem b_l_some (T : Txt K mg A D) : Binds K D.d_l_some p_l_some [] := T.F_l_some.binds (ps := p_l_some) fun _ _ _ _ _ _ us hl => match us, hl with | [_, _], _ => rfl
theorem k_l_main (T : Txt K mg A D) : PySem.W.keepIn K (.ref A.a_l_main) = true := T.F_l_main.kp
theorem b_l_main (T : Txt K mg A D) : Binds K D.d_l_main p_l_main [] := T.F_l_main.binds (ps := p_l_main) fun _ _ _ _ _ _ us hl => match us, hl with | [_], _ => rfl
theorem k_l_told (T : Txt K mg A D) : PySem.W.keepIn K (.ref A.a_l_told) = true := T.F_l_told.kp
theorem b_l_told (T : Txt K mg A D) : Binds K D.d_l_told p_l_told [] := T.F_l_told.binds (ps := p_l_told) fun _ _ _ _ _ _ us hl => match us, hl with | [_, _, _], _ => rfl
theorem k_l_more (T : Txt K mg A D) : PySem.W.keepIn K (.ref A.a_l_more) = true := T.F_l_more.kp
theorem b_l_more (T : Txt K mg A D) : Binds K D.d_l_more p_l_more [] := T.F_l_more.binds (ps := p_l_more) fun _ _ _ _ _ _ us hl => match us, hl with | [_], _ => rfl
theorem k_law (T : Txt K mg A D) : PySem.W.keepIn K (.ref A.a_law) = true := T.F_law.kp
theorem b_law (T : Txt K mg A D) : Binds K D.d_law p_law [] := T.F_law.binds (ps := p_law) fun _ _ _ _ _ _ us hl => match us, hl with | [_], _ => rfl
end
section
variable {P : Program} {w : World} {K : PySem.W.Frag} {mg : Str → Option Value} {base : Heap} {A : Ad} {D : Fd}
theorem ok_BadBook_init (T : Txt K mg A D) : FnOk P w K mg base CX0 1 A.a_BadBook_init D.d_BadBook_init p_BadBook_init (sp_BadBook_init K A) := by
  refine T.F_BadBook_init.ok sc_BadBook_init (fun vs H Q E h => ?_) (fun cdv Ar outer s H vs Q E hr h => ?_)
  · (obtain ⟨a, rfl, _⟩ := h; rfl)
  · have hu := hu_of hr
    refine ⟨_, (pss_one ps_pass), ?_⟩
    obtain ⟨a, rfl, k⟩ := h
    exact k
theorem ok_NoGroup_init (T : Txt K mg A D) : FnOk P w K mg base CX0 1 A.a_NoGroup_init D.d_NoGroup_init p_NoGroup_init (sp_NoGroup_init K A) := by
  refine T.F_NoGroup_init.ok sc_NoGroup_init (fun vs H Q E h => ?_) (fun cdv Ar outer s H vs Q E hr h => ?_)
  · (obtain ⟨a, rfl, _⟩ := h; rfl)
  · have hu := hu_of hr
    refine ⟨_, (pss_one ps_pass), ?_⟩
    obtain ⟨a, rfl, k⟩ := h
    exact k
theorem ok_NoNumber_init (T : Txt K mg A D) : FnOk P w K mg base CX0 1 A.a_NoNumber_init D.d_NoNumber_init p_NoNumber_init (sp_NoNumber_init K A) := by
  refine T.F_NoNumber_init.ok sc_NoNumber_init (fun vs H Q E h => ?_) (fun cdv Ar outer s H vs Q E hr h => ?_)
  · (obtain ⟨a, rfl, _⟩ := h; rfl)
  · have hu := hu_of hr
    refine ⟨_, (pss_one ps_pass), ?_⟩
    obtain ⟨a, rfl, k⟩ := h
    exact k
theorem ok_is_integer (T : Txt K mg A D) : FnOk P w K mg base CX0 1 A.a_is_integer D.d_is_integer p_is_integer (sp_is_integer K A) := by
  refine T.F_is_integer.ok sc_is_integer (fun vs H Q E h => ?_) (fun cdv Ar outer s H vs Q E hr h => ?_)
  · exact h.len
  · have hu := hu_of hr
    refine ⟨_, (pss_one (ps_ret (pe_and (pe_callB call_isi (by rfl) T.n_isinstance (by decide +kernel) (pa_cons (pv 0) (pa_cons (pe_bltn (v := .ty "int") (by rfl) T.n_int (by decide +kernel) rfl) pa_nil))) (pe_one (pe_not (pe_callB call_isi (by rfl) T.n_isinstance (by decide +kernel) (pa_cons (pv 0) (pa_cons (pe_bltn (v := .ty "bool") (by rfl) T.n_bool (by decide +kernel) rfl) pa_nil)))))))), ?_⟩
    obtain ⟨x, rfl, d, hR, k⟩ := h.ex
    obtain ⟨t, hty, hi, hb, _⟩ := hR.ty
    refine ⟨_, rfl, _, _, _, _, _, rfl, ClsV.ty _, hty, hi, _, rfl, ?_⟩
    have fin := k H (Ex.refl H)
    rw [← isZ_eq] at fin
    cases e : isI d with
    | true =>
      rw [e] at fin
      exact iteT ⟨_, rfl, _, _, _, _, _, rfl, ClsV.ty _, hty, hb, _, rfl, fin⟩
    | false =>
      rw [e] at fin
      exact iteF fin
theorem ok_is_pair (T : Txt K mg A D) : FnOk P w K mg base CX0 1 A.a_is_pair D.d_is_pair p_is_pair (sp_is_pair K A) := by
  refine T.F_is_pair.ok sc_is_pair (fun vs H Q E h => ?_) (fun cdv Ar outer s H vs Q E hr h => ?_)
  · exact h.len
  · have hu := hu_of hr
    refine ⟨_, (pss_one (ps_ret (pe_and (pe_callB call_isi (by rfl) T.n_isinstance (by decide +kernel) (pa_cons (pv 0) (pa_cons (pe_bltn (v := .ty "tuple") (by rfl) T.n_tuple (by decide +kernel) rfl) pa_nil))) (pe_one (pe_cmpR op_eq (pe_callB call_len_seq (by rfl) T.n_len (by decide +kernel) (pa_cons (pv 0) pa_nil)) pe_int (nomark _)))))), ?_⟩
    obtain ⟨x, rfl, d, hR, k⟩ := h.ex
    obtain ⟨t, hty, _, _, hT⟩ := hR.ty
    have fin := k H (Ex.refl H)
    refine ⟨_, rfl, _, _, _, _, _, rfl, ClsV.ty _, hty, hT, _, rfl, ?_⟩
    cases hR with
    | @tup a xs ds hs r =>
      refine iteT ⟨_, rfl, _, _, rfl, .inr hs, rfl, ?_⟩
      have e : (decide (V.int (xs.length : Int) = V.int 2)) = decide (ds.length = 2) := by
        rw [r.length]
        apply decide_eq_decide.mpr
        constructor
        · intro z
          injection z with z
          omega
        · intro z
          rw [z] <;> rfl
      show Q (.bl (decide (V.int (xs.length : Int) = V.int 2))) H
      rw [e]
      exact fin
    | _ => exact iteF fin
theorem ok_is_window (T : Txt K mg A D) : FnOk P w K mg base CX0 2 A.a_is_window D.d_is_window p_is_window (sp_is_window K A) := by
  have G_is_pair := ok_is_pair (P := P) (w := w) (base := base) T
  have G_is_integer := ok_is_integer (P := P) (w := w) (base := base) T
  obtain ⟨u_MOST_HOUR, c_MOST_HOUR⟩ := T.c_MOST_HOUR
  refine T.F_is_window.ok sc_is_window (fun vs H Q E h => ?_) (fun cdv Ar outer s H vs Q E hr h => ?_)
  · exact h.len
  · have hu := hu_of hr
    refine ⟨_, (pss_cons (ps_if (pt_not (pt_val (pe_call G_is_pair (hr.mono (by decide)) rfl T.g_is_pair (k_is_pair T) (b_is_pair T) .nil pass0 (pa_cons (pv 0) pa_nil)))) (pss_one (ps_ret pe_bl)) pss_nil) (pss_cons (ps_asg (pv 0) (pg_tup rfl (pgs_cons (pg_name (i := 1) sc_is_window.nd rfl (Or.inl rfl)) (pgs_cons (pg_name (i := 2) sc_is_window.nd rfl (Or.inl rfl)) pgs_nil)))) (pss_one (ps_ret (pe_and (pe_call G_is_integer (hr.mono (by decide)) rfl T.g_is_integer (k_is_integer T) (b_is_integer T) .nil pass0 (pa_cons (pv 1) pa_nil)) (pe_and (pe_call G_is_integer (hr.mono (by decide)) rfl T.g_is_integer (k_is_integer T) (b_is_integer T) .nil pass0 (pa_cons (pv 2) pa_nil)) (pe_one (pe_chain3 op_le op_le op_le pe_int (pv 1) (pv 2) (pe_glob (v := .int 1000000) rfl c_MOST_HOUR ⟨_, rfl⟩))))))))), ?_⟩
    obtain ⟨x, rfl, d, hR, k⟩ := h.ex
    -- not is_pair(thing)
    refine ⟨_, rfl, ⟨_, rfl, d, hR, fun H1 e1 => ⟨_, rfl, ?_⟩⟩⟩
    cases hp : pairD d with
    | false =>
      have e : winD d = false := by
        cases d with
        | tup ds =>
          cases ds with
          | nil => rfl
          | cons u r =>
            cases r with
            | nil => cases u <;> rfl
            | cons v r2 =>
              cases r2 with
              | nil => simp [pairD] at hp
              | cons z r3 => cases u <;> cases v <;> rfl
        | _ => rfl
      rw [e] at k
      exact iteT (k H1 e1)
    | true =>
      refine iteF ?_
      cases hR with
      | @tup a xs ds hs r =>
        have hl : ds.length = 2 := by simpa [pairD] using hp
        cases r with
        | nil => cases hl
        | @cons u us d1 ds1 h1 r1 =>
          cases r1 with
          | nil => cases hl
          | @cons v vs d2 ds2 h2 r2 =>
            cases r2 with
            | cons _ _ => simp at hl
            | nil =>
              refine ⟨_, rfl, a, _, rfl, ex_t e1 hs, rfl, _, _, rfl, _, _, rfl, rfl, ?_⟩
              -- is_integer(first) and is_integer(last) and 0 <= first <= last <= MOST_HOUR
              refine ⟨_, rfl, ⟨_, rfl, d1, h1.mono e1, fun H2 e2 => ⟨_, rfl, ?_⟩⟩⟩
              have e12 := e1.trans e2
              cases h1 with
              | int f =>
                refine iteT ⟨_, rfl, ⟨_, rfl, d2, h2.mono e12, fun H3 e3 => ⟨_, rfl, ?_⟩⟩⟩
                have e13 := e12.trans e3
                cases h2 with
                | int l =>
                  refine iteT ⟨_, rfl, _, _, rfl, rfl, _, rfl, ?_⟩
                  have fin := k H3 e13
                  by_cases c1 : 0 ≤ f
                  · rw [decide_eq_true c1]
                    refine iteT ⟨_, rfl, _, _, rfl, rfl, _, rfl, ?_⟩
                    by_cases c2 : f ≤ l
                    · rw [decide_eq_true c2]
                      refine iteT ⟨_, _, rfl, rfl, ?_⟩
                      have e : winD (.tup [.int f, .int l]) = decide (l ≤ 1000000) := by simp [winD, c1, c2]
                      rw [e] at fin
                      exact fin
                    · rw [decide_eq_false c2]
                      have e : winD (.tup [.int f, .int l]) = false := by simp [winD, c2]
                      rw [e] at fin
                      exact iteF fin
                  · rw [decide_eq_false c1]
                    have e : winD (.tup [.int f, .int l]) = false := by simp [winD, c1]
                    rw [e] at fin
                    exact iteF fin
                | _ => exact iteF (k H3 e13)
              | _ => exact iteF (k H2 e12)
      | _ => cases hp
theorem ok_is_windows (T : Txt K mg A D) : FnOk P w K mg base CX0 3 A.a_is_windows D.d_is_windows p_is_windows (sp_is_windows K A) := by
  have G_is_window := ok_is_window (P := P) (w := w) (base := base) T
  obtain ⟨u_MOST_WORKS, c_MOST_WORKS⟩ := T.c_MOST_WORKS
  refine T.F_is_windows.ok sc_is_windows (fun vs H Q E h => ?_) (fun cdv Ar outer s H vs Q E hr h => ?_)
  · exact h.len
  · have hu := hu_of hr
    refine ⟨_, (pss_cons (ps_if (PW.pt (pw_or (pt_not (pt_val (pe_callB call_isi (by rfl) T.n_isinstance (by decide +kernel) (pa_cons (pv 0) (pa_cons (pe_bltn (v := .ty "tuple") (by rfl) T.n_tuple (by decide +kernel) rfl) pa_nil))))) (pw_or1 (pt_not (pt_chain op_le op_le pe_int (pe_callB call_len_seq (by rfl) T.n_len (by decide +kernel) (pa_cons (pv 0) pa_nil)) (pe_glob (v := .int 40) rfl c_MOST_WORKS ⟨_, rfl⟩)))))) (pss_one (ps_ret pe_bl)) pss_nil) (pss_one (ps_ret (pe_callB (cr_all rfl) (by rfl) T.n_all (by decide +kernel) (pa_cons (pe_lc (own := [("window", 1)]) (g := (gName 1)) (tt := tYes) rfl sc_is_windows.nd (pi_tup (pv 0)) (blkOk_by (own := [("window", 1)]) (N := n_is_windows) (sc := defScope s_is_windows) (by decide +kernel)) (fun _ _ _ _ _ => (pg_name (i := 1) sc_is_windows.nd rfl (Or.inl rfl))) (fun _ _ _ _ _ => pts_nil) (fun _ _ _ _ _ => (pe_call G_is_window (hr.mono (by decide)) rfl T.g_is_window (k_is_window T) (b_is_window T) .nil pass0 (pa_cons (pv 1) pa_nil)))) pa_nil))))), ?_⟩
    obtain ⟨x, rfl, d, hR, k⟩ := h.ex
    obtain ⟨t, hty, _, _, hT⟩ := hR.ty
    refine ⟨_, rfl, _, _, _, _, _, rfl, ClsV.ty _, hty, hT, _, rfl, ?_⟩
    cases hR with
    | @tup a xs ds hs r =>
      refine iteF ?_
      -- 1 <= len(thing) <= MOST_WORKS
      refine ⟨_, rfl, _, _, rfl, .inr hs, _, _, rfl, rfl, _, rfl, ?_⟩
      have hl := r.length
      by_cases c1 : (1 : Int) ≤ (xs.length : Int)
      · rw [decide_eq_true c1]
        refine iteT ⟨_, _, rfl, rfl, _, rfl, ?_⟩
        by_cases c2 : (xs.length : Int) ≤ 40
        · rw [decide_eq_true c2]
          refine iteF ?_
          -- all([is_window(window) for window in thing])
          refine ⟨_, rfl, a, rfl, ⟨_, hs⟩, fun D hD => lc_tup (K := K) (a := a) (xs := xs) (fun i H' => H' D = some (.lst ((ds.take i).map fun u => V.bl (winD u))) ∧ Ex H H') ⟨upd_same, Ex.new hD⟩ (fun i H' _ p => ex_t p.2 hs) ?_ ?_⟩
          · rintro i y H' hi ⟨p1, p2⟩
            obtain ⟨u, hu, hy⟩ := r.get hi
            have hil := (List.getElem?_eq_some_iff.mp hi).1
            refine ⟨rfl, _, rfl, ⟨_, rfl, u, hy.mono p2, fun H2 e2 => ⟨_, e2 _ _ p1, small1000 (by rw [List.length_map, List.length_take]; omega), ?_, (p2.trans e2).mut hD⟩⟩⟩
            have e : ds.take (i + 1) = ds.take i ++ [u] := by
              have hi2 := (List.getElem?_eq_some_iff.mp hu).1
              have hu2 := (List.getElem?_eq_some_iff.mp hu).2
              rw [List.take_succ_eq_append_getElem hi2, hu2]
            rw [upd_same, e, List.map_append] <;> rfl
          · rintro H' ⟨p1, p2⟩
            have fin := k H' p2
            have e : winsD (.tup ds) = ((ds.map winD).all id) := by
              simp only [winsD, List.all_map]
              have a1 : 1 ≤ ds.length := by omega
              have a2 : ds.length ≤ 40 := by omega
              simp [a1, a2]
            rw [e] at fin
            refine ⟨D, ds.map winD, rfl, SqL.of ?_, fin⟩
            rw [p1, hl, List.take_length, List.map_map] <;> rfl
        · rw [decide_eq_false c2]
          have e : winsD (.tup ds) = false := by
            have a2 : ¬ ds.length ≤ 40 := by omega
            simp [winsD, a2]
          rw [e] at k
          exact iteT (k _ (Ex.refl _))
      · rw [decide_eq_false c1]
        have e : winsD (.tup ds) = false := by
          have a1 : ¬ 1 ≤ ds.length := by omega
          simp only [winsD, decide_eq_false a1]
          rfl
        rw [e] at k
        exact iteF ⟨_, rfl, iteT (k _ (Ex.refl _))⟩
    | _ => exact iteT (k _ (Ex.refl _))
theorem ok_Book_init (T : Txt K mg A D) : FnOk P w K mg base (L2.CX P w) 4 A.a_Book_init D.d_Book_init p_Book_init (sp_Book_init K A) := by
  have G_is_windows := ok_is_windows (P := P) (w := w) (base := base) T
  have G_BadBook_init := ok_BadBook_init (P := P) (w := w) (base := base) T
  refine T.F_Book_init.okX sc_Book_init (fun vs H Q E h => ?_) (fun cdv Ar outer s H vs Q E hr h => ?_)
  · exact h.len
  · have hu := hu_of hr
    refine ⟨_, (pss_cons (ps_if (pt_not (pt_val (pe_call G_is_windows (hr.mono (by decide)) rfl T.g_is_windows (k_is_windows T) (b_is_windows T) .nil pass0 (pa_cons (pv 1) pa_nil)))) (pss_one (ps_raise rfl (takes_of rfl rfl rfl rfl) (pmk_oex0 T.e_BadBook T.i_BadBook T.t_BadBook G_BadBook_init (hr.mono (by decide)) (b_BadBook_init T) pass0 rfl T.g_BadBook))) pss_nil) (pss_one (ps_fld (pv 0) (pv 1) rfl))), ?_⟩
    obtain ⟨x, y, rfl, p, dx, d, rfl, hp, hR, kQ, kE⟩ := h.ex
    refine ⟨_, rfl, ⟨_, rfl, d, hR, fun H1 e1 => ⟨_, rfl, ?_⟩⟩⟩
    cases hd : winsD d with
    | false => exact iteT (kE hd H1 e1)
    | true => exact iteF ⟨_, rfl, _, rfl, p, A.C_Book, dx, _, rfl, e1 _ _ hp, T.cl_Book, T.na_windows, (by show 0 < 1000; decide), kQ hd H1 e1⟩
theorem ok_Book_eq (T : Txt K mg A D) : FnOk P w K mg base CX0 1 A.a_Book_eq D.d_Book_eq p_Book_eq (sp_Book_eq K A) := by
  refine T.F_Book_eq.ok sc_Book_eq (fun vs H Q E h => ?_) (fun cdv Ar outer s H vs Q E hr h => ?_)
  · exact h.len
  · have hu := hu_of hr
    refine ⟨_, (pss_one (ps_ret (pe_and (pe_callB call_isi (by rfl) T.n_isinstance (by decide +kernel) (pa_cons (pv 1) (pa_cons (pe_glob (v := .ref A.C_Book) rfl T.g_Book rfl) pa_nil))) (pe_one (pe_cmpR (op_eqD hr.units) (pe_fld (pv 0) rfl) (pe_fld (pv 1) rfl) (nomark _)))))), ?_⟩
    obtain ⟨x, y, rfl, a, wa, b, wb, us, ws, rfl, rfl, ha, hWa, hb, hWb, k⟩ := h.ex
    obtain ⟨da, ha0⟩ := id ha
    obtain ⟨db, hb0⟩ := id hb
    refine ⟨_, rfl, _, _, _, _, true, rfl, ClsV.own _, .base (.ins hb0 T.cl_Book T.ty_Book.1 T.ty_Book.2.1 T.ty_Book.2.2 T.ob_Book), (by simp [PySem.W.kitOne]), ?_⟩
    refine ⟨_, rfl, ?_⟩
    refine iteT ⟨_, rfl, a, A.C_Book, da, _, _, rfl, ha0, T.cl_Book, T.na_windows, by simp [List.lookup], _, rfl, b, A.C_Book, db, _, _, rfl, hb0, T.cl_Book, T.na_windows, by simp [List.lookup], _, _, dp_wins hWa, dp_wins hWb, shaped_wins _, shaped_wins _, ?_⟩
    rw [eqv_wins]
    exact k
theorem ok_unbounded (T : Txt K mg A D) : FnOk P w K mg base CX0 6 A.a_unbounded D.d_unbounded p_unbounded (sp_unbounded K A) := by
  have G_Book_init := ok_Book_init (P := P) (w := w) (base := base) T
  refine T.F_unbounded.ok sc_unbounded (fun vs H Q E h => ?_) (fun cdv Ar outer s H vs Q E hr h => ?_)
  · exact h.len
  · have hu := hu_of hr
    refine ⟨_, (pss_cons (ps_set (i := 1) sc_unbounded.nd rfl (Or.inl rfl) (pe_make T.mk_Book G_Book_init (hr.mono (by decide)) (by rfl) T.g_Book (b_Book_init T) .nil (passes_call takes0 (fun _ _ _ _ h => h)) (pa_cons (pe_tup (pa_cons (pe_tup (pa_cons pe_int (pa_cons pe_int pa_nil))) pa_nil)) pa_nil))) (pss_cons (ps_fld (pv 1) (pe_callTy call_tuple_of (by rfl) T.n_tuple (by decide +kernel) (pa_cons (pv 0) pa_nil)) rfl) (pss_one (ps_ret (pv 1))))), ?_⟩
    obtain ⟨x, rfl, l, as, ws, rfl, hl, hp, hle, k⟩ := h.ex
    refine ⟨(by show 2 ≤ sizeLine; decide), fun t1 n1 => ⟨(by show 1 ≤ sizeLine; decide), fun t2 n2 => fun b dx nb ndx nbx => ?_⟩⟩
    have xa : Ex H (L2.upd (L2.upd H t1 (.tup [.int 0, .int 0])) t2 (.tup [.ref t1])) := (Ex.new n1).trans (Ex.new n2)
    have h2 : (L2.upd (L2.upd H t1 (.tup [.int 0, .int 0])) t2 (.tup [.ref t1])) t2 = some (.tup [.ref t1]) := upd_same
    have h1 : (L2.upd (L2.upd H t1 (.tup [.int 0, .int 0])) t2 (.tup [.ref t1])) t1 = some (.tup [.int 0, .int 0]) := (Ex.new n2) _ _ upd_same
    generalize L2.upd (L2.upd H t1 (.tup [.int 0, .int 0])) t2 (.tup [.ref t1]) = H2 at xa h2 h1 nb ndx
    have xb : Ex H2 (L2.upd (L2.upd H2 dx (HO.own b)) b (HO.ins A.C_Book dx [])) := (Ex.new ndx).trans (Ex.new (by rw [upd_ne nbx.symm]; exact nb))
    have bH : H b = none := free_ex xa nb
    refine ⟨_, _, rfl, b, dx, .tup [.tup [.int 0, .int 0]], rfl, upd_same, ?_, fun _ H6 e6 => ⟨rfl, ?_⟩, fun hf => absurd hf (by decide)⟩
    · exact .tup (SqT.of (xb _ _ h2)) (.cons (.tup (SqT.of (xb _ _ h1)) (.cons (.int _) (.cons (.int _) .nil))) .nil)
    have e26 : Ex H2 (L2.upd H6 b (.ins A.C_Book dx [("windows", .ref t2)])) := Ex.mut (xb.trans e6) nb
    have eH := xa.trans e26
    have hb6 : (L2.upd H6 b (.ins A.C_Book dx [("windows", .ref t2)])) b = some (.ins A.C_Book dx [("windows", .ref t2)]) := upd_same
    show tSeq _ _ _ _ (L2.upd H6 b (.ins A.C_Book dx [("windows", .ref t2)]))
    generalize L2.upd H6 b (.ins A.C_Book dx [("windows", .ref t2)]) = H7 at e26 eH hb6
    have fin : ∀ (w : Addr) (H8 : Hp), Ex H7 H8 → SqT K H8 w (as.map V.ref) → Q (.ref b) (L2.upd H8 b (.ins A.C_Book dx [("windows", .ref w)])) := by
      intro w H8 e8 hw
      have hb8 : H8 b = some (.ins A.C_Book dx [("windows", .ref t2)]) := e8 _ _ hb6
      have sw : ∀ {a : Addr} {xs : List V}, SqT K H8 a xs → SqT K (L2.upd H8 b (.ins A.C_Book dx [("windows", .ref w)])) a xs := by
        intro a xs q
        have ne : ∀ {o : HO}, H8 a = some o → (∀ C d f, o ≠ .ins C d f) → a ≠ b := fun {o} e n z => by
          rw [z, hb8] at e
          exact n _ _ _ (Option.some.inj e).symm
        rcases q with (q | ⟨o, q⟩) | q
        · exact .inl (.inl (by rw [upd_ne (ne q (fun _ _ _ z => by cases z))]; exact q))
        · exact .inl (.inr ⟨o, by rw [upd_ne (ne q (fun _ _ _ z => by cases z))]; exact q⟩)
        · exact .inr q
      have p8 := hp.mono (eH.trans e8)
      refine k b w _ bH (fun a o q => ?_) ⟨dx, upd_same⟩ (WinAt.of (sw hw) ⟨p8.1, fun i a q x y => sw (p8.2 i a q x y)⟩ hle)
      have ne : a ≠ b := fun z => by
        rw [z, bH] at q
        cases q
      rw [upd_ne ne]
      exact e8 _ _ (eH _ _ q)
    rcases hl with hl | hl
    · refine ⟨_, rfl, l, _, rfl, .inl ⟨ex_l eH hl, fun w nw => ?_⟩⟩
      have xw : Ex H7 (L2.upd H7 w (.tup (as.map V.ref))) := Ex.new nw
      exact ⟨_, rfl, b, A.C_Book, dx, _, rfl, xw _ _ hb6, T.cl_Book, T.na_windows, (by show 1 < 1000; decide), _, rfl, fin w _ xw (SqT.of upd_same)⟩
    · refine ⟨_, rfl, l, _, rfl, .inr ⟨ex_t eH hl, ?_⟩⟩
      exact ⟨_, rfl, b, A.C_Book, dx, _, rfl, hb6, T.cl_Book, T.na_windows, (by show 1 < 1000; decide), _, rfl, fin l _ (Ex.refl _) (ex_t eH hl)⟩
theorem ok_is_work (T : Txt K mg A D) : FnOk P w K mg base CX0 2 A.a_is_work D.d_is_work p_is_work (sp_is_work K A) := by
  have G_is_integer := ok_is_integer (P := P) (w := w) (base := base) T
  refine T.F_is_work.ok sc_is_work (fun vs H Q E h => ?_) (fun cdv Ar outer s H vs Q E hr h => ?_)
  · exact h.len
  · have hu := hu_of hr
    refine ⟨_, (pss_one (ps_ret (pe_and (pe_call G_is_integer (hr.mono (by decide)) rfl T.g_is_integer (k_is_integer T) (b_is_integer T) .nil pass0 (pa_cons (pv 1) pa_nil)) (pe_one (pe_chain op_le op_lt pe_int (pv 1) (pe_callB call_len_seq (by rfl) T.n_len (by decide +kernel) (pa_cons (pe_fld (pv 0) rfl) pa_nil))))))), ?_⟩
    obtain ⟨x, y, rfl, b, w0, ws, d, rfl, ⟨dx, hb⟩, hW, hR, k⟩ := h.ex
    refine ⟨_, rfl, ⟨_, rfl, d, hR, fun H1 e1 => ⟨_, rfl, ?_⟩⟩⟩
    cases hR with
    | int z =>
      obtain ⟨as, h1, h2, _⟩ := hW.ex
      have fin := k H1 e1
      refine iteT ⟨_, rfl, _, _, rfl, rfl, _, rfl, ?_⟩
      by_cases c1 : 0 ≤ z
      · rw [decide_eq_true c1]
        refine iteT ⟨_, rfl, b, A.C_Book, dx, _, _, rfl, e1 _ _ hb, T.cl_Book, T.na_windows, by simp [List.lookup], _, _, rfl, .inr (ex_t e1 h1), _, _, rfl, rfl, ?_⟩
        have e : workD ws.length (.int z) = decide (z < ((as.map V.ref).length : Int)) := by
          rw [List.length_map, h2]
          simp [workD, c1]
        rw [e] at fin
        exact fin
      · rw [decide_eq_false c1]
        have e : workD ws.length (.int z) = false := by simp [workD, c1]
        rw [e] at fin
        exact iteF fin
    | _ => exact iteF (k H1 e1)
theorem ok_is_row (T : Txt K mg A D) : FnOk P w K mg base CX0 3 A.a_is_row D.d_is_row p_is_row (sp_is_row K A) := by
  have G_is_work := ok_is_work (P := P) (w := w) (base := base) T
  refine T.F_is_row.ok sc_is_row (fun vs H Q E h => ?_) (fun cdv Ar outer s H vs Q E hr h => ?_)
  · exact h.len
  · have hu := hu_of hr
    refine ⟨_, (pss_cons (ps_if (PW.pt (pw_or (pt_not (pt_val (pe_callB call_isi (by rfl) T.n_isinstance (by decide +kernel) (pa_cons (pv 1) (pa_cons (pe_bltn (v := .ty "tuple") (by rfl) T.n_tuple (by decide +kernel) rfl) pa_nil))))) (pw_or1 (pt_not (pt_val (pe_callB (cr_all rfl) (by rfl) T.n_all (by decide +kernel) (pa_cons (pe_lc (own := [("work", 2)]) (g := (gName 2)) (tt := tYes) rfl sc_is_row.nd (pi_tup (pv 1)) (blkOk_by (own := [("work", 2)]) (N := n_is_row) (sc := defScope s_is_row) (by decide +kernel)) (fun _ _ _ _ _ => (pg_name (i := 2) sc_is_row.nd rfl (Or.inl rfl))) (fun _ _ _ _ _ => pts_nil) (fun _ _ _ _ _ => (pe_call G_is_work (hr.mono (by decide)) rfl T.g_is_work (k_is_work T) (b_is_work T) .nil pass0 (pa_cons (pv 0) (pa_cons (pv 2) pa_nil))))) pa_nil))))))) (pss_one (ps_ret pe_bl)) pss_nil) (pss_one (ps_ret (pe_cmpR op_eq (pe_lenSetT rfl T.n_len rfl T.n_set (pv 1)) (pe_callB call_len_seq (by rfl) T.n_len (by decide +kernel) (pa_cons (pv 1) pa_nil)) (nomark _))))), ?_⟩
    obtain ⟨x, y, rfl, b, w0, ws, d, rfl, hb, hW, hR, hz, k⟩ := h.ex
    obtain ⟨t, hty, _, _, hT⟩ := hR.ty
    refine ⟨_, rfl, _, _, _, _, _, rfl, ClsV.ty _, hty, hT, _, rfl, ?_⟩
    cases hR with
    | @tup a xs ds hs r =>
      refine iteF ?_
      refine ⟨_, rfl, a, rfl, ⟨_, hs⟩, fun D hD => lc_tup (K := K) (a := a) (xs := xs) (fun i H' => H' D = some (.lst ((ds.take i).map fun u => V.bl (workD ws.length u))) ∧ Ex H H') ⟨upd_same, Ex.new hD⟩ (fun i H' _ p => ex_t p.2 hs) ?_ ?_⟩
      · rintro i y H' hi ⟨p1, p2⟩
        obtain ⟨u, hu, hy⟩ := r.get hi
        have hil := (List.getElem?_eq_some_iff.mp hi).1
        have hds := r.length
        have hz' : ds.length ≤ 1000 := hz
        refine ⟨rfl, _, rfl, _, rfl, ⟨_, _, rfl, b, w0, ws, u, rfl, hb.mono p2, hW.mono p2, hy.mono p2, fun H2 e2 => ⟨_, e2 _ _ p1, small1000 (by rw [List.length_map, List.length_take]; omega), ?_, (p2.trans e2).mut hD⟩⟩⟩
        have e : ds.take (i + 1) = ds.take i ++ [u] := by
          have hi2 := (List.getElem?_eq_some_iff.mp hu).1
          have hu2 := (List.getElem?_eq_some_iff.mp hu).2
          rw [List.take_succ_eq_append_getElem hi2, hu2]
        rw [upd_same, e, List.map_append] <;> rfl
      · rintro H' ⟨p1, p2⟩
        have p1' : H' D = some (.lst ((ds.map (workD ws.length)).map V.bl)) := by
          rw [p1, r.length, List.take_length, List.map_map] <;> rfl
        refine ⟨D, ds.map (workD ws.length), rfl, SqL.of p1', _, rfl, ?_⟩
        cases ha : (ds.map (workD ws.length)).all id with
        | false =>
          have e : rowD ws.length (.tup ds) = false := by
            have ha' : ds.all (workD ws.length) = false := by
              rw [← ha, List.all_map] <;> rfl
            simp only [rowD, ha', Bool.false_and]
          rw [e] at k
          exact iteT (k H' p2)
        | true =>
          have ha' : ds.all (workD ws.length) = true := by
            rw [← ha, List.all_map] <;> rfl
          obtain ⟨hx, hm⟩ := works_ints r ha'
          refine iteF ⟨_, rfl, a, ds.map daInt, rfl, by rw [← hx]; exact ex_t p2 hs, by rw [List.length_map]; exact hz, fun m nd mm => ?_⟩
          refine ⟨_, rfl, _, _, rfl, .inr (ex_t p2 hs), rfl, ?_⟩
          have fin := k H' p2
          have e : rowD ws.length (.tup ds) = decide (V.int (m.length : Nat) = V.int (xs.length : Nat)) := by
            simp only [rowD, ha', Bool.true_and]
            rw [r.length]
            have l := len_nodup nd mm
            rw [List.length_map] at l
            apply decide_eq_decide.mpr
            rw [← l]
            constructor
            · intro z
              rw [z]
            · intro z
              injection z with z
              omega
          rw [e] at fin
          exact fin
    | _ => exact iteT (k _ (Ex.refl _))
theorem ok_is_group (T : Txt K mg A D) : FnOk P w K mg base CX0 4 A.a_is_group D.d_is_group p_is_group (sp_is_group K A) := by
  have G_is_row := ok_is_row (P := P) (w := w) (base := base) T
  refine T.F_is_group.ok sc_is_group (fun vs H Q E h => ?_) (fun cdv Ar outer s H vs Q E hr h => ?_)
  · exact h.len
  · have hu := hu_of hr
    refine ⟨_, (pss_one (ps_ret (pe_and (pe_call G_is_row (hr.mono (by decide)) rfl T.g_is_row (k_is_row T) (b_is_row T) .nil pass0 (pa_cons (pv 0) (pa_cons (pv 1) pa_nil))) (pe_one (pe_cmpR (op_eqD hr.units) (pe_callTy call_list_of (by rfl) T.n_list (by decide +kernel) (pa_cons (pv 1) pa_nil)) (pe_callB cr_sortedTI (by rfl) T.n_sorted (by decide +kernel) (pa_cons (pv 1) pa_nil)) (nomark _)))))), ?_⟩
    obtain ⟨x, y, rfl, b, w0, ws, d, rfl, hb, hW, hR, sm, k⟩ := h.ex
    refine ⟨_, rfl, _, rfl, ⟨_, _, rfl, b, w0, ws, d, rfl, hb, hW, hR, sm, fun H1 e1 => ⟨_, rfl, ?_⟩⟩⟩
    cases hr0 : rowD ws.length d with
    | false =>
      have e : groupD ws.length d = false := by
        cases d with
        | tup ds =>
          show (rowD ws.length (.tup ds) && upD ds) = false
          rw [hr0, Bool.false_and]
        | _ => rfl
      have fin := k H1 e1
      rw [e] at fin
      exact iteF fin
    | true =>
      cases d with
      | tup ds =>
        have e : groupD ws.length (.tup ds) = upD ds := by
          show (rowD ws.length (.tup ds) && upD ds) = _
          rw [hr0, Bool.true_and]
        have hw : ds.all (workD ws.length) = true := by
          simp only [rowD, Bool.and_eq_true] at hr0
          exact hr0.1
        cases hR with
        | tup hs q =>
          rw [(works_ints q hw).1] at hs
          refine iteT ⟨_, rfl, _, _, rfl, .inr (ex_t e1 hs), fun l1 n1 => ?_⟩
          have x1 : Ex H1 (L2.upd H1 l1 (.lst ((ds.map daInt).map V.int))) := Ex.new n1
          refine ⟨_, rfl, _, _, rfl, ex_t (e1.trans x1) hs, fun ms p hp hm np => ?_⟩
          have x2 : Ex (L2.upd H1 l1 (.lst ((ds.map daInt).map V.int))) (L2.upd (L2.upd H1 l1 (.lst ((ds.map daInt).map V.int))) p (.lst (ms.map V.int))) := Ex.new np
          refine ⟨dIntL (ds.map daInt), dIntL ms, .lst (SqL.of (x2 _ _ upd_same)) (dpAll_ints _), .lst (SqL.of upd_same) (dpAll_ints _), shaped_intL _, shaped_intL _, ?_⟩
          have fin := k _ (e1.trans (x1.trans x2))
          rw [e] at fin
          rw [eqv_intL, up_iff hp hm]
          exact fin
      | _ => cases hr0
theorem ok_part (T : Txt K mg A D) : FnOk P w K mg base (L2.CX P w) 7 A.a_part D.d_part p_part (sp_part K A) := by
  have G_unbounded := ok_unbounded (P := P) (w := w) (base := base) T
  have G_NoGroup_init := ok_NoGroup_init (P := P) (w := w) (base := base) T
  have G_is_group := ok_is_group (P := P) (w := w) (base := base) T
  refine T.F_part.okX sc_part (fun vs H Q E h => ?_) (fun cdv Ar outer s H vs Q E hr h => ?_)
  · exact h.len
  · have hu := hu_of hr
    refine ⟨_, (pss_cons (ps_if (PW.pt (pw_or (pt_not (pt_val (pe_call G_is_group (hr.mono (by decide)) rfl T.g_is_group (k_is_group T) (b_is_group T) .nil pass0 (pa_cons (pv 0) (pa_cons (pv 1) pa_nil))))) (pw_or1 (pt_cmpR op_eq (pe_callB call_len_seq (by rfl) T.n_len (by decide +kernel) (pa_cons (pv 1) pa_nil)) pe_int (nomark _))))) (pss_one (ps_raise rfl (takes_of rfl rfl rfl rfl) (pmk_oex0 T.e_NoGroup T.i_NoGroup T.t_NoGroup G_NoGroup_init (hr.mono (by decide)) (b_NoGroup_init T) pass0 rfl T.g_NoGroup))) pss_nil) (pss_one (ps_ret (pe_call G_unbounded (hr.mono (by decide)) rfl T.g_unbounded (k_unbounded T) (b_unbounded T) .nil pass0 (pa_cons (pe_lc (own := [("work", 2)]) (g := (gName 2)) (tt := tYes) rfl sc_part.nd (pi_tup (pv 1)) (blkOk_by (own := [("work", 2)]) (N := n_part) (sc := defScope s_part) (by decide +kernel)) (fun _ _ _ _ _ => (pg_name (i := 2) sc_part.nd rfl (Or.inl rfl))) (fun _ _ _ _ _ => pts_nil) (fun _ _ _ _ _ => (pe_ix (ix_tupB (K := K)) (pe_fldB (K := K) rfl (pv 0) rfl) (pv 2) (fun _ _ => rfl)))) pa_nil))))), ?_⟩
    obtain ⟨x, y, rfl, b, w0, ws, d, rfl, hb, hW, hR, sm, kE, k⟩ := h.ex
    refine ⟨_, rfl, _, rfl, ⟨_, _, rfl, b, w0, ws, d, rfl, hb, hW, hR, sm, fun H1 e1 => ⟨_, rfl, ?_⟩⟩⟩
    cases hg : groupD ws.length d with
    | false =>
      have e : partD ws.length d = false := by
        cases d with
        | tup ds =>
          show (groupD ws.length (.tup ds) && !ds.isEmpty) = false
          rw [hg, Bool.false_and]
        | _ => rfl
      exact iteT (kE e H1 e1)
    | true =>
      refine iteF ?_
      cases d with
      | tup ds =>
        cases hR with
        | tup hs q =>
          rename_i a xs
          have hlen := q.length
          refine ⟨_, rfl, a, xs, rfl, .inr (ex_t e1 hs), rfl, _, rfl, ?_⟩
          have ep : partD ws.length (.tup ds) = !ds.isEmpty := by
            show (groupD ws.length (.tup ds) && !ds.isEmpty) = _
            rw [hg, Bool.true_and]
          by_cases h0 : ds = []
          · subst h0
            have hx0 : xs.length = 0 := hlen
            rw [hx0]
            exact iteT (kE ep H1 e1)
          · have hd : partD ws.length (.tup ds) = true := by
              rw [ep]
              cases ds with
              | nil => exact absurd rfl h0
              | cons _ _ => rfl
            have hx0 : xs.length ≠ 0 := fun z => h0 (List.eq_nil_of_length_eq_zero (hlen.symm.trans z))
            refine if_neg_of (decide_eq_false (fun z => hx0 (by have := V.int.inj z; omega))) ?_
            obtain ⟨row, er, hrow⟩ := partD_nats hd
            have er' : ds = row.map dNat := Da.tup.inj er
            subst er'
            have hxs : xs = row.map vNat := rpAll_nats q
            subst hxs
            have sm' : row.length ≤ 1000 := by
              have : (row.map dNat).length ≤ 1000 := sm
              rw [List.length_map] at this
              exact this
            obtain ⟨dx, hb0⟩ := hb.mono e1
            obtain ⟨wle, was, w1, w2, w3⟩ := hW.mono e1
            refine ⟨_, rfl, a, rfl, ⟨_, ex_t e1 hs⟩, fun D hD => lc_tup (K := K) (a := a) (xs := row.map vNat) (fun i H' => ∃ ps : List Addr, H' D = some (.lst (ps.map V.ref)) ∧ PairsAt K H' ps (partW ws (row.take i)) ∧ Ex H1 H') ⟨[], upd_same, PairsAt.nil, Ex.new hD⟩ (fun i H' _ ⟨_, _, _, p⟩ => ex_t (e1.trans p) hs) ?_ ?_⟩
            · rintro i y H' hi ⟨ps, p1, p2, p3⟩
              obtain ⟨j, hj, rfl⟩ := nats_get hi
              have hjw := hrow j (List.mem_of_getElem? hj)
              obtain ⟨u, u1, u2⟩ := WinAt.item w2 w3 hjw
              have hl := p2.1
              unfold partW at hl
              rw [List.length_map, List.length_take] at hl
              refine ⟨rfl, _, rfl, b, A.C_Book, dx, _, .ref w0, rfl, p3 _ _ hb0, T.cl_Book, T.na_windows, by simp [List.lookup], _, rfl, w0, _, (j : Int), _, rfl, rfl, ex_t p3 w1, atI_of u1, ?_⟩
              refine ⟨_, p1, small1000 (by rw [List.length_map]; omega), ps ++ [u], by rw [upd_same, List.map_append] <;> rfl, ?_, p3.mut hD⟩
              have e : partW ws (row.take (i + 1)) = partW ws (row.take i) ++ [winAt ws j] := by
                unfold partW
                rw [List.take_succ_eq_append_getElem (List.getElem?_eq_some_iff.mp hj).1, (List.getElem?_eq_some_iff.mp hj).2, List.map_append] <;> rfl
              rw [e]
              exact (p2.add (ex_t p3 u2)).upd p1
            · rintro H' ⟨ps, p1, p2, p3⟩
              rw [List.length_map, List.take_length] at p2
              exact ⟨_, rfl, D, ps, _, rfl, .inl (SqL.of p1), p2, by unfold partW; rw [List.length_map]; exact sm', fun b2 w2 H2 n2 e2 hb2 hw2 => k row rfl hd b2 w2 H2 (free_ex (e1.trans p3) n2) ((e1.trans p3).trans e2) hb2 hw2⟩
      | _ => cases hg
theorem ok_joined (T : Txt K mg A D) : FnOk P w K mg base CX0 7 A.a_joined D.d_joined p_joined (sp_joined K A) := by
  have G_unbounded := ok_unbounded (P := P) (w := w) (base := base) T
  refine T.F_joined.ok sc_joined (fun vs H Q E h => ?_) (fun cdv Ar outer s H vs Q E hr h => ?_)
  · exact h.len
  · have hu := hu_of hr
    refine ⟨_, (pss_one (ps_ret (pe_call G_unbounded (hr.mono (by decide)) rfl T.g_unbounded (k_unbounded T) (b_unbounded T) .nil pass0 (pa_cons (pe_op op_catA (pe_fld (pv 0) rfl) (pe_fld (pv 1) rfl)) pa_nil)))), ?_⟩
    obtain ⟨x, y, rfl, a, wa, b, wb, us, ws, rfl, rfl, ha, hWa, hb, hWb, hle, k⟩ := h.ex
    obtain ⟨da, ha0⟩ := id ha
    obtain ⟨db, hb0⟩ := id hb
    obtain ⟨_, uas, u1, u2, u3⟩ := id hWa
    obtain ⟨_, was, w1, w2, w3⟩ := id hWb
    refine ⟨_, rfl, a, A.C_Book, da, _, .ref wa, rfl, ha0, T.cl_Book, T.na_windows, by simp [List.lookup], _, rfl, b, A.C_Book, db, _, .ref wb, rfl, hb0, T.cl_Book, T.na_windows, by simp [List.lookup], ?_⟩
    refine cat_read u1 w1 (by rw [List.length_map, List.length_map]; omega) fun r H1 e1 h1 => ?_
    rw [← List.map_append] at h1
    exact ⟨_, rfl, r, _, _, rfl, .inr h1, PairsAt.append ⟨u2, fun i a q x y => ex_t e1 (u3 i a q x y)⟩ ⟨w2, fun i a q x y => ex_t e1 (w3 i a q x y)⟩, by rw [List.length_append]; exact hle, fun b2 w2 H2 n2 e2 hb2 hw2 => k b2 w2 H2 (free_ex e1 n2) (e1.trans e2) hb2 hw2⟩
theorem ok_shifted (T : Txt K mg A D) : FnOk P w K mg base (L2.CX P w) 7 A.a_shifted D.d_shifted p_shifted (sp_shifted K A) := by
  have G_unbounded := ok_unbounded (P := P) (w := w) (base := base) T
  have G_NoNumber_init := ok_NoNumber_init (P := P) (w := w) (base := base) T
  have G_is_integer := ok_is_integer (P := P) (w := w) (base := base) T
  refine T.F_shifted.okX sc_shifted (fun vs H Q E h => ?_) (fun cdv Ar outer s H vs Q E hr h => ?_)
  · exact h.len
  · have hu := hu_of hr
    refine ⟨_, (pss_cons (ps_if (PW.pt (pw_or (pt_not (pt_val (pe_call G_is_integer (hr.mono (by decide)) rfl T.g_is_integer (k_is_integer T) (b_is_integer T) .nil pass0 (pa_cons (pv 1) pa_nil)))) (pw_or1 (pt_cmpR op_lt (pe_op op_add (pe_callB (cr_min rfl) (by rfl) T.n_min (by decide +kernel) (pa_cons (pe_lc (own := [("first", 2), ("last", 3)]) (g := (gTup K 2 (gCons (gName 2) (gCons (gName 3) gNil)))) (tt := tYes) rfl sc_shifted.nd (pi_tup (pe_fld (pv 0) rfl)) (blkOk_by (own := [("first", 2), ("last", 3)]) (N := n_shifted) (sc := defScope s_shifted) (by decide +kernel)) (fun _ _ _ _ _ => (pg_tup rfl (pgs_cons (pg_name (i := 2) sc_shifted.nd rfl (Or.inl rfl)) (pgs_cons (pg_name (i := 3) sc_shifted.nd rfl (Or.inl rfl)) pgs_nil)))) (fun _ _ _ _ _ => pts_nil) (fun _ _ _ _ _ => (pv 2))) pa_nil)) (pv 1)) pe_int (nomark _))))) (pss_one (ps_raise rfl (takes_of rfl rfl rfl rfl) (pmk_oex0 T.e_NoNumber T.i_NoNumber T.t_NoNumber G_NoNumber_init (hr.mono (by decide)) (b_NoNumber_init T) pass0 rfl T.g_NoNumber))) pss_nil) (pss_one (ps_ret (pe_call G_unbounded (hr.mono (by decide)) rfl T.g_unbounded (k_unbounded T) (b_unbounded T) .nil pass0 (pa_cons (pe_lc (own := [("first", 2), ("last", 3)]) (g := (gTup K 2 (gCons (gName 2) (gCons (gName 3) gNil)))) (tt := tYes) rfl sc_shifted.nd (pi_tup (pe_fld (pv 0) rfl)) (blkOk_by (own := [("first", 2), ("last", 3)]) (N := n_shifted) (sc := defScope s_shifted) (by decide +kernel)) (fun _ _ _ _ _ => (pg_tup rfl (pgs_cons (pg_name (i := 2) sc_shifted.nd rfl (Or.inl rfl)) (pgs_cons (pg_name (i := 3) sc_shifted.nd rfl (Or.inl rfl)) pgs_nil)))) (fun _ _ _ _ _ => pts_nil) (fun _ _ _ _ _ => (pe_tup (pa_cons (pe_op op_add (pv 2) (pv 1)) (pa_cons (pe_op op_add (pv 3) (pv 1)) pa_nil))))) pa_nil))))), ?_⟩
    obtain ⟨x, y, rfl, b, w0, ws, d, rfl, hb, hW, hpos, hR, kE, k⟩ := h.ex
    obtain ⟨wle, was, w1, w2, w3⟩ := id hW
    refine ⟨_, rfl, ⟨_, rfl, d, hR, fun H1 e1 => ⟨_, rfl, ?_⟩⟩⟩
    cases hR with
    | int z =>
      refine iteF ?_
      obtain ⟨dx, hb0⟩ := hb.mono e1
      refine ⟨_, rfl, b, A.C_Book, dx, _, _, rfl, hb0, T.cl_Book, T.na_windows, by simp [List.lookup], w0, rfl, ⟨_, ex_t e1 w1⟩, fun D hD => lc_tup (K := K) (a := w0) (xs := was.map V.ref) (fun i H' => H' D = some (.lst (((ws.take i).map Prod.fst).map V.int)) ∧ Ex H1 H') ⟨upd_same, Ex.new hD⟩ (fun i H' _ p => ex_t (e1.trans p.2) w1) ?_ ?_⟩
      · rintro i y H' hi ⟨p1, p2⟩
        obtain ⟨a, q, rfl, hq, et, hil, _⟩ := win_step w2 w3 hi
        refine ⟨a, _, rfl, ex_t (e1.trans p2) hq, rfl, _, _, rfl, _, _, rfl, rfl, rfl, ?_⟩
        exact ⟨_, rfl, _, p1, small1000 (by rw [List.length_map, List.length_map, List.length_take]; omega), by rw [upd_same, et, List.map_append, List.map_append] <;> rfl, p2.mut hD⟩
      · rintro H2 ⟨p1, p2⟩
        rw [List.length_map, w2, List.take_length] at p1
        refine ⟨D, _, rfl, SqL.of p1, by rw [List.length_map]; exact hpos, fun m hm hle => ?_⟩
        have e2 := e1.trans p2
        have ed : byD ws (.int z) = !decide (m + z < 0) := by
          rw [Bool.eq_iff_iff, Bool.not_eq_true', decide_eq_false_iff_not]
          simp only [byD, List.all_eq_true, decide_eq_true_eq]
          constructor
          · intro hq
            obtain ⟨q, h1, h2⟩ := List.mem_map.mp hm
            have := hq q h1
            have e : q.1 = m := h2
            omega
          · intro hn q hq
            have : m ≤ q.1 := hle _ (List.mem_map_of_mem hq)
            omega
        refine ⟨_, rfl, _, _, rfl, rfl, _, _, rfl, rfl, _, rfl, ?_⟩
        by_cases c : m + z < 0
        · rw [decide_eq_true c] at ed
          rw [decide_eq_true c]
          exact iteT (kE ed H2 e2)
        · rw [decide_eq_false c] at ed
          rw [decide_eq_false c]
          refine iteF ?_
          obtain ⟨dx, hb0⟩ := hb.mono e2
          refine ⟨_, rfl, b, A.C_Book, dx, _, _, rfl, hb0, T.cl_Book, T.na_windows, by simp [List.lookup], w0, rfl, ⟨_, ex_t e2 w1⟩, fun D hD => lc_tup (K := K) (a := w0) (xs := was.map V.ref) (fun i H' => ∃ ps : List Addr, H' D = some (.lst (ps.map V.ref)) ∧ PairsAt K H' ps (shW z (ws.take i)) ∧ Ex H2 H') ⟨[], upd_same, PairsAt.nil, Ex.new hD⟩ (fun i H' _ ⟨_, _, _, p⟩ => ex_t (e2.trans p) w1) ?_ ?_⟩
          · rintro i y H' hi ⟨ps, p1, p2, p3⟩
            obtain ⟨a, q, rfl, hq, et, hil, _⟩ := win_step w2 w3 hi
            refine ⟨a, _, rfl, ex_t (e2.trans p3) hq, rfl, _, _, rfl, _, _, rfl, rfl, rfl, ?_⟩
            refine ⟨_, rfl, _, rfl, _, _, rfl, rfl, _, rfl, _, rfl, _, _, rfl, rfl, (by show 2 ≤ sizeLine; decide), fun t nt => ?_⟩
            have x2 : Ex H' (L2.upd H' t (.tup [.int (q.1 + z), .int (q.2 + z)])) := Ex.new nt
            have hl := p2.1
            rw [shW_len, List.length_take] at hl
            refine ⟨_, x2 _ _ p1, small1000 (by rw [List.length_map]; omega), ps ++ [t], by rw [upd_same, List.map_append] <;> rfl, ?_, (p3.trans x2).mut hD⟩
            have e : shW z (ws.take (i + 1)) = shW z (ws.take i) ++ [(q.1 + z, q.2 + z)] := by
              unfold shW
              rw [et, List.map_append] <;> rfl
            rw [e]
            exact ((p2.mono x2).add (SqT.of upd_same)).upd (x2 _ _ p1)
          · rintro H' ⟨ps, p1, p2, p3⟩
            rw [List.length_map, w2, List.take_length] at p2
            exact ⟨_, rfl, D, ps, _, rfl, .inl (SqL.of p1), p2, by rw [shW_len]; exact wle, fun b2 w2 H3 n2 e3 hb2 hw2 => k z rfl ed b2 w2 H3 (free_ex (e2.trans p3) n2) ((e2.trans p3).trans e3) hb2 hw2⟩
    | _ => exact iteT (kE rfl H1 e1)
theorem ok_l_pool (T : Txt K mg A D) : FnOk P w K mg base CX0 1 A.a_l_pool D.d_l_pool p_l_pool (sp_l_pool K A) := by
  refine T.F_l_pool.ok sc_l_pool (fun vs H Q E h => ?_) (fun cdv Ar outer s H vs Q E hr h => ?_)
  · exact h.len
  · have hu := hu_of hr
    refine ⟨_, (pss_cons (ps_set (i := 1) sc_l_pool.nd rfl (Or.inl rfl) (pe_op op_add (pe_op op_add (pe_op op_mod (pe_callTy call_int1 (by rfl) T.n_int (by decide +kernel) (pa_cons (pe_callB (cr_sum rfl) (by rfl) T.n_sum (by decide +kernel) (pa_cons (pe_slice sl_list (pv 0) po_none (po_some pe_int)) pa_nil)) pa_nil)) pe_int) (pe_callB call_len_seq (by rfl) T.n_len (by decide +kernel) (pa_cons (pv 0) pa_nil))) pe_int)) (pss_cons (ps_for PassesOwn.never rfl (pi_list (pe_slice sl_list (pv 0) po_none (po_some pe_int))) (pg_name (i := 2) sc_l_pool.nd rfl (Or.inl rfl)) (pss_one (ps_set (i := 1) sc_l_pool.nd rfl (Or.inl rfl) (pe_op op_mod (pe_callTy call_int1 (by rfl) T.n_int (by decide +kernel) (pa_cons (pe_op op_add (pe_op op_add (pe_op op_mul (pv 1) pe_int) (pe_op op_mod (pe_callTy call_int1 (by rfl) T.n_int (by decide +kernel) (pa_cons (pv 2) pa_nil)) pe_int)) pe_int) pa_nil)) pe_int)))) (pss_one (ps_ret (pe_lst (pa_cons (pv 1) (pa_cons pe_int (pa_cons (pe_lc (own := [("_law_cell", 2)]) (g := (gName 2))  rfl sc_l_pool.nd (pi_list (pe_slice sl_list (pv 0) po_none (po_some pe_int))) (blkOk_by (own := [("_law_cell", 2)]) (N := n_l_pool) (sc := defScope s_l_pool) (by decide +kernel)) (fun _ _ _ _ _ => (pg_name (i := 2) sc_l_pool.nd rfl (Or.inl rfl))) (fun _ _ _ _ _ => pts_one (pt_cmpR op_ge (pe_callB call_abs (by rfl) T.n_abs (by decide +kernel) (pa_cons (pv 2) pa_nil)) (pe_op op_pow pe_int pe_int) (nomark _))) (fun _ _ _ _ _ => (pe_callB call_abs (by rfl) T.n_abs (by decide +kernel) (pa_cons (pv 2) pa_nil)))) pa_nil)))))))), ?_⟩
    obtain ⟨a, ns, rfl, hS, hlen, k⟩ := h.ex
    obtain ⟨m1, e1, l1⟩ := cutV_ints ns none (some 1)
    obtain ⟨m2, e2, l2⟩ := cutV_ints ns none (some 63)
    have ha : ns.length ≤ 63 := hlen
    refine ⟨_, rfl, _, rfl, a, _, rfl, hS, fun p1 np1 => ?_⟩
    have x1 : Ex H (upd H p1 (.lst (cutV (ns.map V.int) none (some 1)))) := Ex.new np1
    refine ⟨p1, m1, rfl, SqL.of (by rw [upd_same, e1]), .inl ⟨_, rfl, _, _, rfl, rfl, (by show (0 : Int) < 1000003; decide), _, rfl, a, _, rfl, .inl (ex_l x1 hS), _, _, rfl, rfl, _, _, rfl, rfl, ?_⟩⟩
    generalize upd H p1 (.lst (cutV (ns.map V.int) none (some 1))) = H1 at x1
    -- for cell in script[:63]
    refine ⟨_, rfl, _, rfl, a, _, rfl, ex_l x1 hS, fun p2 np2 => ?_⟩
    have x2 : Ex H1 (upd H1 p2 (.lst (cutV (ns.map V.int) none (some 63)))) := Ex.new np2
    have h2 : (upd H1 p2 (.lst (cutV (ns.map V.int) none (some 63)))) p2 = some (.lst (m2.map V.int)) := by rw [upd_same, e2]
    generalize upd H1 p2 (.lst (cutV (ns.map V.int) none (some 63))) = H2 at x2 h2
    refine ⟨p2, rfl, ⟨_, SqL.of h2⟩, for_list (K := K) (a := p2) (xs := m2.map V.int) (fun i σ H' => ∃ (z : Int) (v : Option V), σ = [some (.ref a), some (.int z), v] ∧ Ex H2 H') ⟨_, _, rfl, Ex.refl _⟩ (fun i σ H' _ ⟨_, _, _, x⟩ => ex_l x (SqL.of h2)) ?_ ?_⟩
    · rintro i y σ H' hi ⟨z, v, rfl, x⟩
      obtain ⟨n, _, rfl⟩ := ints_get hi
      exact ⟨_, rfl, _, _, rfl, rfl, .inr (by constructor <;> decide), _, rfl, .inl ⟨_, rfl, _, _, rfl, rfl, (by show (0 : Int) < 2147483629; decide), _, _, rfl, rfl, _, _, rfl, rfl, .inl ⟨_, rfl, _, _, rfl, rfl, (by show (0 : Int) < 2147483647; decide), _, _, rfl, x⟩⟩⟩
    · rintro σ H' ⟨z, v, rfl, x⟩
      have y0 : Ex H H' := (x1.trans x2).trans x
      -- return [seed, 0, [..]]
      refine ⟨_, rfl, _, rfl, _, rfl, a, _, rfl, ex_l y0 hS, fun p3 np3 => ?_⟩
      have x3 : Ex H' (upd H' p3 (.lst (cutV (ns.map V.int) none (some 63)))) := Ex.new np3
      have h3 : (upd H' p3 (.lst (cutV (ns.map V.int) none (some 63)))) p3 = some (.lst (m2.map V.int)) := by rw [upd_same, e2]
      generalize upd H' p3 (.lst (cutV (ns.map V.int) none (some 63))) = H3 at x3 h3
      refine ⟨p3, rfl, ⟨_, SqL.of h3⟩, fun c nc => lc_list (K := K) (a := p3) (xs := m2.map V.int) (fun i H4 => ∃ ms : List Int, H4 c = some (.lst (ms.map V.int)) ∧ ms.length ≤ i ∧ Ex H3 H4) ⟨[], upd_same, Nat.le_refl _, Ex.new nc⟩ (fun i H4 _ ⟨_, _, _, x4⟩ => ex_l x4 (SqL.of h3)) ?_ ?_⟩
      · rintro i y H4 hi ⟨ms, hm, hl, x4⟩
        obtain ⟨n, _, rfl⟩ := ints_get hi
        have hil : i < m2.length := by
          have := (List.getElem?_eq_some_iff.mp hi).1
          rw [List.length_map] at this
          exact this
        refine ⟨rfl, _, rfl, _, rfl, _, _, rfl, rfl, ⟨by decide, by decide, by decide⟩, _, _, rfl, rfl, _, rfl, ?_⟩
        refine ite2 (fun _ => ?_) (fun _ => ?_)
        · exact ⟨_, rfl, _, rfl, _, hm, small1000 (by rw [List.length_map]; omega), ms ++ [if n < 0 then -n else n], by rw [upd_same, List.map_append] <;> rfl, by rw [List.length_append]; show _ + 1 ≤ _; omega, x4.mut nc⟩
        · exact ⟨ms, hm, Nat.le_succ_of_le hl, x4⟩
      · rintro H4 ⟨ms, hm, _, x4⟩
        refine ⟨(by show 3 ≤ sizeLine; decide), fun p np => k p c _ ?_ ?_ ⟨⟨_, _, upd_same⟩, ⟨ms, by rw [upd_ne (ne_of_none hm np)]; exact hm⟩, ?_⟩ ?_⟩
        · exact fresh_back ((y0.trans x3).trans x4) np
        · exact fresh_back (y0.trans x3) nc
        · exact (ne_of_none hm np).symm
        · exact ((y0.trans x3).trans x4).trans (Ex.new np)
theorem ok_l_draw (T : Txt K mg A D) : FnOk P w K mg base CX0 1 A.a_l_draw D.d_l_draw p_l_draw (sp_l_draw K A) := by
  refine T.F_l_draw.ok sc_l_draw (fun vs H Q E h => ?_) (fun cdv Ar outer s H vs Q E hr h => ?_)
  · exact h.len
  · have hu := hu_of hr
    refine ⟨_, (pss_cons (ps_asg (pe_op op_add (pe_ix ix_list (pv 0) pe_int (fun _ _ => rfl)) pe_int) (pg_sub (pv 0) pe_int set_list)) (pss_cons (ps_set (i := 2) sc_l_draw.nd rfl (Or.inl rfl) (pe_ix ix_list (pv 0) pe_int (fun _ _ => rfl))) (pss_cons (ps_if (pt_cmpR op_gt (pe_callB call_len_seq (by rfl) T.n_len (by decide +kernel) (pa_cons (pv 2) pa_nil)) pe_int (nomark _)) (pss_cons (ps_set (i := 3) sc_l_draw.nd rfl (Or.inl rfl) (pe_op op_mod (pe_callTy call_int1 (by rfl) T.n_int (by decide +kernel) (pa_cons (pe_ix ix_list (pv 2) pe_int (fun _ _ => rfl)) pa_nil)) (pv 1))) (pss_cons (ps_asg (pe_op op_fdivW (pe_callTy call_int1 (by rfl) T.n_int (by decide +kernel) (pa_cons (pe_ix ix_list (pv 2) pe_int (fun _ _ => rfl)) pa_nil)) (pv 1)) (pg_sub (pv 2) pe_int set_list)) (pss_cons (ps_if (pt_cmpR op_eq (pe_ix ix_list (pv 2) pe_int (fun _ _ => rfl)) pe_int (nomark _)) (pss_one (ps_expr (pe_bm PySem.F.plainAttrs_list PySem.F.slot_list_pop PySem.F.type_list_pop mt_popAt (pv 2) (pa_cons pe_int pa_nil)))) pss_nil) (pss_one (ps_ret (pv 3)))))) pss_nil) (pss_cons (ps_set (i := 4) sc_l_draw.nd rfl (Or.inl rfl) (pe_op op_mod (pe_callTy call_int1 (by rfl) T.n_int (by decide +kernel) (pa_cons (pe_op op_mul (pe_op op_add (pe_ix ix_list (pv 0) pe_int (fun _ _ => rfl)) (pe_op op_mul pe_int (pe_ix ix_list (pv 0) pe_int (fun _ _ => rfl)))) pe_int) pa_nil)) pe_int)) (pss_cons (ps_set (i := 4) sc_l_draw.nd rfl (Or.inl rfl) (pe_op op_mod (pe_callTy call_int1 (by rfl) T.n_int (by decide +kernel) (pa_cons (pe_op op_mul (pv 4) (pe_op op_add (pe_op op_fdiv (pv 4) pe_int) pe_int)) pa_nil)) pe_int)) (pss_cons (ps_set (i := 4) sc_l_draw.nd rfl (Or.inl rfl) (pe_op op_mod (pe_callTy call_int1 (by rfl) T.n_int (by decide +kernel) (pa_cons (pe_op op_mul (pv 4) (pe_op op_add (pe_op op_fdiv (pv 4) pe_int) pe_int)) pa_nil)) pe_int)) (pss_one (ps_ret (pe_op op_mod (pe_callTy call_int1 (by rfl) T.n_int (by decide +kernel) (pa_cons (pe_op op_fdiv (pv 4) pe_int) pa_nil)) (pv 1)))))))))), ?_⟩
    obtain ⟨p, c, m, rfl, ⟨⟨i, j, hp⟩, ⟨ns, hc⟩, ne⟩, m0, m1, k⟩ := h.ex
    -- pool[1] = pool[1] + 1
    refine ⟨_, rfl, p, _, 1, _, rfl, rfl, SqL.of hp, rfl, _, _, rfl, rfl, ?_⟩
    refine ⟨_, rfl, p, _, 1, 1, rfl, rfl, hp, rfl, ?_⟩
    -- cells = pool[2]
    have hp1 : (upd H p (.lst [.int i, .int (j + 1), .ref c])) p = some (.lst [.int i, .int (j + 1), .ref c]) := upd_same
    have hc1 : (upd H p (.lst [.int i, .int (j + 1), .ref c])) c = some (.lst (ns.map V.int)) := by rw [upd_ne ne.symm]; exact hc
    have kp1 : Kept p c H (upd H p (.lst [.int i, .int (j + 1), .ref c])) := fun a o h1 _ e => by rw [upd_ne h1]; exact e
    show tSeq _ _ _ _ (upd H p (.lst [.int i, .int (j + 1), .ref c]))
    generalize upd H p (.lst [.int i, .int (j + 1), .ref c]) = H1 at hp1 hc1 kp1
    refine ⟨_, rfl, p, _, 2, _, rfl, rfl, SqL.of hp1, rfl, ?_⟩
    -- if len(cells) > 0
    refine ⟨_, rfl, c, _, rfl, .inl (SqL.of hc1), _, _, rfl, rfl, _, rfl, ?_⟩
    cases ns with
    | cons n r =>
      refine if_pos_of (decide_eq_true (by show (0 : Int) < ((n :: r).map V.int).length; simp only [List.length_map, List.length_cons]; omega)) ?_
      refine ⟨_, rfl, c, _, 0, _, rfl, rfl, SqL.of hc1, atI0 _ _, .inl ⟨_, rfl, _, rfl, _, _, rfl, rfl, m0, ?_⟩⟩
      refine ⟨_, rfl, c, _, 0, _, rfl, rfl, SqL.of hc1, atI0 _ _, .inl ⟨_, rfl, _, rfl, _, _, rfl, rfl, wide_div m0 (b := 100) (by omega) (by decide) (by decide), ?_⟩⟩
      refine ⟨_, rfl, c, _, 0, 0, rfl, rfl, hc1, ixN0 _, ?_⟩
      have hp2 : (upd H1 c (.lst ((n / m :: r).map V.int))) p = some (.lst [.int i, .int (j + 1), .ref c]) := by rw [upd_ne ne]; exact hp1
      have hc2 : (upd H1 c (.lst ((n / m :: r).map V.int))) c = some (.lst ((n / m :: r).map V.int)) := upd_same
      have kp2 : Kept p c H (upd H1 c (.lst ((n / m :: r).map V.int))) := fun a o h1 h2 e => by rw [upd_ne h2]; exact kp1 a o h1 h2 e
      show tSeq _ _ _ _ (upd H1 c (.lst ((n / m :: r).map V.int)))
      generalize upd H1 c (.lst ((n / m :: r).map V.int)) = H2 at hp2 hc2 kp2
      -- if cells[0] == 0: cells.pop(0)
      refine ⟨_, rfl, c, _, 0, _, rfl, rfl, SqL.of hc2, atI0 _ _, rfl, _, rfl, ?_⟩
      refine ite2 (fun _ => ?_) (fun _ => ?_)
      · refine ⟨_, rfl, .inl ⟨rfl, _, SqL.of hc2⟩, c, _, 0, 0, _, rfl, rfl, hc2, by decide, by decide, seqIx0 _, rfl, ?_⟩
        exact ⟨_, rfl, k _ _ (Int.emod_nonneg _ (by omega)) (Int.emod_lt_of_pos _ m0) ⟨⟨_, _, by rw [upd_ne ne]; exact hp2⟩, ⟨r, upd_same⟩, ne⟩ fun a o h1 h2 e => by rw [upd_ne h2]; exact kp2 a o h1 h2 e⟩
      · exact ⟨_, rfl, k _ _ (Int.emod_nonneg _ (by omega)) (Int.emod_lt_of_pos _ m0) ⟨⟨_, _, hp2⟩, ⟨_, hc2⟩, ne⟩ kp2⟩
    | nil =>
      refine if_neg_of (decide_eq_false (by show ¬ (0 : Int) < (([] : List Int).map V.int).length; simp)) ?_
      refine ⟨_, rfl, p, _, 0, _, rfl, rfl, SqL.of hp1, rfl, _, rfl, p, _, 1, _, rfl, rfl, SqL.of hp1, rfl, _, _, rfl, rfl, .inl (by constructor <;> decide), _, _, rfl, rfl, _, _, rfl, rfl, .inr (by constructor <;> decide), .inl ⟨_, rfl, _, _, rfl, rfl, (by show (0 : Int) < 2147483647; decide), ?_⟩⟩
      generalize hx : ((i + 7919 * (j + 1)) * 48271) % 2147483647 = x
      have hx0 : 0 ≤ x ∧ x < 2147483647 := by rw [← hx]; exact ⟨Int.emod_nonneg _ (by decide), Int.emod_lt_of_pos _ (by decide)⟩
      refine ⟨_, rfl, _, rfl, _, _, rfl, rfl, ⟨by decide, by decide⟩, _, _, rfl, rfl, _, _, rfl, rfl, .inl ⟨by omega, by omega⟩, .inl ⟨_, rfl, _, _, rfl, rfl, (by show (0 : Int) < 2147483647; decide), ?_⟩⟩
      generalize hy : (x * (x / 1009 + 69621)) % 2147483647 = y
      have hy0 : 0 ≤ y ∧ y < 2147483647 := by rw [← hy]; exact ⟨Int.emod_nonneg _ (by decide), Int.emod_lt_of_pos _ (by decide)⟩
      refine ⟨_, rfl, _, rfl, _, _, rfl, rfl, ⟨by decide, by decide⟩, _, _, rfl, rfl, _, _, rfl, rfl, .inl ⟨by omega, by omega⟩, .inl ⟨_, rfl, _, _, rfl, rfl, (by show (0 : Int) < 2147483399; decide), ?_⟩⟩
      generalize (y * (y / 2003 + 40692)) % 2147483399 = z
      exact ⟨_, rfl, _, _, rfl, rfl, ⟨by decide, by decide⟩, .inl ⟨_, rfl, _, rfl, _, _, rfl, rfl, m0, k _ _ (Int.emod_nonneg _ (by omega)) (Int.emod_lt_of_pos _ m0) ⟨⟨_, _, hp1⟩, ⟨_, hc1⟩, ne⟩ kp1⟩⟩
theorem ok_l_windows (T : Txt K mg A D) : FnOk P w K mg base CX0 2 A.a_l_windows D.d_l_windows p_l_windows (sp_l_windows K A) := by
  have G_l_draw := ok_l_draw (P := P) (w := w) (base := base) T
  refine T.F_l_windows.ok sc_l_windows (fun vs H Q E h => ?_) (fun cdv Ar outer s H vs Q E hr h => ?_)
  · exact h.len
  · have hu := hu_of hr
    refine ⟨_, (pss_cons (ps_set (i := 3) sc_l_windows.nd rfl (Or.inl rfl) (pe_call G_l_draw (hr.mono (by decide)) rfl T.g_l_draw (k_l_draw T) (b_l_draw T) .nil pass0 (pa_cons (pv 0) (pa_cons pe_int pa_nil)))) (pss_cons (ps_set (i := 4) sc_l_windows.nd rfl (Or.inl rfl) (pe_lst pa_nil)) (pss_cons (ps_set (i := 5) sc_l_windows.nd rfl (Or.inl rfl) (pe_op op_add (pv 2) (pe_call G_l_draw (hr.mono (by decide)) rfl T.g_l_draw (k_l_draw T) (b_l_draw T) .nil pass0 (pa_cons (pv 0) (pa_cons (pe_op op_add (pv 2) pe_int) pa_nil))))) (pss_cons (ps_for PassesOwn.never rfl (pi_range1 (by rfl) T.n_range (pa_cons (pv 1) pa_nil)) (pg_name (i := 6) sc_l_windows.nd rfl (Or.inl rfl)) (pss_cons (ps_set (i := 7) sc_l_windows.nd rfl (Or.inl rfl) (pe_call G_l_draw (hr.mono (by decide)) rfl T.g_l_draw (k_l_draw T) (b_l_draw T) .nil pass0 (pa_cons (pv 0) (pa_cons (pe_op op_add (pv 2) pe_int) pa_nil)))) (pss_cons (ps_set (i := 8) sc_l_windows.nd rfl (Or.inl rfl) (pe_call G_l_draw (hr.mono (by decide)) rfl T.g_l_draw (k_l_draw T) (b_l_draw T) .nil pass0 (pa_cons (pv 0) (pa_cons (pe_op op_add (pv 2) pe_int) pa_nil)))) (pss_cons (ps_if (PW.pt (pw_and (pt_cmpR op_eq (pv 3) pe_int (nomark _)) (pw_and1 (pt_cmpR op_gt (pe_call G_l_draw (hr.mono (by decide)) rfl T.g_l_draw (k_l_draw T) (b_l_draw T) .nil pass0 (pa_cons (pv 0) (pa_cons pe_int pa_nil))) pe_int (nomark _))))) (pss_cons (ps_set (i := 7) sc_l_windows.nd rfl (Or.inl rfl) (pe_call G_l_draw (hr.mono (by decide)) rfl T.g_l_draw (k_l_draw T) (b_l_draw T) .nil pass0 (pa_cons (pv 0) (pa_cons (pe_op op_add (pe_op op_fdiv (pv 5) pe_int) pe_int) pa_nil)))) (pss_one (ps_set (i := 8) sc_l_windows.nd rfl (Or.inl rfl) (pe_op op_sub (pv 5) (pv 7))))) pss_nil) (pss_cons (ps_if (pt_cmpR op_eq (pv 3) pe_int (nomark _)) (pss_cons (ps_set (i := 7) sc_l_windows.nd rfl (Or.inl rfl) (pe_op op_add (pv 6) (pe_call G_l_draw (hr.mono (by decide)) rfl T.g_l_draw (k_l_draw T) (b_l_draw T) .nil pass0 (pa_cons (pv 0) (pa_cons pe_int pa_nil))))) (pss_one (ps_set (i := 8) sc_l_windows.nd rfl (Or.inl rfl) (pe_op op_add (pe_op op_add (pv 7) pe_int) (pe_call G_l_draw (hr.mono (by decide)) rfl T.g_l_draw (k_l_draw T) (b_l_draw T) .nil pass0 (pa_cons (pv 0) (pa_cons pe_int pa_nil))))))) pss_nil) (pss_one (ps_expr (pe_bm PySem.F.plainAttrs_list PySem.F.slot_list_append PySem.F.type_list_append mt_append (pv 4) (pa_cons (pe_tup (pa_cons (pe_callB (call_min2 rfl) (by rfl) T.n_min (by decide +kernel) (pa_cons (pv 7) (pa_cons (pv 8) pa_nil))) (pa_cons (pe_callB (call_max2 rfl) (by rfl) T.n_max (by decide +kernel) (pa_cons (pv 7) (pa_cons (pv 8) pa_nil))) pa_nil))) pa_nil))))))))) (pss_one (ps_ret (pe_callTy call_tuple_of (by rfl) T.n_tuple (by decide +kernel) (pa_cons (pv 4) pa_nil)))))))), ?_⟩
    obtain ⟨p, c, n, t, rfl, hP, n1, n2, t0, t1, k⟩ := h.ex
    -- kind = draw(pool, 4)
    refine ⟨_, rfl, ⟨p, c, 4, rfl, hP, by decide, by decide, fun kd H1 kd0 kd1 P1 K1 => ?_⟩⟩
    -- found = []
    refine ⟨Nat.zero_le _, fun f nf => ?_⟩
    have fp := P1.nep nf
    have fc := P1.nec nf
    have P2 : PoolAt (L2.upd H1 f (.lst [])) p c := P1.upd fp.symm fc.symm
    have K2 : Kept p c H (L2.upd H1 f (.lst [])) := K1.trans (kept_of (Ex.new nf))
    have G2 : Grows K (L2.upd H1 f (.lst [])) f [] := ⟨⟨[], upd_same, rfl, fun i a q x => by simp at x⟩⟩
    have Hf : H f = none := by
      cases e : H f with
      | none => rfl
      | some o => rw [K1 f o fp fc e] at nf; cases nf
    generalize L2.upd H1 f (.lst []) = H2 at P2 K2 G2
    -- total = top + draw(pool, top + 1)
    refine ⟨_, rfl, _, rfl, _, rfl, _, _, rfl, rfl, ⟨p, c, t + 1, rfl, P2, by omega, by omega, fun d H3 d0 d1 P3 K3 => ?_⟩⟩
    have K3' := K2.trans K3
    have G3 := G2.mono P2 K3 fp fc
    refine ⟨_, _, rfl, rfl, ?_⟩
    generalize hT : t + d = T
    have T0 : 0 ≤ T ∧ T ≤ 2 * t := by omega
    -- for k in range(many)
    refine ⟨_, rfl, n, rfl, by omega, by omega, for_range (lo := 0) (n := n.toNat) (fun i σ H' => ∃ (v6 v7 v8 : Option V) (ws : List (Int × Int)), σ = [some (.ref p), some (.int n), some (.int t), some (.int kd), some (.ref f), some (.int T), v6, v7, v8] ∧
      PoolAt H' p c ∧ Kept p c H H' ∧ Grows K H' f ws ∧ ws.length = i ∧ ∀ q ∈ ws, inWin (2 * t + n + 4) q) ⟨none, none, none, [], (by subst hT; rfl), P3, K3', G3, rfl, fun q hq => by simp at hq⟩ ?_ ?_⟩
    · rintro i σ H' hi ⟨v6, v7, v8, ws, rfl, P4, K4, G4, hw, hb⟩
      refine ⟨_, rfl, _, rfl, _, _, rfl, rfl, ⟨p, c, t + 1, rfl, P4, by omega, by omega, fun one H5 o0 o1 P5 K5 => ?_⟩⟩
      have G5 := G4.mono P4 K5 fp fc
      have K5' := K4.trans K5
      refine ⟨_, rfl, _, rfl, _, _, rfl, rfl, ⟨p, c, t + 1, rfl, P5, by omega, by omega, fun oth H6 h0 h1 P6 K6 => ?_⟩⟩
      have G6 := G5.mono P5 K6 fp fc
      have K6' := K5'.trans K6
      have fin : ∀ (a b : Int) (H7 : Hp) (D : Ends) (v6 : Option V), 0 ≤ a → a ≤ 2 * t + n + 4 → 0 ≤ b → b ≤ 2 * t + n + 4 → PoolAt H7 p c → Kept p c H H7 → Grows K H7 f ws →
          (∀ (v6 v7 v8 : Option V) (ws : List (Int × Int)) (H' : Hp), PoolAt H' p c → Kept p c H H' → Grows K H' f ws → ws.length = i + 1 → (∀ q ∈ ws, inWin (2 * t + n + 4) q) → D.nx [some (.ref p), some (.int n), some (.int t), some (.int kd), some (.ref f), some (.int T), v6, v7, v8] H') →
          tDrop (tBM K "list" rAppend (tVar 4) (tCons (tTup (tCons (tCB (fun xs H Q => ∃ i j, xs = [.int i, .int j] ∧ Q (.int (if j < i then j else i)) H) (tCons (tVar 7) (tCons (tVar 8) tNil))) (tCons (tCB (fun xs H Q => ∃ i j, xs = [.int i, .int j] ∧ Q (.int (if j > i then j else i)) H) (tCons (tVar 7) (tCons (tVar 8) tNil))) tNil))) tNil)) D
            [some (.ref p), some (.int n), some (.int t), some (.int kd), some (.ref f), some (.int T), v6, some (.int a), some (.int b)] H7 := by
        intro a b H7 D v6 a0 a1 b0 b1 P7 K7 G7 q
        obtain ⟨as, g1, g2, g3⟩ := G7.ex
        refine ⟨_, rfl, .inl ⟨rfl, _, SqL.of g1⟩, _, rfl, _, rfl, _, _, rfl, _, rfl, _, rfl, _, _, rfl, (by show 2 ≤ sizeLine; decide), fun r nr => ⟨f, _, _, rfl, rfl, (by rw [upd_ne (ne_of_none g1 nr)]; exact g1), small1000 (by rw [List.length_map, g2, hw]; omega), ?_⟩⟩
        have rp := P7.nep nr
        have rc := P7.nec nr
        have G8 := Grows.add (K := K) (q := ((if b < a then b else a), (if b > a then b else a))) (as := as) (by rw [upd_ne (ne_of_none g1 nr)]; exact g1) g2 (fun i a q x y => by rw [upd_ne (ne_of_none (g3 i a q x y) nr)]; exact g3 i a q x y) (upd_same (H := H7) (a := r))
        refine q _ _ _ _ _ ((P7.upd rp.symm rc.symm).upd fp.symm fc.symm) ?_ G8 (by rw [List.length_append, hw] <;> rfl) ?_
        · intro x o x1 x2 e
          rw [upd_ne (by intro z; rw [z, Hf] at e; cases e), upd_ne (ne_of_none (K7 x o x1 x2 e) nr)]
          exact K7 x o x1 x2 e
        · intro q hq
          rcases List.mem_append.mp hq with hq | hq
          · exact hb q hq
          · cases List.mem_singleton.mp hq
            unfold inWin
            dsimp only
            split <;> split <;> omega
      -- if kind == 0 and draw(pool, 4) > 0
      refine ⟨_, rfl, rfl, _, rfl, ite2 (fun hk => ?_) (fun hk => ?_)⟩
      · refine ⟨_, rfl, ⟨p, c, 4, rfl, P6, by decide, by decide, fun e H7 e0 e1 P7 K7 => ?_⟩⟩
        have G7 := G6.mono P6 K7 fp fc
        have K7' := K6'.trans K7
        have hk0 : kd = 0 := by simpa using hk
        refine ⟨_, _, rfl, rfl, _, rfl, ite2 (fun _ => ?_) (fun _ => ?_)⟩
        · refine ⟨_, rfl, _, rfl, _, _, rfl, rfl, ⟨by decide, by decide⟩, _, _, rfl, rfl, ⟨p, c, T / 2 + 1, rfl, P7, by omega, by omega, fun o2 H8 o20 o21 P8 K8 => ?_⟩⟩
          have G8 := G7.mono P7 K8 fp fc
          have K8' := K7'.trans K8
          refine ⟨_, rfl, _, rfl, _, _, rfl, rfl, ?_⟩
          refine ⟨_, rfl, rfl, _, rfl, ite2 (fun h1 => absurd h1 (by rw [hk0]; decide)) (fun _ => ?_)⟩
          exact fin o2 (T - o2) H8 _ _ (by omega) (by omega) (by omega) (by omega) P8 K8' G8 fun v6 v7 v8 ws H' a b c d e => ⟨v6, v7, v8, ws, rfl, a, b, c, d, e⟩
        · refine ⟨_, rfl, rfl, _, rfl, ite2 (fun h1 => absurd h1 (by rw [hk0]; decide)) (fun _ => ?_)⟩
          exact fin one oth H7 _ _ (by omega) (by omega) (by omega) (by omega) P7 K7' G7 fun v6 v7 v8 ws H' a b c d e => ⟨v6, v7, v8, ws, rfl, a, b, c, d, e⟩
      · refine ⟨_, rfl, rfl, _, rfl, ite2 (fun _ => ?_) (fun _ => ?_)⟩
        · refine ⟨_, rfl, _, rfl, ⟨p, c, 2, rfl, P6, by decide, by decide, fun d1 H7 d10 d11 P7 K7 => ⟨_, _, rfl, rfl, ?_⟩⟩⟩
          have G7 := G6.mono P6 K7 fp fc
          have K7' := K6'.trans K7
          refine ⟨_, rfl, _, _, rfl, rfl, _, rfl, ⟨p, c, 2, rfl, P7, by decide, by decide, fun d2 H8 d20 d21 P8 K8 => ⟨_, _, rfl, rfl, ?_⟩⟩⟩
          have G8 := G7.mono P7 K8 fp fc
          have K8' := K7'.trans K8
          exact fin (0 + (i : Int) + d1) (0 + (i : Int) + d1 + 2 + d2) H8 _ _ (by omega) (by omega) (by omega) (by omega) P8 K8' G8 fun v6 v7 v8 ws H' a b c d e => ⟨v6, v7, v8, ws, rfl, a, b, c, d, e⟩
        · exact fin one oth H6 _ _ (by omega) (by omega) (by omega) (by omega) P6 K6' G6 fun v6 v7 v8 ws H' a b c d e => ⟨v6, v7, v8, ws, rfl, a, b, c, d, e⟩
    · rintro σ H' ⟨v6, v7, v8, ws, rfl, P4, K4, G4, hw, hb⟩
      obtain ⟨as, g1, g2, g3⟩ := G4.ex
      refine ⟨_, rfl, f, _, rfl, .inl ⟨SqL.of g1, fun w nw => ?_⟩⟩
      have wp := P4.nep nw
      have wc := P4.nec nw
      refine k w ws _ ?_ (Grows.win (f := f) g2 g3 nw (by omega)) (by omega) hb (P4.upd wp.symm wc.symm) (K4.trans (kept_of (Ex.new nw)))
      cases e : H w with
      | none => rfl
      | some o => rw [K4 w o wp wc e] at nw; cases nw
theorem ok_l_some (T : Txt K mg A D) : FnOk P w K mg base CX0 2 A.a_l_some D.d_l_some p_l_some (sp_l_someU K A) := by
  have G_l_draw := ok_l_draw (P := P) (w := w) (base := base) T
  refine T.F_l_some.ok sc_l_some (fun vs H Q E h => ?_) (fun cdv Ar outer s H vs Q E hr h => ?_)
  · exact h.len
  · have hu := hu_of hr
    refine ⟨_, (pss_cons (ps_set (i := 2) sc_l_some.nd rfl (Or.inr rfl) (pe_ix ix_list (pe_lst (pa_cons pe_int (pa_cons pe_int (pa_cons pe_int pa_nil)))) (pe_call G_l_draw (hr.mono (by decide)) rfl T.g_l_draw (k_l_draw T) (b_l_draw T) .nil pass0 (pa_cons (pv 0) (pa_cons pe_int pa_nil))) (fun _ _ => rfl))) (pss_one (ps_ret (pe_callTy call_tuple_of (by rfl) T.n_tuple (by decide +kernel) (pa_cons (pe_lc (own := [("_law_work", 3)]) (g := (gName 3))  rfl sc_l_some.nd (pi_range1 (by rfl) T.n_range (pa_cons (pv 1) pa_nil)) (blkOk_by (own := [("_law_work", 3)]) (N := n_l_some) (sc := defScope s_l_some) (by decide +kernel)) (fun _ _ _ _ _ => (pg_name (i := 3) sc_l_some.nd rfl (Or.inl rfl))) (fun _ _ _ _ _ => pts_one (pt_cmpR op_gt (pe_call G_l_draw (hr.mono (by decide)) rfl T.g_l_draw (k_l_draw T) (b_l_draw T) .nil pass0 (pa_cons (pv 0) (pa_cons (pe_op op_add (pv 2) pe_int) pa_nil))) pe_int (nomark _))) (fun _ _ _ _ _ => (pv 3))) pa_nil))))), ?_⟩
    obtain ⟨x, y, rfl, p, c, n, rfl, rfl, hP, hl, k⟩ := h.ex
    refine ⟨(by show 3 ≤ sizeLine; decide), fun l0 nl0 => ?_⟩
    have l0p := hP.nep nl0
    have l0c := hP.nec nl0
    refine ⟨_, rfl, ⟨p, c, 3, rfl, hP.upd l0p.symm l0c.symm, by decide, by decide, fun d3 H1 d30 d31 P1 K1 => ?_⟩⟩
    obtain ⟨t, ht, htt⟩ := atI_three (a := 1) (b := 2) (c := 4) d30 d31
    refine ⟨l0, _, d3, _, rfl, rfl, SqL.of (K1 _ _ l0p l0c upd_same), ht, ?_⟩
    have K0 : Kept p c H H1 := (kept_of (Ex.new nl0)).trans K1
    refine ⟨_, rfl, (n : Int), rfl, by omega, by omega, fun D hD => ?_⟩
    have Dp := P1.nep hD
    have Dc := P1.nec hD
    rw [show ((n : Int)).toNat = n from rfl]
    refine lc_range (lo := 0) (n := n) (fun i H' => ∃ out : List Nat, (∀ j ∈ out, j < i) ∧ out.Pairwise (· < ·) ∧ out.length ≤ i ∧ H' D = some (.lst (out.map vNat)) ∧ PoolAt H' p c ∧ Kept p c H H') ⟨[], fun j hj => by simp at hj, List.Pairwise.nil, Nat.le_refl _, upd_same, P1.upd Dp.symm Dc.symm, K0.trans (kept_of (Ex.new hD))⟩ ?_ ?_
    · rintro i H' hi ⟨out, h1, h2, h3, h4, P2, K2⟩
      have ei : (0 : Int) + (i : Int) = (i : Int) := Int.zero_add _
      rw [ei]
      refine ⟨rfl, _, rfl, _, rfl, _, _, rfl, rfl, ⟨p, c, t + 1, rfl, P2, by omega, by omega, fun d H2 d0 d1 P3 K3 => ⟨_, _, rfl, rfl, _, rfl, ?_⟩⟩⟩
      have D3 := K3 _ _ Dp Dc h4
      refine ite2 (fun _ => ?_) (fun _ => ?_)
      · refine ⟨_, rfl, _, D3, small1000 (by rw [List.length_map]; omega), out ++ [i], ?_, ?_, by rw [List.length_append]; show _ + 1 ≤ _; omega, by rw [upd_same, List.map_append] <;> rfl, P3.upd Dp.symm Dc.symm, ?_⟩
        · intro j hj
          rcases List.mem_append.mp hj with hj | hj
          · have := h1 j hj
            omega
          · cases List.mem_singleton.mp hj
            omega
        · rw [List.pairwise_append]
          refine ⟨h2, List.pairwise_singleton _ _, fun a ha b hb => ?_⟩
          cases List.mem_singleton.mp hb
          exact h1 a ha
        · intro u o u1 u2 e
          have e1 : H1 u = some o := K0 u o u1 u2 e
          rw [upd_ne (ne_of_none e1 hD)]
          exact K3 u o u1 u2 (K2 u o u1 u2 e)
      · exact ⟨out, fun j hj => Nat.lt_succ_of_lt (h1 j hj), h2, Nat.le_succ_of_le h3, D3, P3, K2.trans K3⟩
    · rintro H' ⟨out, h1, h2, h3, h4, P2, K2⟩
      refine ⟨D, _, rfl, .inl ⟨SqL.of h4, fun w nw => ?_⟩⟩
      have wp := P2.nep nw
      have wc := P2.nec nw
      exact k w out _ (free_kept P2 K2 nw) h1 h2 upd_same (P2.upd wp.symm wc.symm) (K2.trans (kept_of (Ex.new nw)))
theorem ok_l_main (T : Txt K mg A D) : FnOk P w K mg base CX0 8 A.a_l_main D.d_l_main p_l_main (sp_l_main K A) := by
  have G_l_pool := ok_l_pool (P := P) (w := w) (base := base) T
  have G_l_windows := ok_l_windows (P := P) (w := w) (base := base) T
  have G_Book_init := ok_Book_init (P := P) (w := w) (base := base) T
  have G_joined := ok_joined (P := P) (w := w) (base := base) T
  have G_l_draw := ok_l_draw (P := P) (w := w) (base := base) T
  have G_part := ok_part (P := P) (w := w) (base := base) T
  have G_shifted := ok_shifted (P := P) (w := w) (base := base) T
  have G_l_some := ok_l_some (P := P) (w := w) (base := base) T
  have G_Book_eq := ok_Book_eq (P := P) (w := w) (base := base) T
  refine T.F_l_main.ok sc_l_main (fun vs H Q E h => ?_) (fun cdv Ar outer s H vs Q E hr h => ?_)
  · exact h.len
  · have hu := hu_of hr
    refine ⟨_, (pss_cons (ps_set (i := 1) sc_l_main.nd rfl (Or.inl rfl) (pe_call G_l_pool (hr.mono (by decide)) rfl T.g_l_pool (k_l_pool T) (b_l_pool T) .nil pass0 (pa_cons (pv 0) pa_nil))) (pss_cons (ps_set (i := 2) sc_l_main.nd rfl (Or.inl rfl) (pe_op op_add pe_int (pe_call G_l_draw (hr.mono (by decide)) rfl T.g_l_draw (k_l_draw T) (b_l_draw T) .nil pass0 (pa_cons (pv 1) (pa_cons pe_int pa_nil))))) (pss_cut (ps_if (pt_cmpR op_eq (pe_call G_l_draw (hr.mono (by decide)) rfl T.g_l_draw (k_l_draw T) (b_l_draw T) .nil pass0 (pa_cons (pv 1) (pa_cons pe_int pa_nil))) pe_int (nomark _)) (pss_one (ps_set (i := 2) sc_l_main.nd rfl (Or.inl rfl) pe_int)) pss_nil) (pss_cons (ps_set (i := 3) sc_l_main.nd rfl (Or.inr rfl) (pe_call G_l_windows (hr.mono (by decide)) rfl T.g_l_windows (k_l_windows T) (b_l_windows T) .nil pass0 (pa_cons (pv 1) (pa_cons (pv 2) (pa_cons pe_int pa_nil))))) (pss_cons (ps_set (i := 4) sc_l_main.nd rfl (Or.inl rfl) (pe_call G_l_windows (hr.mono (by decide)) rfl T.g_l_windows (k_l_windows T) (b_l_windows T) .nil pass0 (pa_cons (pv 1) (pa_cons (pe_op op_add pe_int (pe_call G_l_draw (hr.mono (by decide)) rfl T.g_l_draw (k_l_draw T) (b_l_draw T) .nil pass0 (pa_cons (pv 1) (pa_cons pe_int pa_nil)))) (pa_cons pe_int pa_nil))))) (pss_cons (ps_set (i := 5) sc_l_main.nd rfl (Or.inl rfl) (pe_make T.mk_Book G_Book_init (hr.mono (by decide)) (by rfl) T.g_Book (b_Book_init T) .nil (passes_call takes0 (fun _ _ _ _ h => h)) (pa_cons (pv 3) pa_nil))) (pss_cons (ps_set (i := 6) sc_l_main.nd rfl (Or.inl rfl) (pe_make T.mk_Book G_Book_init (hr.mono (by decide)) (by rfl) T.g_Book (b_Book_init T) .nil (passes_call takes0 (fun _ _ _ _ h => h)) (pa_cons (pv 4) pa_nil))) (pss_cons (ps_set (i := 7) sc_l_main.nd rfl (Or.inl rfl) (pe_call G_joined (hr.mono (by decide)) rfl T.g_joined (k_joined T) (b_joined T) .nil pass0 (pa_cons (pv 5) (pa_cons (pv 6) pa_nil)))) (pss_cons (ps_if (PW.pt (pw_or (pt_not (pt_val (pe_callB call_isi (by rfl) T.n_isinstance (by decide +kernel) (pa_cons (pv 7) (pa_cons (pe_glob (v := .ref A.C_Book) rfl T.g_Book rfl) pa_nil))))) (pw_or (pt_cmpR (op_neD hr.units) (pe_fld (pv 7) rfl) (pe_op op_catA (pv 3) (pv 4)) (nomark _)) (pw_or1 (pt_cmpR (op_neD hr.units) (pe_fld (pe_call G_joined (hr.mono (by decide)) rfl T.g_joined (k_joined T) (b_joined T) .nil pass0 (pa_cons (pv 7) (pa_cons (pv 7) pa_nil))) rfl) (pe_op op_repL pe_int (pe_op op_catA (pv 3) (pv 4))) (nomark _)))))) (pss_one (ps_ret pe_bl)) pss_nil) (pss_cons (ps_for PassesOwn.never rfl (pi_range1 (by rfl) T.n_range (pa_cons pe_int pa_nil)) (pg_name (i := 8) sc_l_main.nd rfl (Or.inl rfl)) (pss_cut (ps_set (i := 9) sc_l_main.nd rfl (Or.inl rfl) (pe_orT (pe_call G_l_some (hr.mono (by decide)) rfl T.g_l_some (k_l_some T) (b_l_some T) .nil pass0 (pa_cons (pv 1) (pa_cons (pv 2) pa_nil))) (pe_one (pe_tup (pa_cons (pe_op op_sub (pv 2) pe_int) pa_nil))))) (pss_cons (ps_set (i := 10) sc_l_main.nd rfl (Or.inl rfl) (pe_call G_part (hr.mono (by decide)) rfl T.g_part (k_part T) (b_part T) .nil (passes_call takes0 (fun _ _ _ _ h => h)) (pa_cons (pv 5) (pa_cons (pv 9) pa_nil)))) (pss_cons (ps_if (PW.pt (pw_or (pt_not (pt_val (pe_callB call_isi (by rfl) T.n_isinstance (by decide +kernel) (pa_cons (pv 10) (pa_cons (pe_glob (v := .ref A.C_Book) rfl T.g_Book rfl) pa_nil))))) (pw_or1 (pt_cmpR (op_neD hr.units) (pe_fld (pv 10) rfl) (pe_callTy call_tuple_of (by rfl) T.n_tuple (by decide +kernel) (pa_cons (pe_lc (own := [("_law_work", 11)]) (g := (gName 11)) (tt := tYes) rfl sc_l_main.nd (pi_tup (pv 9)) (blkOk_by (own := [("_law_work", 11)]) (N := n_l_main) (sc := defScope s_l_main) (by decide +kernel)) (fun _ _ _ _ _ => (pg_name (i := 11) sc_l_main.nd rfl (Or.inl rfl))) (fun _ _ _ _ _ => pts_nil) (fun _ _ _ _ _ => (pe_ix (ix_tupB (K := K)) (pv 3) (pv 11) (fun _ _ => rfl)))) pa_nil)) (nomark _))))) (pss_one (ps_ret pe_bl)) pss_nil) (pss_cons (ps_if (PW.pt (pw_or (pt_cmpR (op_ownNe G_Book_eq (hr.mono (by decide)) T.e_Book T.kf_Book (b_Book_eq T) pass0 T.ne_Book T.ob_Book) (pe_call G_part (hr.mono (by decide)) rfl T.g_part (k_part T) (b_part T) .nil (passes_call takes0 (fun _ _ _ _ h => h)) (pa_cons (pv 7) (pa_cons (pv 9) pa_nil))) (pv 10) (nomark _)) (pw_or1 (pt_cmpR (op_ownNe G_Book_eq (hr.mono (by decide)) T.e_Book T.kf_Book (b_Book_eq T) pass0 T.ne_Book T.ob_Book) (pe_call G_part (hr.mono (by decide)) rfl T.g_part (k_part T) (b_part T) .nil (passes_call takes0 (fun _ _ _ _ h => h)) (pa_cons (pe_call G_part (hr.mono (by decide)) rfl T.g_part (k_part T) (b_part T) .nil (passes_call takes0 (fun _ _ _ _ h => h)) (pa_cons (pv 5) (pa_cons (pv 9) pa_nil))) (pa_cons (pe_tupRg rfl (by rfl) T.n_tuple (prg_1 (by rfl) T.n_range (pe_callB call_len_seq (by rfl) T.n_len (by decide +kernel) (pa_cons (pv 9) pa_nil)))) pa_nil))) (pv 10) (nomark _))))) (pss_one (ps_ret pe_bl)) pss_nil) (pss_cons (ps_set (i := 14) sc_l_main.nd rfl (Or.inl rfl) (pe_callB (cr_min rfl) (by rfl) T.n_min (by decide +kernel) (pa_cons (pe_lc (own := [("_law_first", 12), ("_law_last", 13)]) (g := (gTup K 2 (gCons (gName 12) (gCons (gName 13) gNil)))) (tt := tYes) rfl sc_l_main.nd (pi_tup (pv 3)) (blkOk_by (own := [("_law_first", 12), ("_law_last", 13)]) (N := n_l_main) (sc := defScope s_l_main) (by decide +kernel)) (fun _ _ _ _ _ => (pg_tup rfl (pgs_cons (pg_name (i := 12) sc_l_main.nd rfl (Or.inl rfl)) (pgs_cons (pg_name (i := 13) sc_l_main.nd rfl (Or.inl rfl)) pgs_nil)))) (fun _ _ _ _ _ => pts_nil) (fun _ _ _ _ _ => (pv 12))) pa_nil))) (pss_cons (ps_set (i := 15) sc_l_main.nd rfl (Or.inr rfl) (pe_ix ix_list (pe_lst (pa_cons pe_int (pa_cons pe_int (pa_cons (pe_un un_neg (pv 14)) (pa_cons (pe_call G_l_draw (hr.mono (by decide)) rfl T.g_l_draw (k_l_draw T) (b_l_draw T) .nil pass0 (pa_cons (pv 1) (pa_cons (pe_op op_pow pe_int pe_int) pa_nil))) (pa_cons (pe_op op_sub (pe_call G_l_draw (hr.mono (by decide)) rfl T.g_l_draw (k_l_draw T) (b_l_draw T) .nil pass0 (pa_cons (pv 1) (pa_cons (pe_op op_add (pv 14) pe_int) pa_nil))) (pv 14)) pa_nil)))))) (pe_call G_l_draw (hr.mono (by decide)) rfl T.g_l_draw (k_l_draw T) (b_l_draw T) .nil pass0 (pa_cons (pv 1) (pa_cons pe_int pa_nil))) (fun _ _ => rfl))) (pss_cons (ps_set (i := 16) sc_l_main.nd rfl (Or.inl rfl) (pe_call G_shifted (hr.mono (by decide)) rfl T.g_shifted (k_shifted T) (b_shifted T) .nil (passes_call takes0 (fun _ _ _ _ h => h)) (pa_cons (pv 5) (pa_cons (pv 15) pa_nil)))) (pss_cons (ps_if (PW.pt (pw_or (pt_not (pt_val (pe_callB call_isi (by rfl) T.n_isinstance (by decide +kernel) (pa_cons (pv 16) (pa_cons (pe_glob (v := .ref A.C_Book) rfl T.g_Book rfl) pa_nil))))) (pw_or1 (pt_cmpR (op_neD hr.units) (pe_fld (pv 16) rfl) (pe_callTy call_tuple_of (by rfl) T.n_tuple (by decide +kernel) (pa_cons (pe_lc (own := [("_law_first", 12), ("_law_last", 13)]) (g := (gTup K 2 (gCons (gName 12) (gCons (gName 13) gNil)))) (tt := tYes) rfl sc_l_main.nd (pi_tup (pv 3)) (blkOk_by (own := [("_law_first", 12), ("_law_last", 13)]) (N := n_l_main) (sc := defScope s_l_main) (by decide +kernel)) (fun _ _ _ _ _ => (pg_tup rfl (pgs_cons (pg_name (i := 12) sc_l_main.nd rfl (Or.inl rfl)) (pgs_cons (pg_name (i := 13) sc_l_main.nd rfl (Or.inl rfl)) pgs_nil)))) (fun _ _ _ _ _ => pts_nil) (fun _ _ _ _ _ => (pe_tup (pa_cons (pe_op op_add (pv 12) (pv 15)) (pa_cons (pe_op op_add (pv 13) (pv 15)) pa_nil))))) pa_nil)) (nomark _))))) (pss_one (ps_ret pe_bl)) pss_nil) (pss_one (ps_if (PW.pt (pw_or (pt_cmpR (op_ownNe G_Book_eq (hr.mono (by decide)) T.e_Book T.kf_Book (b_Book_eq T) pass0 T.ne_Book T.ob_Book) (pe_call G_shifted (hr.mono (by decide)) rfl T.g_shifted (k_shifted T) (b_shifted T) .nil (passes_call takes0 (fun _ _ _ _ h => h)) (pa_cons (pv 16) (pa_cons (pe_un un_neg (pv 15)) pa_nil))) (pv 5) (nomark _)) (pw_or1 (pt_cmpR (op_ownNe G_Book_eq (hr.mono (by decide)) T.e_Book T.kf_Book (b_Book_eq T) pass0 T.ne_Book T.ob_Book) (pe_call G_part (hr.mono (by decide)) rfl T.g_part (k_part T) (b_part T) .nil (passes_call takes0 (fun _ _ _ _ h => h)) (pa_cons (pv 16) (pa_cons (pv 9) pa_nil))) (pe_call G_shifted (hr.mono (by decide)) rfl T.g_shifted (k_shifted T) (b_shifted T) .nil (passes_call takes0 (fun _ _ _ _ h => h)) (pa_cons (pv 10) (pa_cons (pv 15) pa_nil))) (nomark _))))) (pss_one (ps_ret pe_bl)) pss_nil))))))))))) (pss_cons (ps_if (pt_cmpR (op_ownNe G_Book_eq (hr.mono (by decide)) T.e_Book T.kf_Book (b_Book_eq T) pass0 T.ne_Book T.ob_Book) (pe_call G_part (hr.mono (by decide)) rfl T.g_part (k_part T) (b_part T) .nil (passes_call takes0 (fun _ _ _ _ h => h)) (pa_cons (pv 7) (pa_cons (pe_tupRg rfl (by rfl) T.n_tuple (prg_2 (by rfl) T.n_range (pv 2) (pe_op op_add (pv 2) (pe_callB call_len_seq (by rfl) T.n_len (by decide +kernel) (pa_cons (pv 4) pa_nil))))) pa_nil))) (pv 6) (nomark _)) (pss_one (ps_ret pe_bl)) pss_nil) (pss_one (ps_ret (pe_and (pe_cmpR (op_ownEq G_Book_eq (hr.mono (by decide)) T.e_Book T.kf_Book (b_Book_eq T) pass0) (pe_call G_shifted (hr.mono (by decide)) rfl T.g_shifted (k_shifted T) (b_shifted T) .nil (passes_call takes0 (fun _ _ _ _ h => h)) (pa_cons (pv 7) (pa_cons pe_int pa_nil))) (pe_call G_joined (hr.mono (by decide)) rfl T.g_joined (k_joined T) (b_joined T) .nil pass0 (pa_cons (pe_call G_shifted (hr.mono (by decide)) rfl T.g_shifted (k_shifted T) (b_shifted T) .nil (passes_call takes0 (fun _ _ _ _ h => h)) (pa_cons (pv 5) (pa_cons pe_int pa_nil))) (pa_cons (pe_call G_shifted (hr.mono (by decide)) rfl T.g_shifted (k_shifted T) (b_shifted T) .nil (passes_call takes0 (fun _ _ _ _ h => h)) (pa_cons (pv 6) (pa_cons pe_int pa_nil))) pa_nil))) (nomark _)) (pe_and (pe_cmpR (op_eqD hr.units) (pe_fld (pv 5) rfl) (pv 3) (nomark _)) (pe_one (pe_cmpR (op_eqD hr.units) (pe_fld (pv 6) rfl) (pv 4) (nomark _)))))))))))))))))), ?_⟩
    obtain ⟨s0, ns, rfl, hS, hlen, kfin⟩ := h.ex
    -- pool, many
    refine ⟨_, rfl, ⟨s0, ns, rfl, hS, hlen, fun p c H1 np nc P1 x1 => ?_⟩⟩
    refine ⟨_, rfl, ⟨p, c, 8, rfl, P1, by decide, by decide, fun d1 H2 d10 d11 P2 K2 => ⟨_, _, rfl, rfl, ?_⟩⟩⟩
    -- if draw(5) == 0: many = 40
    refine ⟨fun σ H' => ∃ m : Int, σ = [some (.ref s0), some (.ref p), some (.int m), none, none, none, none, none, none, none, none, none, none, none, none, none, none] ∧ 1 ≤ m ∧ m ≤ 40 ∧ PoolAt H' p c ∧ Ex H H', ?_, ?_⟩
    · refine ⟨_, rfl, ⟨p, c, 5, rfl, P2, by decide, by decide, fun d H3 d0 d2 P3 K3 => ⟨rfl, _, rfl, ite2 (fun _ => ?_) (fun _ => ?_)⟩⟩⟩
      · exact ⟨40, rfl, by decide, by decide, P3, ex_kept np nc x1 (K2.trans K3)⟩
      · exact ⟨1 + d1, rfl, by omega, by omega, P3, ex_kept np nc x1 (K2.trans K3)⟩
    clear P1 P2 K2 x1 d11 d10
    rintro σ H3 ⟨m, rfl, hm1, hm40, P3, x3⟩
    obtain ⟨n, rfl⟩ : ∃ n : Nat, m = (n : Int) := ⟨m.toNat, by omega⟩
    -- windows, others
    refine ⟨_, rfl, _, rfl, ⟨p, c, (n : Int), 12, rfl, P3, by omega, by omega, by decide, by decide, fun w0 ws H5 nw hW hwl hwb P5 K5 => ?_⟩⟩
    refine ⟨_, rfl, _, rfl, ⟨p, c, 8, rfl, P5, by decide, by decide, fun d8 H6 d80 d81 P6 K6 => ⟨_, _, rfl, rfl, ⟨p, c, 1 + d8, 12, rfl, P6, by omega, by omega, by decide, by decide, fun o0 os H7 no hO hol hob P7 K7 => ?_⟩⟩⟩⟩
    have hW7 := hW.kept P5 (K6.trans K7)
    have x7 := ex_kept np nc x3 (K5.trans (K6.trans K7))
    have hin : ∀ q ∈ ws, inWin 1000000 q := fun q hq => by
      obtain ⟨a, b, c⟩ := hwb q hq
      exact ⟨a, b, by omega⟩
    have hio : ∀ q ∈ os, inWin 1000000 q := fun q hq => by
      obtain ⟨a, b, c⟩ := hob q hq
      exact ⟨a, b, by omega⟩
    have hws : ws.length = n := by omega
    have hos1 : 1 ≤ os.length := by omega
    have hos8 : os.length ≤ 8 := by omega
    clear hW P6 P5 K5 K6 K7 x3 hwb hob
    -- book
    have hok : winsD (.tup (ws.map winDa)) = true := winsD_of (by omega) (by omega) hin
    refine ⟨_, rfl, fun b dx nb ndx nbx => ⟨_, _, rfl, b, dx, _, rfl, upd_same, hW7.rp.mono ?_, fun _ H8' e6 => ⟨rfl, ?_⟩, fun hf => absurd hf (by rw [hok]; decide)⟩⟩
    · exact ((Ex.new ndx).trans (Ex.new (by rw [upd_ne nbx.symm]; exact nb)))
    have e8 : Ex H7 (L2.upd H8' b (.ins A.C_Book dx [("windows", .ref w0)])) := Ex.mut (((Ex.new ndx).trans (Ex.new (by rw [upd_ne nbx.symm]; exact nb))).trans e6) nb
    have hB8 : BookAt A.C_Book (L2.upd H8' b (.ins A.C_Book dx [("windows", .ref w0)])) b w0 := ⟨dx, upd_same⟩
    show tSeq _ _ _ _ (L2.upd H8' b (.ins A.C_Book dx [("windows", .ref w0)]))
    generalize L2.upd H8' b (.ins A.C_Book dx [("windows", .ref w0)]) = H8 at e8 hB8
    have hO8 := hO.mono e8
    -- other
    have hok2 : winsD (.tup (os.map winDa)) = true := winsD_of (by omega) (by omega) hio
    refine ⟨_, rfl, fun b2 dx2 nb2 ndx2 nbx2 => ⟨_, _, rfl, b2, dx2, _, rfl, upd_same, hO8.rp.mono ?_, fun _ H9' e6 => ⟨rfl, ?_⟩, fun hf => absurd hf (by rw [hok2]; decide)⟩⟩
    · exact ((Ex.new ndx2).trans (Ex.new (by rw [upd_ne nbx2.symm]; exact nb2)))
    have e9 : Ex H8 (L2.upd H9' b2 (.ins A.C_Book dx2 [("windows", .ref o0)])) := Ex.mut (((Ex.new ndx2).trans (Ex.new (by rw [upd_ne nbx2.symm]; exact nb2))).trans e6) nb2
    have hC9 : BookAt A.C_Book (L2.upd H9' b2 (.ins A.C_Book dx2 [("windows", .ref o0)])) b2 o0 := ⟨dx2, upd_same⟩
    show tSeq _ _ _ _ (L2.upd H9' b2 (.ins A.C_Book dx2 [("windows", .ref o0)]))
    generalize L2.upd H9' b2 (.ins A.C_Book dx2 [("windows", .ref o0)]) = H9 at e9 hC9
    have e79 := e8.trans e9
    have hB9 := hB8.mono e9
    have hW9 := hW7.mono e79
    have hO9 := hO8.mono e9
    have P9 := P7.mono e79
    have x9 := x7.trans e79
    clear e79 e9 e8 hB8 hO8 hO hW7 P7 x7 P3
    -- both
    have hsum : ws.length + os.length ≤ 1000 := by omega
    refine ⟨_, rfl, _, rfl, ⟨_, _, rfl, b, w0, b2, o0, ws, os, rfl, rfl, hB9, hW9, hC9, hO9, hsum, fun jb jw HA nj eA hbj hwj => ?_⟩⟩
    have isBook : ∀ {H2 : Hp} {x y : Addr}, BookAt A.C_Book H2 x y → TyX K H2 (.ref x) (.ref A.C_Book) := fun ⟨z, hz⟩ => .base (.ins hz T.cl_Book T.ty_Book.1 T.ty_Book.2.1 T.ty_Book.2.2 T.ob_Book)
    have kitB : PySem.W.kitOne K (.ref A.C_Book) (.ref A.C_Book) = some true := by simp [PySem.W.kitOne]
    have look : ∀ (x : V), List.lookup (Str.ofString "windows") [(Str.ofString "windows", x)] = some x := fun x => by simp [List.lookup]
    obtain ⟨jx, hbj0⟩ := id hbj
    refine ⟨_, rfl, _, _, _, _, true, rfl, ClsV.own _, isBook hbj, kitB, _, rfl, iteF ?_⟩
    refine ⟨_, rfl, jb, A.C_Book, jx, _, .ref jw, rfl, hbj0, T.cl_Book, T.na_windows, look _, _, rfl, _, rfl, cat_wins (hW9.mono eA) (hO9.mono eA) hsum fun r1 HB eB hr1 => ⟨_, _, dp_wins (hwj.mono eB), dp_wins hr1, shaped_wins _, shaped_wins _, _, rfl, ?_⟩⟩
    rw [eqv_wins, decide_eq_true rfl]
    refine iteF ?_
    have eAB := eA.trans eB
    have hJ := hbj.mono eB
    have hJW := hwj.mono eB
    have hl2 : (ws ++ os).length + (ws ++ os).length ≤ 1000 := by rw [List.length_append]; omega
    refine ⟨_, rfl, _, rfl, ⟨_, _, rfl, jb, jw, jb, jw, _, _, rfl, rfl, hJ, hJW, hJ, hJW, hl2, fun kb kw HC nk eC hbk hwk => ?_⟩⟩
    obtain ⟨kx, hbk0⟩ := id hbk
    refine ⟨kb, A.C_Book, kx, _, .ref kw, rfl, hbk0, T.cl_Book, T.na_windows, look _, _, rfl, _, rfl, cat_wins (hW9.mono (eAB.trans eC)) (hO9.mono (eAB.trans eC)) hsum fun r2 HD eD hr2 => ?_⟩
    refine rep_wins hr2 (fun z => by have h0 : (ws ++ os).length = 0 := (by rw [z] <;> rfl); rw [List.length_append] at h0; omega) hl2 fun r3 HE eE hr3 => ⟨_, _, dp_wins (hwk.mono (eD.trans eE)), dp_wins hr3, shaped_wins _, shaped_wins _, _, rfl, ?_⟩
    rw [eqv_wins, decide_eq_true rfl]
    refine iteF ?_
    have e9E := eAB.trans (eC.trans (eD.trans eE))
    have eBE := eC.trans (eD.trans eE)
    -- for turn in range(3)
    have hBE := hB9.mono e9E
    have hWE := hW9.mono e9E
    have hCE := hC9.mono e9E
    have hOE := hO9.mono e9E
    have hJE := hJ.mono eBE
    have hJWE := hJW.mono eBE
    have PE := P9.mono e9E
    have xE := x9.trans e9E
    clear hbk hwk hbk0 hr3 hr2 hr1 hJ hJW hbj hwj hbj0 hB9 hW9 hC9 hO9 P9 x9 eAB eBE e9E eA eB eC eD eE
    refine ⟨3, rfl, by decide, by decide, for_range (lo := 0) (n := 3) (fun i σ H' => ∃ (v8 v9 v10 v14 v15 v16 : Option V), σ = [some (.ref s0), some (.ref p), some (.int (n : Int)), some (.ref w0), some (.ref o0), some (.ref b), some (.ref b2), some (.ref jb), v8, v9, v10, none, none, none, v14, v15, v16] ∧
      BookAt A.C_Book H' b w0 ∧ WinAt K H' w0 ws ∧ BookAt A.C_Book H' b2 o0 ∧ WinAt K H' o0 os ∧ BookAt A.C_Book H' jb jw ∧ WinAt K H' jw (ws ++ os) ∧ PoolAt H' p c ∧ Ex H H')
      ⟨_, _, _, _, _, _, rfl, hBE, hWE, hCE, hOE, hJE, hJWE, PE, xE⟩ ?_ ?_⟩
    · clear hBE hWE hCE hOE hJE hJWE PE xE
      rintro i σ H8 hi ⟨v8, v9, v10, v14, v15, v16, rfl, hB, hW, hC, hO, hJ, hJW, P8, x8⟩
      -- group
      refine ⟨fun σ H' => ∃ (g : Addr) (row : List Nat), σ = [some (.ref s0), some (.ref p), some (.int (n : Int)), some (.ref w0), some (.ref o0), some (.ref b), some (.ref b2), some (.ref jb), some (.int (0 + (i : Int))), some (.ref g), v10, none, none, none, v14, v15, v16] ∧ (∀ j ∈ row, j < ws.length) ∧ row.Pairwise (· < ·) ∧ row ≠ [] ∧ SqT K H' g (row.map vNat) ∧ PoolAt H' p c ∧ Kept p c H8 H', ?_, ?_⟩
      · refine ⟨_, rfl, _, rfl, ⟨_, _, rfl, p, c, n, rfl, rfl, P8, by omega, fun w1 out H9 nw1 hlt hup hw1 P9 K9 => ⟨_, .inr (.inl ⟨_, SqT.of hw1, rfl⟩), ?_⟩⟩⟩
        cases out with
        | nil =>
          refine iteF ⟨_, rfl, _, _, rfl, rfl, (by show 1 ≤ sizeLine; decide), fun t nt => ⟨t, [n - 1], rfl, fun j hj => ?_, List.pairwise_singleton _ _, by simp, SqT.of ?_, P9.upd (P9.nep nt).symm (P9.nec nt).symm, K9.trans (kept_of (Ex.new nt))⟩⟩
          · cases List.mem_singleton.mp hj
            omega
          · rw [upd_same]
            show some (HO.tup [V.int ((n : Int) - 1)]) = some (HO.tup [V.int (((n - 1 : Nat)) : Int)])
            rw [show ((n : Int) - 1) = (((n - 1 : Nat)) : Int) by omega]
        | cons j0 r => exact iteT ⟨w1, j0 :: r, rfl, fun j hj => by rw [hws]; exact hlt j hj, hup, by simp, SqT.of hw1, P9, K9⟩
      rintro σ HA ⟨g, row, rfl, hrow, hup, hne, hg, PA, KA⟩
      have hBA := hB.kept P8 KA
      have hWA := hW.kept P8 KA
      have hCA := hC.kept P8 KA
      have hOA := hO.kept P8 KA
      have hJA := hJ.kept P8 KA
      have hJWA := hJW.kept P8 KA
      have xA := ex_kept np nc x8 (Kept.refl p c H8) |>.trans (Ex.refl H8)
      have xA : Ex H HA := ex_kept np nc x8 KA
      clear hB hW hC hO hJ hJW KA P8 x8
      have hrl : row.length ≤ 1000 := by
        have := len_le_of_nodup (m := row.map fun j => ((j : Nat) : Int)) (l := (List.range n).map fun j => ((j : Nat) : Int)) (List.pairwise_map.mpr (hup.imp fun h e => by omega)) fun k hk => by
          obtain ⟨j, hj, rfl⟩ := List.mem_map.mp hk
          exact List.mem_map.mpr ⟨j, List.mem_range.mpr (by rw [← hws]; exact hrow j hj), rfl⟩
        rw [List.length_map, List.length_map, List.length_range] at this
        omega
      have sm : smallD (.tup (row.map dNat)) := by show (row.map dNat).length ≤ 1000; rw [List.length_map]; exact hrl
      have pd : partD ws.length (.tup (row.map dNat)) = true := partD_row hrow hup hne
      -- told
      refine ⟨_, rfl, _, rfl, ⟨_, _, rfl, b, w0, ws, _, rfl, hBA, hWA, rp_row hg, sm, fun hf => absurd hf (by rw [pd]; decide), fun r' er _ tb tw HB nt eB hbt hwt => ?_⟩⟩
      cases nats_inj (Da.tup.inj er)
      obtain ⟨tx, hbt0⟩ := id hbt
      refine ⟨_, rfl, _, _, _, _, true, rfl, ClsV.own _, isBook hbt, kitB, _, rfl, iteF ?_⟩
      obtain ⟨wle, was, w1, w2, w3⟩ := id hWA
      refine ⟨_, rfl, tb, A.C_Book, tx, _, .ref tw, rfl, hbt0, T.cl_Book, T.na_windows, look _, _, rfl, g, rfl, ⟨_, ex_t eB hg⟩, fun D hD => lc_tup (K := K) (a := g) (xs := row.map vNat) (fun i H' => ∃ ps : List Addr, H' D = some (.lst (ps.map V.ref)) ∧ PairsAt K H' ps (partW ws (row.take i)) ∧ Ex HB H') ⟨[], upd_same, PairsAt.nil, Ex.new hD⟩ (fun i H' _ ⟨_, _, _, p⟩ => ex_t (eB.trans p) hg) ?_ ?_⟩
      · rintro i y H' hi ⟨ps, p1, p2, p3⟩
        obtain ⟨j, hj, rfl⟩ := nats_get hi
        have hjw := hrow j (List.mem_of_getElem? hj)
        obtain ⟨u, u1, u2⟩ := WinAt.item w2 w3 hjw
        have hl := p2.1
        unfold partW at hl
        rw [List.length_map, List.length_take] at hl
        refine ⟨rfl, _, rfl, _, rfl, w0, _, (j : Int), _, rfl, rfl, ex_t (eB.trans p3) w1, atI_of u1, ?_⟩
        refine ⟨_, p1, small1000 (by rw [List.length_map]; omega), ps ++ [u], by rw [upd_same, List.map_append] <;> rfl, ?_, p3.mut hD⟩
        have e : partW ws (row.take (i + 1)) = partW ws (row.take i) ++ [winAt ws j] := by
          unfold partW
          rw [List.take_succ_eq_append_getElem (List.getElem?_eq_some_iff.mp hj).1, (List.getElem?_eq_some_iff.mp hj).2, List.map_append] <;> rfl
        rw [e]
        exact (p2.add (ex_t (eB.trans p3) u2)).upd p1
      rintro HC ⟨ps, p1, p2, eC⟩
      rw [List.length_map, List.take_length] at p2
      have hpl : (partW ws row).length ≤ 1000 := by unfold partW; rw [List.length_map]; exact hrl
      refine ⟨D, _, rfl, .inl ⟨SqL.of p1, fun t1 n1 => ?_⟩⟩
      have xC : Ex HC (L2.upd HC t1 (.tup (ps.map V.ref))) := Ex.new n1
      have hw1 : WinAt K (L2.upd HC t1 (.tup (ps.map V.ref))) t1 (partW ws row) := WinAt.of (SqT.of upd_same) (p2.mono xC) hpl
      generalize L2.upd HC t1 (.tup (ps.map V.ref)) = HD at xC hw1
      have eBD := eC.trans xC
      refine ⟨_, _, dp_wins (hwt.mono eBD), dp_wins hw1, shaped_wins _, shaped_wins _, _, rfl, ?_⟩
      rw [eqv_wins, decide_eq_true rfl]
      refine iteF ?_
      -- part(both, group) != told
      have eAD := eB.trans eBD
      have pd2 : partD (ws ++ os).length (.tup (row.map dNat)) = true := partD_row (fun j hj => by rw [List.length_append]; have := hrow j hj; omega) hup hne
      refine ⟨_, rfl, _, rfl, ⟨_, _, rfl, jb, jw, _, _, rfl, hJA.mono eAD, hJWA.mono eAD, (rp_row hg).mono eAD, sm, fun hf => absurd hf (by rw [pd2]; decide), fun r' er _ ub uw HE nu eE hbu hwu => ?_⟩⟩
      cases nats_inj (Da.tup.inj er)
      obtain ⟨ux, hbu0⟩ := id hbu
      have eBE := eBD.trans eE
      refine ⟨_, rfl, ub, tb, _, _, _, _, rfl, rfl, hbu0, eBE _ _ hbt0, ⟨_, _, rfl, ub, uw, tb, tw, _, _, rfl, rfl, hbu, hwu, hbt.mono eBE, hwt.mono eBE, _, rfl, _, rfl, ?_⟩⟩
      rw [decide_eq_true (partW_app hrow)]
      refine iteF ?_
      -- part(part(book, group), tuple(range(len(group)))) != told
      have eAE := eAD.trans eE
      refine ⟨_, rfl, _, rfl, ⟨_, _, rfl, b, w0, ws, _, rfl, hBA.mono eAE, hWA.mono eAE, (rp_row hg).mono eAE, sm, fun hf => absurd hf (by rw [pd]; decide), fun r' er _ sb sw HF nsb eF hbs hws2 => ?_⟩⟩
      cases nats_inj (Da.tup.inj er)
      have plen : (partW ws row).length = row.length := by unfold partW; rw [List.length_map]
      have hgl : (row.map vNat).length = row.length := List.length_map ..
      refine ⟨_, rfl, g, _, rfl, .inr (ex_t (eAE.trans eF) hg), (row.length : Int), by rw [hgl], RgOk.of_le (by omega) (by omega) (by omega) (by omega), fun q nq => ?_⟩
      have xq : Ex HF (L2.upd HF q (.tup (rgV 0 (row.length : Int)))) := Ex.new nq
      have hq : SqT K (L2.upd HF q (.tup (rgV 0 (row.length : Int)))) q ((List.range row.length).map vNat) := SqT.of (by rw [upd_same, rgV_nats])
      have sm2 : smallD (.tup ((List.range row.length).map dNat)) := by show ((List.range row.length).map dNat).length ≤ 1000; rw [List.length_map, List.length_range]; exact hrl
      have pd3 : partD (partW ws row).length (.tup ((List.range row.length).map dNat)) = true := partD_row (fun j hj => by rw [plen]; exact List.mem_range.mp hj) List.pairwise_lt_range (fun z => hne (List.eq_nil_of_length_eq_zero (by have := congrArg List.length z; rw [List.length_range] at this; exact this)))
      refine ⟨_, _, rfl, sb, sw, _, _, rfl, hbs.mono xq, hws2.mono xq, rp_row hq, sm2, fun hf => absurd hf (by rw [pd3]; decide), fun r' er _ zb zw HG nzb eG hbz hwz => ?_⟩
      cases nats_inj (Da.tup.inj er)
      obtain ⟨zx, hbz0⟩ := id hbz
      have eBG := (eBE.trans eF).trans (xq.trans eG)
      have eAG := eB.trans eBG
      have q5 : partW (partW ws row) (List.range row.length) = partW ws row := by
        rw [← plen]
        exact partW_range _
      refine ⟨_, rfl, zb, tb, _, _, _, _, rfl, rfl, hbz0, eBG _ _ hbt0, ⟨_, _, rfl, zb, zw, tb, tw, _, _, rfl, rfl, hbz, hwz, hbt.mono eBG, hwt.mono eBG, _, rfl, _, rfl, ?_⟩⟩
      rw [decide_eq_true q5]
      refine iteF ?_
      -- low
      refine ⟨_, rfl, w0, rfl, ⟨_, ex_t eAG w1⟩, fun D2 hD2 => lc_tup (K := K) (a := w0) (xs := was.map V.ref) (fun i H' => H' D2 = some (.lst (((ws.take i).map Prod.fst).map V.int)) ∧ Ex HG H') ⟨upd_same, Ex.new hD2⟩ (fun i H' _ p => ex_t (eAG.trans p.2) w1) ?_ ?_⟩
      · rintro i y H' hi ⟨p1, p2⟩
        obtain ⟨a, q, rfl, hq, et, hil, _⟩ := win_step w2 w3 hi
        refine ⟨a, _, rfl, ex_t (eAG.trans p2) hq, rfl, _, _, rfl, _, _, rfl, rfl, rfl, ?_⟩
        exact ⟨_, rfl, _, p1, small1000 (by rw [List.length_map, List.length_map, List.length_take]; omega), by rw [upd_same, et, List.map_append, List.map_append] <;> rfl, p2.mut hD2⟩
      rintro HH ⟨p1, eH⟩
      rw [List.length_map, w2, List.take_length] at p1
      have hpos : 0 < ws.length := by omega
      refine ⟨D2, _, rfl, SqL.of p1, by rw [List.length_map]; exact hpos, fun low hm hle => ?_⟩
      have hlow : MinW low ws := by
        obtain ⟨q, hq, e⟩ := List.mem_map.mp hm
        exact ⟨⟨q, hq, e⟩, fun q hq => hle _ (List.mem_map_of_mem hq)⟩
      clear hm hle p1
      obtain ⟨lq, lq1, lq2⟩ := hlow.mem
      have hl0 : 0 ≤ low ∧ low ≤ 1000000 := by
        obtain ⟨z1, z2, z3⟩ := hin lq lq1
        omega
      have eBH := eBG.trans eH
      have eAH := eAG.trans eH
      have PH := PA.mono eAH
      clear hbz hwz hbz0 hbs hws2 hbu hwu hbu0 hw1 eAG eBG eAE eBE eAD eBD
      -- by
      have t30 : (10 : Int) ^ (30 : Int).toNat = 1000000000000000000000000000000 := by decide
      refine ⟨_, rfl, _, rfl, _, rfl, _, _, rfl, rfl, ⟨by decide, by decide, by decide⟩, ⟨p, c, _, rfl, PH, by rw [t30]; decide, by rw [t30]; decide, fun d4 HI d40 d41 PI KI => ?_⟩⟩
      refine ⟨_, rfl, _, rfl, _, _, rfl, rfl, ⟨p, c, low + 1, rfl, PI, by omega, by omega, fun d5 HJ d50 d51 PJ KJ => ?_⟩⟩
      refine ⟨_, rfl, _, _, rfl, rfl, (by show 5 ≤ sizeLine; decide), fun l0 nl0 => ?_⟩
      have l0p := PJ.nep nl0
      have l0c := PJ.nec nl0
      refine ⟨_, rfl, ⟨p, c, 5, rfl, PJ.upd l0p.symm l0c.symm, by decide, by decide, fun d6 HK d60 d61 PK KK => ?_⟩⟩
      obtain ⟨z, hz, hz0⟩ : ∃ z : Int, atI [V.int 0, V.int 1, V.int (-low), V.int d4, V.int (d5 - low)] d6 = some (.int z) ∧ 0 ≤ low + z := by
        have : d6 = 0 ∨ d6 = 1 ∨ d6 = 2 ∨ d6 = 3 ∨ d6 = 4 := by omega
        rcases this with rfl | rfl | rfl | rfl | rfl
        · exact ⟨0, rfl, by omega⟩
        · exact ⟨1, rfl, by omega⟩
        · exact ⟨-low, rfl, by omega⟩
        · exact ⟨d4, rfl, by omega⟩
        · exact ⟨d5 - low, rfl, by omega⟩
      refine ⟨l0, _, _, _, rfl, rfl, SqL.of (KK _ _ l0p l0c upd_same), hz, ?_⟩
      have KHK : Kept p c HH HK := (KI.trans KJ).trans ((kept_of (Ex.new nl0)).trans KK)
      have hBK := (hBA.mono eAH).kept PH KHK
      have hWK := (hWA.mono eAH).kept PH KHK
      have hCK := (hCA.mono eAH).kept PH KHK
      have hOK := (hOA.mono eAH).kept PH KHK
      have hJK := (hJA.mono eAH).kept PH KHK
      have hJWK := (hJWA.mono eAH).kept PH KHK
      have hTK := (hbt.mono eBH).kept PH KHK
      have hTWK := (hwt.mono eBH).kept PH KHK
      have hgK := sqt_kept (ex_t eAH hg) PH KHK
      have xK := ex_kept np nc (xA.trans eAH) KHK
      clear KHK KK KJ KI PJ PI PH hBA hWA hCA hOA hJA hJWA hbt hwt hg xA w1 w2 w3
      have hby : byD ws (.int z) = true := byD_of fun q hq => by
        have := hlow.le q hq
        omega
      -- moved
      show tSeq _ _ _ [some (.ref s0), some (.ref p), some (.int (n : Int)), some (.ref w0), some (.ref o0), some (.ref b), some (.ref b2), some (.ref jb), some (.int (0 + (i : Int))), some (.ref g), some (.ref tb), none, none, none, some (.int low), some (.int z), v16] _
      refine ⟨_, rfl, _, rfl, ⟨_, _, rfl, b, w0, ws, .int z, rfl, hBK, hWK, hpos, .int _, fun hf => absurd hf (by rw [hby]; decide), fun z' ez _ mb mw HL nmb eL hbm hwm => ?_⟩⟩
      cases ez
      obtain ⟨mx, hbm0⟩ := id hbm
      obtain ⟨wle', was', w1, w2, w3⟩ := id hWK
      refine ⟨_, rfl, _, _, _, _, true, rfl, ClsV.own _, isBook hbm, kitB, _, rfl, iteF ?_⟩
      refine ⟨_, rfl, mb, A.C_Book, mx, _, .ref mw, rfl, hbm0, T.cl_Book, T.na_windows, look _, _, rfl, w0, rfl, ⟨_, ex_t eL w1⟩, fun D3 hD3 => lc_tup (K := K) (a := w0) (xs := was'.map V.ref) (fun i H' => ∃ ps : List Addr, H' D3 = some (.lst (ps.map V.ref)) ∧ PairsAt K H' ps (shW z (ws.take i)) ∧ Ex HL H') ⟨[], upd_same, PairsAt.nil, Ex.new hD3⟩ (fun i H' _ ⟨_, _, _, p⟩ => ex_t (eL.trans p) w1) ?_ ?_⟩
      · rintro i y H' hi ⟨ps, p1, p2, p3⟩
        obtain ⟨a, q, rfl, hq, et, hil, _⟩ := win_step w2 w3 hi
        refine ⟨a, _, rfl, ex_t (eL.trans p3) hq, rfl, _, _, rfl, _, _, rfl, rfl, rfl, ?_⟩
        refine ⟨_, rfl, _, rfl, _, _, rfl, rfl, _, rfl, _, rfl, _, _, rfl, rfl, (by show 2 ≤ sizeLine; decide), fun t nt => ?_⟩
        have x2 : Ex H' (L2.upd H' t (.tup [.int (q.1 + z), .int (q.2 + z)])) := Ex.new nt
        have hl := p2.1
        rw [shW_len, List.length_take] at hl
        refine ⟨_, x2 _ _ p1, small1000 (by rw [List.length_map]; omega), ps ++ [t], by rw [upd_same, List.map_append] <;> rfl, ?_, (p3.trans x2).mut hD3⟩
        have e : shW z (ws.take (i + 1)) = shW z (ws.take i) ++ [(q.1 + z, q.2 + z)] := by
          unfold shW
          rw [et, List.map_append] <;> rfl
        rw [e]
        exact ((p2.mono x2).add (SqT.of upd_same)).upd (x2 _ _ p1)
      rintro HM ⟨ps, p1, p2, eM⟩
      rw [List.length_map, w2, List.take_length] at p2
      refine ⟨D3, _, rfl, .inl ⟨SqL.of p1, fun t2 n2 => ?_⟩⟩
      have xM : Ex HM (L2.upd HM t2 (.tup (ps.map V.ref))) := Ex.new n2
      have hw2 : WinAt K (L2.upd HM t2 (.tup (ps.map V.ref))) t2 (shW z ws) := WinAt.of (SqT.of upd_same) (p2.mono xM) (by rw [shW_len]; exact wle')
      generalize L2.upd HM t2 (.tup (ps.map V.ref)) = HN at xM hw2
      have eLN := eM.trans xM
      refine ⟨_, _, dp_wins (hwm.mono eLN), dp_wins hw2, shaped_wins _, shaped_wins _, _, rfl, ?_⟩
      rw [eqv_wins, decide_eq_true rfl]
      refine iteF ?_
      -- shifted(moved, -by) != book
      have eKN := eL.trans eLN
      have hpm : 0 < (shW z ws).length := by rw [shW_len]; exact hpos
      have hby2 : byD (shW z ws) (.int (-z)) = true := byD_of fun q hq => by
        obtain ⟨r, hr, rfl⟩ := List.mem_map.mp hq
        obtain ⟨g1, _, _⟩ := hin r hr
        show 0 ≤ r.1 + z + -z
        omega
      refine ⟨_, rfl, _, rfl, _, rfl, ⟨_, _, rfl, mb, mw, _, .int (-z), rfl, hbm.mono eLN, hwm.mono eLN, hpm, .int _, fun hf => absurd hf (by rw [hby2]; decide), fun z' ez _ yb yw HO' nyb eO hby' hwy => ?_⟩⟩
      cases ez
      obtain ⟨yx, hby0⟩ := id hby'
      have eKO := eKN.trans eO
      obtain ⟨bx, hbK0⟩ := hBK.mono eKO
      refine ⟨_, rfl, yb, b, _, _, _, _, rfl, rfl, hby0, hbK0, ⟨_, _, rfl, yb, yw, b, w0, _, _, rfl, rfl, hby', hwy, hBK.mono eKO, hWK.mono eKO, _, rfl, _, rfl, ?_⟩⟩
      rw [decide_eq_true (sh_back z ws)]
      refine iteF ?_
      -- part(moved, group) != shifted(told, by)
      have eLO := eLN.trans eO
      have pd4 : partD (shW z ws).length (.tup (row.map dNat)) = true := by rw [shW_len]; exact pd
      refine ⟨_, rfl, _, rfl, ⟨_, _, rfl, mb, mw, _, _, rfl, hbm.mono eLO, hwm.mono eLO, (rp_row hgK).mono eKO, sm, fun hf => absurd hf (by rw [pd4]; decide), fun r' er _ qb qw HP nqb eP hbq hwq => ?_⟩⟩
      cases nats_inj (Da.tup.inj er)
      have hpp : 0 < (partW ws row).length := by
        rw [plen]
        exact List.length_pos_iff.mpr hne
      have hby3 : byD (partW ws row) (.int z) = true := byD_of fun q hq => by
        obtain ⟨j, hj, rfl⟩ := List.mem_map.mp hq
        have := hlow.le _ (winAt_mem (hrow j hj))
        omega
      have eKP := eKO.trans eP
      refine ⟨_, rfl, _, rfl, ⟨_, _, rfl, tb, tw, _, .int z, rfl, hTK.mono eKP, hTWK.mono eKP, hpp, .int _, fun hf => absurd hf (by rw [hby3]; decide), fun z' ez _ fb fw HQ nfb eQ hbf hwf => ?_⟩⟩
      cases ez
      obtain ⟨qx, hbq0⟩ := hbq.mono eQ
      obtain ⟨fx, hbf0⟩ := id hbf
      refine ⟨qb, fb, _, _, _, _, rfl, rfl, hbq0, hbf0, ⟨_, _, rfl, qb, qw, fb, fw, _, _, rfl, rfl, hbq.mono eQ, hwq.mono eQ, hbf, hwf, _, rfl, _, rfl, ?_⟩⟩
      rw [decide_eq_true (partW_sh hrow)]
      have eKQ := eKP.trans eQ
      exact iteF ⟨_, _, _, _, _, _, rfl, hBK.mono eKQ, hWK.mono eKQ, hCK.mono eKQ, hOK.mono eKQ, hJK.mono eKQ, hJWK.mono eKQ, PK.mono eKQ, xK.trans eKQ⟩
    · clear hBE hWE hCE hOE hJE hJWE PE xE
      rintro σ H8 ⟨v8, v9, v10, v14, v15, v16, rfl, hB, hW, hC, hO, hJ, hJW, P8, x8⟩
      obtain ⟨_, oas, o1, o2, o3⟩ := id hO
      have ol : (oas.map V.ref).length = os.length := by rw [List.length_map, o2]
      -- part(both, tuple(range(many, many + len(others)))) != other
      refine ⟨_, rfl, _, rfl, _, rfl, _, rfl, o0, _, rfl, .inr o1, _, _, rfl, rfl, _, _, rfl, rfl, RgOk.of_le (by omega) (by omega) (by omega) (by omega), fun q nq => ?_⟩
      have xq : Ex H8 (L2.upd H8 q (.tup (rgV (n : Int) ((n : Int) + ((oas.map V.ref).length : Int))))) := Ex.new nq
      have hq : SqT K (L2.upd H8 q (.tup (rgV (n : Int) ((n : Int) + ((oas.map V.ref).length : Int))))) q (((List.range os.length).map fun i => n + i).map vNat) := SqT.of (by rw [upd_same, rgV_from, ol])
      have mem2 : ∀ j ∈ ((List.range os.length).map fun i => n + i), j < (ws ++ os).length := fun j hj => by
        obtain ⟨i, hi, rfl⟩ := List.mem_map.mp hj
        have := List.mem_range.mp hi
        rw [List.length_append]
        omega
      have sm3 : smallD (.tup (((List.range os.length).map fun i => n + i).map dNat)) := by show (((List.range os.length).map fun i => n + i).map dNat).length ≤ 1000; rw [List.length_map, List.length_map, List.length_range]; omega
      have pd5 : partD (ws ++ os).length (.tup (((List.range os.length).map fun i => n + i).map dNat)) = true := partD_row mem2 (List.pairwise_map.mpr (List.pairwise_lt_range.imp fun h => by omega)) (fun z => by
        have h0 := congrArg List.length z
        rw [List.length_map, List.length_range, List.length_nil] at h0
        omega)
      refine ⟨_, _, rfl, jb, jw, _, _, rfl, hJ.mono xq, hJW.mono xq, rp_row hq, sm3, fun hf => absurd hf (by rw [pd5]; decide), fun r' er _ yb yw HA nyb eA' hby hwy => ?_⟩
      cases nats_inj (Da.tup.inj er)
      have eA := xq.trans eA'
      obtain ⟨yx, hby0⟩ := id hby
      obtain ⟨cx, hC0⟩ := hC.mono eA
      have q7 : partW (ws ++ os) ((List.range os.length).map fun i => n + i) = os := by
        rw [← hws]
        exact partW_rest ws os
      refine ⟨_, rfl, yb, b2, _, _, _, _, rfl, rfl, hby0, hC0, ⟨_, _, rfl, yb, yw, b2, o0, _, _, rfl, rfl, hby, hwy, hC.mono eA, hO.mono eA, _, rfl, _, rfl, ?_⟩⟩
      rw [decide_eq_true q7]
      refine iteF ?_
      -- shifted(both, 5) == joined(shifted(book, 5), shifted(other, 5))
      have hin5 : byD ws (.int 5) = true := byD_of fun q hq => by
        obtain ⟨g1, _, _⟩ := hin q hq
        omega
      have hio5 : byD os (.int 5) = true := byD_of fun q hq => by
        obtain ⟨g1, _, _⟩ := hio q hq
        omega
      have hb5 : byD (ws ++ os) (.int 5) = true := byD_of fun q hq => by
        rcases List.mem_append.mp hq with hq | hq
        · obtain ⟨g1, _, _⟩ := hin q hq
          omega
        · obtain ⟨g1, _, _⟩ := hio q hq
          omega
      refine ⟨_, rfl, ⟨_, _, rfl, jb, jw, _, .int 5, rfl, hJ.mono eA, hJW.mono eA, by rw [List.length_append]; omega, .int _, fun hf => absurd hf (by rw [hb5]; decide), fun z' ez _ fb fw HB nfb eB hbf hwf => ?_⟩⟩
      cases ez
      have eAB := eA.trans eB
      refine ⟨_, rfl, ⟨_, _, rfl, b, w0, _, .int 5, rfl, hB.mono eAB, hW.mono eAB, by omega, .int _, fun hf => absurd hf (by rw [hin5]; decide), fun z' ez _ gb gw HC ngb eC hbg hwg => ?_⟩⟩
      cases ez
      have eAC := eAB.trans eC
      refine ⟨_, rfl, ⟨_, _, rfl, b2, o0, _, .int 5, rfl, hC.mono eAC, hO.mono eAC, by omega, .int _, fun hf => absurd hf (by rw [hio5]; decide), fun z' ez _ kb kw HD nkb eD hbk hwk => ?_⟩⟩
      cases ez
      have eAD := eAC.trans eD
      refine ⟨_, _, rfl, gb, gw, kb, kw, _, _, rfl, rfl, hbg.mono eD, hwg.mono eD, hbk, hwk, by rw [shW_len, shW_len]; exact hsum, fun lb lw HE nlb eE hbl hwl => ?_⟩
      have eAE := eAD.trans eE
      have eBE := eC.trans (eD.trans eE)
      obtain ⟨fx, hbf0⟩ := hbf.mono eBE
      obtain ⟨lx, hbl0⟩ := id hbl
      refine ⟨fb, lb, _, _, _, _, rfl, rfl, hbf0, hbl0, ⟨_, _, rfl, fb, fw, lb, lw, _, _, rfl, rfl, hbf.mono eBE, hwf.mono eBE, hbl, hwl, _, rfl, _, rfl, ?_⟩⟩
      have q8 : shW 5 (ws ++ os) = shW 5 ws ++ shW 5 os := List.map_append ..
      rw [decide_eq_true q8]
      obtain ⟨bx, hB0⟩ := hB.mono eAE
      obtain ⟨cx', hC0'⟩ := hC.mono eAE
      refine iteT ⟨_, rfl, b, A.C_Book, bx, _, .ref w0, rfl, hB0, T.cl_Book, T.na_windows, look _, _, rfl, _, _, dp_wins (hW.mono eAE), dp_wins (hW.mono eAE), shaped_wins _, shaped_wins _, _, rfl, ?_⟩
      rw [eqv_wins, decide_eq_true rfl]
      refine iteT ⟨_, rfl, b2, A.C_Book, cx', _, .ref o0, rfl, hC0', T.cl_Book, T.na_windows, look _, _, rfl, _, _, dp_wins (hO.mono eAE), dp_wins (hO.mono eAE), shaped_wins _, shaped_wins _, ?_⟩
      rw [eqv_wins, decide_eq_true rfl]
      exact kfin _ (x8.trans eAE)
theorem ok_l_told (T : Txt K mg A D) : FnOk P w K mg base CX0 8 A.a_l_told D.d_l_told p_l_told (sp_l_told5 K A) := by
  have G_part := ok_part (P := P) (w := w) (base := base) T
  have G_shifted := ok_shifted (P := P) (w := w) (base := base) T
  refine T.F_l_told.ok sc_l_told (fun vs H Q E h => ?_) (fun cdv Ar outer s H vs Q E hr h => ?_)
  · exact h.len
  · have hu := hu_of hr
    refine ⟨_, (pss_cons (ps_set (i := 3) sc_l_told.nd rfl (Or.inl rfl) pe_str) (pss_cons (ps_try_as (i := 4) rfl rfl sc_l_told.nd rfl rfl ⟨rfl, by decide, .inl T.g_MiddleError⟩ takes0 (fun W pn xe tk _ => (pss_one (ps_if (pt_cmpR op_eq (pv 0) pe_int (nomark _)) (pss_one (ps_expr (pe_callS G_part (hr.mono (by decide)) (by rfl) T.g_part (k_part T) (b_part T) (fun σ => passAt tk σ) (pa_cons (pv 1) (pa_cons (pv 2) pa_nil))))) (pss_one (ps_expr (pe_callS G_shifted (hr.mono (by decide)) (by rfl) T.g_shifted (k_shifted T) (b_shifted T) (fun σ => passAt tk σ) (pa_cons (pv 1) (pa_cons (pv 2) pa_nil)))))))) (fun a oe cls d pn hz hf => (pss_one (ps_set (i := 3) sc_l_told.nd rfl (Or.inl rfl) (pe_lst (pa_cons (pe_callB (call_isAny hz hf) (by rfl) T.n_isinstance (by decide +kernel) (pa_cons (pv 4) (pa_cons (pe_glob (v := .ref A.C_NoGroup) rfl T.g_NoGroup rfl) pa_nil))) (pa_cons (pe_callB (call_isAny hz hf) (by rfl) T.n_isinstance (by decide +kernel) (pa_cons (pv 4) (pa_cons (pe_glob (v := .ref A.C_NoNumber) rfl T.g_NoNumber rfl) pa_nil))) pa_nil))))))) (pss_one (ps_ret (pv 3))))), ?_⟩
    obtain ⟨x, y, z, rfl, n, b, w0, ws, d, rfl, rfl, hb, hW, hpos, hR, sm, kQ, kE⟩ := h.ex
    refine ⟨_, rfl, rfl, _, rfl, ite2 (fun c0 => ?_) (fun c0 => ?_)⟩
    · have n0 : n = 0 := by
        have := of_decide_eq_true c0
        cases this
        rfl
      subst n0
      rw [if_pos rfl] at kQ kE
      refine ⟨_, rfl, _, rfl, ⟨_, _, rfl, b, w0, ws, d, rfl, hb, hW, hR, sm, fun hf H1 e1 => ?_, fun row er ht b2 w2 H1 n2 e1 hb2 hw2 => ⟨_, rfl, kQ ht H1 e1⟩⟩⟩
      refine ⟨true, T.mm_NoGroup, fun _ ax nax => ?_, fun q => nomatch q⟩
      refine ⟨_, rfl, A.C_NoGroup, _, _, true, rfl, rfl, T.x_NoGroup, rfl, fun u r => r, T.k_NoGroup_NoGroup, ?_⟩
      refine ⟨_, rfl, A.C_NoGroup, _, _, false, rfl, rfl, T.x_NoGroup, rfl, fun u r => r, T.k_NoGroup_NoNumber, (by show 2 ≤ sizeLine; decide), fun l nl => ?_⟩
      exact ⟨_, rfl, kE hf l _ (e1.trans (Ex.new nl)) upd_same⟩
    · have n0 : n ≠ 0 := by
        intro e
        rw [e] at c0
        exact absurd c0 (by decide)
      rw [if_neg n0] at kQ kE
      have e1' : decide (n = 0) = false := decide_eq_false n0
      have e2' : decide (n ≠ 0) = true := decide_eq_true n0
      rw [e1', e2'] at kE
      refine ⟨_, rfl, _, rfl, ⟨_, _, rfl, b, w0, ws, d, rfl, hb, hW, hpos, hR, fun hf H1 e1 => ?_, fun zz er ht b2 w2 H1 n2 e1 hb2 hw2 => ⟨_, rfl, kQ ht H1 e1⟩⟩⟩
      refine ⟨true, T.mm_NoNumber, fun _ ax nax => ?_, fun q => nomatch q⟩
      refine ⟨_, rfl, A.C_NoNumber, _, _, false, rfl, rfl, T.x_NoNumber, rfl, fun u r => r, T.k_NoNumber_NoGroup, ?_⟩
      refine ⟨_, rfl, A.C_NoNumber, _, _, true, rfl, rfl, T.x_NoNumber, rfl, fun u r => r, T.k_NoNumber_NoNumber, (by show 2 ≤ sizeLine; decide), fun l nl => ?_⟩
      exact ⟨_, rfl, kE hf l _ (e1.trans (Ex.new nl)) upd_same⟩
theorem ok_l_more (T : Txt K mg A D) : FnOk P w K mg base CX0 9 A.a_l_more D.d_l_more p_l_more (sp_l_more K A) := by
  have G_l_pool := ok_l_pool (P := P) (w := w) (base := base) T
  have G_l_windows := ok_l_windows (P := P) (w := w) (base := base) T
  have G_Book_init := ok_Book_init (P := P) (w := w) (base := base) T
  have G_l_draw := ok_l_draw (P := P) (w := w) (base := base) T
  have G_l_told := ok_l_told (P := P) (w := w) (base := base) T
  refine T.F_l_more.ok sc_l_more (fun vs H Q E h => ?_) (fun cdv Ar outer s H vs Q E hr h => ?_)
  · exact h.len
  · have hu := hu_of hr
    refine ⟨_, (pss_cons (ps_set (i := 1) sc_l_more.nd rfl (Or.inl rfl) (pe_call G_l_pool (hr.mono (by decide)) rfl T.g_l_pool (k_l_pool T) (b_l_pool T) .nil pass0 (pa_cons (pv 0) pa_nil))) (pss_cons (ps_set (i := 2) sc_l_more.nd rfl (Or.inl rfl) (pe_op op_add pe_int (pe_call G_l_draw (hr.mono (by decide)) rfl T.g_l_draw (k_l_draw T) (b_l_draw T) .nil pass0 (pa_cons (pv 1) (pa_cons pe_int pa_nil))))) (pss_cons (ps_set (i := 3) sc_l_more.nd rfl (Or.inl rfl) (pe_call G_l_windows (hr.mono (by decide)) rfl T.g_l_windows (k_l_windows T) (b_l_windows T) .nil pass0 (pa_cons (pv 1) (pa_cons (pv 2) (pa_cons pe_int pa_nil))))) (pss_cons (ps_set (i := 4) sc_l_more.nd rfl (Or.inl rfl) (pe_make T.mk_Book G_Book_init (hr.mono (by decide)) (by rfl) T.g_Book (b_Book_init T) .nil (passes_call takes0 (fun _ _ _ _ h => h)) (pa_cons (pv 3) pa_nil))) (pss_cons (ps_set (i := 5) sc_l_more.nd rfl (Or.inl rfl) (pe_lst (pa_cons (pe_tup pa_nil) (pa_cons (pe_lst (pa_cons pe_int pa_nil)) (pa_cons (pe_tup (pa_cons (pv 2) pa_nil)) (pa_cons (pe_tup (pa_cons (pe_un un_neg pe_int) pa_nil)) (pa_cons (pe_tup (pa_cons pe_int (pa_cons pe_int pa_nil))) (pa_cons (pe_tup (pa_cons pe_bl pa_nil)) (pa_cons (pe_tup (pa_cons pe_str pa_nil)) (pa_cons pe_non (pa_cons pe_int (pa_cons pe_str (pa_cons pe_dnewK (pa_cons (pe_tup (pa_cons pe_int (pa_cons pe_non pa_nil))) (pa_cons (pe_op op_catA (pe_tupRg rfl (by rfl) T.n_tuple (prg_1 (by rfl) T.n_range (pv 2))) (pe_tup (pa_cons (pe_op op_sub (pv 2) pe_int) pa_nil))) (pa_cons (pe_tup (pa_cons (pe_tup (pa_cons pe_int pa_nil)) pa_nil)) pa_nil)))))))))))))))) (pss_cut (ps_if (pt_cmpR op_gt (pv 2) pe_int (nomark _)) (pss_one (ps_set (i := 5) sc_l_more.nd rfl (Or.inl rfl) (pe_op op_cat (pv 5) (pe_lst (pa_cons (pe_turn (pe_tupRg rfl (by rfl) T.n_tuple (prg_1 (by rfl) T.n_range (pv 2))) (po_some (pe_un un_neg pe_int))) (pa_cons (pe_tup (pa_cons pe_int (pa_cons pe_int pa_nil))) (pa_cons (pe_tup (pa_cons pe_int (pa_cons (pe_op op_sub (pv 2) pe_int) (pa_cons pe_int pa_nil)))) pa_nil))))))) pss_nil) (pss_cons (ps_for PassesOwn.never rfl (pi_list (pv 5)) (pg_name (i := 6) sc_l_more.nd rfl (Or.inl rfl)) (pss_one (ps_if (pt_cmpR (op_neD hr.units) (pe_call G_l_told (hr.mono (by decide)) rfl T.g_l_told (k_l_told T) (b_l_told T) .nil pass0 (pa_cons pe_int (pa_cons (pv 4) (pa_cons (pv 6) pa_nil)))) (pe_lst (pa_cons pe_bl (pa_cons pe_bl pa_nil))) (nomark _)) (pss_one (ps_ret pe_bl)) pss_nil))) (pss_cons (ps_set (i := 9) sc_l_more.nd rfl (Or.inl rfl) (pe_callB (cr_min rfl) (by rfl) T.n_min (by decide +kernel) (pa_cons (pe_lc (own := [("_law_first", 7), ("_law_last", 8)]) (g := (gTup K 2 (gCons (gName 7) (gCons (gName 8) gNil)))) (tt := tYes) rfl sc_l_more.nd (pi_tup (pv 3)) (blkOk_by (own := [("_law_first", 7), ("_law_last", 8)]) (N := n_l_more) (sc := defScope s_l_more) (by decide +kernel)) (fun _ _ _ _ _ => (pg_tup rfl (pgs_cons (pg_name (i := 7) sc_l_more.nd rfl (Or.inl rfl)) (pgs_cons (pg_name (i := 8) sc_l_more.nd rfl (Or.inl rfl)) pgs_nil)))) (fun _ _ _ _ _ => pts_nil) (fun _ _ _ _ _ => (pv 7))) pa_nil))) (pss_cons (ps_for PassesOwn.never rfl (pi_list (pe_lst (pa_cons pe_non (pa_cons pe_bl (pa_cons pe_bl (pa_cons pe_str (pa_cons (pe_tup (pa_cons pe_int pa_nil)) (pa_cons (pe_lst (pa_cons pe_int pa_nil)) (pa_cons (pe_op op_sub (pe_un un_neg (pv 9)) pe_int) (pa_cons (pe_un un_neg (pe_op op_pow pe_int pe_int)) (pa_cons pe_dnewK pa_nil))))))))))) (pg_name (i := 6) sc_l_more.nd rfl (Or.inl rfl)) (pss_one (ps_if (pt_cmpR (op_neD hr.units) (pe_call G_l_told (hr.mono (by decide)) rfl T.g_l_told (k_l_told T) (b_l_told T) .nil pass0 (pa_cons pe_int (pa_cons (pv 4) (pa_cons (pv 6) pa_nil)))) (pe_lst (pa_cons pe_bl (pa_cons pe_bl pa_nil))) (nomark _)) (pss_one (ps_ret pe_bl)) pss_nil))) (pss_cons (ps_if (PW.pt (pw_and (pt_cmpR op_gt (pv 2) pe_int (nomark _)) (pw_and1 (pt_cmpR op_ne (pe_call G_l_told (hr.mono (by decide)) rfl T.g_l_told (k_l_told T) (b_l_told T) .nil pass0 (pa_cons pe_int (pa_cons (pv 4) (pa_cons (pe_tup (pa_cons (pe_op op_sub (pv 2) pe_int) pa_nil)) pa_nil)))) pe_str (nomark _))))) (pss_one (ps_ret pe_bl)) pss_nil) (pss_one (ps_ret (pe_and (pe_cmpR op_eq (pe_call G_l_told (hr.mono (by decide)) rfl T.g_l_told (k_l_told T) (b_l_told T) .nil pass0 (pa_cons pe_int (pa_cons (pv 4) (pa_cons (pe_un un_neg (pv 9)) pa_nil)))) pe_str (nomark _)) (pe_and (pe_cmpR op_eq (pe_call G_l_told (hr.mono (by decide)) rfl T.g_l_told (k_l_told T) (b_l_told T) .nil pass0 (pa_cons pe_int (pa_cons (pv 4) (pa_cons (pe_op op_pow pe_int pe_int) pa_nil)))) pe_str (nomark _)) (pe_one (pe_cmpR op_eq (pe_call G_l_told (hr.mono (by decide)) rfl T.g_l_told (k_l_told T) (b_l_told T) .nil pass0 (pa_cons pe_int (pa_cons (pv 4) (pa_cons (pe_tupRg rfl (by rfl) T.n_tuple (prg_1 (by rfl) T.n_range (pv 2))) pa_nil)))) pe_str (nomark _))))))))))))))))), ?_⟩
    obtain ⟨s0, ns, rfl, hS, hlen, kfin⟩ := h.ex
    -- pool, many
    refine ⟨_, rfl, ⟨s0, ns, rfl, hS, hlen, fun p c H1 np nc P1 x1 => ?_⟩⟩
    refine ⟨_, rfl, ⟨p, c, 8, rfl, P1, by decide, by decide, fun d1 H2 d10 d11 P2 K2 => ⟨_, _, rfl, rfl, ?_⟩⟩⟩
    obtain ⟨n, hn⟩ : ∃ n : Nat, 1 + d1 = (n : Int) := ⟨(1 + d1).toNat, by omega⟩
    show tSeq _ _ _ [some (.ref s0), some (.ref p), some (.int (1 + d1)), none, none, none, none, none, none, none] _
    rw [hn]
    refine ⟨_, rfl, _, rfl, ⟨p, c, (n : Int), 12, rfl, P2, by omega, by omega, by decide, by decide, fun w0 ws H5 nw hW hwl hwb P5 K5 => ?_⟩⟩
    have x5 := ex_kept np nc x1 (K2.trans K5)
    have hin : ∀ q ∈ ws, inWin 1000000 q := fun q hq => by
      obtain ⟨a, b, c⟩ := hwb q hq
      exact ⟨a, b, by omega⟩
    have hws : ws.length = n := by omega
    have hn1 : 1 ≤ n := by omega
    have hn8 : n ≤ 8 := by omega
    clear P1 P2 K2 K5 P5 x1 hwb hwl
    -- book
    have hok : winsD (.tup (ws.map winDa)) = true := winsD_of (by omega) (by omega) hin
    refine ⟨_, rfl, fun b dx nb ndx nbx => ⟨_, _, rfl, b, dx, _, rfl, upd_same, hW.rp.mono ?_, fun _ H6 e6 => ⟨rfl, ?_⟩, fun hf => absurd hf (by rw [hok]; decide)⟩⟩
    · exact ((Ex.new ndx).trans (Ex.new (by rw [upd_ne nbx.symm]; exact nb)))
    have e7 : Ex H5 (L2.upd H6 b (.ins A.C_Book dx [("windows", .ref w0)])) := Ex.mut (((Ex.new ndx).trans (Ex.new (by rw [upd_ne nbx.symm]; exact nb))).trans e6) nb
    have hB7 : BookAt A.C_Book (L2.upd H6 b (.ins A.C_Book dx [("windows", .ref w0)])) b w0 := ⟨dx, upd_same⟩
    show tSeq _ _ _ _ (L2.upd H6 b (.ins A.C_Book dx [("windows", .ref w0)]))
    generalize L2.upd H6 b (.ins A.C_Book dx [("windows", .ref w0)]) = H7 at e7 hB7
    have hW7 := hW.mono e7
    have x7 := x5.trans e7
    clear e7 e6 hW x5
    have hpos : 0 < ws.length := by omega
    -- things
    refine ⟨Nat.zero_le _, fun t1 n1 => ⟨(by show 1 ≤ sizeLine; decide), fun t2 n2 => ⟨_, rfl, (by show 1 ≤ sizeLine; decide), fun t3 n3 => ⟨_, rfl, (by show 1 ≤ sizeLine; decide), fun t4 n4 => ⟨(by show 2 ≤ sizeLine; decide), fun t5 n5 => ⟨(by show 1 ≤ sizeLine; decide), fun t6 n6 => ⟨(by show 1 ≤ sizeLine; decide), fun t7 n7 => fun t8 n8 => ?_⟩⟩⟩⟩⟩⟩⟩
    have z1 := Ex.new (o := HO.tup []) n1
    have z2 := Ex.new (o := HO.lst [.int 0]) n2
    have z3 := Ex.new (o := HO.tup [.int (n : Int)]) n3
    have z4 := Ex.new (o := HO.tup [.int (-1)]) n4
    have z5 := Ex.new (o := HO.tup [.int 0, .int 0]) n5
    have z6 := Ex.new (o := HO.tup [.bl true]) n6
    have z7 := Ex.new (o := HO.tup [.str "0"]) n7
    have z8 := Ex.new (o := HO.dK []) n8
    refine ⟨(by show 2 ≤ sizeLine; decide), fun t9 n9 => ⟨_, rfl, _, rfl, RgOk.of_le (by omega) (by omega) (by omega) (by omega), fun t10 n10 => ⟨_, rfl, _, _, rfl, rfl, (by show 1 ≤ sizeLine; decide), fun t11 n11 => ?_⟩⟩⟩
    have z9 := Ex.new (o := HO.tup [.int 0, .non]) n9
    have z10 := Ex.new (o := HO.tup (rgV 0 (n : Int))) n10
    have z11 := Ex.new (o := HO.tup [.int ((n : Int) - 1)]) n11
    have rl : (rgV 0 (n : Int)).length = n := by rw [rgV_nats, List.length_map, List.length_range]
    refine cat_read (SqT.of (z11 _ _ upd_same)) (SqT.of upd_same) (by rw [rl]; show n + 1 ≤ 2000; omega) fun t12 G12 z12 f12 => ?_
    refine ⟨(by show 1 ≤ sizeLine; decide), fun t13 n13 => ⟨(by show 1 ≤ sizeLine; decide), fun t14 n14 => ⟨(by show 14 ≤ sizeLine; decide), fun l nl => ?_⟩⟩⟩
    have z13 := Ex.new (o := HO.tup [.int 0]) n13
    have z14 := Ex.new (o := HO.tup [.ref t13]) n14
    have z15 := Ex.new (o := HO.lst [.ref t1, .ref t2, .ref t3, .ref t4, .ref t5, .ref t6, .ref t7, .non, .int 0, .str "0", .ref t8, .ref t9, .ref t12, .ref t14]) nl
    have w14 := z15
    have w13 := z14.trans w14
    have w12 := z13.trans w13
    have w11 := z12.trans w12
    have w10 := z11.trans w11
    have w9 := z10.trans w10
    have w8 := z9.trans w9
    have w7 := z8.trans w8
    have w6 := z7.trans w7
    have w5 := z6.trans w6
    have w4 := z5.trans w5
    have w3 := z4.trans w4
    have w2 := z3.trans w3
    have w1 := z2.trans w2
    have w0' := z1.trans w1
    have all : RpAll K (L2.upd (L2.upd (L2.upd G12 t13 (.tup [.int 0])) t14 (.tup [.ref t13])) l (.lst [.ref t1, .ref t2, .ref t3, .ref t4, .ref t5, .ref t6, .ref t7, .non, .int 0, .str "0", .ref t8, .ref t9, .ref t12, .ref t14])) [.ref t1, .ref t2, .ref t3, .ref t4, .ref t5, .ref t6, .ref t7, .non, .int 0, .str "0", .ref t8, .ref t9, .ref t12, .ref t14]
        [.tup [], .lst, .tup [.int (n : Int)], .tup [.int (-1)], .tup [.int 0, .int 0], .tup [.bl true], .tup [.str "0"], .non, .int 0, .str "0", .dic, .tup [.int 0, .non], .tup ((List.range n).map dNat ++ [.int ((n : Int) - 1)]), .tup [.tup [.int 0]]] := by
      refine .cons (.tup (SqT.of (w1 _ _ upd_same)) .nil) (.cons (.lst (SqL.of (w2 _ _ upd_same))) (.cons (.tup (SqT.of (w3 _ _ upd_same)) (.cons (.int _) .nil)) (.cons (.tup (SqT.of (w4 _ _ upd_same)) (.cons (.int _) .nil)) (.cons (.tup (SqT.of (w5 _ _ upd_same)) (.cons (.int _) (.cons (.int _) .nil))) ?_))))
      refine .cons (.tup (SqT.of (w6 _ _ upd_same)) (.cons (.bl _) .nil)) (.cons (.tup (SqT.of (w7 _ _ upd_same)) (.cons (.str _) .nil)) (.cons .non (.cons (.int _) (.cons (.str _) (.cons (.dic (w8 _ _ upd_same)) (.cons (.tup (SqT.of (w9 _ _ upd_same)) (.cons (.int _) (.cons .non .nil))) ?_))))))
      refine .cons (.tup (ex_t w12 f12) ?_) (.cons (.tup (SqT.of (w14 _ _ upd_same)) (.cons (.tup (SqT.of (w13 _ _ upd_same)) (.cons (.int _) .nil)) .nil)) .nil)
      rw [rgV_nats]
      exact RpAll.append (rpAll_row _) (.cons (.int _) .nil)
    have hl0 : (L2.upd (L2.upd (L2.upd G12 t13 (.tup [.int 0])) t14 (.tup [.ref t13])) l (.lst [.ref t1, .ref t2, .ref t3, .ref t4, .ref t5, .ref t6, .ref t7, .non, .int 0, .str "0", .ref t8, .ref t9, .ref t12, .ref t14])) l = some (.lst [.ref t1, .ref t2, .ref t3, .ref t4, .ref t5, .ref t6, .ref t7, .non, .int 0, .str "0", .ref t8, .ref t9, .ref t12, .ref t14]) := upd_same
    show tCut _ _ _ _ (L2.upd (L2.upd (L2.upd G12 t13 (.tup [.int 0])) t14 (.tup [.ref t13])) l (.lst [.ref t1, .ref t2, .ref t3, .ref t4, .ref t5, .ref t6, .ref t7, .non, .int 0, .str "0", .ref t8, .ref t9, .ref t12, .ref t14]))
    generalize L2.upd (L2.upd (L2.upd G12 t13 (.tup [.int 0])) t14 (.tup [.ref t13])) l (.lst [.ref t1, .ref t2, .ref t3, .ref t4, .ref t5, .ref t6, .ref t7, .non, .int 0, .str "0", .ref t8, .ref t9, .ref t12, .ref t14]) = G at w0' all hl0
    clear w1 w2 w3 w4 w5 w6 w7 w8 w9 w10 w11 w12 w13 w14 z1 z2 z3 z4 z5 z6 z7 z8 z9 z10 z11 z12 z13 z14 z15 f12
    have hBG := hB7.mono w0'
    have hWG := hW7.mono w0'
    have xG := x7.trans w0'
    have bad : ∀ d ∈ [Da.tup [], .lst, .tup [.int (n : Int)], .tup [.int (-1)], .tup [.int 0, .int 0], .tup [.bl true], .tup [.str "0"], .non, .int 0, .str "0", .dic, .tup [.int 0, .non], .tup ((List.range n).map dNat ++ [.int ((n : Int) - 1)]), .tup [.tup [.int 0]]], BadD ws.length d := by
      rw [hws]
      simp only [List.forall_mem_cons]
      refine ⟨bad_nil n, ⟨True.intro, rfl⟩, bad_work (by simp) (by simp [workD]), bad_work (by simp) (by simp [workD]), bad_twice (by simp) (by simp [daInt]), bad_work (by simp) (by simp [workD]), bad_work (by simp) (by simp [workD]), ⟨True.intro, rfl⟩, ⟨True.intro, rfl⟩, ⟨True.intro, rfl⟩, ⟨True.intro, rfl⟩, bad_work (by simp) (by simp [workD]), bad_twice (by rw [List.length_append, List.length_map, List.length_range]; show n + 1 ≤ 1000; omega) ?_, bad_work (by simp) (by simp [workD]), fun d hd => by cases hd⟩
      intro nd
      rw [List.map_append, da_row, List.nodup_append] at nd
      refine nd.2.2 ((n : Int) - 1) (List.mem_map.mpr ⟨n - 1, List.mem_range.mpr (by omega), by omega⟩) ((n : Int) - 1) (by simp [daInt]) rfl
    -- if many > 1
    refine ⟨fun σ H' => ∃ (l : Addr) (vs : List V) (ds : List Da), σ = [some (.ref s0), some (.ref p), some (.int (n : Int)), some (.ref w0), some (.ref b), some (.ref l), none, none, none, none] ∧ H' l = some (.lst vs) ∧ RpAll K H' vs ds ∧ (∀ d ∈ ds, BadD ws.length d) ∧ BookAt A.C_Book H' b w0 ∧ WinAt K H' w0 ws ∧ Ex H H', ?_, ?_⟩
    · refine ⟨_, rfl, _, _, rfl, rfl, _, rfl, ite2 (fun h1 => ?_) (fun _ => ⟨l, _, _, rfl, hl0, all, bad, hBG, hWG, xG⟩)⟩
      have h1' := of_decide_eq_true h1
      refine ⟨_, rfl, _, rfl, _, rfl, RgOk.of_le (by omega) (by omega) (by omega) (by omega), fun t1 n1 => ⟨_, rfl, _, rfl, rfl, t1, _, rfl, SqT.of upd_same, fun t2 n2 => ⟨(by show 2 ≤ sizeLine; decide), fun t3 n3 => ⟨_, rfl, _, _, rfl, rfl, (by show 3 ≤ sizeLine; decide), fun t4 n4 => ⟨(by show 3 ≤ sizeLine; decide), fun l2 nl2 => ?_⟩⟩⟩⟩⟩
      have z1 := Ex.new (o := HO.tup (rgV 0 (n : Int))) n1
      have z2 := Ex.new (o := HO.tup (rgV 0 (n : Int)).reverse) n2
      have z3 := Ex.new (o := HO.tup [.int 1, .int 0]) n3
      have z4 := Ex.new (o := HO.tup [.int 0, .int ((n : Int) - 1), .int 0]) n4
      have z5 := Ex.new (o := HO.lst [.ref t2, .ref t3, .ref t4]) nl2
      have e5 := z1.trans (z2.trans (z3.trans (z4.trans z5)))
      have bad3 : ∀ d ∈ [Da.tup ((List.range n).reverse.map dNat), .tup [.int 1, .int 0], .tup [.int 0, .int ((n : Int) - 1), .int 0]], BadD ws.length d := by
        rw [hws]
        simp only [List.forall_mem_cons]
        refine ⟨bad_up (by rw [List.length_map, List.length_reverse, List.length_range]; omega) fun up => ?_, bad_up (by simp) (by simp [daInt]), bad_twice (by simp) (by simp [daInt]), fun d hd => by cases hd⟩
        rw [da_row, List.map_reverse, List.pairwise_reverse] at up
        obtain ⟨k, rfl⟩ : ∃ k, n = k + 2 := ⟨n - 2, by omega⟩
        rw [List.range_succ_eq_map, List.range_succ_eq_map, List.map_cons, List.map_cons, List.map_cons] at up
        have := (List.pairwise_cons.mp up).1 _ (List.mem_cons_self ..)
        simp at this
      refine ⟨l, l2, _, _, rfl, rfl, e5 _ _ hl0, upd_same, (by show 14 + 3 ≤ sizeLine; decide), fun l3 nl3 => ?_⟩
      have z6 := Ex.new (o := HO.lst ([.ref t1, .ref t2, .ref t3] : List V)) nl3
      refine ⟨l3, _, _, rfl, upd_same, RpAll.append (all.mono (e5.trans (Ex.new nl3))) (.cons (.tup (ds := (List.range n).reverse.map dNat) (SqT.of ((z3.trans (z4.trans (z5.trans (Ex.new nl3)))) _ _ upd_same)) ?_) (.cons (.tup (SqT.of ((z4.trans (z5.trans (Ex.new nl3))) _ _ upd_same)) (.cons (.int _) (.cons (.int _) .nil))) (.cons (.tup (SqT.of ((z5.trans (Ex.new nl3)) _ _ upd_same)) (.cons (.int _) (.cons (.int _) (.cons (.int _) .nil)))) .nil))), ?_, hBG.mono (e5.trans (Ex.new nl3)), hWG.mono (e5.trans (Ex.new nl3)), xG.trans (e5.trans (Ex.new nl3))⟩
      · rw [rgV_nats, ← List.map_reverse]
        exact rpAll_row _
      · intro d hd
        rcases List.mem_append.mp hd with hd | hd
        · exact bad d hd
        · exact bad3 d hd
    clear all hl0 bad hBG hWG xG w0' hB7 hW7 x7 rl
    rintro σ G2 ⟨l', vs, ds, rfl, hl, hall, bad, hB, hW, x8⟩
    -- for thing in things
    refine ⟨_, rfl, l', rfl, ⟨_, SqL.of hl⟩, for_list (K := K) (a := l') (xs := vs) (fun i σ H' => ∃ v6 : Option V, σ = [some (.ref s0), some (.ref p), some (.int (n : Int)), some (.ref w0), some (.ref b), some (.ref l'), v6, none, none, none] ∧ Ex G2 H') ⟨_, rfl, Ex.refl _⟩ (fun i σ H' _ ⟨_, _, e⟩ => ex_l e (SqL.of hl)) ?_ ?_⟩
    · rintro i y σ H' hi ⟨v6, rfl, e⟩
      obtain ⟨d, hd, hR⟩ := RpAll.get hall hi
      obtain ⟨sm, pf⟩ := bad d (List.mem_of_getElem? hd)
      refine ⟨_, rfl, _, rfl, ⟨_, _, _, rfl, 0, b, w0, ws, d, rfl, rfl, hB.mono e, hW.mono e, hpos, hR.mono e, sm, fun ht => absurd ht (by rw [if_pos rfl, pf]; decide), fun _ lt H2 e2 hlt => ⟨(by show 2 ≤ sizeLine; decide), fun t nt => ?_⟩⟩⟩
      refine ⟨toldD true false, toldD true false, .lst (SqL.of ((Ex.new nt) _ _ hlt)) (.cons (.bl true) (.cons (.bl false) .nil)), .lst (SqL.of upd_same) (.cons (.bl true) (.cons (.bl false) .nil)), rfl, rfl, _, rfl, ?_⟩
      refine if_neg_of (by decide) ⟨_, rfl, (e.trans e2).trans (Ex.new nt)⟩
    rintro σ G3 ⟨v6, rfl, e3⟩
    -- low
    obtain ⟨wle, was, w1, w2, w3⟩ := hW.mono e3
    refine ⟨_, rfl, w0, rfl, ⟨_, w1⟩, fun D2 hD2 => lc_tup (K := K) (a := w0) (xs := was.map V.ref) (fun i H' => H' D2 = some (.lst (((ws.take i).map Prod.fst).map V.int)) ∧ Ex G3 H') ⟨upd_same, Ex.new hD2⟩ (fun i H' _ p => ex_t p.2 w1) ?_ ?_⟩
    · rintro i y H' hi ⟨p1, p2⟩
      obtain ⟨a, q, rfl, hq, et, hil, _⟩ := win_step w2 w3 hi
      refine ⟨a, _, rfl, ex_t p2 hq, rfl, _, _, rfl, _, _, rfl, rfl, rfl, ?_⟩
      exact ⟨_, rfl, _, p1, small1000 (by rw [List.length_map, List.length_map, List.length_take]; omega), by rw [upd_same, et, List.map_append, List.map_append] <;> rfl, p2.mut hD2⟩
    rintro G4 ⟨p1, e4'⟩
    have e4 := e3.trans e4'
    rw [List.length_map, w2, List.take_length] at p1
    refine ⟨D2, _, rfl, SqL.of p1, by rw [List.length_map]; exact hpos, fun low hm hle => ?_⟩
    have hlow : MinW low ws := by
      obtain ⟨q, hq, e⟩ := List.mem_map.mp hm
      exact ⟨⟨q, hq, e⟩, fun q hq => hle _ (List.mem_map_of_mem hq)⟩
    clear hm hle p1
    obtain ⟨lq, lq1, lq2⟩ := hlow.mem
    obtain ⟨lz1, lz2, lz3⟩ := hin lq lq1
    have t30 : (10 : Int) ^ (30 : Int).toNat = 1000000000000000000000000000000 := by decide
    -- for thing in [..]
    refine ⟨(by show 1 ≤ sizeLine; decide), fun t1 n1 => ⟨(by show 1 ≤ sizeLine; decide), fun t2 n2 => ⟨_, rfl, _, rfl, _, _, rfl, rfl, _, _, rfl, rfl, ⟨by decide, by decide, by decide⟩, _, rfl, fun t3 n3 => ⟨(by show 9 ≤ sizeLine; decide), fun l2 nl2 => ?_⟩⟩⟩⟩
    have z1 := Ex.new (o := HO.tup [.int 1]) n1
    have z2 := Ex.new (o := HO.lst [.int 1]) n2
    have z3 := Ex.new (o := HO.dK []) n3
    have z4 := Ex.new (o := HO.lst [.non, .bl true, .bl false, .str "1", .ref t1, .ref t2, .int (-low - 1), .int (-10 ^ (30 : Int).toNat), .ref t3]) nl2
    have e5 := z1.trans (z2.trans (z3.trans z4))
    refine ⟨l2, rfl, ⟨_, SqL.of upd_same⟩, ?_⟩
    have all2 : RpAll K (L2.upd (L2.upd (L2.upd (L2.upd G4 t1 (.tup [.int 1])) t2 (.lst [.int 1])) t3 (.dK [])) l2 (.lst [.non, .bl true, .bl false, .str "1", .ref t1, .ref t2, .int (-low - 1), .int (-10 ^ (30 : Int).toNat), .ref t3])) [.non, .bl true, .bl false, .str "1", .ref t1, .ref t2, .int (-low - 1), .int (-10 ^ (30 : Int).toNat), .ref t3] [.non, .bl true, .bl false, .str "1", .tup [.int 1], .lst, .int (-low - 1), .int (-10 ^ (30 : Int).toNat), .dic] :=
      .cons .non (.cons (.bl _) (.cons (.bl _) (.cons (.str _) (.cons (.tup (SqT.of ((z2.trans (z3.trans z4)) _ _ upd_same)) (.cons (.int _) .nil)) (.cons (.lst (SqL.of ((z3.trans z4) _ _ upd_same))) (.cons (.int _) (.cons (.int _) (.cons (.dic (z4 _ _ upd_same)) .nil))))))))
    have bad2 : ∀ d ∈ [Da.non, .bl true, .bl false, .str "1", .tup [.int 1], .lst, .int (-low - 1), .int (-10 ^ (30 : Int).toNat), .dic], smallD d ∧ byD ws d = false := by
      simp only [List.forall_mem_cons]
      refine ⟨⟨True.intro, rfl⟩, ⟨True.intro, rfl⟩, ⟨True.intro, rfl⟩, ⟨True.intro, rfl⟩, ⟨by show 1 ≤ 1000; decide, rfl⟩, ⟨True.intro, rfl⟩, ⟨True.intro, byD_bad ⟨lq, lq1, by omega⟩⟩, ⟨True.intro, byD_bad ⟨lq, lq1, by rw [t30]; omega⟩⟩, ⟨True.intro, rfl⟩, fun d hd => by cases hd⟩
    have hl2 : (L2.upd (L2.upd (L2.upd (L2.upd G4 t1 (.tup [.int 1])) t2 (.lst [.int 1])) t3 (.dK [])) l2 (.lst [.non, .bl true, .bl false, .str "1", .ref t1, .ref t2, .int (-low - 1), .int (-10 ^ (30 : Int).toNat), .ref t3])) l2 = some (.lst [.non, .bl true, .bl false, .str "1", .ref t1, .ref t2, .int (-low - 1), .int (-10 ^ (30 : Int).toNat), .ref t3]) := upd_same
    refine for_list (K := K) (a := l2) (xs := [.non, .bl true, .bl false, .str "1", .ref t1, .ref t2, .int (-low - 1), .int (-10 ^ (30 : Int).toNat), .ref t3]) (fun i σ H' => ∃ v6 : Option V, σ = [some (.ref s0), some (.ref p), some (.int (n : Int)), some (.ref w0), some (.ref b), some (.ref l'), v6, none, none, some (.int low)] ∧ Ex (L2.upd (L2.upd (L2.upd (L2.upd G4 t1 (.tup [.int 1])) t2 (.lst [.int 1])) t3 (.dK [])) l2 (.lst [.non, .bl true, .bl false, .str "1", .ref t1, .ref t2, .int (-low - 1), .int (-10 ^ (30 : Int).toNat), .ref t3])) H') ⟨_, rfl, Ex.refl _⟩ (fun i σ H' _ ⟨_, _, e⟩ => ex_l e (SqL.of hl2)) ?_ ?_
    · rintro i y σ H' hi ⟨v6, rfl, e⟩
      obtain ⟨d, hd, hR⟩ := RpAll.get all2 hi
      obtain ⟨sm, pf⟩ := bad2 d (List.mem_of_getElem? hd)
      have eB := e4.trans (e5.trans e)
      refine ⟨_, rfl, _, rfl, ⟨_, _, _, rfl, 1, b, w0, ws, d, rfl, rfl, hB.mono eB, hW.mono eB, hpos, hR.mono e, sm, fun ht => absurd ht (by rw [if_neg (by decide), pf]; decide), fun _ lt H2 e2 hlt => ⟨(by show 2 ≤ sizeLine; decide), fun t nt => ?_⟩⟩⟩
      refine ⟨toldD false true, toldD false true, .lst (SqL.of ((Ex.new nt) _ _ hlt)) (.cons (.bl false) (.cons (.bl true) .nil)), .lst (SqL.of upd_same) (.cons (.bl false) (.cons (.bl true) .nil)), rfl, rfl, _, rfl, ?_⟩
      exact if_neg_of (by decide) ⟨_, rfl, (e.trans e2).trans (Ex.new nt)⟩
    rintro σ G5 ⟨v6', rfl, e6⟩
    have eB := e4.trans (e5.trans e6)
    have hBB := hB.mono eB
    have hWB := hW.mono eB
    have xB := x8.trans eB
    clear all2 bad2 hl2 z1 z2 z3 z4 e6 e5 e4 e4' e3 hB hW
    -- many > 0 and told(0, book, (many - 1,)) != 'let'
    have up1 : partD ws.length (.tup ([n - 1].map dNat)) = true := partD_row (fun j hj => by cases List.mem_singleton.mp hj; omega) (List.pairwise_singleton _ _) (by simp)
    have e1' : (n : Int) - 1 = (((n - 1 : Nat)) : Int) := by omega
    refine ⟨_, rfl, _, _, rfl, rfl, _, rfl, if_pos_of (decide_eq_true (by omega)) ?_⟩
    refine ⟨_, rfl, _, rfl, _, _, rfl, rfl, (by show 1 ≤ sizeLine; decide), fun t1 n1 => ?_⟩
    have y1 := Ex.new (o := HO.tup [.int ((n : Int) - 1)]) n1
    refine ⟨_, _, _, rfl, 0, b, w0, ws, .tup ([n - 1].map dNat), rfl, rfl, hBB.mono y1, hWB.mono y1, hpos, .tup (SqT.of upd_same) (.cons (by show Rp K _ (V.int ((n : Int) - 1)) (Da.int (((n - 1 : Nat)) : Int)); rw [e1']; exact .int _) .nil), (by show 1 ≤ 1000; decide), fun _ H2 e2 => ⟨rfl, _, rfl, if_neg_of (by decide) ?_⟩, fun hf => absurd hf (by rw [if_pos rfl, up1]; decide)⟩
    have yB := y1.trans e2
    -- the last three
    have by1 : byD ws (.int (-low)) = true := byD_of fun q hq => by
      have := hlow.le q hq
      omega
    have by2 : byD ws (.int (10 ^ (39 : Int).toNat)) = true := byD_of fun q hq => by
      obtain ⟨g1, _, _⟩ := hin q hq
      have : (0 : Int) ≤ 10 ^ (39 : Int).toNat := by decide
      omega
    refine ⟨_, rfl, _, rfl, _, rfl, ⟨_, _, _, rfl, 1, b, w0, ws, .int (-low), rfl, rfl, hBB.mono yB, hWB.mono yB, hpos, .int _, True.intro, fun _ H3 e3 => ⟨rfl, _, rfl, if_pos_of (by decide) ?_⟩, fun hf => absurd hf (by rw [if_neg (by decide), by1]; decide)⟩⟩
    have yC := yB.trans e3
    refine ⟨_, rfl, _, _, rfl, rfl, ⟨by decide, by decide, by decide⟩, ⟨_, _, _, rfl, 1, b, w0, ws, .int (10 ^ (39 : Int).toNat), rfl, rfl, hBB.mono yC, hWB.mono yC, hpos, .int _, True.intro, fun _ H4 e4 => ⟨rfl, _, rfl, if_pos_of (by decide) ?_⟩, fun hf => absurd hf (by rw [if_neg (by decide), by2]; decide)⟩⟩
    have yD := yC.trans e4
    refine ⟨_, rfl, _, rfl, _, rfl, RgOk.of_le (by omega) (by omega) (by omega) (by omega), fun q nq => ?_⟩
    have xq := Ex.new (o := HO.tup (rgV 0 (n : Int))) nq
    have up2 : partD ws.length (.tup ((List.range n).map dNat)) = true := partD_row (fun j hj => by rw [hws]; exact List.mem_range.mp hj) List.pairwise_lt_range (fun z => by have h0 := congrArg List.length z; rw [List.length_range, List.length_nil] at h0; omega)
    refine ⟨_, _, _, rfl, 0, b, w0, ws, .tup ((List.range n).map dNat), rfl, rfl, hBB.mono (yD.trans xq), hWB.mono (yD.trans xq), hpos, rp_row (SqT.of (by rw [upd_same, rgV_nats])), (by show ((List.range n).map dNat).length ≤ 1000; rw [List.length_map, List.length_range]; omega), fun _ H5 e5 => ⟨rfl, ?_⟩, fun hf => absurd hf (by rw [if_pos rfl, up2]; decide)⟩
    exact kfin _ (xB.trans (yD.trans (xq.trans e5)))
theorem ok_law (T : Txt K mg A D) : FnOk P w K mg base CX0 10 A.a_law D.d_law p_law (sp_law K A) := by
  have G_l_main := ok_l_main (P := P) (w := w) (base := base) T
  have G_l_more := ok_l_more (P := P) (w := w) (base := base) T
  refine T.F_law.ok sc_law (fun vs H Q E h => ?_) (fun cdv Ar outer s H vs Q E hr h => ?_)
  · exact h.len
  · have hu := hu_of hr
    refine ⟨_, (pss_one (ps_ret (pe_and (pe_call G_l_main (hr.mono (by decide)) rfl T.g_l_main (k_l_main T) (b_l_main T) .nil pass0 (pa_cons (pv 0) pa_nil)) (pe_one (pe_call G_l_more (hr.mono (by decide)) rfl T.g_l_more (k_l_more T) (b_l_more T) .nil pass0 (pa_cons (pv 0) pa_nil)))))), ?_⟩
    obtain ⟨s0, ns, rfl, hS, hlen, kfin⟩ := h.ex
    refine ⟨_, rfl, ⟨s0, ns, rfl, hS, hlen, fun H1 e1 => ⟨_, rfl, ?_⟩⟩⟩
    exact iteT ⟨_, rfl, ⟨s0, ns, rfl, ex_l e1 hS, hlen, fun H2 e2 => kfin H2⟩⟩
end
theorem all_mk {l : PySem.W.OpenLaw} {w : World} {K : PySem.W.Frag} {h : Heap} {mg : Str → Option Value} {fa : Addr} (X : K.In h) (G : h.Ns mainGlobals mg) (hfa : mg "law" = some (.ref fa))
    {C_MiddleError : Addr}
    {C_BadBook : Addr}
    {nm_BadBook q_BadBook : Str} {N_BadBook CM_BadBook : Addr} {bs_BadBook : List Value} {sn_BadBook : List Str} {sub_BadBook : List Value} {ab_BadBook : Bool} {col_BadBook : Option Bool} {dd_BadBook : Option Addr} {m0_BadBook m1_BadBook m2_BadBook m3_BadBook m5_BadBook : Option Value}
    {C_NoGroup : Addr}
    {nm_NoGroup q_NoGroup : Str} {N_NoGroup CM_NoGroup : Addr} {bs_NoGroup : List Value} {sn_NoGroup : List Str} {sub_NoGroup : List Value} {ab_NoGroup : Bool} {col_NoGroup : Option Bool} {dd_NoGroup : Option Addr} {m0_NoGroup m1_NoGroup m2_NoGroup m3_NoGroup m5_NoGroup : Option Value}
    {C_NoNumber : Addr}
    {nm_NoNumber q_NoNumber : Str} {N_NoNumber CM_NoNumber : Addr} {bs_NoNumber : List Value} {sn_NoNumber : List Str} {sub_NoNumber : List Value} {ab_NoNumber : Bool} {col_NoNumber : Option Bool} {dd_NoNumber : Option Addr} {m0_NoNumber m1_NoNumber m2_NoNumber m3_NoNumber m5_NoNumber : Option Value}
    {C_Book : Addr}
    {f_BadBook_init : Addr} {oc_BadBook_init kV_BadBook_init dc_BadBook_init pm_BadBook_init cd_BadBook_init ct_BadBook_init : Value} {od_BadBook_init an_BadBook_init : Option Addr} {sl_BadBook_init : Array (Option Value)}
    {f_NoGroup_init : Addr} {oc_NoGroup_init kV_NoGroup_init dc_NoGroup_init pm_NoGroup_init cd_NoGroup_init ct_NoGroup_init : Value} {od_NoGroup_init an_NoGroup_init : Option Addr} {sl_NoGroup_init : Array (Option Value)}
    {f_NoNumber_init : Addr} {oc_NoNumber_init kV_NoNumber_init dc_NoNumber_init pm_NoNumber_init cd_NoNumber_init ct_NoNumber_init : Value} {od_NoNumber_init an_NoNumber_init : Option Addr} {sl_NoNumber_init : Array (Option Value)}
    {f_is_integer : Addr} {oc_is_integer kV_is_integer dc_is_integer pm_is_integer cd_is_integer ct_is_integer : Value} {od_is_integer an_is_integer : Option Addr} {sl_is_integer : Array (Option Value)}
    {f_is_pair : Addr} {oc_is_pair kV_is_pair dc_is_pair pm_is_pair cd_is_pair ct_is_pair : Value} {od_is_pair an_is_pair : Option Addr} {sl_is_pair : Array (Option Value)}
    {f_Book_init : Addr} {oc_Book_init kV_Book_init dc_Book_init pm_Book_init cd_Book_init ct_Book_init : Value} {od_Book_init an_Book_init : Option Addr} {sl_Book_init : Array (Option Value)}
    {f_Book_eq : Addr} {oc_Book_eq kV_Book_eq dc_Book_eq pm_Book_eq cd_Book_eq ct_Book_eq : Value} {od_Book_eq an_Book_eq : Option Addr} {sl_Book_eq : Array (Option Value)}
    {f_is_windows : Addr} {oc_is_windows kV_is_windows dc_is_windows pm_is_windows cd_is_windows ct_is_windows : Value} {od_is_windows an_is_windows : Option Addr} {sl_is_windows : Array (Option Value)}
    {f_is_window : Addr} {oc_is_window kV_is_window dc_is_window pm_is_window cd_is_window ct_is_window : Value} {od_is_window an_is_window : Option Addr} {sl_is_window : Array (Option Value)}
    {f_unbounded : Addr} {oc_unbounded kV_unbounded dc_unbounded pm_unbounded cd_unbounded ct_unbounded : Value} {od_unbounded an_unbounded : Option Addr} {sl_unbounded : Array (Option Value)}
    {f_is_work : Addr} {oc_is_work kV_is_work dc_is_work pm_is_work cd_is_work ct_is_work : Value} {od_is_work an_is_work : Option Addr} {sl_is_work : Array (Option Value)}
    {f_is_row : Addr} {oc_is_row kV_is_row dc_is_row pm_is_row cd_is_row ct_is_row : Value} {od_is_row an_is_row : Option Addr} {sl_is_row : Array (Option Value)}
    {f_is_group : Addr} {oc_is_group kV_is_group dc_is_group pm_is_group cd_is_group ct_is_group : Value} {od_is_group an_is_group : Option Addr} {sl_is_group : Array (Option Value)}
    {f_part : Addr} {oc_part kV_part dc_part pm_part cd_part ct_part : Value} {od_part an_part : Option Addr} {sl_part : Array (Option Value)}
    {f_joined : Addr} {oc_joined kV_joined dc_joined pm_joined cd_joined ct_joined : Value} {od_joined an_joined : Option Addr} {sl_joined : Array (Option Value)}
    {f_shifted : Addr} {oc_shifted kV_shifted dc_shifted pm_shifted cd_shifted ct_shifted : Value} {od_shifted an_shifted : Option Addr} {sl_shifted : Array (Option Value)}
    {f_l_pool : Addr} {oc_l_pool kV_l_pool dc_l_pool pm_l_pool cd_l_pool ct_l_pool : Value} {od_l_pool an_l_pool : Option Addr} {sl_l_pool : Array (Option Value)}
    {f_l_draw : Addr} {oc_l_draw kV_l_draw dc_l_draw pm_l_draw cd_l_draw ct_l_draw : Value} {od_l_draw an_l_draw : Option Addr} {sl_l_draw : Array (Option Value)}
    {f_l_windows : Addr} {oc_l_windows kV_l_windows dc_l_windows pm_l_windows cd_l_windows ct_l_windows : Value} {od_l_windows an_l_windows : Option Addr} {sl_l_windows : Array (Option Value)}
    {f_l_some : Addr} {oc_l_some kV_l_some dc_l_some pm_l_some cd_l_some ct_l_some : Value} {od_l_some an_l_some : Option Addr} {sl_l_some : Array (Option Value)}
    {f_l_main : Addr} {oc_l_main kV_l_main dc_l_main pm_l_main cd_l_main ct_l_main : Value} {od_l_main an_l_main : Option Addr} {sl_l_main : Array (Option Value)}
    {f_l_told : Addr} {oc_l_told kV_l_told dc_l_told pm_l_told cd_l_told ct_l_told : Value} {od_l_told an_l_told : Option Addr} {sl_l_told : Array (Option Value)}
    {f_l_more : Addr} {oc_l_more kV_l_more dc_l_more pm_l_more cd_l_more ct_l_more : Value} {od_l_more an_l_more : Option Addr} {sl_l_more : Array (Option Value)}
    {f_law : Addr} {oc_law kV_law dc_law pm_law cd_law ct_law : Value} {od_law an_law : Option Addr} {sl_law : Array (Option Value)}
    {u_MOST_HOUR : Tok}
    {u_MOST_WORKS : Tok}
    (aC_MiddleError : PySem.W.nsIn K mainGlobals "MiddleError" = some (some (.ref C_MiddleError)))
    (eC_MiddleError : PySem.W.subIn K (.ref C_MiddleError) (.type "BaseException") = some true)
    (tC_MiddleError : PySem.W.typeIn K (.ref C_MiddleError) = some (.type "type"))
    (hC_MiddleError : PySem.W.hasDictIn K C_MiddleError = true)
    (aC_BadBook : PySem.W.nsIn K mainGlobals "BadBook" = some (some (.ref C_BadBook)))
    (xL_BadBook : K.lookup C_BadBook = some (excClassObj nm_BadBook q_BadBook C_BadBook N_BadBook bs_BadBook [.ref CM_BadBook, .type "ValueError", .type "Exception", .type "BaseException", .type "object"] true sn_BadBook sub_BadBook ab_BadBook col_BadBook dd_BadBook m0_BadBook m1_BadBook m2_BadBook m3_BadBook m5_BadBook "ValueError.__new__"))
    (sa_BadBook : PySem.W.findIn K (.ref C_BadBook) "__setattr__" = some (some (.builtin "object.__setattr__")))
    (kC_BadBook : PySem.W.keepIn K (.ref C_BadBook) = true)
    (eC_BadBook : PySem.W.subIn K (.ref C_BadBook) (.type "BaseException") = some true)
    (tC_BadBook : PySem.W.typeIn K (.ref C_BadBook) = some (.type "type"))
    (hC_BadBook : PySem.W.hasDictIn K C_BadBook = true)
    (sC_BadBook : PySem.W.subIn K (.ref C_BadBook) (.ref C_BadBook) = some true)
    (aC_NoGroup : PySem.W.nsIn K mainGlobals "NoGroup" = some (some (.ref C_NoGroup)))
    (xL_NoGroup : K.lookup C_NoGroup = some (excClassObj nm_NoGroup q_NoGroup C_NoGroup N_NoGroup bs_NoGroup [.ref CM_NoGroup, .type "ValueError", .type "Exception", .type "BaseException", .type "object"] true sn_NoGroup sub_NoGroup ab_NoGroup col_NoGroup dd_NoGroup m0_NoGroup m1_NoGroup m2_NoGroup m3_NoGroup m5_NoGroup "ValueError.__new__"))
    (sa_NoGroup : PySem.W.findIn K (.ref C_NoGroup) "__setattr__" = some (some (.builtin "object.__setattr__")))
    (kC_NoGroup : PySem.W.keepIn K (.ref C_NoGroup) = true)
    (eC_NoGroup : PySem.W.subIn K (.ref C_NoGroup) (.type "BaseException") = some true)
    (tC_NoGroup : PySem.W.typeIn K (.ref C_NoGroup) = some (.type "type"))
    (hC_NoGroup : PySem.W.hasDictIn K C_NoGroup = true)
    (sC_NoGroup : PySem.W.subIn K (.ref C_NoGroup) (.ref C_NoGroup) = some true)
    (aC_NoNumber : PySem.W.nsIn K mainGlobals "NoNumber" = some (some (.ref C_NoNumber)))
    (xL_NoNumber : K.lookup C_NoNumber = some (excClassObj nm_NoNumber q_NoNumber C_NoNumber N_NoNumber bs_NoNumber [.ref CM_NoNumber, .type "ValueError", .type "Exception", .type "BaseException", .type "object"] true sn_NoNumber sub_NoNumber ab_NoNumber col_NoNumber dd_NoNumber m0_NoNumber m1_NoNumber m2_NoNumber m3_NoNumber m5_NoNumber "ValueError.__new__"))
    (sa_NoNumber : PySem.W.findIn K (.ref C_NoNumber) "__setattr__" = some (some (.builtin "object.__setattr__")))
    (kC_NoNumber : PySem.W.keepIn K (.ref C_NoNumber) = true)
    (eC_NoNumber : PySem.W.subIn K (.ref C_NoNumber) (.type "BaseException") = some true)
    (tC_NoNumber : PySem.W.typeIn K (.ref C_NoNumber) = some (.type "type"))
    (hC_NoNumber : PySem.W.hasDictIn K C_NoNumber = true)
    (sC_NoNumber : PySem.W.subIn K (.ref C_NoNumber) (.ref C_NoNumber) = some true)
    (aC_Book : PySem.W.nsIn K mainGlobals "Book" = some (some (.ref C_Book)))
    (pg_Book : PySem.W.plainGet K C_Book Str.empty = true)
    (hd_Book : PySem.W.hasDictIn K C_Book = true)
    (po_Book : PySem.W.plainOver K C_Book = true)
    (sa_Book : PySem.W.findIn K (.ref C_Book) "__setattr__" = some (some (.builtin "object.__setattr__")))
    (mk_Book : PySem.W.makesIn K C_Book = true)
    (kc_Book : PySem.W.keepIn K (.ref C_Book) = true)
    (ne_Book : PySem.W.findIn K (.ref C_Book) "__ne__" = some (some (.builtin "object.__ne__")))
    (ob_Book : PySem.W.mroIn K C_Book (.type "object") = some true)
    (kc1_Book : PySem.W.findIn K (.ref C_Book) "__class__" = some (some (.builtin "object.__class__")))
    (kc2_Book : PySem.W.specialIn K (.builtin "object.__class__") "__get__" = some (some (.builtin "getset_descriptor.__get__")))
    (kc3_Book : PySem.W.takesIn K (.builtin "object.__class__") = some true)
    (na_windows : PySem.W.findIn K (.ref C_Book) "windows" = some none)
    (a_BadBook_init : PySem.W.findIn K (.ref C_BadBook) "__init__" = some (some (.ref f_BadBook_init)))
    (t_BadBook_init : PySem.W.typeIn K (.ref f_BadBook_init) = some (.type "function"))
    (l_BadBook_init : K.lookup f_BadBook_init = some ⟨oc_BadBook_init, od_BadBook_init, .func (PySem.W.fnOf "__init__" "BadBook.__init__" (defArgs s_BadBook_init) (defBody s_BadBook_init) (defScope s_BadBook_init) .none kV_BadBook_init dc_BadBook_init pm_BadBook_init an_BadBook_init cd_BadBook_init ct_BadBook_init), sl_BadBook_init⟩)
    (c_BadBook_init : PySem.W.codeIn K cd_BadBook_init "BadBook.__init__" = true)
    (k_BadBook_init : PySem.W.keepIn K (.ref f_BadBook_init) = true)
    (a_NoGroup_init : PySem.W.findIn K (.ref C_NoGroup) "__init__" = some (some (.ref f_NoGroup_init)))
    (t_NoGroup_init : PySem.W.typeIn K (.ref f_NoGroup_init) = some (.type "function"))
    (l_NoGroup_init : K.lookup f_NoGroup_init = some ⟨oc_NoGroup_init, od_NoGroup_init, .func (PySem.W.fnOf "__init__" "NoGroup.__init__" (defArgs s_NoGroup_init) (defBody s_NoGroup_init) (defScope s_NoGroup_init) .none kV_NoGroup_init dc_NoGroup_init pm_NoGroup_init an_NoGroup_init cd_NoGroup_init ct_NoGroup_init), sl_NoGroup_init⟩)
    (c_NoGroup_init : PySem.W.codeIn K cd_NoGroup_init "NoGroup.__init__" = true)
    (k_NoGroup_init : PySem.W.keepIn K (.ref f_NoGroup_init) = true)
    (a_NoNumber_init : PySem.W.findIn K (.ref C_NoNumber) "__init__" = some (some (.ref f_NoNumber_init)))
    (t_NoNumber_init : PySem.W.typeIn K (.ref f_NoNumber_init) = some (.type "function"))
    (l_NoNumber_init : K.lookup f_NoNumber_init = some ⟨oc_NoNumber_init, od_NoNumber_init, .func (PySem.W.fnOf "__init__" "NoNumber.__init__" (defArgs s_NoNumber_init) (defBody s_NoNumber_init) (defScope s_NoNumber_init) .none kV_NoNumber_init dc_NoNumber_init pm_NoNumber_init an_NoNumber_init cd_NoNumber_init ct_NoNumber_init), sl_NoNumber_init⟩)
    (c_NoNumber_init : PySem.W.codeIn K cd_NoNumber_init "NoNumber.__init__" = true)
    (k_NoNumber_init : PySem.W.keepIn K (.ref f_NoNumber_init) = true)
    (a_is_integer : PySem.W.nsIn K mainGlobals "is_integer" = some (some (.ref f_is_integer)))
    (l_is_integer : K.lookup f_is_integer = some ⟨oc_is_integer, od_is_integer, .func (PySem.W.fnOf "is_integer" "is_integer" (defArgs s_is_integer) (defBody s_is_integer) (defScope s_is_integer) .none kV_is_integer dc_is_integer pm_is_integer an_is_integer cd_is_integer ct_is_integer), sl_is_integer⟩)
    (c_is_integer : PySem.W.codeIn K cd_is_integer "is_integer" = true)
    (k_is_integer : PySem.W.keepIn K (.ref f_is_integer) = true)
    (a_is_pair : PySem.W.nsIn K mainGlobals "is_pair" = some (some (.ref f_is_pair)))
    (l_is_pair : K.lookup f_is_pair = some ⟨oc_is_pair, od_is_pair, .func (PySem.W.fnOf "is_pair" "is_pair" (defArgs s_is_pair) (defBody s_is_pair) (defScope s_is_pair) .none kV_is_pair dc_is_pair pm_is_pair an_is_pair cd_is_pair ct_is_pair), sl_is_pair⟩)
    (c_is_pair : PySem.W.codeIn K cd_is_pair "is_pair" = true)
    (k_is_pair : PySem.W.keepIn K (.ref f_is_pair) = true)
    (a_Book_init : PySem.W.findIn K (.ref C_Book) "__init__" = some (some (.ref f_Book_init)))
    (i_Book_init : PySem.W.isFn K (.ref f_Book_init) = true)
    (l_Book_init : K.lookup f_Book_init = some ⟨oc_Book_init, od_Book_init, .func (PySem.W.fnOf "__init__" "Book.__init__" (defArgs s_Book_init) (defBody s_Book_init) (defScope s_Book_init) .none kV_Book_init dc_Book_init pm_Book_init an_Book_init cd_Book_init ct_Book_init), sl_Book_init⟩)
    (c_Book_init : PySem.W.codeIn K cd_Book_init "Book.__init__" = true)
    (k_Book_init : PySem.W.keepIn K (.ref f_Book_init) = true)
    (a_Book_eq : PySem.W.findIn K (.ref C_Book) "__eq__" = some (some (.ref f_Book_eq)))
    (i_Book_eq : PySem.W.isFn K (.ref f_Book_eq) = true)
    (l_Book_eq : K.lookup f_Book_eq = some ⟨oc_Book_eq, od_Book_eq, .func (PySem.W.fnOf "__eq__" "Book.__eq__" (defArgs s_Book_eq) (defBody s_Book_eq) (defScope s_Book_eq) .none kV_Book_eq dc_Book_eq pm_Book_eq an_Book_eq cd_Book_eq ct_Book_eq), sl_Book_eq⟩)
    (c_Book_eq : PySem.W.codeIn K cd_Book_eq "Book.__eq__" = true)
    (k_Book_eq : PySem.W.keepIn K (.ref f_Book_eq) = true)
    (a_is_windows : PySem.W.nsIn K mainGlobals "is_windows" = some (some (.ref f_is_windows)))
    (l_is_windows : K.lookup f_is_windows = some ⟨oc_is_windows, od_is_windows, .func (PySem.W.fnOf "is_windows" "is_windows" (defArgs s_is_windows) (defBody s_is_windows) (defScope s_is_windows) .none kV_is_windows dc_is_windows pm_is_windows an_is_windows cd_is_windows ct_is_windows), sl_is_windows⟩)
    (c_is_windows : PySem.W.codeIn K cd_is_windows "is_windows" = true)
    (k_is_windows : PySem.W.keepIn K (.ref f_is_windows) = true)
    (a_is_window : PySem.W.nsIn K mainGlobals "is_window" = some (some (.ref f_is_window)))
    (l_is_window : K.lookup f_is_window = some ⟨oc_is_window, od_is_window, .func (PySem.W.fnOf "is_window" "is_window" (defArgs s_is_window) (defBody s_is_window) (defScope s_is_window) .none kV_is_window dc_is_window pm_is_window an_is_window cd_is_window ct_is_window), sl_is_window⟩)
    (c_is_window : PySem.W.codeIn K cd_is_window "is_window" = true)
    (k_is_window : PySem.W.keepIn K (.ref f_is_window) = true)
    (a_unbounded : PySem.W.nsIn K mainGlobals "unbounded" = some (some (.ref f_unbounded)))
    (l_unbounded : K.lookup f_unbounded = some ⟨oc_unbounded, od_unbounded, .func (PySem.W.fnOf "unbounded" "unbounded" (defArgs s_unbounded) (defBody s_unbounded) (defScope s_unbounded) .none kV_unbounded dc_unbounded pm_unbounded an_unbounded cd_unbounded ct_unbounded), sl_unbounded⟩)
    (c_unbounded : PySem.W.codeIn K cd_unbounded "unbounded" = true)
    (k_unbounded : PySem.W.keepIn K (.ref f_unbounded) = true)
    (a_is_work : PySem.W.nsIn K mainGlobals "is_work" = some (some (.ref f_is_work)))
    (l_is_work : K.lookup f_is_work = some ⟨oc_is_work, od_is_work, .func (PySem.W.fnOf "is_work" "is_work" (defArgs s_is_work) (defBody s_is_work) (defScope s_is_work) .none kV_is_work dc_is_work pm_is_work an_is_work cd_is_work ct_is_work), sl_is_work⟩)
    (c_is_work : PySem.W.codeIn K cd_is_work "is_work" = true)
    (k_is_work : PySem.W.keepIn K (.ref f_is_work) = true)
    (a_is_row : PySem.W.nsIn K mainGlobals "is_row" = some (some (.ref f_is_row)))
    (l_is_row : K.lookup f_is_row = some ⟨oc_is_row, od_is_row, .func (PySem.W.fnOf "is_row" "is_row" (defArgs s_is_row) (defBody s_is_row) (defScope s_is_row) .none kV_is_row dc_is_row pm_is_row an_is_row cd_is_row ct_is_row), sl_is_row⟩)
    (c_is_row : PySem.W.codeIn K cd_is_row "is_row" = true)
    (k_is_row : PySem.W.keepIn K (.ref f_is_row) = true)
    (a_is_group : PySem.W.nsIn K mainGlobals "is_group" = some (some (.ref f_is_group)))
    (l_is_group : K.lookup f_is_group = some ⟨oc_is_group, od_is_group, .func (PySem.W.fnOf "is_group" "is_group" (defArgs s_is_group) (defBody s_is_group) (defScope s_is_group) .none kV_is_group dc_is_group pm_is_group an_is_group cd_is_group ct_is_group), sl_is_group⟩)
    (c_is_group : PySem.W.codeIn K cd_is_group "is_group" = true)
    (k_is_group : PySem.W.keepIn K (.ref f_is_group) = true)
    (a_part : PySem.W.nsIn K mainGlobals "part" = some (some (.ref f_part)))
    (l_part : K.lookup f_part = some ⟨oc_part, od_part, .func (PySem.W.fnOf "part" "part" (defArgs s_part) (defBody s_part) (defScope s_part) .none kV_part dc_part pm_part an_part cd_part ct_part), sl_part⟩)
    (c_part : PySem.W.codeIn K cd_part "part" = true)
    (k_part : PySem.W.keepIn K (.ref f_part) = true)
    (a_joined : PySem.W.nsIn K mainGlobals "joined" = some (some (.ref f_joined)))
    (l_joined : K.lookup f_joined = some ⟨oc_joined, od_joined, .func (PySem.W.fnOf "joined" "joined" (defArgs s_joined) (defBody s_joined) (defScope s_joined) .none kV_joined dc_joined pm_joined an_joined cd_joined ct_joined), sl_joined⟩)
    (c_joined : PySem.W.codeIn K cd_joined "joined" = true)
    (k_joined : PySem.W.keepIn K (.ref f_joined) = true)
    (a_shifted : PySem.W.nsIn K mainGlobals "shifted" = some (some (.ref f_shifted)))
    (l_shifted : K.lookup f_shifted = some ⟨oc_shifted, od_shifted, .func (PySem.W.fnOf "shifted" "shifted" (defArgs s_shifted) (defBody s_shifted) (defScope s_shifted) .none kV_shifted dc_shifted pm_shifted an_shifted cd_shifted ct_shifted), sl_shifted⟩)
    (c_shifted : PySem.W.codeIn K cd_shifted "shifted" = true)
    (k_shifted : PySem.W.keepIn K (.ref f_shifted) = true)
    (a_l_pool : PySem.W.nsIn K mainGlobals "_law_pool" = some (some (.ref f_l_pool)))
    (l_l_pool : K.lookup f_l_pool = some ⟨oc_l_pool, od_l_pool, .func (PySem.W.fnOf "_law_pool" "_law_pool" (defArgs s_l_pool) (defBody s_l_pool) (defScope s_l_pool) .none kV_l_pool dc_l_pool pm_l_pool an_l_pool cd_l_pool ct_l_pool), sl_l_pool⟩)
    (c_l_pool : PySem.W.codeIn K cd_l_pool "_law_pool" = true)
    (k_l_pool : PySem.W.keepIn K (.ref f_l_pool) = true)
    (a_l_draw : PySem.W.nsIn K mainGlobals "_law_draw" = some (some (.ref f_l_draw)))
    (l_l_draw : K.lookup f_l_draw = some ⟨oc_l_draw, od_l_draw, .func (PySem.W.fnOf "_law_draw" "_law_draw" (defArgs s_l_draw) (defBody s_l_draw) (defScope s_l_draw) .none kV_l_draw dc_l_draw pm_l_draw an_l_draw cd_l_draw ct_l_draw), sl_l_draw⟩)
    (c_l_draw : PySem.W.codeIn K cd_l_draw "_law_draw" = true)
    (k_l_draw : PySem.W.keepIn K (.ref f_l_draw) = true)
    (a_l_windows : PySem.W.nsIn K mainGlobals "_law_windows" = some (some (.ref f_l_windows)))
    (l_l_windows : K.lookup f_l_windows = some ⟨oc_l_windows, od_l_windows, .func (PySem.W.fnOf "_law_windows" "_law_windows" (defArgs s_l_windows) (defBody s_l_windows) (defScope s_l_windows) .none kV_l_windows dc_l_windows pm_l_windows an_l_windows cd_l_windows ct_l_windows), sl_l_windows⟩)
    (c_l_windows : PySem.W.codeIn K cd_l_windows "_law_windows" = true)
    (k_l_windows : PySem.W.keepIn K (.ref f_l_windows) = true)
    (a_l_some : PySem.W.nsIn K mainGlobals "_law_some" = some (some (.ref f_l_some)))
    (l_l_some : K.lookup f_l_some = some ⟨oc_l_some, od_l_some, .func (PySem.W.fnOf "_law_some" "_law_some" (defArgs s_l_some) (defBody s_l_some) (defScope s_l_some) .none kV_l_some dc_l_some pm_l_some an_l_some cd_l_some ct_l_some), sl_l_some⟩)
    (c_l_some : PySem.W.codeIn K cd_l_some "_law_some" = true)
    (k_l_some : PySem.W.keepIn K (.ref f_l_some) = true)
    (a_l_main : PySem.W.nsIn K mainGlobals "_law_main" = some (some (.ref f_l_main)))
    (l_l_main : K.lookup f_l_main = some ⟨oc_l_main, od_l_main, .func (PySem.W.fnOf "_law_main" "_law_main" (defArgs s_l_main) (defBody s_l_main) (defScope s_l_main) .none kV_l_main dc_l_main pm_l_main an_l_main cd_l_main ct_l_main), sl_l_main⟩)
    (c_l_main : PySem.W.codeIn K cd_l_main "_law_main" = true)
    (k_l_main : PySem.W.keepIn K (.ref f_l_main) = true)
    (a_l_told : PySem.W.nsIn K mainGlobals "_law_told" = some (some (.ref f_l_told)))
    (l_l_told : K.lookup f_l_told = some ⟨oc_l_told, od_l_told, .func (PySem.W.fnOf "_law_told" "_law_told" (defArgs s_l_told) (defBody s_l_told) (defScope s_l_told) .none kV_l_told dc_l_told pm_l_told an_l_told cd_l_told ct_l_told), sl_l_told⟩)
    (c_l_told : PySem.W.codeIn K cd_l_told "_law_told" = true)
    (k_l_told : PySem.W.keepIn K (.ref f_l_told) = true)
    (a_l_more : PySem.W.nsIn K mainGlobals "_law_more" = some (some (.ref f_l_more)))
    (l_l_more : K.lookup f_l_more = some ⟨oc_l_more, od_l_more, .func (PySem.W.fnOf "_law_more" "_law_more" (defArgs s_l_more) (defBody s_l_more) (defScope s_l_more) .none kV_l_more dc_l_more pm_l_more an_l_more cd_l_more ct_l_more), sl_l_more⟩)
    (c_l_more : PySem.W.codeIn K cd_l_more "_law_more" = true)
    (k_l_more : PySem.W.keepIn K (.ref f_l_more) = true)
    (a_law : PySem.W.nsIn K mainGlobals "law" = some (some (.ref f_law)))
    (l_law : K.lookup f_law = some ⟨oc_law, od_law, .func (PySem.W.fnOf "law" "law" (defArgs s_law) (defBody s_law) (defScope s_law) .none kV_law dc_law pm_law an_law cd_law ct_law), sl_law⟩)
    (c_law : PySem.W.codeIn K cd_law "law" = true)
    (k_law : PySem.W.keepIn K (.ref f_law) = true)
    (gc_MOST_HOUR : PySem.W.nsIn K mainGlobals "MOST_HOUR" = some (some (.int 1000000 u_MOST_HOUR)))
    (gc_MOST_WORKS : PySem.W.nsIn K mainGlobals "MOST_WORKS" = some (some (.int 40 u_MOST_WORKS)))
    (z_abs : PySem.W.nsIn K mainGlobals "abs" = some none)
    (z_all : PySem.W.nsIn K mainGlobals "all" = some none)
    (z_bool : PySem.W.nsIn K mainGlobals "bool" = some none)
    (z_int : PySem.W.nsIn K mainGlobals "int" = some none)
    (z_isinstance : PySem.W.nsIn K mainGlobals "isinstance" = some none)
    (z_len : PySem.W.nsIn K mainGlobals "len" = some none)
    (z_list : PySem.W.nsIn K mainGlobals "list" = some none)
    (z_max : PySem.W.nsIn K mainGlobals "max" = some none)
    (z_min : PySem.W.nsIn K mainGlobals "min" = some none)
    (z_range : PySem.W.nsIn K mainGlobals "range" = some none)
    (z_set : PySem.W.nsIn K mainGlobals "set" = some none)
    (z_sorted : PySem.W.nsIn K mainGlobals "sorted" = some none)
    (z_sum : PySem.W.nsIn K mainGlobals "sum" = some none)
    (z_tuple : PySem.W.nsIn K mainGlobals "tuple" = some none)
    (kz1 : PySem.W.specialIn K (.builtin "object.__class__") "__get__" = some (some (.builtin "getset_descriptor.__get__")))
    (kz2 : PySem.W.takesIn K (.builtin "object.__class__") = some true)
    (xg_NoGroup : PySem.W.findIn K (.ref C_NoGroup) "__getattribute__" = some (some (.builtin "BaseException.__getattribute__")))
    (xk_NoGroup : PySem.W.findIn K (.ref C_NoGroup) "__getattr__" = some none)
    (xa_NoGroup : PySem.W.findIn K (.ref C_NoGroup) "__class__" = some (some (.builtin "object.__class__")))
    (xm_NoGroup : PySem.W.mroIn K C_NoGroup (.type "object") = some true)
    (xs_NoGroup : PySem.W.subIn K (.ref C_NoGroup) (.ref C_MiddleError) = some true)
    (xs_NoGroup_NoNumber : PySem.W.subIn K (.ref C_NoGroup) (.ref C_NoNumber) = some false)
    (xg_NoNumber : PySem.W.findIn K (.ref C_NoNumber) "__getattribute__" = some (some (.builtin "BaseException.__getattribute__")))
    (xk_NoNumber : PySem.W.findIn K (.ref C_NoNumber) "__getattr__" = some none)
    (xa_NoNumber : PySem.W.findIn K (.ref C_NoNumber) "__class__" = some (some (.builtin "object.__class__")))
    (xm_NoNumber : PySem.W.mroIn K C_NoNumber (.type "object") = some true)
    (xs_NoNumber : PySem.W.subIn K (.ref C_NoNumber) (.ref C_MiddleError) = some true)
    (xs_NoNumber_NoGroup : PySem.W.subIn K (.ref C_NoNumber) (.ref C_NoGroup) = some false) :
    ∃ fd : FuncData, (∀ (s : Shared) (v : Value), BindsTo s fd ⟨[v], []⟩ [("_law_script", v)]) ∧ ∀ base : Heap, K.In base → base.Ns mainGlobals mg → FnOk l.prog w K mg base CX0 10 fa fd ["_law_script"] (sp_law K ⟨fun _ => 0, fun _ => 0⟩) := by
  have e := (PySem.W.mg_of X G a_law).symm.trans hfa
  cases e
  have T : Txt K mg ⟨fun n => ([f_BadBook_init, 0, f_is_integer, f_is_pair, f_Book_init, f_is_windows, f_is_window, f_is_work, 0, 0, 0, f_l_pool, f_l_draw, f_l_windows, 0, fa, 0, 0, f_is_row, 0, 0, 0, 0, 0, 0, 0, 0, 0, f_l_some, 0, 0, 0, 0, 0, 0, 0, f_NoNumber_init, f_Book_eq, f_unbounded, f_shifted, 0, 0, f_NoGroup_init, f_is_group, f_part, f_joined, f_l_main, f_l_told, f_l_more] : List Addr).getD n 0, fun n => ([C_BadBook, 0, C_Book, 0, 0, C_NoNumber, C_MiddleError, C_NoGroup] : List Addr).getD n 0⟩ ⟨fun n => ([PySem.W.fnOf "__init__" "BadBook.__init__" (defArgs s_BadBook_init) (defBody s_BadBook_init) (defScope s_BadBook_init) .none kV_BadBook_init dc_BadBook_init pm_BadBook_init an_BadBook_init cd_BadBook_init ct_BadBook_init, PySem.W.fnOf "law" "law" (defArgs s_law) (defBody s_law) (defScope s_law) .none kV_law dc_law pm_law an_law cd_law ct_law, PySem.W.fnOf "is_integer" "is_integer" (defArgs s_is_integer) (defBody s_is_integer) (defScope s_is_integer) .none kV_is_integer dc_is_integer pm_is_integer an_is_integer cd_is_integer ct_is_integer, PySem.W.fnOf "is_pair" "is_pair" (defArgs s_is_pair) (defBody s_is_pair) (defScope s_is_pair) .none kV_is_pair dc_is_pair pm_is_pair an_is_pair cd_is_pair ct_is_pair, PySem.W.fnOf "__init__" "Book.__init__" (defArgs s_Book_init) (defBody s_Book_init) (defScope s_Book_init) .none kV_Book_init dc_Book_init pm_Book_init an_Book_init cd_Book_init ct_Book_init, PySem.W.fnOf "is_windows" "is_windows" (defArgs s_is_windows) (defBody s_is_windows) (defScope s_is_windows) .none kV_is_windows dc_is_windows pm_is_windows an_is_windows cd_is_windows ct_is_windows, PySem.W.fnOf "is_window" "is_window" (defArgs s_is_window) (defBody s_is_window) (defScope s_is_window) .none kV_is_window dc_is_window pm_is_window an_is_window cd_is_window ct_is_window, PySem.W.fnOf "is_work" "is_work" (defArgs s_is_work) (defBody s_is_work) (defScope s_is_work) .none kV_is_work dc_is_work pm_is_work an_is_work cd_is_work ct_is_work, PySem.W.fnOf "law" "law" (defArgs s_law) (defBody s_law) (defScope s_law) .none kV_law dc_law pm_law an_law cd_law ct_law, PySem.W.fnOf "law" "law" (defArgs s_law) (defBody s_law) (defScope s_law) .none kV_law dc_law pm_law an_law cd_law ct_law, PySem.W.fnOf "law" "law" (defArgs s_law) (defBody s_law) (defScope s_law) .none kV_law dc_law pm_law an_law cd_law ct_law, PySem.W.fnOf "_law_pool" "_law_pool" (defArgs s_l_pool) (defBody s_l_pool) (defScope s_l_pool) .none kV_l_pool dc_l_pool pm_l_pool an_l_pool cd_l_pool ct_l_pool, PySem.W.fnOf "_law_draw" "_law_draw" (defArgs s_l_draw) (defBody s_l_draw) (defScope s_l_draw) .none kV_l_draw dc_l_draw pm_l_draw an_l_draw cd_l_draw ct_l_draw, PySem.W.fnOf "_law_windows" "_law_windows" (defArgs s_l_windows) (defBody s_l_windows) (defScope s_l_windows) .none kV_l_windows dc_l_windows pm_l_windows an_l_windows cd_l_windows ct_l_windows, PySem.W.fnOf "law" "law" (defArgs s_law) (defBody s_law) (defScope s_law) .none kV_law dc_law pm_law an_law cd_law ct_law, PySem.W.fnOf "law" "law" (defArgs s_law) (defBody s_law) (defScope s_law) .none kV_law dc_law pm_law an_law cd_law ct_law, PySem.W.fnOf "law" "law" (defArgs s_law) (defBody s_law) (defScope s_law) .none kV_law dc_law pm_law an_law cd_law ct_law, PySem.W.fnOf "law" "law" (defArgs s_law) (defBody s_law) (defScope s_law) .none kV_law dc_law pm_law an_law cd_law ct_law, PySem.W.fnOf "is_row" "is_row" (defArgs s_is_row) (defBody s_is_row) (defScope s_is_row) .none kV_is_row dc_is_row pm_is_row an_is_row cd_is_row ct_is_row, PySem.W.fnOf "law" "law" (defArgs s_law) (defBody s_law) (defScope s_law) .none kV_law dc_law pm_law an_law cd_law ct_law, PySem.W.fnOf "law" "law" (defArgs s_law) (defBody s_law) (defScope s_law) .none kV_law dc_law pm_law an_law cd_law ct_law, PySem.W.fnOf "law" "law" (defArgs s_law) (defBody s_law) (defScope s_law) .none kV_law dc_law pm_law an_law cd_law ct_law, PySem.W.fnOf "law" "law" (defArgs s_law) (defBody s_law) (defScope s_law) .none kV_law dc_law pm_law an_law cd_law ct_law, PySem.W.fnOf "law" "law" (defArgs s_law) (defBody s_law) (defScope s_law) .none kV_law dc_law pm_law an_law cd_law ct_law, PySem.W.fnOf "law" "law" (defArgs s_law) (defBody s_law) (defScope s_law) .none kV_law dc_law pm_law an_law cd_law ct_law, PySem.W.fnOf "law" "law" (defArgs s_law) (defBody s_law) (defScope s_law) .none kV_law dc_law pm_law an_law cd_law ct_law, PySem.W.fnOf "law" "law" (defArgs s_law) (defBody s_law) (defScope s_law) .none kV_law dc_law pm_law an_law cd_law ct_law, PySem.W.fnOf "law" "law" (defArgs s_law) (defBody s_law) (defScope s_law) .none kV_law dc_law pm_law an_law cd_law ct_law, PySem.W.fnOf "_law_some" "_law_some" (defArgs s_l_some) (defBody s_l_some) (defScope s_l_some) .none kV_l_some dc_l_some pm_l_some an_l_some cd_l_some ct_l_some, PySem.W.fnOf "law" "law" (defArgs s_law) (defBody s_law) (defScope s_law) .none kV_law dc_law pm_law an_law cd_law ct_law, PySem.W.fnOf "law" "law" (defArgs s_law) (defBody s_law) (defScope s_law) .none kV_law dc_law pm_law an_law cd_law ct_law, PySem.W.fnOf "law" "law" (defArgs s_law) (defBody s_law) (defScope s_law) .none kV_law dc_law pm_law an_law cd_law ct_law, PySem.W.fnOf "law" "law" (defArgs s_law) (defBody s_law) (defScope s_law) .none kV_law dc_law pm_law an_law cd_law ct_law, PySem.W.fnOf "law" "law" (defArgs s_law) (defBody s_law) (defScope s_law) .none kV_law dc_law pm_law an_law cd_law ct_law, PySem.W.fnOf "law" "law" (defArgs s_law) (defBody s_law) (defScope s_law) .none kV_law dc_law pm_law an_law cd_law ct_law, PySem.W.fnOf "law" "law" (defArgs s_law) (defBody s_law) (defScope s_law) .none kV_law dc_law pm_law an_law cd_law ct_law, PySem.W.fnOf "__init__" "NoNumber.__init__" (defArgs s_NoNumber_init) (defBody s_NoNumber_init) (defScope s_NoNumber_init) .none kV_NoNumber_init dc_NoNumber_init pm_NoNumber_init an_NoNumber_init cd_NoNumber_init ct_NoNumber_init, PySem.W.fnOf "__eq__" "Book.__eq__" (defArgs s_Book_eq) (defBody s_Book_eq) (defScope s_Book_eq) .none kV_Book_eq dc_Book_eq pm_Book_eq an_Book_eq cd_Book_eq ct_Book_eq, PySem.W.fnOf "unbounded" "unbounded" (defArgs s_unbounded) (defBody s_unbounded) (defScope s_unbounded) .none kV_unbounded dc_unbounded pm_unbounded an_unbounded cd_unbounded ct_unbounded, PySem.W.fnOf "shifted" "shifted" (defArgs s_shifted) (defBody s_shifted) (defScope s_shifted) .none kV_shifted dc_shifted pm_shifted an_shifted cd_shifted ct_shifted, PySem.W.fnOf "law" "law" (defArgs s_law) (defBody s_law) (defScope s_law) .none kV_law dc_law pm_law an_law cd_law ct_law, PySem.W.fnOf "law" "law" (defArgs s_law) (defBody s_law) (defScope s_law) .none kV_law dc_law pm_law an_law cd_law ct_law, PySem.W.fnOf "__init__" "NoGroup.__init__" (defArgs s_NoGroup_init) (defBody s_NoGroup_init) (defScope s_NoGroup_init) .none kV_NoGroup_init dc_NoGroup_init pm_NoGroup_init an_NoGroup_init cd_NoGroup_init ct_NoGroup_init, PySem.W.fnOf "is_group" "is_group" (defArgs s_is_group) (defBody s_is_group) (defScope s_is_group) .none kV_is_group dc_is_group pm_is_group an_is_group cd_is_group ct_is_group, PySem.W.fnOf "part" "part" (defArgs s_part) (defBody s_part) (defScope s_part) .none kV_part dc_part pm_part an_part cd_part ct_part, PySem.W.fnOf "joined" "joined" (defArgs s_joined) (defBody s_joined) (defScope s_joined) .none kV_joined dc_joined pm_joined an_joined cd_joined ct_joined, PySem.W.fnOf "_law_main" "_law_main" (defArgs s_l_main) (defBody s_l_main) (defScope s_l_main) .none kV_l_main dc_l_main pm_l_main an_l_main cd_l_main ct_l_main, PySem.W.fnOf "_law_told" "_law_told" (defArgs s_l_told) (defBody s_l_told) (defScope s_l_told) .none kV_l_told dc_l_told pm_l_told an_l_told cd_l_told ct_l_told, PySem.W.fnOf "_law_more" "_law_more" (defArgs s_l_more) (defBody s_l_more) (defScope s_l_more) .none kV_l_more dc_l_more pm_l_more an_l_more cd_l_more ct_l_more] : List FuncData).getD n (PySem.W.fnOf "law" "law" (defArgs s_law) (defBody s_law) (defScope s_law) .none kV_law dc_law pm_law an_law cd_law ct_law)⟩ := {
    g_MiddleError := PySem.W.mg_of X G aC_MiddleError,
    g_BadBook := PySem.W.mg_of X G aC_BadBook,
    e_BadBook := ⟨⟨nm_BadBook, q_BadBook, N_BadBook, bs_BadBook, _, sn_BadBook, sub_BadBook, ab_BadBook, col_BadBook, dd_BadBook, m0_BadBook, m1_BadBook, m2_BadBook, m3_BadBook, m5_BadBook, xL_BadBook, rfl⟩, sa_BadBook, eC_BadBook, tC_BadBook, kC_BadBook⟩,
    i_BadBook := a_BadBook_init,
    t_BadBook := t_BadBook_init,
    m_BadBook := PySem.W.exm_ref eC_BadBook hC_BadBook tC_BadBook sC_BadBook,
    g_NoGroup := PySem.W.mg_of X G aC_NoGroup,
    e_NoGroup := ⟨⟨nm_NoGroup, q_NoGroup, N_NoGroup, bs_NoGroup, _, sn_NoGroup, sub_NoGroup, ab_NoGroup, col_NoGroup, dd_NoGroup, m0_NoGroup, m1_NoGroup, m2_NoGroup, m3_NoGroup, m5_NoGroup, xL_NoGroup, rfl⟩, sa_NoGroup, eC_NoGroup, tC_NoGroup, kC_NoGroup⟩,
    i_NoGroup := a_NoGroup_init,
    t_NoGroup := t_NoGroup_init,
    m_NoGroup := PySem.W.exm_ref eC_NoGroup hC_NoGroup tC_NoGroup sC_NoGroup,
    g_NoNumber := PySem.W.mg_of X G aC_NoNumber,
    e_NoNumber := ⟨⟨nm_NoNumber, q_NoNumber, N_NoNumber, bs_NoNumber, _, sn_NoNumber, sub_NoNumber, ab_NoNumber, col_NoNumber, dd_NoNumber, m0_NoNumber, m1_NoNumber, m2_NoNumber, m3_NoNumber, m5_NoNumber, xL_NoNumber, rfl⟩, sa_NoNumber, eC_NoNumber, tC_NoNumber, kC_NoNumber⟩,
    i_NoNumber := a_NoNumber_init,
    t_NoNumber := t_NoNumber_init,
    m_NoNumber := PySem.W.exm_ref eC_NoNumber hC_NoNumber tC_NoNumber sC_NoNumber,
    g_Book := PySem.W.mg_of X G aC_Book,
    cl_Book := ⟨pg_Book, hd_Book, po_Book, sa_Book⟩,
    mk_Book := ⟨mk_Book, a_Book_init, i_Book_init, kc_Book⟩,
    e_Book := a_Book_eq,
    kf_Book := i_Book_eq,
    ne_Book := ne_Book,
    ob_Book := ob_Book,
    ty_Book := ⟨kc1_Book, kc2_Book, kc3_Book⟩,
    na_windows := na_windows,
    F_BadBook_init := fun_mk (st := s_BadBook_init) l_BadBook_init c_BadBook_init k_BadBook_init,
    F_NoGroup_init := fun_mk (st := s_NoGroup_init) l_NoGroup_init c_NoGroup_init k_NoGroup_init,
    F_NoNumber_init := fun_mk (st := s_NoNumber_init) l_NoNumber_init c_NoNumber_init k_NoNumber_init,
    g_is_integer := PySem.W.mg_of X G a_is_integer,
    F_is_integer := fun_mk (st := s_is_integer) l_is_integer c_is_integer k_is_integer,
    g_is_pair := PySem.W.mg_of X G a_is_pair,
    F_is_pair := fun_mk (st := s_is_pair) l_is_pair c_is_pair k_is_pair,
    F_Book_init := fun_mk (st := s_Book_init) l_Book_init c_Book_init k_Book_init,
    F_Book_eq := fun_mk (st := s_Book_eq) l_Book_eq c_Book_eq k_Book_eq,
    g_is_windows := PySem.W.mg_of X G a_is_windows,
    F_is_windows := fun_mk (st := s_is_windows) l_is_windows c_is_windows k_is_windows,
    g_is_window := PySem.W.mg_of X G a_is_window,
    F_is_window := fun_mk (st := s_is_window) l_is_window c_is_window k_is_window,
    g_unbounded := PySem.W.mg_of X G a_unbounded,
    F_unbounded := fun_mk (st := s_unbounded) l_unbounded c_unbounded k_unbounded,
    g_is_work := PySem.W.mg_of X G a_is_work,
    F_is_work := fun_mk (st := s_is_work) l_is_work c_is_work k_is_work,
    g_is_row := PySem.W.mg_of X G a_is_row,
    F_is_row := fun_mk (st := s_is_row) l_is_row c_is_row k_is_row,
    g_is_group := PySem.W.mg_of X G a_is_group,
    F_is_group := fun_mk (st := s_is_group) l_is_group c_is_group k_is_group,
    g_part := PySem.W.mg_of X G a_part,
    F_part := fun_mk (st := s_part) l_part c_part k_part,
    g_joined := PySem.W.mg_of X G a_joined,
    F_joined := fun_mk (st := s_joined) l_joined c_joined k_joined,
    g_shifted := PySem.W.mg_of X G a_shifted,
    F_shifted := fun_mk (st := s_shifted) l_shifted c_shifted k_shifted,
    g_l_pool := PySem.W.mg_of X G a_l_pool,
    F_l_pool := fun_mk (st := s_l_pool) l_l_pool c_l_pool k_l_pool,
    g_l_draw := PySem.W.mg_of X G a_l_draw,
    F_l_draw := fun_mk (st := s_l_draw) l_l_draw c_l_draw k_l_draw,
    g_l_windows := PySem.W.mg_of X G a_l_windows,
    F_l_windows := fun_mk (st := s_l_windows) l_l_windows c_l_windows k_l_windows,
    g_l_some := PySem.W.mg_of X G a_l_some,
    F_l_some := fun_mk (st := s_l_some) l_l_some c_l_some k_l_some,
    g_l_main := PySem.W.mg_of X G a_l_main,
    F_l_main := fun_mk (st := s_l_main) l_l_main c_l_main k_l_main,
    g_l_told := PySem.W.mg_of X G a_l_told,
    F_l_told := fun_mk (st := s_l_told) l_l_told c_l_told k_l_told,
    g_l_more := PySem.W.mg_of X G a_l_more,
    F_l_more := fun_mk (st := s_l_more) l_l_more c_l_more k_l_more,
    g_law := PySem.W.mg_of X G a_law,
    F_law := fun_mk (st := s_law) l_law c_law k_law,
    c_MOST_HOUR := ⟨_, PySem.W.mg_of X G gc_MOST_HOUR⟩,
    c_MOST_WORKS := ⟨_, PySem.W.mg_of X G gc_MOST_WORKS⟩,
    n_abs := PySem.W.mg_none_of X G z_abs,
    n_all := PySem.W.mg_none_of X G z_all,
    n_bool := PySem.W.mg_none_of X G z_bool,
    n_int := PySem.W.mg_none_of X G z_int,
    n_isinstance := PySem.W.mg_none_of X G z_isinstance,
    n_len := PySem.W.mg_none_of X G z_len,
    n_list := PySem.W.mg_none_of X G z_list,
    n_max := PySem.W.mg_none_of X G z_max,
    n_min := PySem.W.mg_none_of X G z_min,
    n_range := PySem.W.mg_none_of X G z_range,
    n_set := PySem.W.mg_none_of X G z_set,
    n_sorted := PySem.W.mg_none_of X G z_sorted,
    n_sum := PySem.W.mg_none_of X G z_sum,
    n_tuple := PySem.W.mg_none_of X G z_tuple,
    x_NoGroup := ⟨xg_NoGroup, xk_NoGroup, eC_NoGroup, hC_NoGroup, xa_NoGroup, kz1, kz2, xm_NoGroup⟩,
    mm_NoGroup := PySem.W.exm_ref eC_MiddleError hC_MiddleError tC_MiddleError xs_NoGroup,
    k_NoGroup_NoGroup := kit_own hC_NoGroup tC_NoGroup sC_NoGroup sC_NoGroup,
    k_NoGroup_NoNumber := kit_own hC_NoNumber tC_NoNumber xs_NoGroup_NoNumber sC_NoGroup,
    x_NoNumber := ⟨xg_NoNumber, xk_NoNumber, eC_NoNumber, hC_NoNumber, xa_NoNumber, kz1, kz2, xm_NoNumber⟩,
    mm_NoNumber := PySem.W.exm_ref eC_MiddleError hC_MiddleError tC_MiddleError xs_NoNumber,
    k_NoNumber_NoGroup := kit_own hC_NoGroup tC_NoGroup xs_NoNumber_NoGroup sC_NoNumber,
    k_NoNumber_NoNumber := kit_own hC_NoNumber tC_NoNumber sC_NoNumber sC_NoNumber }
  exact ⟨PySem.W.fnOf "law" "law" (defArgs s_law) (defBody s_law) (defScope s_law) .none kV_law dc_law pm_law an_law cd_law ct_law, fun s v => .of_eq rfl, fun base _ _ => ok_law T⟩
theorem walk {l : PySem.W.OpenLaw} {q : Program} {loose : List Str} {XP : (Str → Option Value) → Heap → Prop} {YP : World → Heap → Prop} {d : DefRec} {K : Params → PySem.W.Frag} (hn : l.most = some 63) (hdf : d.params.defaults = [])
    (hY : ∀ (w : World) (h : Heap), YP w h → (K w.params).In h)
    (F : ∀ (w : World) (mg : Str → Option Value) (fa : Addr) (h : Heap), (K w.params).In h → h.Ns mainGlobals mg → mg d.name = some (.ref fa) →
      ∃ fd : FuncData, (∀ (s : Shared) (u : Value), BindsTo s fd ⟨[u], []⟩ [("_law_script", u)]) ∧ ∀ base : Heap, (K w.params).In base → base.Ns mainGlobals mg → FnOk l.prog w (K w.params) mg base CX0 10 fa fd ["_law_script"] (sp_law (K w.params) ⟨fun _ => 0, fun _ => 0⟩)) :
    PySem.W.WalkO q loose XP YP l.row.toRowW d [] (fun f vs => PySem.call f vs) :=
  L2.walk_of (n := 63) (k := 10) (x := "_law_script") (CX := fun _ => CX0) (sp := fun w => sp_law (K w.params) ⟨fun _ => 0, fun _ => 0⟩) hn (by decide) hdf ⟨rfl, by decide, by decide⟩ hY F (fun _ _ a ns hl _ hS => ⟨a, ns, rfl, hS, hl, fun _ => rfl⟩) fun _ _ _ _ _ z => z
end My
open PySem PySem.W PyProof.Rows
set_option maxRecDepth 100000 in
set_option maxHeartbeats 0 in
theorem PySem.Challenge.cw_bymiddles_k05_whole_parts_joined_and_shi_holds : PySem.Challenge.rw_bymiddles_k05_whole_parts_joined_and_shi.Holds := by
  w_on; o_law; k_head; (case hw => w_witness2)
  k_fill
  refine My.walk (l := PySem.Challenge.rw_bymiddles_k05_whole_parts_joined_and_shi) rfl rfl (fun w h Y => PySem.W.kIn_of Y) ?F
  case F =>
    intro w mg fa h KX G hmg
    refine' My.all_mk KX G hmg ?aC_MiddleError ?eC_MiddleError ?tC_MiddleError ?hC_MiddleError ?aC_BadBook ?xL_BadBook ?sa_BadBook ?kC_BadBook ?eC_BadBook ?tC_BadBook ?hC_BadBook ?sC_BadBook ?aC_NoGroup ?xL_NoGroup ?sa_NoGroup ?kC_NoGroup ?eC_NoGroup ?tC_NoGroup ?hC_NoGroup ?sC_NoGroup ?aC_NoNumber ?xL_NoNumber ?sa_NoNumber ?kC_NoNumber ?eC_NoNumber ?tC_NoNumber ?hC_NoNumber ?sC_NoNumber ?aC_Book ?pg_Book ?hd_Book ?po_Book ?sa_Book ?mk_Book ?kc_Book ?ne_Book ?ob_Book ?kc1_Book ?kc2_Book ?kc3_Book ?na_windows ?a_BadBook_init ?t_BadBook_init ?l_BadBook_init ?c_BadBook_init ?k_BadBook_init ?a_NoGroup_init ?t_NoGroup_init ?l_NoGroup_init ?c_NoGroup_init ?k_NoGroup_init ?a_NoNumber_init ?t_NoNumber_init ?l_NoNumber_init ?c_NoNumber_init ?k_NoNumber_init ?a_is_integer ?l_is_integer ?c_is_integer ?k_is_integer ?a_is_pair ?l_is_pair ?c_is_pair ?k_is_pair ?a_Book_init ?i_Book_init ?l_Book_init ?c_Book_init ?k_Book_init ?a_Book_eq ?i_Book_eq ?l_Book_eq ?c_Book_eq ?k_Book_eq ?a_is_windows ?l_is_windows ?c_is_windows ?k_is_windows ?a_is_window ?l_is_window ?c_is_window ?k_is_window ?a_unbounded ?l_unbounded ?c_unbounded ?k_unbounded ?a_is_work ?l_is_work ?c_is_work ?k_is_work ?a_is_row ?l_is_row ?c_is_row ?k_is_row ?a_is_group ?l_is_group ?c_is_group ?k_is_group ?a_part ?l_part ?c_part ?k_part ?a_joined ?l_joined ?c_joined ?k_joined ?a_shifted ?l_shifted ?c_shifted ?k_shifted ?a_l_pool ?l_l_pool ?c_l_pool ?k_l_pool ?a_l_draw ?l_l_draw ?c_l_draw ?k_l_draw ?a_l_windows ?l_l_windows ?c_l_windows ?k_l_windows ?a_l_some ?l_l_some ?c_l_some ?k_l_some ?a_l_main ?l_l_main ?c_l_main ?k_l_main ?a_l_told ?l_l_told ?c_l_told ?k_l_told ?a_l_more ?l_l_more ?c_l_more ?k_l_more ?a_law ?l_law ?c_law ?k_law ?gc_MOST_HOUR ?gc_MOST_WORKS ?z_abs ?z_all ?z_bool ?z_int ?z_isinstance ?z_len ?z_list ?z_max ?z_min ?z_range ?z_set ?z_sorted ?z_sum ?z_tuple ?kz1 ?kz2 ?xg_NoGroup ?xk_NoGroup ?xa_NoGroup ?xm_NoGroup ?xs_NoGroup ?xs_NoGroup_NoNumber ?xg_NoNumber ?xk_NoNumber ?xa_NoNumber ?xm_NoNumber ?xs_NoNumber ?xs_NoNumber_NoGroup
    (case aC_MiddleError => k_is)
    (case eC_MiddleError => k_is)
    (case tC_MiddleError => k_is)
    (case hC_MiddleError => k_is)
    (case aC_BadBook => k_is)
    (case xL_BadBook => k_is)
    (case sa_BadBook => k_is)
    (case kC_BadBook => k_is)
    (case eC_BadBook => k_is)
    (case tC_BadBook => k_is)
    (case hC_BadBook => k_is)
    (case sC_BadBook => first | rfl | k_is)
    (case aC_NoGroup => k_is)
    (case xL_NoGroup => k_is)
    (case sa_NoGroup => k_is)
    (case kC_NoGroup => k_is)
    (case eC_NoGroup => k_is)
    (case tC_NoGroup => k_is)
    (case hC_NoGroup => k_is)
    (case sC_NoGroup => first | rfl | k_is)
    (case aC_NoNumber => k_is)
    (case xL_NoNumber => k_is)
    (case sa_NoNumber => k_is)
    (case kC_NoNumber => k_is)
    (case eC_NoNumber => k_is)
    (case tC_NoNumber => k_is)
    (case hC_NoNumber => k_is)
    (case sC_NoNumber => first | rfl | k_is)
    (case aC_Book => k_is)
    (case pg_Book => k_is)
    (case hd_Book => k_is)
    (case po_Book => k_is)
    (case sa_Book => k_is)
    (case mk_Book => k_is)
    (case kc_Book => k_is)
    (case ne_Book => k_is)
    (case ob_Book => k_is)
    (case kc1_Book => k_is)
    (case kc2_Book => k_is)
    (case kc3_Book => k_is)
    (case na_windows => k_is)
    (case a_BadBook_init => k_is)
    (case t_BadBook_init => k_is)
    (case l_BadBook_init => k_is)
    (case c_BadBook_init => k_is)
    (case k_BadBook_init => k_is)
    (case a_NoGroup_init => k_is)
    (case t_NoGroup_init => k_is)
    (case l_NoGroup_init => k_is)
    (case c_NoGroup_init => k_is)
    (case k_NoGroup_init => k_is)
    (case a_NoNumber_init => k_is)
    (case t_NoNumber_init => k_is)
    (case l_NoNumber_init => k_is)
    (case c_NoNumber_init => k_is)
    (case k_NoNumber_init => k_is)
    (case a_is_integer => k_is)
    (case l_is_integer => k_is)
    (case c_is_integer => k_is)
    (case k_is_integer => k_is)
    (case a_is_pair => k_is)
    (case l_is_pair => k_is)
    (case c_is_pair => k_is)
    (case k_is_pair => k_is)
    (case a_Book_init => k_is)
    (case i_Book_init => k_is)
    (case l_Book_init => k_is)
    (case c_Book_init => k_is)
    (case k_Book_init => k_is)
    (case a_Book_eq => k_is)
    (case i_Book_eq => k_is)
    (case l_Book_eq => k_is)
    (case c_Book_eq => k_is)
    (case k_Book_eq => k_is)
    (case a_is_windows => k_is)
    (case l_is_windows => k_is)
    (case c_is_windows => k_is)
    (case k_is_windows => k_is)
    (case a_is_window => k_is)
    (case l_is_window => k_is)
    (case c_is_window => k_is)
    (case k_is_window => k_is)
    (case a_unbounded => k_is)
    (case l_unbounded => k_is)
    (case c_unbounded => k_is)
    (case k_unbounded => k_is)
    (case a_is_work => k_is)
    (case l_is_work => k_is)
    (case c_is_work => k_is)
    (case k_is_work => k_is)
    (case a_is_row => k_is)
    (case l_is_row => k_is)
    (case c_is_row => k_is)
    (case k_is_row => k_is)
    (case a_is_group => k_is)
    (case l_is_group => k_is)
    (case c_is_group => k_is)
    (case k_is_group => k_is)
    (case a_part => k_is)
    (case l_part => k_is)
    (case c_part => k_is)
    (case k_part => k_is)
    (case a_joined => k_is)
    (case l_joined => k_is)
    (case c_joined => k_is)
    (case k_joined => k_is)
    (case a_shifted => k_is)
    (case l_shifted => k_is)
    (case c_shifted => k_is)
    (case k_shifted => k_is)
    (case a_l_pool => k_is)
    (case l_l_pool => k_is)
    (case c_l_pool => k_is)
    (case k_l_pool => k_is)
    (case a_l_draw => k_is)
    (case l_l_draw => k_is)
    (case c_l_draw => k_is)
    (case k_l_draw => k_is)
    (case a_l_windows => k_is)
    (case l_l_windows => k_is)
    (case c_l_windows => k_is)
    (case k_l_windows => k_is)
    (case a_l_some => k_is)
    (case l_l_some => k_is)
    (case c_l_some => k_is)
    (case k_l_some => k_is)
    (case a_l_main => k_is)
    (case l_l_main => k_is)
    (case c_l_main => k_is)
    (case k_l_main => k_is)
    (case a_l_told => k_is)
    (case l_l_told => k_is)
    (case c_l_told => k_is)
    (case k_l_told => k_is)
    (case a_l_more => k_is)
    (case l_l_more => k_is)
    (case c_l_more => k_is)
    (case k_l_more => k_is)
    (case a_law => k_is)
    (case l_law => k_is)
    (case c_law => k_is)
    (case k_law => k_is)
    (case gc_MOST_HOUR => k_is)
    (case gc_MOST_WORKS => k_is)
    (case z_abs => k_is)
    (case z_all => k_is)
    (case z_bool => k_is)
    (case z_int => k_is)
    (case z_isinstance => k_is)
    (case z_len => k_is)
    (case z_list => k_is)
    (case z_max => k_is)
    (case z_min => k_is)
    (case z_range => k_is)
    (case z_set => k_is)
    (case z_sorted => k_is)
    (case z_sum => k_is)
    (case z_tuple => k_is)
    (case kz1 => k_is)
    (case kz2 => k_is)
    (case xg_NoGroup => k_is)
    (case xk_NoGroup => k_is)
    (case xa_NoGroup => k_is)
    (case xm_NoGroup => k_is)
    (case xs_NoGroup => k_is)
    (case xs_NoGroup_NoNumber => k_is)
    (case xg_NoNumber => k_is)
    (case xk_NoNumber => k_is)
    (case xa_NoNumber => k_is)
    (case xm_NoNumber => k_is)
    (case xs_NoNumber => k_is)
    (case xs_NoNumber_NoGroup => k_is)
