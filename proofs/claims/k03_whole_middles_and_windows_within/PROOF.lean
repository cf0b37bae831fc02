import PyProof.Rows.All
import Wide.All
import OpenK.AllK
import Wide.FinOn
import PyProof.EqAt
import PyProof.EqKinds
import PyProof.TupleCall
import KE.KFromBytes
import KE.GoesEnum
import KE.GoesMore
import HandS.Base
import HandS.Call
import HandS.List
import HandS.Comp
import HandS.Ends
import HandS.Dict
import HandS.Iter
import HandS.Text
import HandS.Exc
import HandS.TryOnly
import HandS.ExcOwn
import HandS.ExcInit
import HandS.ExcIs
import HandS.Walk
import HandS.IsInst
import HandS.Words
import HandS.WordsList
import HandS.WordsDict
import HandS.WordsExc
import HandS.Evl
import PySem.Challenge.RW_bymiddles_k03_whole_middles_and_windows
set_option Elab.async false
set_option linter.all false
set_option maxRecDepth 100000
set_option maxHeartbeats 4000000

namespace L2
open PySem PySem.Spec PyProof.Rows
/-! ### raise X(), X an own error with an __init__(self) that passes -/
def tMkO0 (C : Addr) : St → Hp → XK → Prop := fun _ H Q => Q (.ref C) none H
def sp_pass : Sp := fun vs H Q _ => ∃ a, vs = [.ref a] ∧ Q .non H
section
variable {X : Cx}
theorem mk_end00 {pins : List (Addr × Obj)} {σ : L2.St} {H1 : Hp} {hp hp2 h2 : Heap} {g1 g2 : Array GenState} {d1 d2 : Drawn} {t1 t2 : Nat} {os1 os2 : OsState} {a C : Addr} (I1 : Inv X pins σ H1 ⟨hp, g1, d1, t1, os1⟩)
    (ha : hp.objs.size ≤ a) (k : ∀ b o, hp.get? b = some o → hp2.get? b = some o) (un : Un (frs X.stack) [] (upd H1 a (exo a C none)) (upd H1 a (exo a C none)) hp2 h2) (hok : HOk X.prog X.w (upd H1 a (exo a C none)) h2) (ho : os2 = os1) (hb : AllBare g2) :
    ∃ (t0 : Addr) (G : Heap), Inv X pins σ H1 ⟨G, g2, d2, t2, os2⟩ ∧ (∀ b o, G.get? b = some o → h2.get? b = some o) ∧ G.get? a = none ∧
      h2.get? a = some ({ cls := .ref C, dict := none, data := .fields #[.ref t0, .none, .none, .none, .bool false, .none] } : Obj) := by
  have ea : (upd H1 a (exo a C none)) a = some (exo a C none) := upd_same
  obtain ⟨t0, hoe⟩ := exo_at hok ea
  have hn : H1 a = none := I1.hok.fresh ha
  obtain ⟨G, g1', g2'⟩ := restrict h2 fun b => decide (b ≠ a)
  have gk : ∀ b, b ≠ a → G.get? b = h2.get? b := fun b hb => g1' b (decide_eq_true hb)
  have ge : G.get? a = none := g2' a (by simp)
  have nha : ∀ {b : Addr} {o : Obj}, hp.get? b = some o → b ≠ a := fun {b o} z => Nat.ne_of_lt (Nat.lt_of_lt_of_le (Heap.lt_size z) ha)
  have up : ∀ {b : Addr}, b ≠ a → H1 b = none → upd H1 a (exo a C none) b = none := fun {b} hb n => by rw [upd_ne hb]; exact n
  have U : Un (frs X.stack) [] H1 H1 hp G := {
    keep := fun b o z n hf hx => by
      rw [gk b (nha z)]
      exact un.keep b o (k b o z) (up (nha z) n) hf hx
    slot := fun b o z n hf hx => by
      rw [gk b (nha z)]
      exact un.slot b o (k b o z) (up (nha z) n) hf hx
    free := fun b o z n hx => n
    there := fun b o z hx => by
      rw [gk b (nha z)]
      exact un.there b o (k b o z) hx
    tups := fun b xs z => z
    frzs := fun b o v z => z
    tbls := fun b ps z => ⟨#[], by simpa using z⟩ }
  have hok3 : HOk X.prog X.w H1 G := fun b o z => by
    have hba : b ≠ a := fun e => by
      rw [e, hn] at z
      cases z
    have z' : (upd H1 a (exo a C none)) b = some o := by rw [upd_ne hba]; exact z
    have noa : ∀ {c : Addr}, (upd H1 a (exo a C none)) c = some (.own b) → c ≠ a := fun {c} hc => at_ne ea hc exo_own
    exact (hok b o z').stay (fun c v hc y => by
        have hca : c ≠ a := by
          rcases hc with hc | hc
          · rw [hc]
            exact hba
          · exact noa hc
        rw [gk c hca]
        exact y)
      (fun c hc => by have q := hc; rw [upd_ne (noa hc)] at q; exact q) (fun c xs hc => by have q := hc; rw [upd_ne (at_ne ea hc exo_tup)] at q; exact q)
  have J : Inv X pins σ H1 ⟨G, g2, d2, t2, os2⟩ := I1.call' (ch := []) ho U hok3 hb (fun b z => absurd z (by simp))
  refine ⟨t0, G, J, fun b o z => ?_, ge, hoe⟩
  by_cases hba : b = a
  · rw [hba, ge] at z
    cases z
  · exact (gk b hba).symm.trans z
theorem pmk_oex0 {p pos : Pos} {CX : CXT} {x : Str} {C fI : Addr} {k : Nat} {fd : FuncData} {ps : List Str} (T : OexC X.K C) (iC : PySem.W.findIn X.K (.ref C) "__init__" = some (some (.ref fI))) (tI : PySem.W.typeIn X.K (.ref fI) = some (.type "function"))
    (F1 : FnOk X.prog X.w X.K X.mg X.base CX k fI fd ps sp_pass) (hr : Room (k + 1) X.A) (hb : Binds X.K fd ps []) (hx : Passes CX X (fun _ _ _ => False)) (hg : Gl X x) (hm : X.mg x = some (.ref C))
    (hdb : (x == ("__debug__" : Str)) = false := by decide) :
    PMk X (.Call (.Name x p) [] [] pos) (tMkO0 C) := by
  intro pins s σ H Q I h
  obtain ⟨nm, q, N, bs, bm, sn, sub, ab, col, dd, k0, k1, k2, k3, k5, hC, hbm⟩ := T.cls
  refine wpAny_Call_Name_kw (ld_glob I hg hm ?_ hdb)
  refine PySem.W.callWith_K0 I.kIn T.kC ?_
  show wpAny _ _ (call (.ref C) []) _ _ _
  obtain ⟨hp, g, dr, tk, os⟩ := s
  have hsz : hp.objs.size ≤ hp.objs.size + 1 := Nat.le_succ _
  have hn : H (hp.objs.size + 1) = none := I.hok.fresh hsz
  have kk : ∀ b o, hp.get? b = some o → ((hp.push (PySem.W.kdv_tup [])).push (PySem.HandSPX.excO C hp.objs.size)).get? b = some o := fun b o e => Heap.get?_push_of_some _ (Heap.get?_push_of_some _ e)
  have hget : ((hp.push (PySem.W.kdv_tup [])).push (PySem.HandSPX.excO C hp.objs.size)).get? (hp.objs.size + 1) = some (PySem.HandSPX.excO C hp.objs.size) := by heap_get
  have I2 : Inv X pins σ (upd H (hp.objs.size + 1) (exo (hp.objs.size + 1) C none)) ⟨(hp.push (PySem.W.kdv_tup [])).push (PySem.HandSPX.excO C hp.objs.size), g, dr, tk, os⟩ :=
    I.laid (t' := tk) (a := hp.objs.size + 1) (o := exo (hp.objs.size + 1) C none) (h' := (hp.push (PySem.W.kdv_tup [])).push (PySem.HandSPX.excO C hp.objs.size)) kk hsz (exo_ok hget)
  have r2 : Vals [V.ref (hp.objs.size + 1)] [Value.ref (hp.objs.size + 1)] := .cons rfl .nil
  have hq : sp_pass [V.ref (hp.objs.size + 1)] (upd H (hp.objs.size + 1) (exo (hp.objs.size + 1) C none)) (fun v H2 => v = .non ∧ H2 = upd H (hp.objs.size + 1) (exo (hp.objs.size + 1) C none)) (fun _ _ _ => False) := ⟨_, rfl, rfl, rfl⟩
  have hl : [Value.ref (hp.objs.size + 1)].length = ps.length := by
    have e := r2.length
    rw [F1.len _ _ _ _ hq] at e
    exact e.symm
  refine wpAny_call (PySem.HandSPX.call_own F.excBase_ValueError (fun Y => PySem.HandSPX.refsVE_contains Y bm hbm) (I.kIn _ _ hC) (PySem.W.looks_findIn I.kIn iC) (fun self => PySem.W.bind_fn I.kIn self tI) (by rw [sizeLine_eq]; exact Nat.zero_le _)
    (codeAny_mono (F1.run _ X.stack _ _ ⟨[Value.ref (hp.objs.size + 1)], []⟩ [Value.ref (hp.objs.size + 1)] _ _ (fun _ _ _ => False) (hr.make C [] []) (I2.env0.make C [] []) (hb _ [Value.ref (hp.objs.size + 1)] I2.kIn hl) r2 hq) fun r s' hq' => ?_))
  cases r with
  | error er => exact hx pins σ _ _ er s' I2 hq'
  | ok fl =>
    cases fl with
    | ret u =>
      obtain ⟨v, H2, os2, bare2, un2, hok2, rv, ev, eH⟩ := hq'
      subst ev
      subst eH
      obtain ⟨h2, g2, d2, t2, os'⟩ := s'
      obtain ⟨t0, G, J, kG, ge, hoe⟩ := mk_end00 (d2 := d2) (t2 := t2) I hsz kk un2 hok2 os2 bare2
      exact ⟨rv, hp.objs.size + 1, _, _, ⟨G, g2, d2, t2, os'⟩, _, .ref C, none, rfl, J, kG, ge, hoe, ⟨rfl, rfl⟩, rfl, rfl, hn, rfl, bare2, raises_own T.exC T.tyC, h⟩
    | next => exact False.elim hq'
    | brk => exact False.elim hq'
    | cont => exact False.elim hq'
end
/-! ### enumerate over a tuple -/
abbrev enO (it : Addr) : Obj := { cls := .type "enumerate", data := .fields #[.none, .bool false, .ref it, rawInt 0, .none, .none] }
set_option maxHeartbeats 1000000 in
theorem en_new {v : Value} {o : Obj} {Hd : Heap → Prop} (B : Begins v o Hd) :
    Meets (Builtin.«enumerate.__new__» ⟨[.type "enumerate", v], []⟩) (fun _ R s => Hd s.heap ∧ R (.ok (.ret (.ref (s.heap.push o).objs.size))) { s with heap := (s.heap.push o).push (enO s.heap.objs.size) }) := .of_wp fun prog w A R s h => by
  obtain ⟨hp, g, d, tk, os⟩ := s
  obtain ⟨h1, h2⟩ := h
  have su := sub_enumerate
  have go : ∀ {A' : Around} {E : Value → Shared → Prop} {Q : Value → Shared → Prop}, Q (.ref hp.objs.size) ⟨hp.push o, g, d, tk, os⟩ → wpAny (model prog w) A' (pyIter v) Q E ⟨hp, g, d, tk, os⟩ := fun q => B.iter prog w _ _ ⟨hp, g, d, tk, os⟩ _ h1 q
  wp_walk using go
  refine wpAny_stack_any fun st => wpAny_pure ?_
  split
  · rename_i c _ _ _ _ _
    cases (c == Value.type "enumerate") <;> (wp_walk using go; exact ⟨_, rfl, h2⟩)
  · wp_walk using go
    exact ⟨_, rfl, h2⟩
theorem en_call {prog : Program} {w : World} {A : Around} {E : Value → Shared → Prop} {s : Shared} {v : Value} {o : Obj} {Hd : Heap → Prop} {Q : Value → Shared → Prop} (B : Begins v o Hd) (h1 : Hd s.heap)
    (k : ∀ h', IsEnum h' (s.heap.objs.size + 1) s.heap.objs.size 0 .none → h'.get? s.heap.objs.size = some o → (∀ b u, s.heap.get? b = some u → h'.get? b = some u) → Q (.ref (s.heap.objs.size + 1)) { s with heap := h' }) :
    wpAny (model prog w) A (call (.type "enumerate") [v]) Q E s := by
  refine callType_new F.called_enumerate (by decide) (F.typeCall_enumerate_1 _) (F.newCall_enumerate_1 _) (fun obj => F.args_object_init_2 obj _) F.entry_enumerate_new (en_new B) ⟨h1, ?_⟩
  have z : (s.heap.push o).objs.size = s.heap.objs.size + 1 := Heap.size_push ..
  show _ ∧ _
  rw [z]
  have he : IsEnum ((s.heap.push o).push (enO s.heap.objs.size)) (s.heap.objs.size + 1) s.heap.objs.size 0 .none := by
    have y := Heap.get?_push_size (s.heap.push o) (o := enO s.heap.objs.size) rfl
    rw [z] at y
    exact y
  exact ⟨⟨_, he, rfl⟩, k _ he (Heap.get?_push_of_some _ (Heap.get?_push_size _ B.free)) fun b u x => Heap.get?_push_of_some _ (Heap.get?_push_of_some _ x)⟩
/-- the tuple at a, each item in a new pair behind its place -/
def Iet (K : PySem.W.Frag) (a : Addr) : It :=
  ⟨fun i H => ∃ (xs : List V) (x : V), SqT K H a xs ∧ xs[i]? = some x, fun i H v H' => ∃ T x, v = .ref T ∧ H T = none ∧ H' = upd H T (.tup [.int (i : Nat), x]) ∧ ∀ xs, SqT K H a xs → xs[i]? = some x, fun i H => ∃ xs : List V, SqT K H a xs ∧ xs.length ≤ i⟩
theorem tup_apart {h : Heap} {it a e : Addr} {i : Nat} {z : Int} {old : Value} {its : Array Value} (he : IsEnum h e it z old) (hi : h.IsTupleIter it a i) (hp : IsTup h a its) : a ≠ it ∧ e ≠ a := by
  obtain ⟨o, ho, hc, _⟩ := hi
  obtain ⟨u, hu, hv, _⟩ := hp
  constructor
  · intro y
    rw [y, ho] at hu
    cases hu
    rw [hc] at hv
    simp at hv
  · intro y
    have he' : h.get? e = some { cls := .type "enumerate", dict := none, data := .fields #[.none, .bool false, .ref it, rawInt z, .none, old], slots := #[] } := he
    rw [y, hu] at he'
    cases he'
    simp at hv
theorem en_end {prog : Program} {w : World} {A : Around} {E : Value → Shared → Prop} {s : Shared} {e it l : Addr} {i : Nat} {items : Array Value} {old : Value} {Q : Option Value → Shared → Prop} (hh : A.handled = none) (he : IsEnum s.heap e it i old) (hit : s.heap.IsTupleIter it l i) (hl : s.heap.IsTuple l items) (hx : items[i]? = none)
    (k : ∀ h', Heap.ExtBut it s.heap h' → Q none { s with heap := h' }) : wpAny (model prog w) A (pyNext (.ref e)) Q E s := by
  have ty : s.TypeIs (.ref e) "enumerate" := ⟨_, he, rfl⟩
  unfold pyNext
  refine wpAny_bind (wpAny_attempt (wpAny_callSpecial?_slot (name := Str.ofString "__next__") ty F.slot_enumerate_next (wpAny_call_entry F.slot_enumerate_next ty F.entry_enumerate_next ?_ (F.args_enumerate_next_1 _))))
  show wpAny _ _ (field (.ref e) 2 >>= _) _ _ _
  refine wpAny_bind (wpAny_field he rfl (x := .ref it) rfl (wpAny_bind (wpAny_nextOf_tuple_end hh hit hl hx fun h' x a b => ?_)))
  obtain ⟨o, ho, hc⟩ := b
  exact wpAny_bind (wpAny_isInstance (T := "StopIteration") (b := true) ⟨o, ho, hc⟩ isSubtype_stop (wpAny_pure (k _ a)))
theorem turn_enT {P : Program} {w : World} {K : PySem.W.Frag} {elts : List Expr} {kk : Nat} {tpos : Pos} (a e it : Addr) :
    Turn P w K (.Tuple elts kk tpos) (Iet K a) [e, it] e (fun i h => (∃ old, IsEnum h e it ((i : Nat) : Int) old) ∧ h.IsTupleIter it a i ∧ e ≠ it) where
  mem := by simp
  obj := fun i h st b hb => by
    obtain ⟨⟨old, he⟩, ⟨o, ho, hc, hd⟩, _⟩ := st
    rcases (show b = e ∨ b = it by simpa using hb) with z | z
    · rw [z]
      exact ⟨_, he, fun v q => nomatch q⟩
    · rw [z]
      exact ⟨o, ho, fun v q => by rw [hd] at q; cases q⟩
  keep := fun i h h' st k => ⟨⟨st.1.choose, k e (by simp) _ st.1.choose_spec⟩, st.2.1.at fun o q => k it (by simp) o q, st.2.2⟩
  item := by
    intro X hP hw hK hc i pins s σ H E I hf st hg
    subst hP hw hK
    obtain ⟨⟨old, he⟩, hit, hne⟩ := st
    obtain ⟨xs, x, hq, hx⟩ := hg
    obtain ⟨its, rv, p, hz⟩ := I.tuple hq
    obtain ⟨u, hu, ru⟩ := rv.get hx
    obtain ⟨ai, ea⟩ := tup_apart he hit p
    have hel : e < s.heap.objs.size := Heap.lt_size he
    have hil : it < s.heap.objs.size := by
      obtain ⟨_, q, _⟩ := hit
      exact Heap.lt_size q
    have hlt : i < its.toArray.size := by
      have := (List.getElem?_eq_some_iff.mp hu).1
      simpa using this
    refine wpAny_pyNext_enum_itemC (Draws.tuple (A := X.A.in1) (show X.A.in1.handled = none from I.ok.hd hc) it a ai its.toArray) he ⟨hit, p⟩ hlt hne (by simp [hne, ea]) fun y h' tk hP ho hst hT hsz hk => ?_
    have ey : y = u := by
      have hP' : its.toArray[i]? = some y := hP
      rw [show its.toArray[i]? = some u by simpa using hu] at hP'
      exact (Option.some.inj hP').symm
    subst ey
    refine ⟨_, rfl, wpAny_letOwnedTupleGo_enum (s := { s with heap := h', toks := tk + 1 }) ho fun h2 he2 sb => ?_⟩
    have hT2 : h2.get? s.heap.objs.size = some { cls := .type "tuple", data := .seq #[.int i tk, y] } := (sb.2 _ (Nat.ne_of_gt hel)).trans hT
    have new : ObjOk X.prog X.w (upd H s.heap.objs.size (.tup [.int (i : Nat), x])) h2 s.heap.objs.size (.tup [.int (i : Nat), x]) := ⟨by show 2 ≤ sizeLine; decide, [.int i tk, y], .cons ⟨_, rfl⟩ (.cons ru .nil), ⟨_, hT2, rfl, _, rfl⟩⟩
    have J : Inv X pins σ (upd H s.heap.objs.size (.tup [.int (i : Nat), x])) { s with heap := h2, toks := tk + 1 } :=
      I.turnedNew (ch := [e, it]) (t' := tk + 1) (fun b ob hb q => (sb.2 b (fun z => hb (by simp [z]))).trans (hk b ob (fun z => hb (by simp [z])) (fun z => hb (by simp [z])) q)) hf (Nat.le_refl _) new
    refine ⟨.ref s.heap.objs.size, _, J, rfl, ⟨_, x, rfl, I.hok.fresh (Nat.le_refl _), rfl, fun ys hy => by rw [I.tuple_inj hy hq]; exact hx⟩, ⟨⟨y, by rw [show ((i + 1 : Nat) : Int) = (i : Int) + 1 by omega]; exact he2⟩, hst.1.at fun o q => (sb.2 it (Ne.symm hne)).trans q, hne⟩, fun b hb => ?_⟩
    have hb' : b < s.heap.objs.size := by
      rcases (show b = e ∨ b = it by simpa using hb) with z | z <;> rw [z] <;> assumption
    rw [upd_ne (Nat.ne_of_lt hb')]
    exact (hf b hb).1
  done := by
    intro X hP hw hK hc i pins s σ H E I hf st hg
    subst hP hw hK
    obtain ⟨⟨old, he⟩, hit, hne⟩ := st
    obtain ⟨xs, hq, hx⟩ := hg
    obtain ⟨its, rv, p, hz⟩ := I.tuple hq
    obtain ⟨ai, _⟩ := tup_apart he hit p
    obtain ⟨f0, f1, f2, f3, f4, f5⟩ := hf it (by simp)
    have hl := rv.length
    have fin : its.toArray[i]? = none := by
      simp
      omega
    exact en_end (I.ok.hd hc) he hit p fin fun h' eb => ⟨rfl, I.turned (t' := s.toks) (fun b o hb q => eb b o hb q) f0 f1 f3 f4 f5⟩
  self := fun A i s Q E st h => wpAny_pyIter_enum st.1.choose_spec h
def iEnT (K : PySem.W.Frag) (ta : TA) : TI := fun σ H R => ta σ H fun vs H1 => ∃ a xs, vs = [.ref a] ∧ SqT K H1 a xs ∧ R (Iet K a) H1
theorem pi_enT {X : Cx} {e : Expr} {ta : TA} {p pos tpos : Pos} {elts : List Expr} {kk : Nat} (hg : Gl X "enumerate") (hm : X.mg "enumerate" = none) (ha : PA X [e] ta) (hs : starEach [e] X.env = [(false, eval e X.env)] := by rfl) :
    PI X (.Tuple elts kk tpos) (.Call (.Name "enumerate" p) [e] [] pos) (iEnT X.K ta) := ⟨fun pins s σ H R I h => by
  refine Call_ (ld_blt I hg hm boot_enumerate (PyProof.Rows.callWith_type1 (thn (ha.run pos pins s σ H _ I h) fun us s1 ⟨vs, H1, I1, r1, q1⟩ => ?_) hs rfl))
  obtain ⟨a, xs, ex, hq, q⟩ := q1
  subst ex
  cases r1 with
  | cons r rr =>
    cases rr
    cases r
    obtain ⟨its, rv, p', hz⟩ := I1.tuple hq
    refine en_call (begins_tuple a its.toArray) p' fun h' he hit hk => wpAny_pyIter_enum he ?_
    have I2 : Inv X pins σ H1 { s1 with heap := h' } := I1.kept (t' := s1.toks) hk
    refine ⟨s1.heap.objs.size + 1, [s1.heap.objs.size + 1, s1.heap.objs.size], _, _, H1, rfl, I2, turn_enT a (s1.heap.objs.size + 1) s1.heap.objs.size, ⟨⟨.none, he⟩, ⟨_, hit, rfl, rfl⟩, Nat.succ_ne_self _⟩, fun b hb => ?_, q⟩
    have hle : s1.heap.objs.size ≤ b := by
      rcases (show b = s1.heap.objs.size + 1 ∨ b = s1.heap.objs.size by simpa using hb) with z | z <;> rw [z]
      · exact Nat.le_add_right _ _
      · exact Nat.le_refl _
    exact I1.fpOk hle (I1.hok.fresh hle)⟩
theorem walk_enT {K : PySem.W.Frag} {a : Addr} {xs : List V} : Walk (Iet K a) xs.length (fun H => SqT K H a xs) (YPair (fun i => some (.int (i : Nat))) (fun i => xs[i]?)) :=
  ⟨fun i H hi h => ⟨xs, xs[i], h, List.getElem?_eq_getElem hi⟩, fun H h => ⟨xs, h, Nat.le_refl _⟩, fun i H x H' hi h y => by
    obtain ⟨T, u, e1, e2, e3, e4⟩ := y
    exact ⟨T, _, u, e1, e2, e3, rfl, e4 xs h⟩⟩
/-! ### a op b op c op d -/
def tChain3 (r r' r'' : R2) (ta tb tc td : TE) : TE := fun σ H Q => ta σ H fun x H1 => tb σ H1 fun y H2 => r x y H2 fun z H3 => ∃ k, z = .bl k ∧
  (if k = true then tc σ H3 fun u H4 => r' y u H4 fun z2 H5 => ∃ k2, z2 = .bl k2 ∧ (if k2 = true then td σ H5 fun v H6 => r'' u v H6 Q else Q (.bl false) H5) else Q (.bl false) H3)
theorem pe_chain3 {X : Cx} {a b c d : Expr} {ta tb tc td : TE} {pos : Pos} {op op' op2 : CmpOp} {r r' r'' : R2} (ho : OpR X (compareOp op) r) (ho' : OpR X (compareOp op') r') (ho2 : OpR X (compareOp op2) r'') (ha : PE X a ta) (hb : PE X b tb) (hc : PE X c tc) (hd : PE X d td)
    (hm : lastMarks [op, op', op2] [b, c, d] = false := by with_unfolding_all rfl) : PE X (.Compare a [op, op', op2] [b, c, d] pos) (tChain3 r r' r'' ta tb tc td) := ⟨fun pins s σ H Q I h => by
  refine Compare_chain (thn (ha.run pins s σ H _ I h) fun v s1 ⟨x, H1, I1, r1, q1⟩ => chain_link (thn (hb.run pins s1 σ H1 _ I1 q1) fun u s2 ⟨y, H2, I2, r2, q2⟩ => thn (ho pins s2 σ H2 x y v u _ I2 r1 r2 q2) fun e s3 ⟨z, H3, I3, r3, k, ez, q3⟩ => ?_)) hm
  subst ez
  cases r3
  refine wpAny_truthy_bool ?_
  cases k with
  | false => exact ite_ff ⟨.bl false, H3, I3, rfl, q3⟩
  | true =>
    refine ite_tt (chain_link (thn (hc.run pins s3 σ H3 _ I3 q3) fun u2 s4 ⟨y2, H4, I4, r4, q4⟩ => thn (ho' pins s4 σ H4 y y2 u u2 _ I4 r2 r4 q4) fun e2 s5 ⟨z2, H5, I5, r5, k2, ez2, q5⟩ => ?_))
    subst ez2
    cases r5
    refine wpAny_truthy_bool ?_
    cases k2 with
    | false => exact ite_ff ⟨.bl false, H5, I5, rfl, q5⟩
    | true => exact ite_tt (chain_last (thn (hd.run pins s5 σ H5 _ I5 q5) fun u3 s6 ⟨y3, H6, I6, r6, q6⟩ => ho2 pins s6 σ H6 y2 y3 u2 u3 Q I6 r4 r6 q6))⟩
/-! ### rules within a comprehension, the written part named -/
section
variable {X : Cx} {K : PySem.W.Frag}
theorem ix_tupB (h : X.K = K := by rfl) : IxR X (rIxT K) := h ▸ ix_tup
theorem ix_listB (h : X.K = K := by rfl) : IxR X (rIxL K) := h ▸ ix_list
theorem op_in_seqB (h : X.K = K := by rfl) : OpR X (compareOp .In) (rIn K false) := h ▸ op_in_seq
theorem op_notIn_seqB (h : X.K = K := by rfl) : OpR X (compareOp .NotIn) (rIn K true) := h ▸ op_notIn_seq
theorem call_isiB (h : X.K = K := by rfl) : CallR X (.builtin "isinstance") (rIsi K) := h ▸ call_isi
theorem call_len_seqB (h : X.K = K := by rfl) : CallR X (.builtin "len") (fun xs H Q => ∃ p ys, xs = [.ref p] ∧ (SqL K H p ys ∨ SqT K H p ys) ∧ Q (.int ys.length) H) := h ▸ call_len_seq
theorem op_eqDB (h : X.K = K) (hu : X.A.units + 64 < cLine) : OpR X (compareOp .Eq) (rEqD K) := h ▸ op_eqD hu
theorem op_neDB (h : X.K = K) (hu : X.A.units + 64 < cLine) : OpR X (compareOp .NotEq) (rNeD K) := h ▸ op_neD hu
end
end L2
namespace My
open PySem PySem.Spec PyProof.Rows L2 Evl
theorem if_pos_of {c : Bool} {A B : Prop} (hc : c = true) (h : A) : if c = true then A else B := by
  rw [if_pos hc]
  exact h
theorem if_neg_of {c : Bool} {A B : Prop} (hc : c = false) (h : B) : if c = true then A else B := by
  rw [hc, if_neg Bool.false_ne_true]
  exact h
theorem atI0 (x : V) (xs : List V) : atI (x :: xs) 0 = some x := by
  unfold atI ixN
  rw [if_pos (by decide), if_pos (by simp only [List.length_cons]; omega)]
  rfl
theorem ixN0 (n : Nat) : ixN (n + 1) 0 = some 0 := by
  unfold ixN
  rw [if_pos (by decide), if_pos (by omega)]
  rfl
theorem atI_of {xs : List V} {i : Nat} {v : V} (h : xs[i]? = some v) : atI xs (i : Int) = some v := by
  have hi := (List.getElem?_eq_some_iff.mp h).1
  unfold atI ixN
  rw [if_pos (by omega), if_pos (by omega)]
  simpa using h
theorem seqIx0 (n : Nat) : seqIndex? 0 (n + 1) = some 0 := by
  unfold seqIndex?
  simp
theorem cutV_ints (ns : List Int) (lo hi : Option Int) : ∃ ms : List Int, cutV (ns.map V.int) lo hi = ms.map V.int ∧ ms.length ≤ ns.length := by
  unfold cutV
  refine ⟨_, by rw [← List.map_drop, ← List.map_take], ?_⟩
  rw [List.length_take, List.length_drop]
  omega
theorem ints_get {ms : List Int} {i : Nat} {y : V} (h : (ms.map V.int)[i]? = some y) : ∃ z, ms[i]? = some z ∧ y = .int z := by
  rw [List.getElem?_map] at h
  cases e : ms[i]? with
  | none =>
    rw [e] at h
    cases h
  | some z =>
    rw [e] at h
    exact ⟨z, rfl, (Option.some.inj h).symm⟩

structure Ad where
  a : Nat → Addr
  C : Nat → Addr
structure Fd where
  d : Nat → FuncData
abbrev Ad.a_BadBook_init (A : Ad) : Addr := A.a 0
abbrev Fd.d_BadBook_init (D : Fd) : FuncData := D.d 0
abbrev Ad.a_NoWork_init (A : Ad) : Addr := A.a 1
abbrev Fd.d_NoWork_init (D : Fd) : FuncData := D.d 1
abbrev Ad.a_is_integer (A : Ad) : Addr := A.a 2
abbrev Fd.d_is_integer (D : Fd) : FuncData := D.d 2
abbrev Ad.a_is_pair (A : Ad) : Addr := A.a 3
abbrev Fd.d_is_pair (D : Fd) : FuncData := D.d 3
abbrev Ad.a_Book_init (A : Ad) : Addr := A.a 4
abbrev Fd.d_Book_init (D : Fd) : FuncData := D.d 4
abbrev Ad.a_is_windows (A : Ad) : Addr := A.a 5
abbrev Fd.d_is_windows (D : Fd) : FuncData := D.d 5
abbrev Ad.a_is_window (A : Ad) : Addr := A.a 6
abbrev Fd.d_is_window (D : Fd) : FuncData := D.d 6
abbrev Ad.a_is_work (A : Ad) : Addr := A.a 7
abbrev Fd.d_is_work (D : Fd) : FuncData := D.d 7
abbrev Ad.a_middle (A : Ad) : Addr := A.a 8
abbrev Fd.d_middle (D : Fd) : FuncData := D.d 8
abbrev Ad.a_is_inside (A : Ad) : Addr := A.a 9
abbrev Fd.d_is_inside (D : Fd) : FuncData := D.d 9
abbrev Ad.a_within (A : Ad) : Addr := A.a 10
abbrev Fd.d_within (D : Fd) : FuncData := D.d 10
abbrev Ad.a_l_pool (A : Ad) : Addr := A.a 11
abbrev Fd.d_l_pool (D : Fd) : FuncData := D.d 11
abbrev Ad.a_l_draw (A : Ad) : Addr := A.a 12
abbrev Fd.d_l_draw (D : Fd) : FuncData := D.d 12
abbrev Ad.a_l_windows (A : Ad) : Addr := A.a 13
abbrev Fd.d_l_windows (D : Fd) : FuncData := D.d 13
abbrev Ad.a_l_refused (A : Ad) : Addr := A.a 14
abbrev Fd.d_l_refused (D : Fd) : FuncData := D.d 14
abbrev Ad.a_law (A : Ad) : Addr := A.a 15
abbrev Fd.d_law (D : Fd) : FuncData := D.d 15
abbrev Ad.C_BadBook (A : Ad) : Addr := A.C 0
abbrev Ad.C_NoWork (A : Ad) : Addr := A.C 1
abbrev Ad.C_Book (A : Ad) : Addr := A.C 2

/-- the pool at p: its list, its cells at c -/
structure PoolAt (H : Hp) (p c : Addr) : Prop where
  ob : ∃ i j : Int, H p = some (.lst [.int i, .int j, .ref c])
  cl : ∃ ns : List Int, H c = some (.lst (ns.map V.int))
  ne : p ≠ c
def Kept (p c : Addr) (H H' : Hp) : Prop := ∀ a o, a ≠ p → a ≠ c → H a = some o → H' a = some o
structure SpDraw (vs : List V) (H : Hp) (Q : VK) : Prop where
  ex : ∃ (p c : Addr) (m : Int), vs = [.ref p, .int m] ∧ PoolAt H p c ∧ 0 < m ∧ m < 1073741824 ∧
    ∀ (d : Int) (H' : Hp), 0 ≤ d → d < m → PoolAt H' p c → Kept p c H H' → Q (.int d) H'
theorem SpDraw.len {vs : List V} {H : Hp} {Q : VK} (h : SpDraw vs H Q) : vs.length = 2 := by
  obtain ⟨p, c, m, rfl, _⟩ := h.ex
  rfl
abbrev sp_l_draw (K : PySem.W.Frag) (A : Ad) : Sp := fun vs H Q _ => SpDraw vs H Q
structure SpPool (K : PySem.W.Frag) (vs : List V) (H : Hp) (Q : VK) : Prop where
  ex : ∃ (a : Addr) (ns : List Int), vs = [.ref a] ∧ SqL K H a (ns.map V.int) ∧ ns.length ≤ 63 ∧ ∀ (p c : Addr) (H' : Hp), H p = none → H c = none → PoolAt H' p c → Ex H H' → Q (.ref p) H'
theorem SpPool.len {K : PySem.W.Frag} {vs : List V} {H : Hp} {Q : VK} (h : SpPool K vs H Q) : vs.length = 1 := by
  obtain ⟨a, ns, rfl, _⟩ := h.ex
  rfl
abbrev sp_l_pool (K : PySem.W.Frag) (A : Ad) : Sp := fun vs H Q _ => SpPool K vs H Q
/-- a tuple of pairs of ints at w -/
structure WinAt (K : PySem.W.Frag) (H : Hp) (w : Addr) (ws : List (Int × Int)) : Prop where
  le : ws.length ≤ 1000
  ex : ∃ as : List Addr, SqT K H w (as.map V.ref) ∧ as.length = ws.length ∧ ∀ (i : Nat) (a : Addr) (q : Int × Int), as[i]? = some a → ws[i]? = some q → SqT K H a [.int q.1, .int q.2]
theorem WinAt.mono {K : PySem.W.Frag} {H H' : Hp} {w : Addr} {ws : List (Int × Int)} (h : WinAt K H w ws) (e : Ex H H') : WinAt K H' w ws := by
  obtain ⟨as, h1, h2, h3⟩ := h.ex
  exact ⟨h.le, ⟨as, ex_t e h1, h2, fun i a q x y => ex_t e (h3 i a q x y)⟩⟩
theorem PoolAt.mono {H H' : Hp} {p c : Addr} (h : PoolAt H p c) (e : Ex H H') : PoolAt H' p c := by
  obtain ⟨⟨i, j, h1⟩, ⟨ns, h2⟩, h3⟩ := h
  exact ⟨⟨i, j, e _ _ h1⟩, ⟨ns, e _ _ h2⟩, h3⟩
theorem Kept.refl (p c : Addr) (H : Hp) : Kept p c H H := fun _ _ _ _ h => h
theorem Kept.trans {p c : Addr} {H H1 H2 : Hp} (a : Kept p c H H1) (b : Kept p c H1 H2) : Kept p c H H2 := fun x o h1 h2 h => b x o h1 h2 (a x o h1 h2 h)
theorem kept_of {p c : Addr} {H H1 : Hp} (a : Ex H H1) : Kept p c H H1 := fun x o _ _ h => a x o h
theorem PoolAt.nep {H : Hp} {p c a : Addr} (h : PoolAt H p c) (n : H a = none) : a ≠ p := by
  obtain ⟨i, j, e⟩ := h.ob
  exact (ne_of_none e n).symm
theorem PoolAt.nec {H : Hp} {p c a : Addr} (h : PoolAt H p c) (n : H a = none) : a ≠ c := by
  obtain ⟨ns, e⟩ := h.cl
  exact (ne_of_none e n).symm
theorem PoolAt.upd {H : Hp} {p c f : Addr} {o : HO} (h : PoolAt H p c) (h1 : p ≠ f) (h2 : c ≠ f) : PoolAt (upd H f o) p c := by
  obtain ⟨⟨i, j, e1⟩, ⟨ns, e2⟩, e3⟩ := h
  exact ⟨⟨i, j, by rw [upd_ne h1]; exact e1⟩, ⟨ns, by rw [upd_ne h2]; exact e2⟩, e3⟩
def inWin (b : Int) (q : Int × Int) : Prop := 0 ≤ q.1 ∧ q.1 ≤ q.2 ∧ q.2 ≤ b
structure SpWin (K : PySem.W.Frag) (vs : List V) (H : Hp) (Q : VK) : Prop where
  ex : ∃ (p c : Addr) (n t : Int), vs = [.ref p, .int n, .int t] ∧ PoolAt H p c ∧ 0 ≤ n ∧ n ≤ 1000 ∧ 0 ≤ t ∧ t ≤ 1000000 ∧
    ∀ (w : Addr) (ws : List (Int × Int)) (H' : Hp), H w = none → WinAt K H' w ws → (ws.length : Int) = n → (∀ q ∈ ws, inWin (2 * t + n + 4) q) → PoolAt H' p c → Kept p c H H' → Q (.ref w) H'
theorem SpWin.len {K : PySem.W.Frag} {vs : List V} {H : Hp} {Q : VK} (h : SpWin K vs H Q) : vs.length = 3 := by
  obtain ⟨p, c, n, t, rfl, _⟩ := h.ex
  rfl
abbrev sp_l_windows (K : PySem.W.Frag) (A : Ad) : Sp := fun vs H Q _ => SpWin K vs H Q
/-- the list of pairs that grows at f -/
structure Grows (K : PySem.W.Frag) (H : Hp) (f : Addr) (ws : List (Int × Int)) : Prop where
  ex : ∃ as : List Addr, H f = some (.lst (as.map V.ref)) ∧ as.length = ws.length ∧ ∀ (i : Nat) (a : Addr) (q : Int × Int), as[i]? = some a → ws[i]? = some q → H a = some (.tup [.int q.1, .int q.2])
theorem Grows.mono {K : PySem.W.Frag} {H H' : Hp} {p c f : Addr} {ws : List (Int × Int)} (h : Grows K H f ws) (P : PoolAt H p c) (k : Kept p c H H') (n1 : f ≠ p) (n2 : f ≠ c) : Grows K H' f ws := by
  obtain ⟨as, h1, h2, h3⟩ := h.ex
  refine ⟨⟨as, k _ _ n1 n2 h1, h2, fun i a q x y => ?_⟩⟩
  have z := h3 i a q x y
  refine k _ _ ?_ ?_ z
  · intro e
    obtain ⟨u, v, hp⟩ := P.ob
    rw [e, hp] at z
    cases z
  · intro e
    obtain ⟨ns, hc⟩ := P.cl
    rw [e, hc] at z
    cases z
theorem Grows.add {K : PySem.W.Frag} {H : Hp} {f r : Addr} {ws : List (Int × Int)} {q : Int × Int} {as : List Addr} (h1 : H f = some (.lst (as.map V.ref))) (h2 : as.length = ws.length) (h3 : ∀ (i : Nat) (a : Addr) (q : Int × Int), as[i]? = some a → ws[i]? = some q → H a = some (.tup [.int q.1, .int q.2]))
    (hr : H r = some (.tup [.int q.1, .int q.2])) : Grows K (L2.upd H f (.lst (as.map V.ref ++ [.ref r]))) f (ws ++ [q]) := by
  have nf : ∀ {a : Addr} {xs : List V}, H a = some (.tup xs) → a ≠ f := fun {a xs} z e => by
    rw [e, h1] at z
    cases z
  refine ⟨⟨as ++ [r], by rw [upd_same, List.map_append] <;> rfl, by rw [List.length_append, List.length_append, h2] <;> rfl, fun i a q' x y => ?_⟩⟩
  by_cases hi : i < as.length
  · rw [List.getElem?_append_left hi] at x
    rw [List.getElem?_append_left (by omega)] at y
    have z := h3 i a q' x y
    rw [upd_ne (nf z)]
    exact z
  · rw [List.getElem?_append_right (by omega)] at x
    rw [List.getElem?_append_right (by omega)] at y
    have e0 : i - as.length = 0 := by
      have := (List.getElem?_eq_some_iff.mp x).1
      simp at this
      omega
    rw [e0] at x
    rw [← h2, e0] at y
    cases (Option.some.inj x)
    cases (Option.some.inj y)
    rw [upd_ne (nf hr)]
    exact hr
theorem Grows.win {K : PySem.W.Frag} {H : Hp} {f w : Addr} {ws : List (Int × Int)} {as : List Addr} (h2 : as.length = ws.length) (h3 : ∀ (i : Nat) (a : Addr) (q : Int × Int), as[i]? = some a → ws[i]? = some q → H a = some (.tup [.int q.1, .int q.2])) (nw : H w = none) (hl : ws.length ≤ 1000) :
    WinAt K (L2.upd H w (.tup (as.map V.ref))) w ws :=
  ⟨hl, ⟨as, SqT.of upd_same, h2, fun i a q x y => SqT.of (by rw [upd_ne (ne_of_none (h3 i a q x y) nw)]; exact h3 i a q x y)⟩⟩
/-! ### things -/
inductive Da where
  | non | bl (b : Bool) | int (i : Int) | str (x : Str) | lst | dic | tup (xs : List Da)
mutual
inductive Rp (K : PySem.W.Frag) (H : Hp) : V → Da → Prop
  | non : Rp K H .non .non
  | bl (b : Bool) : Rp K H (.bl b) (.bl b)
  | int (i : Int) : Rp K H (.int i) (.int i)
  | str (x : Str) : Rp K H (.str x) (.str x)
  | lst {a : Addr} {xs : List V} : SqL K H a xs → Rp K H (.ref a) .lst
  | dic {a : Addr} {kvs : List (Key × V)} : H a = some (.dK kvs) → Rp K H (.ref a) .dic
  | tup {a : Addr} {xs : List V} {ds : List Da} : SqT K H a xs → RpAll K H xs ds → Rp K H (.ref a) (.tup ds)
inductive RpAll (K : PySem.W.Frag) (H : Hp) : List V → List Da → Prop
  | nil : RpAll K H [] []
  | cons {v : V} {vs : List V} {d : Da} {ds : List Da} : Rp K H v d → RpAll K H vs ds → RpAll K H (v :: vs) (d :: ds)
end
mutual
theorem Rp.mono {K : PySem.W.Frag} {H H' : Hp} (e : Ex H H') : ∀ {v : V} {d : Da}, Rp K H v d → Rp K H' v d
  | _, _, .non => .non
  | _, _, .bl b => .bl b
  | _, _, .int i => .int i
  | _, _, .str x => .str x
  | _, _, .lst h => .lst (ex_l e h)
  | _, _, .dic h => .dic (e _ _ h)
  | _, _, .tup h r => .tup (ex_t e h) (RpAll.mono e r)
theorem RpAll.mono {K : PySem.W.Frag} {H H' : Hp} (e : Ex H H') : ∀ {vs : List V} {ds : List Da}, RpAll K H vs ds → RpAll K H' vs ds
  | _, _, .nil => .nil
  | _, _, .cons h r => .cons (Rp.mono e h) (RpAll.mono e r)
end
theorem RpAll.length {K : PySem.W.Frag} {H : Hp} : ∀ {vs : List V} {ds : List Da}, RpAll K H vs ds → vs.length = ds.length
  | _, _, .nil => rfl
  | _, _, .cons _ r => congrArg (· + 1) r.length
theorem RpAll.get {K : PySem.W.Frag} {H : Hp} : ∀ {vs : List V} {ds : List Da} {i : Nat} {v : V}, RpAll K H vs ds → vs[i]? = some v → ∃ d, ds[i]? = some d ∧ Rp K H v d
  | _, _, 0, _, .cons h _, e => by
    cases e
    exact ⟨_, rfl, h⟩
  | _, _, i + 1, _, .cons _ r, e => RpAll.get (i := i) r e
/-- what isinstance says of int, bool, tuple -/
def isI : Da → Bool | .int _ => true | .bl _ => true | _ => false
def isB : Da → Bool | .bl _ => true | _ => false
def isT : Da → Bool | .tup _ => true | _ => false
def isZ : Da → Bool | .int _ => true | _ => false
theorem isZ_eq (d : Da) : (isI d && !isB d) = isZ d := by cases d <;> rfl
theorem ty_list {K : PySem.W.Frag} {H : Hp} {a : Addr} {xs : List V} (h : SqL K H a xs) : TyX K H (.ref a) (.type "list") := by
  rcases h with (h | ⟨o, h⟩) | ⟨o, its, n, h, c, _⟩
  · exact .base (.lst h)
  · exact .base (.frz h)
  · exact .kList h c
theorem ty_tup {K : PySem.W.Frag} {H : Hp} {a : Addr} {xs : List V} (h : SqT K H a xs) : TyX K H (.ref a) (.type "tuple") := by
  rcases h with (h | ⟨o, h⟩) | ⟨o, its, n, h, c, _⟩
  · exact .base (.tup h)
  · exact .fTuple h
  · exact .kTuple h c
theorem Rp.ty {K : PySem.W.Frag} {H : Hp} {v : V} {d : Da} (h : Rp K H v d) : ∃ t, TyX K H v t ∧ PySem.W.kitOne K t (.type "int") = some (isI d) ∧ PySem.W.kitOne K t (.type "bool") = some (isB d) ∧ PySem.W.kitOne K t (.type "tuple") = some (isT d) := by
  cases h with
  | non => exact ⟨_, .base .non, kit_ty (by decide +kernel : kitB "NoneType" "int" = some false), kit_ty (by decide +kernel : kitB "NoneType" "bool" = some false), kit_ty (by decide +kernel : kitB "NoneType" "tuple" = some false)⟩
  | bl b => exact ⟨_, .base (.bl b), kit_ty (by decide +kernel : kitB "bool" "int" = some true), kit_ty (by decide +kernel : kitB "bool" "bool" = some true), kit_ty (by decide +kernel : kitB "bool" "tuple" = some false)⟩
  | int i => exact ⟨_, .base (.int i), kit_ty (by decide +kernel : kitB "int" "int" = some true), kit_ty (by decide +kernel : kitB "int" "bool" = some false), kit_ty (by decide +kernel : kitB "int" "tuple" = some false)⟩
  | str x => exact ⟨_, .base (.str x), kit_ty (by decide +kernel : kitB "str" "int" = some false), kit_ty (by decide +kernel : kitB "str" "bool" = some false), kit_ty (by decide +kernel : kitB "str" "tuple" = some false)⟩
  | lst h => exact ⟨_, ty_list h, kit_ty (by decide +kernel : kitB "list" "int" = some false), kit_ty (by decide +kernel : kitB "list" "bool" = some false), kit_ty (by decide +kernel : kitB "list" "tuple" = some false)⟩
  | dic h => exact ⟨_, .base (.dK h), kit_ty (by decide +kernel : kitB "dict" "int" = some false), kit_ty (by decide +kernel : kitB "dict" "bool" = some false), kit_ty (by decide +kernel : kitB "dict" "tuple" = some false)⟩
  | tup h r => exact ⟨_, ty_tup h, kit_ty (by decide +kernel : kitB "tuple" "int" = some false), kit_ty (by decide +kernel : kitB "tuple" "bool" = some false), kit_ty (by decide +kernel : kitB "tuple" "tuple" = some true)⟩
/-- a window, as a thing -/
def winD : Da → Bool
  | .tup [.int f, .int l] => decide (0 ≤ f) && decide (f ≤ l) && decide (l ≤ 1000000)
  | _ => false
def pairD : Da → Bool | .tup xs => decide (xs.length = 2) | _ => false
def winsD : Da → Bool
  | .tup ds => decide (1 ≤ ds.length) && decide (ds.length ≤ 40) && ds.all winD
  | _ => false
def workD (n : Nat) : Da → Bool | .int z => decide (0 ≤ z) && decide (z < (n : Int)) | _ => false
def winDa (q : Int × Int) : Da := .tup [.int q.1, .int q.2]
structure Sp1 (vs : List V) (P : V → Prop) : Prop where
  ex : ∃ x, vs = [x] ∧ P x
theorem Sp1.len {vs : List V} {P : V → Prop} (h : Sp1 vs P) : vs.length = 1 := by
  obtain ⟨x, rfl, _⟩ := h.ex
  rfl
structure Sp2 (vs : List V) (P : V → V → Prop) : Prop where
  ex : ∃ x y, vs = [x, y] ∧ P x y
theorem Sp2.len {vs : List V} {P : V → V → Prop} (h : Sp2 vs P) : vs.length = 2 := by
  obtain ⟨x, y, rfl, _⟩ := h.ex
  rfl
structure Sp3 (vs : List V) (P : V → V → V → Prop) : Prop where
  ex : ∃ x y z, vs = [x, y, z] ∧ P x y z
theorem Sp3.len {vs : List V} {P : V → V → V → Prop} (h : Sp3 vs P) : vs.length = 3 := by
  obtain ⟨x, y, z, rfl, _⟩ := h.ex
  rfl
/-- a def that judges a thing, by f -/
abbrev spJudge (K : PySem.W.Frag) (f : Da → Bool) : Sp := fun vs H Q _ => Sp1 vs fun x => ∃ d, Rp K H x d ∧ ∀ H', Ex H H' → Q (.bl (f d)) H'
abbrev sp_is_integer (K : PySem.W.Frag) (A : Ad) : Sp := spJudge K isZ
abbrev sp_is_pair (K : PySem.W.Frag) (A : Ad) : Sp := spJudge K pairD
abbrev sp_is_window (K : PySem.W.Frag) (A : Ad) : Sp := spJudge K winD
abbrev sp_is_windows (K : PySem.W.Frag) (A : Ad) : Sp := spJudge K winsD
/-- a book at b, its windows' tuple at w -/
def BookAt (C : Addr) (H : Hp) (b w : Addr) : Prop := ∃ dx, H b = some (.ins C dx [("windows", .ref w)])
theorem BookAt.mono {C : Addr} {H H' : Hp} {b w : Addr} (h : BookAt C H b w) (e : Ex H H') : BookAt C H' b w := by
  obtain ⟨dx, h⟩ := h
  exact ⟨dx, e _ _ h⟩
abbrev sp_NoWork_init (K : PySem.W.Frag) (A : Ad) : Sp := sp_pass
abbrev sp_BadBook_init (K : PySem.W.Frag) (A : Ad) : Sp := sp_pass
abbrev sp_Book_init (K : PySem.W.Frag) (A : Ad) : Sp := fun vs H Q E => Sp2 vs fun x y => ∃ (p dx : Addr) (d : Da), x = .ref p ∧ H p = some (.ins A.C_Book dx []) ∧ Rp K H y d ∧
  (winsD d = true → ∀ H', Ex H H' → Q .non (L2.upd H' p (.ins A.C_Book dx [("windows", y)]))) ∧ (winsD d = false → ∀ H', Ex H H' → E (.ref A.C_BadBook) none H')
abbrev sp_is_work (K : PySem.W.Frag) (A : Ad) : Sp := fun vs H Q _ => Sp2 vs fun x y => ∃ (b w : Addr) (ws : List (Int × Int)) (d : Da), x = .ref b ∧ BookAt A.C_Book H b w ∧ WinAt K H w ws ∧ Rp K H y d ∧ ∀ H', Ex H H' → Q (.bl (workD ws.length d)) H'
/-- a def upon a book and a work, or NoWork -/
structure OnWork (K : PySem.W.Frag) (A : Ad) (H : Hp) (x y : V) (E : XK) (G : List (Int × Int) → Nat → Prop) : Prop where
  ex : ∃ (b w : Addr) (ws : List (Int × Int)) (d : Da), x = .ref b ∧ BookAt A.C_Book H b w ∧ WinAt K H w ws ∧ Rp K H y d ∧ (workD ws.length d = false → ∀ H', Ex H H' → E (.ref A.C_NoWork) none H') ∧
    ∀ i : Nat, d = .int i → i < ws.length → G ws i
def winAt (ws : List (Int × Int)) (i : Nat) : Int × Int := ws.getD i (0, 0)
def insideB (p q : Int × Int) : Bool := decide (q.1 < p.1) && decide (p.2 < q.2)
def withinL (ws : List (Int × Int)) (i : Nat) : List V := given ws.length (fun j => insideB (winAt ws j) (winAt ws i)) (fun j => .int (j : Nat))
abbrev sp_middle (K : PySem.W.Frag) (A : Ad) : Sp := fun vs H Q E => Sp2 vs fun x y => OnWork K A H x y E fun ws i => ∀ H', Ex H H' → Q (.int ((winAt ws i).1 + (winAt ws i).2)) H'
abbrev sp_within (K : PySem.W.Frag) (A : Ad) : Sp := fun vs H Q E => Sp2 vs fun x y => OnWork K A H x y E fun ws i => ∀ p H', H p = none → Ex H H' → H' p = some (.tup (withinL ws i)) → Q (.ref p) H'
abbrev sp_is_inside (K : PySem.W.Frag) (A : Ad) : Sp := fun vs H Q _ => Sp2 vs fun x y => ∃ (a b : Addr) (p q : Int × Int), x = .ref a ∧ y = .ref b ∧ SqT K H a [.int p.1, .int p.2] ∧ SqT K H b [.int q.1, .int q.2] ∧ Q (.bl (insideB p q)) H
theorem workD_int {n : Nat} {d : Da} (h : workD n d = true) : ∃ i : Nat, d = .int i ∧ i < n := by
  cases d with
  | int z =>
    simp only [workD, Bool.and_eq_true, decide_eq_true_eq] at h
    exact ⟨z.toNat, by rw [Int.toNat_of_nonneg h.1], by omega⟩
  | _ => cases h
theorem WinAt.item {K : PySem.W.Frag} {H : Hp} {ws : List (Int × Int)} {as : List Addr} (h2 : as.length = ws.length) (h3 : ∀ (i : Nat) (a : Addr) (q : Int × Int), as[i]? = some a → ws[i]? = some q → SqT K H a [.int q.1, .int q.2]) {i : Nat} (hi : i < ws.length) :
    ∃ a, (as.map V.ref)[i]? = some (.ref a) ∧ SqT K H a [.int (winAt ws i).1, .int (winAt ws i).2] := by
  have e1 : as[i]? = some (as[i]'(by omega)) := List.getElem?_eq_getElem _
  have e2 : ws[i]? = some (ws[i]) := List.getElem?_eq_getElem _
  have e3 : winAt ws i = ws[i] := by
    unfold winAt
    rw [List.getD_eq_getElem?_getD, e2] <;> rfl
  rw [e3]
  exact ⟨_, by rw [List.getElem?_map, e1] <;> rfl, h3 i _ _ e1 e2⟩
/-! ### tuples of ints, compared -/
def dInts (l : List Int) : PyData := .tuple (l.map .int)
theorem dpAll_ints {K : PySem.W.Frag} {H : Hp} : ∀ l : List Int, DpAll K H (l.map V.int) (l.map PyData.int)
  | [] => .nil
  | i :: r => .cons (.int i) (dpAll_ints r)
theorem dp_ints {K : PySem.W.Frag} {H : Hp} {a : Addr} {l : List Int} (h : SqT K H a (l.map V.int)) : Dp K H (.ref a) (dInts l) := .tup h (dpAll_ints l)
theorem lay_ints : ∀ l : List Int, PyData.canLayAll0 (l.map .int) = true
  | [] => by simp only [List.map_nil, PyData.canLayAll0]
  | i :: r => by
    simp only [List.map_cons, PyData.canLayAll0, PyData.canLay0, lay_ints r]
    rfl
theorem deep_ints : ∀ l : List Int, PyData.depthAll (l.map .int) = 0
  | [] => by simp only [List.map_nil, PyData.depthAll]
  | i :: r => by
    simp only [List.map_cons, PyData.depthAll, PyData.depth, deep_ints r]
    rfl
theorem shaped_ints (l : List Int) : SeqAt.shaped (dInts l) = true := by
  unfold SeqAt.shaped dInts
  simp only [PyData.canLay0, PyData.depth, lay_ints, deep_ints]
  decide
theorem eqvAll_ints : ∀ l m : List Int, PyData.eqvAll (l.map .int) (m.map .int) = decide (l = m)
  | [], [] => by simp [PyData.eqvAll]
  | [], _ :: _ => by simp [PyData.eqvAll]
  | _ :: _, [] => by simp [PyData.eqvAll]
  | i :: l, j :: m => by
    simp only [List.map_cons, PyData.eqvAll, PyData.eqv, eqvAll_ints l m]
    by_cases h1 : i = j <;> by_cases h2 : l = m <;> simp [h1, h2]
theorem eqv_dInts (l m : List Int) : PyData.eqv (dInts l) (dInts m) = decide (l = m) := by
  unfold dInts
  simp only [PyData.eqv, eqvAll_ints]
theorem inV_ints (z : Int) (l : List Int) : inV (.int z) (l.map V.int) = decide (z ∈ l) := by
  unfold inV
  induction l with
  | nil => simp
  | cons i r ih =>
    rw [List.map_cons, List.any_cons, ih]
    by_cases h : i = z
    · simp [eqV, h]
    · have h' : ¬ z = i := fun e => h e.symm
      simp [eqV, h, h']
theorem flat_ints (l : List Int) : (l.map V.int).all flatV = true := by
  rw [List.all_eq_true]
  intro x hx
  obtain ⟨i, _, rfl⟩ := List.mem_map.mp hx
  rfl
theorem WinAt.rp {K : PySem.W.Frag} {H : Hp} {w : Addr} {ws : List (Int × Int)} (h : WinAt K H w ws) : Rp K H (.ref w) (.tup (ws.map winDa)) := by
  obtain ⟨_, as, h1, h2, h3⟩ := h
  refine .tup h1 ?_
  clear h1
  induction ws generalizing as with
  | nil =>
    cases as with
    | nil => exact .nil
    | cons _ _ => simp at h2
  | cons q r ih =>
    cases as with
    | nil => simp at h2
    | cons a s =>
      refine .cons (.tup (h3 0 a q rfl rfl) (.cons (.int _) (.cons (.int _) .nil))) (ih ?_ s (by simpa using h2) fun i a q x y => h3 (i + 1) a q x y)
      have : (q :: r).length ≤ 1000 := by assumption
      simp at this
      omega
theorem winsD_of {ws : List (Int × Int)} (h1 : 1 ≤ ws.length) (h2 : ws.length ≤ 40) (h3 : ∀ q ∈ ws, inWin 1000000 q) : winsD (.tup (ws.map winDa)) = true := by
  simp only [winsD, List.length_map, Bool.and_eq_true, decide_eq_true_eq, List.all_eq_true]
  refine ⟨⟨h1, h2⟩, fun x hx => ?_⟩
  obtain ⟨q, hq, rfl⟩ := List.mem_map.mp hx
  obtain ⟨a, b, c⟩ := h3 q hq
  simp [winDa, winD, a, b, c]
def withinN (ws : List (Int × Int)) (i : Nat) : List Int := ((List.range ws.length).filter fun j => insideB (winAt ws j) (winAt ws i)).map fun j => ((j : Nat) : Int)
theorem withinL_eq (ws : List (Int × Int)) (i : Nat) : withinL ws i = (withinN ws i).map V.int := by
  unfold withinL withinN given
  rw [List.map_map] <;> rfl
theorem mem_withinN {ws : List (Int × Int)} {i : Nat} {z : Int} : z ∈ withinN ws i ↔ ∃ j : Nat, z = (j : Int) ∧ j < ws.length ∧ insideB (winAt ws j) (winAt ws i) = true := by
  unfold withinN
  rw [List.mem_map]
  constructor
  · rintro ⟨j, hj, rfl⟩
    rw [List.mem_filter, List.mem_range] at hj
    exact ⟨j, rfl, hj.1, hj.2⟩
  · rintro ⟨j, rfl, h1, h2⟩
    exact ⟨j, List.mem_filter.mpr ⟨List.mem_range.mpr h1, h2⟩, rfl⟩
theorem insideB_iff {p q : Int × Int} : insideB p q = true ↔ q.1 < p.1 ∧ p.2 < q.2 := by
  unfold insideB
  rw [Bool.and_eq_true, decide_eq_true_eq, decide_eq_true_eq]
abbrev sp_l_refused (K : PySem.W.Frag) (A : Ad) : Sp := fun vs H Q _ => Sp3 vs fun x y z => ∃ (k : Int) (b w : Addr) (ws : List (Int × Int)) (d : Da), x = .int k ∧ y = .ref b ∧ BookAt A.C_Book H b w ∧ WinAt K H w ws ∧ Rp K H z d ∧ workD ws.length d = false ∧ ∀ H', Ex H H' → Q (.bl true) H'
/-- the law's own promise: the script's ints are handed in, True comes out -/
structure SpLaw (K : PySem.W.Frag) (vs : List V) (H : Hp) (Q : VK) : Prop where
  ex : ∃ (a : Addr) (ns : List Int), vs = [.ref a] ∧ SqL K H a (ns.map V.int) ∧ ns.length ≤ 63 ∧ ∀ H', Q (.bl true) H'
theorem SpLaw.len {K : PySem.W.Frag} {vs : List V} {H : Hp} {Q : VK} (h : SpLaw K vs H Q) : vs.length = 1 := by
  obtain ⟨a, ns, rfl, _⟩ := h.ex
  rfl
abbrev sp_law (K : PySem.W.Frag) (A : Ad) : Sp := fun vs H Q _ => SpLaw K vs H Q
theorem atI_three {a b c : Int} {d : Int} (h0 : 0 ≤ d) (h1 : d < 3) : ∃ t, atI [V.int a, .int b, .int c] d = some (.int t) ∧ (t = a ∨ t = b ∨ t = c) := by
  have : d = 0 ∨ d = 1 ∨ d = 2 := by omega
  rcases this with rfl | rfl | rfl
  · exact ⟨a, rfl, .inl rfl⟩
  · exact ⟨b, rfl, .inr (.inl rfl)⟩
  · exact ⟨c, rfl, .inr (.inr rfl)⟩

end My

namespace My
open PySem PySem.Spec PyProof.Rows L2 Evl
def top (i : Nat) : Stmt := PySem.Challenge.pw_bymiddles_k03_whole_middles_and_windows.main.body.getD i (.Pass ⟨0, 0, 0, 0⟩)
abbrev s_BadBook_init : Stmt := (inClass (top 2) 0)
abbrev n_BadBook_init : List Str := ["self"]
abbrev p_BadBook_init : List Str := ["self"]
theorem sc_BadBook_init : FnScope n_BadBook_init p_BadBook_init (defScope s_BadBook_init) := ⟨rfl, rfl, rfl, by decide +kernel, rfl, by decide +kernel, by decide +kernel⟩
abbrev s_NoWork_init : Stmt := (inClass (top 3) 0)
abbrev n_NoWork_init : List Str := ["self"]
abbrev p_NoWork_init : List Str := ["self"]
theorem sc_NoWork_init : FnScope n_NoWork_init p_NoWork_init (defScope s_NoWork_init) := ⟨rfl, rfl, rfl, by decide +kernel, rfl, by decide +kernel, by decide +kernel⟩
abbrev s_is_integer : Stmt := (top 5)
abbrev n_is_integer : List Str := ["thing"]
abbrev p_is_integer : List Str := ["thing"]
theorem sc_is_integer : FnScope n_is_integer p_is_integer (defScope s_is_integer) := ⟨rfl, rfl, rfl, by decide +kernel, rfl, by decide +kernel, by decide +kernel⟩
abbrev s_is_pair : Stmt := (top 6)
abbrev n_is_pair : List Str := ["thing"]
abbrev p_is_pair : List Str := ["thing"]
theorem sc_is_pair : FnScope n_is_pair p_is_pair (defScope s_is_pair) := ⟨rfl, rfl, rfl, by decide +kernel, rfl, by decide +kernel, by decide +kernel⟩
abbrev s_Book_init : Stmt := (inClass (top 10) 0)
abbrev n_Book_init : List Str := ["self", "windows"]
abbrev p_Book_init : List Str := ["self", "windows"]
theorem sc_Book_init : FnScope n_Book_init p_Book_init (defScope s_Book_init) := ⟨rfl, rfl, rfl, by decide +kernel, rfl, by decide +kernel, by decide +kernel⟩
abbrev s_is_windows : Stmt := (top 11)
abbrev n_is_windows : List Str := ["thing", "window"]
abbrev p_is_windows : List Str := ["thing"]
theorem sc_is_windows : FnScope n_is_windows p_is_windows (defScope s_is_windows) := ⟨rfl, rfl, rfl, by decide +kernel, rfl, by decide +kernel, by decide +kernel⟩
abbrev s_is_window : Stmt := (top 12)
abbrev n_is_window : List Str := ["thing", "first", "last"]
abbrev p_is_window : List Str := ["thing"]
theorem sc_is_window : FnScope n_is_window p_is_window (defScope s_is_window) := ⟨rfl, rfl, rfl, by decide +kernel, rfl, by decide +kernel, by decide +kernel⟩
abbrev s_is_work : Stmt := (top 13)
abbrev n_is_work : List Str := ["book", "thing"]
abbrev p_is_work : List Str := ["book", "thing"]
theorem sc_is_work : FnScope n_is_work p_is_work (defScope s_is_work) := ⟨rfl, rfl, rfl, by decide +kernel, rfl, by decide +kernel, by decide +kernel⟩
abbrev s_middle : Stmt := (top 14)
abbrev n_middle : List Str := ["book", "work", "first", "last"]
abbrev p_middle : List Str := ["book", "work"]
theorem sc_middle : FnScope n_middle p_middle (defScope s_middle) := ⟨rfl, rfl, rfl, by decide +kernel, rfl, by decide +kernel, by decide +kernel⟩
abbrev s_is_inside : Stmt := (top 15)
abbrev n_is_inside : List Str := ["inner", "outer"]
abbrev p_is_inside : List Str := ["inner", "outer"]
theorem sc_is_inside : FnScope n_is_inside p_is_inside (defScope s_is_inside) := ⟨rfl, rfl, rfl, by decide +kernel, rfl, by decide +kernel, by decide +kernel⟩
abbrev s_within : Stmt := (top 16)
abbrev n_within : List Str := ["book", "work", "outer", "other", "inner"]
abbrev p_within : List Str := ["book", "work"]
theorem sc_within : FnScope n_within p_within (defScope s_within) := ⟨rfl, rfl, rfl, by decide +kernel, rfl, by decide +kernel, by decide +kernel⟩
abbrev s_l_pool : Stmt := (top 18)
abbrev n_l_pool : List Str := ["_law_script", "_law_seed", "_law_cell"]
abbrev p_l_pool : List Str := ["_law_script"]
theorem sc_l_pool : FnScope n_l_pool p_l_pool (defScope s_l_pool) := ⟨rfl, rfl, rfl, by decide +kernel, rfl, by decide +kernel, by decide +kernel⟩
abbrev s_l_draw : Stmt := (top 19)
abbrev n_l_draw : List Str := ["_law_pool_here", "_law_many", "_law_cells", "_law_digit", "_law_mixed"]
abbrev p_l_draw : List Str := ["_law_pool_here", "_law_many"]
theorem sc_l_draw : FnScope n_l_draw p_l_draw (defScope s_l_draw) := ⟨rfl, rfl, rfl, by decide +kernel, rfl, by decide +kernel, by decide +kernel⟩
abbrev s_l_windows : Stmt := (top 20)
abbrev n_l_windows : List Str := ["_law_pool_here", "_law_many", "_law_top", "_law_kind", "_law_found", "_law_total", "_law_k", "_law_one", "_law_other"]
abbrev p_l_windows : List Str := ["_law_pool_here", "_law_many", "_law_top"]
theorem sc_l_windows : FnScope n_l_windows p_l_windows (defScope s_l_windows) := ⟨rfl, rfl, rfl, by decide +kernel, rfl, by decide +kernel, by decide +kernel⟩
abbrev s_l_refused : Stmt := (top 21)
abbrev n_l_refused : List Str := ["_law_which", "_law_book", "_law_thing", "_law_told"]
abbrev p_l_refused : List Str := ["_law_which", "_law_book", "_law_thing"]
theorem sc_l_refused : FnScope n_l_refused p_l_refused (defScope s_l_refused) := ⟨rfl, rfl, rfl, by decide +kernel, rfl, by decide +kernel, by decide +kernel⟩
abbrev s_law : Stmt := (top 22)
abbrev n_law : List Str := ["_law_script", "_law_pool_here", "_law_many", "_law_windows_here", "_law_book", "_law_inner", "_law_work", "_law_first", "_law_last", "_law_told", "_law_k", "_law_due", "_law_other", "_law_one", "_law_thing"]
abbrev p_law : List Str := ["_law_script"]
theorem sc_law : FnScope n_law p_law (defScope s_law) := ⟨rfl, rfl, rfl, by decide +kernel, rfl, by decide +kernel, by decide +kernel⟩
structure Txt (K : PySem.W.Frag) (mg : Str → Option Value) (A : Ad) (D : Fd) : Prop where
  F_BadBook_init : Fun K "__init__" "BadBook.__init__" s_BadBook_init A.a_BadBook_init D.d_BadBook_init
  F_NoWork_init : Fun K "__init__" "NoWork.__init__" s_NoWork_init A.a_NoWork_init D.d_NoWork_init
  F_is_integer : Fun K "is_integer" "is_integer" s_is_integer A.a_is_integer D.d_is_integer
  g_is_integer : mg "is_integer" = some (.ref A.a_is_integer)
  F_is_pair : Fun K "is_pair" "is_pair" s_is_pair A.a_is_pair D.d_is_pair
  g_is_pair : mg "is_pair" = some (.ref A.a_is_pair)
  F_Book_init : Fun K "__init__" "Book.__init__" s_Book_init A.a_Book_init D.d_Book_init
  F_is_windows : Fun K "is_windows" "is_windows" s_is_windows A.a_is_windows D.d_is_windows
  g_is_windows : mg "is_windows" = some (.ref A.a_is_windows)
  F_is_window : Fun K "is_window" "is_window" s_is_window A.a_is_window D.d_is_window
  g_is_window : mg "is_window" = some (.ref A.a_is_window)
  F_is_work : Fun K "is_work" "is_work" s_is_work A.a_is_work D.d_is_work
  g_is_work : mg "is_work" = some (.ref A.a_is_work)
  F_middle : Fun K "middle" "middle" s_middle A.a_middle D.d_middle
  g_middle : mg "middle" = some (.ref A.a_middle)
  F_is_inside : Fun K "is_inside" "is_inside" s_is_inside A.a_is_inside D.d_is_inside
  g_is_inside : mg "is_inside" = some (.ref A.a_is_inside)
  F_within : Fun K "within" "within" s_within A.a_within D.d_within
  g_within : mg "within" = some (.ref A.a_within)
  F_l_pool : Fun K "_law_pool" "_law_pool" s_l_pool A.a_l_pool D.d_l_pool
  g_l_pool : mg "_law_pool" = some (.ref A.a_l_pool)
  F_l_draw : Fun K "_law_draw" "_law_draw" s_l_draw A.a_l_draw D.d_l_draw
  g_l_draw : mg "_law_draw" = some (.ref A.a_l_draw)
  F_l_windows : Fun K "_law_windows" "_law_windows" s_l_windows A.a_l_windows D.d_l_windows
  g_l_windows : mg "_law_windows" = some (.ref A.a_l_windows)
  F_l_refused : Fun K "_law_refused" "_law_refused" s_l_refused A.a_l_refused D.d_l_refused
  g_l_refused : mg "_law_refused" = some (.ref A.a_l_refused)
  F_law : Fun K "law" "law" s_law A.a_law D.d_law
  g_law : mg "law" = some (.ref A.a_law)
  g_BadBook : mg "BadBook" = some (.ref A.C_BadBook)
  g_NoWork : mg "NoWork" = some (.ref A.C_NoWork)
  g_Book : mg "Book" = some (.ref A.C_Book)
  c_MOST_HOUR : ∃ u, mg "MOST_HOUR" = some (.int 1000000 u)
  c_MOST_WORKS : ∃ u, mg "MOST_WORKS" = some (.int 40 u)
  n_abs : mg "abs" = none
  n_all : mg "all" = none
  n_bool : mg "bool" = none
  n_enumerate : mg "enumerate" = none
  n_int : mg "int" = none
  n_isinstance : mg "isinstance" = none
  n_len : mg "len" = none
  n_max : mg "max" = none
  n_min : mg "min" = none
  n_range : mg "range" = none
  n_sum : mg "sum" = none
  n_tuple : mg "tuple" = none
  cl_Book : Cls K A.C_Book
  na_windows : NoAttr K A.C_Book "windows"
  mk_Book : Mk K A.C_Book A.a_Book_init
  e_NoWork : OexC K A.C_NoWork
  i_NoWork : PySem.W.findIn K (.ref A.C_NoWork) "__init__" = some (some (.ref A.a_NoWork_init))
  t_NoWork : PySem.W.typeIn K (.ref A.a_NoWork_init) = some (.type "function")
  m_NoWork : PySem.W.exmOne K (.ref A.C_NoWork) (.ref A.C_NoWork) = some true
  e_BadBook : OexC K A.C_BadBook
  i_BadBook : PySem.W.findIn K (.ref A.C_BadBook) "__init__" = some (some (.ref A.a_BadBook_init))
  t_BadBook : PySem.W.typeIn K (.ref A.a_BadBook_init) = some (.type "function")
  m_BadBook : PySem.W.exmOne K (.ref A.C_BadBook) (.ref A.C_BadBook) = some true
section
variable {P : Program} {w : World} {K : PySem.W.Frag} {mg : Str → Option Value} {base : Heap} {A : Ad} {D : Fd}
theorem k_BadBook_init (T : Txt K mg A D) : PySem.W.keepIn K (.ref A.a_BadBook_init) = true := T.F_BadBook_init.kp
theorem b_BadBook_init (T : Txt K mg A D) : Binds K D.d_BadBook_init p_BadBook_init [] := T.F_BadBook_init.binds (ps := p_BadBook_init) fun _ _ _ _ _ _ us hl => match us, hl with | [_], _ => rfl
theorem k_NoWork_init (T : Txt K mg A D) : PySem.W.keepIn K (.ref A.a_NoWork_init) = true := T.F_NoWork_init.kp
theorem b_NoWork_init (T : Txt K mg A D) : Binds K D.d_NoWork_init p_NoWork_init [] := T.F_NoWork_init.binds (ps := p_NoWork_init) fun _ _ _ _ _ _ us hl => match us, hl with | [_], _ => rfl
theorem k_is_integer (T : Txt K mg A D) : PySem.W.keepIn K (.ref A.a_is_integer) = true := T.F_is_integer.kp
theorem b_is_integer (T : Txt K mg A D) : Binds K D.d_is_integer p_is_integer [] := T.F_is_integer.binds (ps := p_is_integer) fun _ _ _ _ _ _ us hl => match us, hl with | [_], _ => rfl
theorem k_is_pair (T : Txt K mg A D) : PySem.W.keepIn K (.ref A.a_is_pair) = true := T.F_is_pair.kp
theorem b_is_pair (T : Txt K mg A D) : Binds K D.d_is_pair p_is_pair [] := T.F_is_pair.binds (ps := p_is_pair) fun _ _ _ _ _ _ us hl => match us, hl with | [_], _ => rfl
theorem k_Book_init (T : Txt K mg A D) : PySem.W.keepIn K (.ref A.a_Book_init) = true := T.F_Book_init.kp
theorem b_Book_init (T : Txt K mg A D) : Binds K D.d_Book_init p_Book_init [] := T.F_Book_init.binds (ps := p_Book_init) fun _ _ _ _ _ _ us hl => match us, hl with | [_, _], _ => rfl
theorem k_is_windows (T : Txt K mg A D) : PySem.W.keepIn K (.ref A.a_is_windows) = true := T.F_is_windows.kp
theorem b_is_windows (T : Txt K mg A D) : Binds K D.d_is_windows p_is_windows [] := T.F_is_windows.binds (ps := p_is_windows) fun _ _ _ _ _ _ us hl => match us, hl with | [_], _ => rfl
theorem k_is_window (T : Txt K mg A D) : PySem.W.keepIn K (.ref A.a_is_window) = true := T.F_is_window.kp
theorem b_is_window (T : Txt K mg A D) : Binds K D.d_is_window p_is_window [] := T.F_is_window.binds (ps := p_is_window) fun _ _ _ _ _ _ us hl => match us, hl with | [_], _ => rfl
theorem k_is_work (T : Txt K mg A D) : PySem.W.keepIn K (.ref A.a_is_work) = true := T.F_is_work.kp
theorem b_is_work (T : Txt K mg A D) : Binds K D.d_is_work p_is_work [] := T.F_is_work.binds (ps := p_is_work) fun _ _ _ _ _ _ us hl => match us, hl with | [_, _], _ => rfl
theorem k_middle (T : Txt K mg A D) : PySem.W.keepIn K (.ref A.a_middle) = true := T.F_middle.kp
theorem b_middle (T : Txt K mg A D) : Binds K D.d_middle p_middle [] := T.F_middle.binds (ps := p_middle) fun _ _ _ _ _ _ us hl => match us, hl with | [_, _], _ => rfl
theorem k_is_inside (T : Txt K mg A D) : PySem.W.keepIn K (.ref A.a_is_inside) = true := T.F_is_inside.kp
theorem b_is_inside (T : Txt K mg A D) : Binds K D.d_is_inside p_is_inside [] := T.F_is_inside.binds (ps := p_is_inside) fun _ _ _ _ _ _ us hl => match us, hl with | [_, _], _ => rfl
theorem k_within (T : Txt K mg A D) : PySem.W.keepIn K (.ref A.a_within) = true := T.F_within.kp
theorem b_within (T : Txt K mg A D) : Binds K D.d_within p_within [] := T.F_within.binds (ps := p_within) fun _ _ _ _ _ _ us hl => match us, hl with | [_, _], _ => rfl
theorem k_l_pool (T : Txt K mg A D) : PySem.W.keepIn K (.ref A.a_l_pool) = true := T.F_l_pool.kp
theorem b_l_pool (T : Txt K mg A D) : Binds K D.d_l_pool p_l_pool [] := T.F_l_pool.binds (ps := p_l_pool) fun _ _ _ _ _ _ us hl => match us, hl with | [_], _ => rfl
theorem k_l_draw (T : Txt K mg A D) : PySem.W.keepIn K (.ref A.a_l_draw) = true := T.F_l_draw.kp
theorem b_l_draw (T : Txt K mg A D) : Binds K D.d_l_draw p_l_draw [] := T.F_l_draw.binds (ps := p_l_draw) fun _ _ _ _ _ _ us hl => match us, hl with | [_, _], _ => rfl
theorem k_l_windows (T : Txt K mg A D) : PySem.W.keepIn K (.ref A.a_l_windows) = true := T.F_l_windows.kp
theorem b_l_windows (T : Txt K mg A D) : Binds K D.d_l_windows p_l_windows [] := T.F_l_windows.binds (ps := p_l_windows) fun _ _ _ _ _ _ us hl => match us, hl with | [_, _, _], _ => rfl
theorem k_l_refused (T : Txt K mg A D) : PySem.W.keepIn K (.ref A.a_l_refused) = true := T.F_l_refused.kp
theorem b_l_refused (T : Txt K mg A D) : Binds K D.d_l_refused p_l_refused [] := T.F_l_refused.binds (ps := p_l_refused) fun _ _ _ _ _ _ us hl => match us, hl with | [_, _, _], _ => rfl
theorem k_law (T : Txt K mg A D) : PySem.W.keepIn K (.ref A.a_law) = true := T.F_law.kp
theorem b_law (T : Txt K mg A D) : Binds K D.d_law p_law [] := T.F_law.binds (ps := p_law) fun _ _ _ _ _ _ us hl => match us, hl with | [_], _ => rfl
end
section
variable {P : Program} {w : World} {K : PySem.W.Frag} {mg : Str → Option Value} {base : Heap} {A : Ad} {D : Fd}
theorem ok_l_draw (T : Txt K mg A D) : FnOk P w K mg base CX0 1 A.a_l_draw D.d_l_draw p_l_draw (sp_l_draw K A) := by
  refine T.F_l_draw.ok sc_l_draw (fun vs H Q E h => ?_) (fun cdv Ar outer s H vs Q E hr h => ?_)
  · exact h.len
  · have hu := hu_of hr
    refine ⟨_, (pss_cons (ps_asg (pe_op op_add (pe_ix ix_list (pv 0) pe_int (fun _ _ => rfl)) pe_int) (pg_sub (pv 0) pe_int set_list)) (pss_cons (ps_set (i := 2) sc_l_draw.nd rfl (Or.inl rfl) (pe_ix ix_list (pv 0) pe_int (fun _ _ => rfl))) (pss_cons (ps_if (pt_cmpR op_gt (pe_callB call_len_seq (by rfl) T.n_len (by decide +kernel) (pa_cons (pv 2) pa_nil)) pe_int (nomark _)) (pss_cons (ps_set (i := 3) sc_l_draw.nd rfl (Or.inl rfl) (pe_op op_mod (pe_callTy call_int1 (by rfl) T.n_int (by decide +kernel) (pa_cons (pe_ix ix_list (pv 2) pe_int (fun _ _ => rfl)) pa_nil)) (pv 1))) (pss_cons (ps_asg (pe_op op_fdivN (pe_callTy call_int1 (by rfl) T.n_int (by decide +kernel) (pa_cons (pe_ix ix_list (pv 2) pe_int (fun _ _ => rfl)) pa_nil)) (pv 1)) (pg_sub (pv 2) pe_int set_list)) (pss_cons (ps_if (pt_cmpR op_eq (pe_ix ix_list (pv 2) pe_int (fun _ _ => rfl)) pe_int (nomark _)) (pss_one (ps_expr (pe_bm PySem.F.plainAttrs_list PySem.F.slot_list_pop PySem.F.type_list_pop mt_popAt (pv 2) (pa_cons pe_int pa_nil)))) pss_nil) (pss_one (ps_ret (pv 3)))))) pss_nil) (pss_cons (ps_set (i := 4) sc_l_draw.nd rfl (Or.inl rfl) (pe_op op_mod (pe_callTy call_int1 (by rfl) T.n_int (by decide +kernel) (pa_cons (pe_op op_mul (pe_op op_add (pe_ix ix_list (pv 0) pe_int (fun _ _ => rfl)) (pe_op op_mul pe_int (pe_ix ix_list (pv 0) pe_int (fun _ _ => rfl)))) pe_int) pa_nil)) pe_int)) (pss_cons (ps_set (i := 4) sc_l_draw.nd rfl (Or.inl rfl) (pe_op op_mod (pe_callTy call_int1 (by rfl) T.n_int (by decide +kernel) (pa_cons (pe_op op_mul (pv 4) (pe_op op_add (pe_op op_fdiv (pv 4) pe_int) pe_int)) pa_nil)) pe_int)) (pss_cons (ps_set (i := 4) sc_l_draw.nd rfl (Or.inl rfl) (pe_op op_mod (pe_callTy call_int1 (by rfl) T.n_int (by decide +kernel) (pa_cons (pe_op op_mul (pv 4) (pe_op op_add (pe_op op_fdiv (pv 4) pe_int) pe_int)) pa_nil)) pe_int)) (pss_one (ps_ret (pe_op op_mod (pe_callTy call_int1 (by rfl) T.n_int (by decide +kernel) (pa_cons (pe_op op_fdiv (pv 4) pe_int) pa_nil)) (pv 1)))))))))), ?_⟩
    obtain ⟨p, c, m, rfl, ⟨⟨i, j, hp⟩, ⟨ns, hc⟩, ne⟩, m0, m1, k⟩ := h.ex
    -- pool[1] = pool[1] + 1
    refine ⟨_, rfl, p, _, 1, _, rfl, rfl, SqL.of hp, rfl, _, _, rfl, rfl, ?_⟩
    refine ⟨_, rfl, p, _, 1, 1, rfl, rfl, hp, rfl, ?_⟩
    -- cells = pool[2]
    have hp1 : (upd H p (.lst [.int i, .int (j + 1), .ref c])) p = some (.lst [.int i, .int (j + 1), .ref c]) := upd_same
    have hc1 : (upd H p (.lst [.int i, .int (j + 1), .ref c])) c = some (.lst (ns.map V.int)) := by rw [upd_ne ne.symm]; exact hc
    have kp1 : Kept p c H (upd H p (.lst [.int i, .int (j + 1), .ref c])) := fun a o h1 _ e => by rw [upd_ne h1]; exact e
    show tSeq _ _ _ _ (upd H p (.lst [.int i, .int (j + 1), .ref c]))
    generalize upd H p (.lst [.int i, .int (j + 1), .ref c]) = H1 at hp1 hc1 kp1
    refine ⟨_, rfl, p, _, 2, _, rfl, rfl, SqL.of hp1, rfl, ?_⟩
    -- if len(cells) > 0
    refine ⟨_, rfl, c, _, rfl, .inl (SqL.of hc1), _, _, rfl, rfl, _, rfl, ?_⟩
    cases ns with
    | cons n r =>
      refine if_pos_of (decide_eq_true (by show (0 : Int) < ((n :: r).map V.int).length; simp only [List.length_map, List.length_cons]; omega)) ?_
      refine ⟨_, rfl, c, _, 0, _, rfl, rfl, SqL.of hc1, atI0 _ _, .inl ⟨_, rfl, _, rfl, _, _, rfl, rfl, m0, ?_⟩⟩
      refine ⟨_, rfl, c, _, 0, _, rfl, rfl, SqL.of hc1, atI0 _ _, .inl ⟨_, rfl, _, rfl, _, _, rfl, rfl, ⟨by omega, by omega⟩, ?_⟩⟩
      refine ⟨_, rfl, c, _, 0, 0, rfl, rfl, hc1, ixN0 _, ?_⟩
      have hp2 : (upd H1 c (.lst ((n.fdiv m :: r).map V.int))) p = some (.lst [.int i, .int (j + 1), .ref c]) := by rw [upd_ne ne]; exact hp1
      have hc2 : (upd H1 c (.lst ((n.fdiv m :: r).map V.int))) c = some (.lst ((n.fdiv m :: r).map V.int)) := upd_same
      have kp2 : Kept p c H (upd H1 c (.lst ((n.fdiv m :: r).map V.int))) := fun a o h1 h2 e => by rw [upd_ne h2]; exact kp1 a o h1 h2 e
      show tSeq _ _ _ _ (upd H1 c (.lst ((n.fdiv m :: r).map V.int)))
      generalize upd H1 c (.lst ((n.fdiv m :: r).map V.int)) = H2 at hp2 hc2 kp2
      -- if cells[0] == 0: cells.pop(0)
      refine ⟨_, rfl, c, _, 0, _, rfl, rfl, SqL.of hc2, atI0 _ _, rfl, _, rfl, ?_⟩
      refine ite2 (fun _ => ?_) (fun _ => ?_)
      · refine ⟨_, rfl, .inl ⟨rfl, _, SqL.of hc2⟩, c, _, 0, 0, _, rfl, rfl, hc2, by decide, by decide, seqIx0 _, rfl, ?_⟩
        exact ⟨_, rfl, k _ _ (Int.emod_nonneg _ (by omega)) (Int.emod_lt_of_pos _ m0) ⟨⟨_, _, by rw [upd_ne ne]; exact hp2⟩, ⟨r, upd_same⟩, ne⟩ fun a o h1 h2 e => by rw [upd_ne h2]; exact kp2 a o h1 h2 e⟩
      · exact ⟨_, rfl, k _ _ (Int.emod_nonneg _ (by omega)) (Int.emod_lt_of_pos _ m0) ⟨⟨_, _, hp2⟩, ⟨_, hc2⟩, ne⟩ kp2⟩
    | nil =>
      refine if_neg_of (decide_eq_false (by show ¬ (0 : Int) < (([] : List Int).map V.int).length; simp)) ?_
      refine ⟨_, rfl, p, _, 0, _, rfl, rfl, SqL.of hp1, rfl, _, rfl, p, _, 1, _, rfl, rfl, SqL.of hp1, rfl, _, _, rfl, rfl, .inl (by constructor <;> decide), _, _, rfl, rfl, _, _, rfl, rfl, .inr (by constructor <;> decide), .inl ⟨_, rfl, _, _, rfl, rfl, (by show (0 : Int) < 2147483647; decide), ?_⟩⟩
      generalize hx : ((i + 7919 * (j + 1)) * 48271) % 2147483647 = x
      have hx0 : 0 ≤ x ∧ x < 2147483647 := by rw [← hx]; exact ⟨Int.emod_nonneg _ (by decide), Int.emod_lt_of_pos _ (by decide)⟩
      refine ⟨_, rfl, _, rfl, _, _, rfl, rfl, ⟨by decide, by decide⟩, _, _, rfl, rfl, _, _, rfl, rfl, .inl ⟨by omega, by omega⟩, .inl ⟨_, rfl, _, _, rfl, rfl, (by show (0 : Int) < 2147483647; decide), ?_⟩⟩
      generalize hy : (x * (x / 1009 + 69621)) % 2147483647 = y
      have hy0 : 0 ≤ y ∧ y < 2147483647 := by rw [← hy]; exact ⟨Int.emod_nonneg _ (by decide), Int.emod_lt_of_pos _ (by decide)⟩
      refine ⟨_, rfl, _, rfl, _, _, rfl, rfl, ⟨by decide, by decide⟩, _, _, rfl, rfl, _, _, rfl, rfl, .inl ⟨by omega, by omega⟩, .inl ⟨_, rfl, _, _, rfl, rfl, (by show (0 : Int) < 2147483399; decide), ?_⟩⟩
      generalize (y * (y / 2003 + 40692)) % 2147483399 = z
      exact ⟨_, rfl, _, _, rfl, rfl, ⟨by decide, by decide⟩, .inl ⟨_, rfl, _, rfl, _, _, rfl, rfl, m0, k _ _ (Int.emod_nonneg _ (by omega)) (Int.emod_lt_of_pos _ m0) ⟨⟨_, _, hp1⟩, ⟨_, hc1⟩, ne⟩ kp1⟩⟩
theorem ok_l_pool (T : Txt K mg A D) : FnOk P w K mg base CX0 1 A.a_l_pool D.d_l_pool p_l_pool (sp_l_pool K A) := by
  refine T.F_l_pool.ok sc_l_pool (fun vs H Q E h => ?_) (fun cdv Ar outer s H vs Q E hr h => ?_)
  · exact h.len
  · have hu := hu_of hr
    refine ⟨_, (pss_cons (ps_set (i := 1) sc_l_pool.nd rfl (Or.inl rfl) (pe_op op_add (pe_op op_add (pe_op op_mod (pe_callTy call_int1 (by rfl) T.n_int (by decide +kernel) (pa_cons (pe_callB (cr_sum rfl) (by rfl) T.n_sum (by decide +kernel) (pa_cons (pe_slice sl_list (pv 0) po_none (po_some pe_int)) pa_nil)) pa_nil)) pe_int) (pe_callB call_len_seq (by rfl) T.n_len (by decide +kernel) (pa_cons (pv 0) pa_nil))) pe_int)) (pss_cons (ps_for PassesOwn.never rfl (pi_list (pe_slice sl_list (pv 0) po_none (po_some pe_int))) (pg_name (i := 2) sc_l_pool.nd rfl (Or.inl rfl)) (pss_one (ps_set (i := 1) sc_l_pool.nd rfl (Or.inl rfl) (pe_op op_mod (pe_callTy call_int1 (by rfl) T.n_int (by decide +kernel) (pa_cons (pe_op op_add (pe_op op_add (pe_op op_mul (pv 1) pe_int) (pe_op op_mod (pe_callTy call_int1 (by rfl) T.n_int (by decide +kernel) (pa_cons (pv 2) pa_nil)) pe_int)) pe_int) pa_nil)) pe_int)))) (pss_one (ps_ret (pe_lst (pa_cons (pv 1) (pa_cons pe_int (pa_cons (pe_lc (own := [("_law_cell", 2)]) (g := (gName 2))  rfl sc_l_pool.nd (pi_list (pe_slice sl_list (pv 0) po_none (po_some pe_int))) (blkOk_by (own := [("_law_cell", 2)]) (N := n_l_pool) (sc := defScope s_l_pool) (by decide +kernel)) (fun _ _ _ _ _ => (pg_name (i := 2) sc_l_pool.nd rfl (Or.inl rfl))) (fun _ _ _ _ _ => pts_one (pt_cmpR op_ge (pe_callB call_abs (by rfl) T.n_abs (by decide +kernel) (pa_cons (pv 2) pa_nil)) (pe_op op_pow pe_int pe_int) (nomark _))) (fun _ _ _ _ _ => (pe_callB call_abs (by rfl) T.n_abs (by decide +kernel) (pa_cons (pv 2) pa_nil)))) pa_nil)))))))), ?_⟩
    obtain ⟨a, ns, rfl, hS, hlen, k⟩ := h.ex
    obtain ⟨m1, e1, l1⟩ := cutV_ints ns none (some 1)
    obtain ⟨m2, e2, l2⟩ := cutV_ints ns none (some 63)
    have ha : ns.length ≤ 63 := hlen
    refine ⟨_, rfl, _, rfl, a, _, rfl, hS, fun p1 np1 => ?_⟩
    have x1 : Ex H (upd H p1 (.lst (cutV (ns.map V.int) none (some 1)))) := Ex.new np1
    refine ⟨p1, m1, rfl, SqL.of (by rw [upd_same, e1]), .inl ⟨_, rfl, _, _, rfl, rfl, (by show (0 : Int) < 1000003; decide), _, rfl, a, _, rfl, .inl (ex_l x1 hS), _, _, rfl, rfl, _, _, rfl, rfl, ?_⟩⟩
    generalize upd H p1 (.lst (cutV (ns.map V.int) none (some 1))) = H1 at x1
    -- for cell in script[:63]
    refine ⟨_, rfl, _, rfl, a, _, rfl, ex_l x1 hS, fun p2 np2 => ?_⟩
    have x2 : Ex H1 (upd H1 p2 (.lst (cutV (ns.map V.int) none (some 63)))) := Ex.new np2
    have h2 : (upd H1 p2 (.lst (cutV (ns.map V.int) none (some 63)))) p2 = some (.lst (m2.map V.int)) := by rw [upd_same, e2]
    generalize upd H1 p2 (.lst (cutV (ns.map V.int) none (some 63))) = H2 at x2 h2
    refine ⟨p2, rfl, ⟨_, SqL.of h2⟩, for_list (K := K) (a := p2) (xs := m2.map V.int) (fun i σ H' => ∃ (z : Int) (v : Option V), σ = [some (.ref a), some (.int z), v] ∧ Ex H2 H') ⟨_, _, rfl, Ex.refl _⟩ (fun i σ H' _ ⟨_, _, _, x⟩ => ex_l x (SqL.of h2)) ?_ ?_⟩
    · rintro i y σ H' hi ⟨z, v, rfl, x⟩
      obtain ⟨n, _, rfl⟩ := ints_get hi
      exact ⟨_, rfl, _, _, rfl, rfl, .inr (by constructor <;> decide), _, rfl, .inl ⟨_, rfl, _, _, rfl, rfl, (by show (0 : Int) < 2147483629; decide), _, _, rfl, rfl, _, _, rfl, rfl, .inl ⟨_, rfl, _, _, rfl, rfl, (by show (0 : Int) < 2147483647; decide), _, _, rfl, x⟩⟩⟩
    · rintro σ H' ⟨z, v, rfl, x⟩
      have y0 : Ex H H' := (x1.trans x2).trans x
      -- return [seed, 0, [..]]
      refine ⟨_, rfl, _, rfl, _, rfl, a, _, rfl, ex_l y0 hS, fun p3 np3 => ?_⟩
      have x3 : Ex H' (upd H' p3 (.lst (cutV (ns.map V.int) none (some 63)))) := Ex.new np3
      have h3 : (upd H' p3 (.lst (cutV (ns.map V.int) none (some 63)))) p3 = some (.lst (m2.map V.int)) := by rw [upd_same, e2]
      generalize upd H' p3 (.lst (cutV (ns.map V.int) none (some 63))) = H3 at x3 h3
      refine ⟨p3, rfl, ⟨_, SqL.of h3⟩, fun c nc => lc_list (K := K) (a := p3) (xs := m2.map V.int) (fun i H4 => ∃ ms : List Int, H4 c = some (.lst (ms.map V.int)) ∧ ms.length ≤ i ∧ Ex H3 H4) ⟨[], upd_same, Nat.le_refl _, Ex.new nc⟩ (fun i H4 _ ⟨_, _, _, x4⟩ => ex_l x4 (SqL.of h3)) ?_ ?_⟩
      · rintro i y H4 hi ⟨ms, hm, hl, x4⟩
        obtain ⟨n, _, rfl⟩ := ints_get hi
        have hil : i < m2.length := by
          have := (List.getElem?_eq_some_iff.mp hi).1
          rw [List.length_map] at this
          exact this
        refine ⟨rfl, _, rfl, _, rfl, _, _, rfl, rfl, ⟨by decide, by decide, by decide⟩, _, _, rfl, rfl, _, rfl, ?_⟩
        refine ite2 (fun _ => ?_) (fun _ => ?_)
        · exact ⟨_, rfl, _, rfl, _, hm, small1000 (by rw [List.length_map]; omega), ms ++ [if n < 0 then -n else n], by rw [upd_same, List.map_append] <;> rfl, by rw [List.length_append]; show _ + 1 ≤ _; omega, x4.mut nc⟩
        · exact ⟨ms, hm, Nat.le_succ_of_le hl, x4⟩
      · rintro H4 ⟨ms, hm, _, x4⟩
        refine ⟨(by show 3 ≤ sizeLine; decide), fun p np => k p c _ ?_ ?_ ⟨⟨_, _, upd_same⟩, ⟨ms, by rw [upd_ne (ne_of_none hm np)]; exact hm⟩, ?_⟩ ?_⟩
        · exact fresh_back ((y0.trans x3).trans x4) np
        · exact fresh_back (y0.trans x3) nc
        · exact (ne_of_none hm np).symm
        · exact ((y0.trans x3).trans x4).trans (Ex.new np)
theorem ok_l_windows (T : Txt K mg A D) : FnOk P w K mg base CX0 2 A.a_l_windows D.d_l_windows p_l_windows (sp_l_windows K A) := by
  have G_l_draw := ok_l_draw (P := P) (w := w) (base := base) T
  refine T.F_l_windows.ok sc_l_windows (fun vs H Q E h => ?_) (fun cdv Ar outer s H vs Q E hr h => ?_)
  · exact h.len
  · have hu := hu_of hr
    refine ⟨_, (pss_cons (ps_set (i := 3) sc_l_windows.nd rfl (Or.inl rfl) (pe_call G_l_draw (hr.mono (by decide)) rfl T.g_l_draw (k_l_draw T) (b_l_draw T) .nil pass0 (pa_cons (pv 0) (pa_cons pe_int pa_nil)))) (pss_cons (ps_set (i := 4) sc_l_windows.nd rfl (Or.inl rfl) (pe_lst pa_nil)) (pss_cons (ps_set (i := 5) sc_l_windows.nd rfl (Or.inl rfl) (pe_op op_add (pv 2) (pe_call G_l_draw (hr.mono (by decide)) rfl T.g_l_draw (k_l_draw T) (b_l_draw T) .nil pass0 (pa_cons (pv 0) (pa_cons (pe_op op_add (pv 2) pe_int) pa_nil))))) (pss_cons (ps_for PassesOwn.never rfl (pi_range1 (by rfl) T.n_range (pa_cons (pv 1) pa_nil)) (pg_name (i := 6) sc_l_windows.nd rfl (Or.inl rfl)) (pss_cons (ps_set (i := 7) sc_l_windows.nd rfl (Or.inl rfl) (pe_call G_l_draw (hr.mono (by decide)) rfl T.g_l_draw (k_l_draw T) (b_l_draw T) .nil pass0 (pa_cons (pv 0) (pa_cons (pe_op op_add (pv 2) pe_int) pa_nil)))) (pss_cons (ps_set (i := 8) sc_l_windows.nd rfl (Or.inl rfl) (pe_call G_l_draw (hr.mono (by decide)) rfl T.g_l_draw (k_l_draw T) (b_l_draw T) .nil pass0 (pa_cons (pv 0) (pa_cons (pe_op op_add (pv 2) pe_int) pa_nil)))) (pss_cons (ps_if (PW.pt (pw_and (pt_cmpR op_eq (pv 3) pe_int (nomark _)) (pw_and1 (pt_cmpR op_gt (pe_call G_l_draw (hr.mono (by decide)) rfl T.g_l_draw (k_l_draw T) (b_l_draw T) .nil pass0 (pa_cons (pv 0) (pa_cons pe_int pa_nil))) pe_int (nomark _))))) (pss_cons (ps_set (i := 7) sc_l_windows.nd rfl (Or.inl rfl) (pe_call G_l_draw (hr.mono (by decide)) rfl T.g_l_draw (k_l_draw T) (b_l_draw T) .nil pass0 (pa_cons (pv 0) (pa_cons (pe_op op_add (pe_op op_fdiv (pv 5) pe_int) pe_int) pa_nil)))) (pss_one (ps_set (i := 8) sc_l_windows.nd rfl (Or.inl rfl) (pe_op op_sub (pv 5) (pv 7))))) pss_nil) (pss_cons (ps_if (pt_cmpR op_eq (pv 3) pe_int (nomark _)) (pss_cons (ps_set (i := 7) sc_l_windows.nd rfl (Or.inl rfl) (pe_op op_add (pv 6) (pe_call G_l_draw (hr.mono (by decide)) rfl T.g_l_draw (k_l_draw T) (b_l_draw T) .nil pass0 (pa_cons (pv 0) (pa_cons pe_int pa_nil))))) (pss_one (ps_set (i := 8) sc_l_windows.nd rfl (Or.inl rfl) (pe_op op_add (pe_op op_add (pv 7) pe_int) (pe_call G_l_draw (hr.mono (by decide)) rfl T.g_l_draw (k_l_draw T) (b_l_draw T) .nil pass0 (pa_cons (pv 0) (pa_cons pe_int pa_nil))))))) pss_nil) (pss_one (ps_expr (pe_bm PySem.F.plainAttrs_list PySem.F.slot_list_append PySem.F.type_list_append mt_append (pv 4) (pa_cons (pe_tup (pa_cons (pe_callB (call_min2 rfl) (by rfl) T.n_min (by decide +kernel) (pa_cons (pv 7) (pa_cons (pv 8) pa_nil))) (pa_cons (pe_callB (call_max2 rfl) (by rfl) T.n_max (by decide +kernel) (pa_cons (pv 7) (pa_cons (pv 8) pa_nil))) pa_nil))) pa_nil))))))))) (pss_one (ps_ret (pe_callTy call_tuple_of (by rfl) T.n_tuple (by decide +kernel) (pa_cons (pv 4) pa_nil)))))))), ?_⟩
    obtain ⟨p, c, n, t, rfl, hP, n1, n2, t0, t1, k⟩ := h.ex
    -- kind = draw(pool, 4)
    refine ⟨_, rfl, ⟨p, c, 4, rfl, hP, by decide, by decide, fun kd H1 kd0 kd1 P1 K1 => ?_⟩⟩
    -- found = []
    refine ⟨Nat.zero_le _, fun f nf => ?_⟩
    have fp := P1.nep nf
    have fc := P1.nec nf
    have P2 : PoolAt (L2.upd H1 f (.lst [])) p c := P1.upd fp.symm fc.symm
    have K2 : Kept p c H (L2.upd H1 f (.lst [])) := K1.trans (kept_of (Ex.new nf))
    have G2 : Grows K (L2.upd H1 f (.lst [])) f [] := ⟨⟨[], upd_same, rfl, fun i a q x => by simp at x⟩⟩
    have Hf : H f = none := by
      cases e : H f with
      | none => rfl
      | some o => rw [K1 f o fp fc e] at nf; cases nf
    generalize L2.upd H1 f (.lst []) = H2 at P2 K2 G2
    -- total = top + draw(pool, top + 1)
    refine ⟨_, rfl, _, rfl, _, rfl, _, _, rfl, rfl, ⟨p, c, t + 1, rfl, P2, by omega, by omega, fun d H3 d0 d1 P3 K3 => ?_⟩⟩
    have K3' := K2.trans K3
    have G3 := G2.mono P2 K3 fp fc
    refine ⟨_, _, rfl, rfl, ?_⟩
    generalize hT : t + d = T
    have T0 : 0 ≤ T ∧ T ≤ 2 * t := by omega
    -- for k in range(many)
    refine ⟨_, rfl, n, rfl, by omega, by omega, for_range (lo := 0) (n := n.toNat) (fun i σ H' => ∃ (v6 v7 v8 : Option V) (ws : List (Int × Int)), σ = [some (.ref p), some (.int n), some (.int t), some (.int kd), some (.ref f), some (.int T), v6, v7, v8] ∧
      PoolAt H' p c ∧ Kept p c H H' ∧ Grows K H' f ws ∧ ws.length = i ∧ ∀ q ∈ ws, inWin (2 * t + n + 4) q) ⟨none, none, none, [], (by subst hT; rfl), P3, K3', G3, rfl, fun q hq => by simp at hq⟩ ?_ ?_⟩
    · rintro i σ H' hi ⟨v6, v7, v8, ws, rfl, P4, K4, G4, hw, hb⟩
      refine ⟨_, rfl, _, rfl, _, _, rfl, rfl, ⟨p, c, t + 1, rfl, P4, by omega, by omega, fun one H5 o0 o1 P5 K5 => ?_⟩⟩
      have G5 := G4.mono P4 K5 fp fc
      have K5' := K4.trans K5
      refine ⟨_, rfl, _, rfl, _, _, rfl, rfl, ⟨p, c, t + 1, rfl, P5, by omega, by omega, fun oth H6 h0 h1 P6 K6 => ?_⟩⟩
      have G6 := G5.mono P5 K6 fp fc
      have K6' := K5'.trans K6
      have fin : ∀ (a b : Int) (H7 : Hp) (D : Ends) (v6 : Option V), 0 ≤ a → a ≤ 2 * t + n + 4 → 0 ≤ b → b ≤ 2 * t + n + 4 → PoolAt H7 p c → Kept p c H H7 → Grows K H7 f ws →
          (∀ (v6 v7 v8 : Option V) (ws : List (Int × Int)) (H' : Hp), PoolAt H' p c → Kept p c H H' → Grows K H' f ws → ws.length = i + 1 → (∀ q ∈ ws, inWin (2 * t + n + 4) q) → D.nx [some (.ref p), some (.int n), some (.int t), some (.int kd), some (.ref f), some (.int T), v6, v7, v8] H') →
          tDrop (tBM K "list" rAppend (tVar 4) (tCons (tTup (tCons (tCB (fun xs H Q => ∃ i j, xs = [.int i, .int j] ∧ Q (.int (if j < i then j else i)) H) (tCons (tVar 7) (tCons (tVar 8) tNil))) (tCons (tCB (fun xs H Q => ∃ i j, xs = [.int i, .int j] ∧ Q (.int (if j > i then j else i)) H) (tCons (tVar 7) (tCons (tVar 8) tNil))) tNil))) tNil)) D
            [some (.ref p), some (.int n), some (.int t), some (.int kd), some (.ref f), some (.int T), v6, some (.int a), some (.int b)] H7 := by
        intro a b H7 D v6 a0 a1 b0 b1 P7 K7 G7 q
        obtain ⟨as, g1, g2, g3⟩ := G7.ex
        refine ⟨_, rfl, .inl ⟨rfl, _, SqL.of g1⟩, _, rfl, _, rfl, _, _, rfl, _, rfl, _, rfl, _, _, rfl, (by show 2 ≤ sizeLine; decide), fun r nr => ⟨f, _, _, rfl, rfl, (by rw [upd_ne (ne_of_none g1 nr)]; exact g1), small1000 (by rw [List.length_map, g2, hw]; omega), ?_⟩⟩
        have rp := P7.nep nr
        have rc := P7.nec nr
        have G8 := Grows.add (K := K) (q := ((if b < a then b else a), (if b > a then b else a))) (as := as) (by rw [upd_ne (ne_of_none g1 nr)]; exact g1) g2 (fun i a q x y => by rw [upd_ne (ne_of_none (g3 i a q x y) nr)]; exact g3 i a q x y) (upd_same (H := H7) (a := r))
        refine q _ _ _ _ _ ((P7.upd rp.symm rc.symm).upd fp.symm fc.symm) ?_ G8 (by rw [List.length_append, hw] <;> rfl) ?_
        · intro x o x1 x2 e
          rw [upd_ne (by intro z; rw [z, Hf] at e; cases e), upd_ne (ne_of_none (K7 x o x1 x2 e) nr)]
          exact K7 x o x1 x2 e
        · intro q hq
          rcases List.mem_append.mp hq with hq | hq
          · exact hb q hq
          · cases List.mem_singleton.mp hq
            unfold inWin
            dsimp only
            split <;> split <;> omega
      -- if kind == 0 and draw(pool, 4) > 0
      refine ⟨_, rfl, rfl, _, rfl, ite2 (fun hk => ?_) (fun hk => ?_)⟩
      · refine ⟨_, rfl, ⟨p, c, 4, rfl, P6, by decide, by decide, fun e H7 e0 e1 P7 K7 => ?_⟩⟩
        have G7 := G6.mono P6 K7 fp fc
        have K7' := K6'.trans K7
        have hk0 : kd = 0 := by simpa using hk
        refine ⟨_, _, rfl, rfl, _, rfl, ite2 (fun _ => ?_) (fun _ => ?_)⟩
        · refine ⟨_, rfl, _, rfl, _, _, rfl, rfl, ⟨by decide, by decide⟩, _, _, rfl, rfl, ⟨p, c, T / 2 + 1, rfl, P7, by omega, by omega, fun o2 H8 o20 o21 P8 K8 => ?_⟩⟩
          have G8 := G7.mono P7 K8 fp fc
          have K8' := K7'.trans K8
          refine ⟨_, rfl, _, rfl, _, _, rfl, rfl, ?_⟩
          refine ⟨_, rfl, rfl, _, rfl, ite2 (fun h1 => absurd h1 (by rw [hk0]; decide)) (fun _ => ?_)⟩
          exact fin o2 (T - o2) H8 _ _ (by omega) (by omega) (by omega) (by omega) P8 K8' G8 fun v6 v7 v8 ws H' a b c d e => ⟨v6, v7, v8, ws, rfl, a, b, c, d, e⟩
        · refine ⟨_, rfl, rfl, _, rfl, ite2 (fun h1 => absurd h1 (by rw [hk0]; decide)) (fun _ => ?_)⟩
          exact fin one oth H7 _ _ (by omega) (by omega) (by omega) (by omega) P7 K7' G7 fun v6 v7 v8 ws H' a b c d e => ⟨v6, v7, v8, ws, rfl, a, b, c, d, e⟩
      · refine ⟨_, rfl, rfl, _, rfl, ite2 (fun _ => ?_) (fun _ => ?_)⟩
        · refine ⟨_, rfl, _, rfl, ⟨p, c, 2, rfl, P6, by decide, by decide, fun d1 H7 d10 d11 P7 K7 => ⟨_, _, rfl, rfl, ?_⟩⟩⟩
          have G7 := G6.mono P6 K7 fp fc
          have K7' := K6'.trans K7
          refine ⟨_, rfl, _, _, rfl, rfl, _, rfl, ⟨p, c, 2, rfl, P7, by decide, by decide, fun d2 H8 d20 d21 P8 K8 => ⟨_, _, rfl, rfl, ?_⟩⟩⟩
          have G8 := G7.mono P7 K8 fp fc
          have K8' := K7'.trans K8
          exact fin (0 + (i : Int) + d1) (0 + (i : Int) + d1 + 2 + d2) H8 _ _ (by omega) (by omega) (by omega) (by omega) P8 K8' G8 fun v6 v7 v8 ws H' a b c d e => ⟨v6, v7, v8, ws, rfl, a, b, c, d, e⟩
        · exact fin one oth H6 _ _ (by omega) (by omega) (by omega) (by omega) P6 K6' G6 fun v6 v7 v8 ws H' a b c d e => ⟨v6, v7, v8, ws, rfl, a, b, c, d, e⟩
    · rintro σ H' ⟨v6, v7, v8, ws, rfl, P4, K4, G4, hw, hb⟩
      obtain ⟨as, g1, g2, g3⟩ := G4.ex
      refine ⟨_, rfl, f, _, rfl, .inl ⟨SqL.of g1, fun w nw => ?_⟩⟩
      have wp := P4.nep nw
      have wc := P4.nec nw
      refine k w ws _ ?_ (Grows.win (f := f) g2 g3 nw (by omega)) (by omega) hb (P4.upd wp.symm wc.symm) (K4.trans (kept_of (Ex.new nw)))
      cases e : H w with
      | none => rfl
      | some o => rw [K4 w o wp wc e] at nw; cases nw
theorem ok_NoWork_init (T : Txt K mg A D) : FnOk P w K mg base CX0 1 A.a_NoWork_init D.d_NoWork_init p_NoWork_init (sp_NoWork_init K A) := by
  refine T.F_NoWork_init.ok sc_NoWork_init (fun vs H Q E h => ?_) (fun cdv Ar outer s H vs Q E hr h => ?_)
  · (obtain ⟨a, rfl, _⟩ := h; rfl)
  · have hu := hu_of hr
    refine ⟨_, (pss_one ps_pass), ?_⟩
    obtain ⟨a, rfl, k⟩ := h
    exact k
theorem ok_BadBook_init (T : Txt K mg A D) : FnOk P w K mg base CX0 1 A.a_BadBook_init D.d_BadBook_init p_BadBook_init (sp_BadBook_init K A) := by
  refine T.F_BadBook_init.ok sc_BadBook_init (fun vs H Q E h => ?_) (fun cdv Ar outer s H vs Q E hr h => ?_)
  · (obtain ⟨a, rfl, _⟩ := h; rfl)
  · have hu := hu_of hr
    refine ⟨_, (pss_one ps_pass), ?_⟩
    obtain ⟨a, rfl, k⟩ := h
    exact k
theorem ok_is_integer (T : Txt K mg A D) : FnOk P w K mg base CX0 1 A.a_is_integer D.d_is_integer p_is_integer (sp_is_integer K A) := by
  refine T.F_is_integer.ok sc_is_integer (fun vs H Q E h => ?_) (fun cdv Ar outer s H vs Q E hr h => ?_)
  · exact h.len
  · have hu := hu_of hr
    refine ⟨_, (pss_one (ps_ret (pe_and (pe_callB call_isi (by rfl) T.n_isinstance (by decide +kernel) (pa_cons (pv 0) (pa_cons (pe_bltn (v := .ty "int") (by rfl) T.n_int (by decide +kernel) rfl) pa_nil))) (pe_one (pe_not (pe_callB call_isi (by rfl) T.n_isinstance (by decide +kernel) (pa_cons (pv 0) (pa_cons (pe_bltn (v := .ty "bool") (by rfl) T.n_bool (by decide +kernel) rfl) pa_nil)))))))), ?_⟩
    obtain ⟨x, rfl, d, hR, k⟩ := h.ex
    obtain ⟨t, hty, hi, hb, _⟩ := hR.ty
    refine ⟨_, rfl, _, _, _, _, _, rfl, ClsV.ty _, hty, hi, _, rfl, ?_⟩
    have fin := k H (Ex.refl H)
    rw [← isZ_eq] at fin
    cases e : isI d with
    | true =>
      rw [e] at fin
      exact iteT ⟨_, rfl, _, _, _, _, _, rfl, ClsV.ty _, hty, hb, _, rfl, fin⟩
    | false =>
      rw [e] at fin
      exact iteF fin
theorem ok_is_pair (T : Txt K mg A D) : FnOk P w K mg base CX0 1 A.a_is_pair D.d_is_pair p_is_pair (sp_is_pair K A) := by
  refine T.F_is_pair.ok sc_is_pair (fun vs H Q E h => ?_) (fun cdv Ar outer s H vs Q E hr h => ?_)
  · exact h.len
  · have hu := hu_of hr
    refine ⟨_, (pss_one (ps_ret (pe_and (pe_callB call_isi (by rfl) T.n_isinstance (by decide +kernel) (pa_cons (pv 0) (pa_cons (pe_bltn (v := .ty "tuple") (by rfl) T.n_tuple (by decide +kernel) rfl) pa_nil))) (pe_one (pe_cmpR op_eq (pe_callB call_len_seq (by rfl) T.n_len (by decide +kernel) (pa_cons (pv 0) pa_nil)) pe_int (nomark _)))))), ?_⟩
    obtain ⟨x, rfl, d, hR, k⟩ := h.ex
    obtain ⟨t, hty, _, _, hT⟩ := hR.ty
    have fin := k H (Ex.refl H)
    refine ⟨_, rfl, _, _, _, _, _, rfl, ClsV.ty _, hty, hT, _, rfl, ?_⟩
    cases hR with
    | @tup a xs ds hs r =>
      refine iteT ⟨_, rfl, _, _, rfl, .inr hs, rfl, ?_⟩
      have e : (decide (V.int (xs.length : Int) = V.int 2)) = decide (ds.length = 2) := by
        rw [r.length]
        apply decide_eq_decide.mpr
        constructor
        · intro z
          injection z with z
          omega
        · intro z
          rw [z] <;> rfl
      show Q (.bl (decide (V.int (xs.length : Int) = V.int 2))) H
      rw [e]
      exact fin
    | _ => exact iteF fin
theorem ok_is_window (T : Txt K mg A D) : FnOk P w K mg base CX0 2 A.a_is_window D.d_is_window p_is_window (sp_is_window K A) := by
  have G_is_pair := ok_is_pair (P := P) (w := w) (base := base) T
  have G_is_integer := ok_is_integer (P := P) (w := w) (base := base) T
  obtain ⟨u_MOST_HOUR, c_MOST_HOUR⟩ := T.c_MOST_HOUR
  refine T.F_is_window.ok sc_is_window (fun vs H Q E h => ?_) (fun cdv Ar outer s H vs Q E hr h => ?_)
  · exact h.len
  · have hu := hu_of hr
    refine ⟨_, (pss_cons (ps_if (pt_not (pt_val (pe_call G_is_pair (hr.mono (by decide)) rfl T.g_is_pair (k_is_pair T) (b_is_pair T) .nil pass0 (pa_cons (pv 0) pa_nil)))) (pss_one (ps_ret pe_bl)) pss_nil) (pss_cons (ps_asg (pv 0) (pg_tup rfl (pgs_cons (pg_name (i := 1) sc_is_window.nd rfl (Or.inl rfl)) (pgs_cons (pg_name (i := 2) sc_is_window.nd rfl (Or.inl rfl)) pgs_nil)))) (pss_one (ps_ret (pe_and (pe_call G_is_integer (hr.mono (by decide)) rfl T.g_is_integer (k_is_integer T) (b_is_integer T) .nil pass0 (pa_cons (pv 1) pa_nil)) (pe_and (pe_call G_is_integer (hr.mono (by decide)) rfl T.g_is_integer (k_is_integer T) (b_is_integer T) .nil pass0 (pa_cons (pv 2) pa_nil)) (pe_one (pe_chain3 op_le op_le op_le pe_int (pv 1) (pv 2) (pe_glob (v := .int 1000000) rfl c_MOST_HOUR ⟨_, rfl⟩))))))))), ?_⟩
    obtain ⟨x, rfl, d, hR, k⟩ := h.ex
    -- not is_pair(thing)
    refine ⟨_, rfl, ⟨_, rfl, d, hR, fun H1 e1 => ⟨_, rfl, ?_⟩⟩⟩
    cases hp : pairD d with
    | false =>
      have e : winD d = false := by
        cases d with
        | tup ds =>
          cases ds with
          | nil => rfl
          | cons u r =>
            cases r with
            | nil => cases u <;> rfl
            | cons v r2 =>
              cases r2 with
              | nil => simp [pairD] at hp
              | cons z r3 => cases u <;> cases v <;> rfl
        | _ => rfl
      rw [e] at k
      exact iteT (k H1 e1)
    | true =>
      refine iteF ?_
      cases hR with
      | @tup a xs ds hs r =>
        have hl : ds.length = 2 := by simpa [pairD] using hp
        cases r with
        | nil => cases hl
        | @cons u us d1 ds1 h1 r1 =>
          cases r1 with
          | nil => cases hl
          | @cons v vs d2 ds2 h2 r2 =>
            cases r2 with
            | cons _ _ => simp at hl
            | nil =>
              refine ⟨_, rfl, a, _, rfl, ex_t e1 hs, rfl, _, _, rfl, _, _, rfl, rfl, ?_⟩
              -- is_integer(first) and is_integer(last) and 0 <= first <= last <= MOST_HOUR
              refine ⟨_, rfl, ⟨_, rfl, d1, h1.mono e1, fun H2 e2 => ⟨_, rfl, ?_⟩⟩⟩
              have e12 := e1.trans e2
              cases h1 with
              | int f =>
                refine iteT ⟨_, rfl, ⟨_, rfl, d2, h2.mono e12, fun H3 e3 => ⟨_, rfl, ?_⟩⟩⟩
                have e13 := e12.trans e3
                cases h2 with
                | int l =>
                  refine iteT ⟨_, rfl, _, _, rfl, rfl, _, rfl, ?_⟩
                  have fin := k H3 e13
                  by_cases c1 : 0 ≤ f
                  · rw [decide_eq_true c1]
                    refine iteT ⟨_, rfl, _, _, rfl, rfl, _, rfl, ?_⟩
                    by_cases c2 : f ≤ l
                    · rw [decide_eq_true c2]
                      refine iteT ⟨_, _, rfl, rfl, ?_⟩
                      have e : winD (.tup [.int f, .int l]) = decide (l ≤ 1000000) := by simp [winD, c1, c2]
                      rw [e] at fin
                      exact fin
                    · rw [decide_eq_false c2]
                      have e : winD (.tup [.int f, .int l]) = false := by simp [winD, c2]
                      rw [e] at fin
                      exact iteF fin
                  · rw [decide_eq_false c1]
                    have e : winD (.tup [.int f, .int l]) = false := by simp [winD, c1]
                    rw [e] at fin
                    exact iteF fin
                | _ => exact iteF (k H3 e13)
              | _ => exact iteF (k H2 e12)
      | _ => cases hp
theorem ok_is_windows (T : Txt K mg A D) : FnOk P w K mg base CX0 3 A.a_is_windows D.d_is_windows p_is_windows (sp_is_windows K A) := by
  have G_is_window := ok_is_window (P := P) (w := w) (base := base) T
  obtain ⟨u_MOST_WORKS, c_MOST_WORKS⟩ := T.c_MOST_WORKS
  refine T.F_is_windows.ok sc_is_windows (fun vs H Q E h => ?_) (fun cdv Ar outer s H vs Q E hr h => ?_)
  · exact h.len
  · have hu := hu_of hr
    refine ⟨_, (pss_cons (ps_if (PW.pt (pw_or (pt_not (pt_val (pe_callB call_isi (by rfl) T.n_isinstance (by decide +kernel) (pa_cons (pv 0) (pa_cons (pe_bltn (v := .ty "tuple") (by rfl) T.n_tuple (by decide +kernel) rfl) pa_nil))))) (pw_or1 (pt_not (pt_chain op_le op_le pe_int (pe_callB call_len_seq (by rfl) T.n_len (by decide +kernel) (pa_cons (pv 0) pa_nil)) (pe_glob (v := .int 40) rfl c_MOST_WORKS ⟨_, rfl⟩)))))) (pss_one (ps_ret pe_bl)) pss_nil) (pss_one (ps_ret (pe_callB (cr_all rfl) (by rfl) T.n_all (by decide +kernel) (pa_cons (pe_lc (own := [("window", 1)]) (g := (gName 1)) (tt := tYes) rfl sc_is_windows.nd (pi_tup (pv 0)) (blkOk_by (own := [("window", 1)]) (N := n_is_windows) (sc := defScope s_is_windows) (by decide +kernel)) (fun _ _ _ _ _ => (pg_name (i := 1) sc_is_windows.nd rfl (Or.inl rfl))) (fun _ _ _ _ _ => pts_nil) (fun _ _ _ _ _ => (pe_call G_is_window (hr.mono (by decide)) rfl T.g_is_window (k_is_window T) (b_is_window T) .nil pass0 (pa_cons (pv 1) pa_nil)))) pa_nil))))), ?_⟩
    obtain ⟨x, rfl, d, hR, k⟩ := h.ex
    obtain ⟨t, hty, _, _, hT⟩ := hR.ty
    refine ⟨_, rfl, _, _, _, _, _, rfl, ClsV.ty _, hty, hT, _, rfl, ?_⟩
    cases hR with
    | @tup a xs ds hs r =>
      refine iteF ?_
      -- 1 <= len(thing) <= MOST_WORKS
      refine ⟨_, rfl, _, _, rfl, .inr hs, _, _, rfl, rfl, _, rfl, ?_⟩
      have hl := r.length
      by_cases c1 : (1 : Int) ≤ (xs.length : Int)
      · rw [decide_eq_true c1]
        refine iteT ⟨_, _, rfl, rfl, _, rfl, ?_⟩
        by_cases c2 : (xs.length : Int) ≤ 40
        · rw [decide_eq_true c2]
          refine iteF ?_
          -- all([is_window(window) for window in thing])
          refine ⟨_, rfl, a, rfl, ⟨_, hs⟩, fun D hD => lc_tup (K := K) (a := a) (xs := xs) (fun i H' => H' D = some (.lst ((ds.take i).map fun u => V.bl (winD u))) ∧ Ex H H') ⟨upd_same, Ex.new hD⟩ (fun i H' _ p => ex_t p.2 hs) ?_ ?_⟩
          · rintro i y H' hi ⟨p1, p2⟩
            obtain ⟨u, hu, hy⟩ := r.get hi
            have hil := (List.getElem?_eq_some_iff.mp hi).1
            refine ⟨rfl, _, rfl, ⟨_, rfl, u, hy.mono p2, fun H2 e2 => ⟨_, e2 _ _ p1, small1000 (by rw [List.length_map, List.length_take]; omega), ?_, (p2.trans e2).mut hD⟩⟩⟩
            have e : ds.take (i + 1) = ds.take i ++ [u] := by
              have hi2 := (List.getElem?_eq_some_iff.mp hu).1
              have hu2 := (List.getElem?_eq_some_iff.mp hu).2
              rw [List.take_succ_eq_append_getElem hi2, hu2]
            rw [upd_same, e, List.map_append] <;> rfl
          · rintro H' ⟨p1, p2⟩
            have fin := k H' p2
            have e : winsD (.tup ds) = ((ds.map winD).all id) := by
              simp only [winsD, List.all_map]
              have a1 : 1 ≤ ds.length := by omega
              have a2 : ds.length ≤ 40 := by omega
              simp [a1, a2]
            rw [e] at fin
            refine ⟨D, ds.map winD, rfl, SqL.of ?_, fin⟩
            rw [p1, hl, List.take_length, List.map_map] <;> rfl
        · rw [decide_eq_false c2]
          have e : winsD (.tup ds) = false := by
            have a2 : ¬ ds.length ≤ 40 := by omega
            simp [winsD, a2]
          rw [e] at k
          exact iteT (k _ (Ex.refl _))
      · rw [decide_eq_false c1]
        have e : winsD (.tup ds) = false := by
          have a1 : ¬ 1 ≤ ds.length := by omega
          simp only [winsD, decide_eq_false a1]
          rfl
        rw [e] at k
        exact iteF ⟨_, rfl, iteT (k _ (Ex.refl _))⟩
    | _ => exact iteT (k _ (Ex.refl _))
theorem ok_is_work (T : Txt K mg A D) : FnOk P w K mg base CX0 2 A.a_is_work D.d_is_work p_is_work (sp_is_work K A) := by
  have G_is_integer := ok_is_integer (P := P) (w := w) (base := base) T
  refine T.F_is_work.ok sc_is_work (fun vs H Q E h => ?_) (fun cdv Ar outer s H vs Q E hr h => ?_)
  · exact h.len
  · have hu := hu_of hr
    refine ⟨_, (pss_one (ps_ret (pe_and (pe_call G_is_integer (hr.mono (by decide)) rfl T.g_is_integer (k_is_integer T) (b_is_integer T) .nil pass0 (pa_cons (pv 1) pa_nil)) (pe_one (pe_chain op_le op_lt pe_int (pv 1) (pe_callB call_len_seq (by rfl) T.n_len (by decide +kernel) (pa_cons (pe_fld (pv 0) rfl) pa_nil))))))), ?_⟩
    obtain ⟨x, y, rfl, b, w0, ws, d, rfl, ⟨dx, hb⟩, hW, hR, k⟩ := h.ex
    refine ⟨_, rfl, ⟨_, rfl, d, hR, fun H1 e1 => ⟨_, rfl, ?_⟩⟩⟩
    cases hR with
    | int z =>
      obtain ⟨as, h1, h2, _⟩ := hW.ex
      have fin := k H1 e1
      refine iteT ⟨_, rfl, _, _, rfl, rfl, _, rfl, ?_⟩
      by_cases c1 : 0 ≤ z
      · rw [decide_eq_true c1]
        refine iteT ⟨_, rfl, b, A.C_Book, dx, _, _, rfl, e1 _ _ hb, T.cl_Book, T.na_windows, by simp [List.lookup], _, _, rfl, .inr (ex_t e1 h1), _, _, rfl, rfl, ?_⟩
        have e : workD ws.length (.int z) = decide (z < ((as.map V.ref).length : Int)) := by
          rw [List.length_map, h2]
          simp [workD, c1]
        rw [e] at fin
        exact fin
      · rw [decide_eq_false c1]
        have e : workD ws.length (.int z) = false := by simp [workD, c1]
        rw [e] at fin
        exact iteF fin
    | _ => exact iteF (k H1 e1)
theorem ok_middle (T : Txt K mg A D) : FnOk P w K mg base (L2.CX P w) 3 A.a_middle D.d_middle p_middle (sp_middle K A) := by
  have G_is_work := ok_is_work (P := P) (w := w) (base := base) T
  have G_NoWork_init := ok_NoWork_init (P := P) (w := w) (base := base) T
  refine T.F_middle.okX sc_middle (fun vs H Q E h => ?_) (fun cdv Ar outer s H vs Q E hr h => ?_)
  · exact h.len
  · have hu := hu_of hr
    refine ⟨_, (pss_cons (ps_if (pt_not (pt_val (pe_call G_is_work (hr.mono (by decide)) rfl T.g_is_work (k_is_work T) (b_is_work T) .nil pass0 (pa_cons (pv 0) (pa_cons (pv 1) pa_nil))))) (pss_one (ps_raise rfl (takes_of rfl rfl rfl rfl) (pmk_oex0 T.e_NoWork T.i_NoWork T.t_NoWork G_NoWork_init (hr.mono (by decide)) (b_NoWork_init T) pass0 rfl T.g_NoWork))) pss_nil) (pss_cons (ps_asg (pe_ix ix_tup (pe_fld (pv 0) rfl) (pv 1) (fun _ _ => rfl)) (pg_tup rfl (pgs_cons (pg_name (i := 2) sc_middle.nd rfl (Or.inl rfl)) (pgs_cons (pg_name (i := 3) sc_middle.nd rfl (Or.inl rfl)) pgs_nil)))) (pss_one (ps_ret (pe_op op_add (pv 2) (pv 3)))))), ?_⟩
    obtain ⟨x, y, rfl, b, w0, ws, d, rfl, hb, hW, hR, kE, kQ⟩ := h.ex
    refine ⟨_, rfl, _, rfl, ⟨_, _, rfl, b, w0, ws, d, rfl, hb, hW, hR, fun H1 e1 => ⟨_, rfl, ?_⟩⟩⟩
    cases hd : workD ws.length d with
    | false => exact iteT (kE hd H1 e1)
    | true =>
      refine iteF ?_
      obtain ⟨i, rfl, hi⟩ := workD_int hd
      have k := kQ i rfl hi
      obtain ⟨dx, hb⟩ := hb
      obtain ⟨as, h1, h2, h3⟩ := hW.ex
      obtain ⟨a, g1, g2⟩ := WinAt.item h2 h3 hi
      cases hR
      refine ⟨_, rfl, b, A.C_Book, dx, _, _, rfl, e1 _ _ hb, T.cl_Book, T.na_windows, by simp [List.lookup], _, rfl, w0, _, _, _, rfl, rfl, ex_t e1 h1, atI_of g1, ?_⟩
      exact ⟨a, _, rfl, ex_t e1 g2, rfl, _, _, rfl, _, _, rfl, rfl, _, rfl, _, rfl, _, _, rfl, rfl, k H1 e1⟩
theorem ok_is_inside (T : Txt K mg A D) : FnOk P w K mg base CX0 1 A.a_is_inside D.d_is_inside p_is_inside (sp_is_inside K A) := by
  refine T.F_is_inside.ok sc_is_inside (fun vs H Q E h => ?_) (fun cdv Ar outer s H vs Q E hr h => ?_)
  · exact h.len
  · have hu := hu_of hr
    refine ⟨_, (pss_one (ps_ret (pe_and (pe_cmpR op_gt (pe_ix ix_tup (pv 0) pe_int (fun _ _ => rfl)) (pe_ix ix_tup (pv 1) pe_int (fun _ _ => rfl)) (nomark _)) (pe_one (pe_cmpR op_lt (pe_ix ix_tup (pv 0) pe_int (fun _ _ => rfl)) (pe_ix ix_tup (pv 1) pe_int (fun _ _ => rfl)) (nomark _)))))), ?_⟩
    obtain ⟨x, y, rfl, a, b, p, q, rfl, rfl, hp, hq, k⟩ := h.ex
    refine ⟨_, rfl, a, _, 0, _, rfl, rfl, hp, rfl, _, rfl, b, _, 0, _, rfl, rfl, hq, rfl, _, _, rfl, rfl, _, rfl, ?_⟩
    unfold insideB at k
    by_cases c : q.1 < p.1
    · rw [decide_eq_true c] at k ⊢
      exact iteT ⟨_, rfl, a, _, 1, _, rfl, rfl, hp, rfl, _, rfl, b, _, 1, _, rfl, rfl, hq, rfl, _, _, rfl, rfl, k⟩
    · rw [decide_eq_false c] at k ⊢
      exact iteF k
theorem ok_within (T : Txt K mg A D) : FnOk P w K mg base (L2.CX P w) 3 A.a_within D.d_within p_within (sp_within K A) := by
  have G_is_work := ok_is_work (P := P) (w := w) (base := base) T
  have G_NoWork_init := ok_NoWork_init (P := P) (w := w) (base := base) T
  have G_is_inside := ok_is_inside (P := P) (w := w) (base := base) T
  refine T.F_within.okX sc_within (fun vs H Q E h => ?_) (fun cdv Ar outer s H vs Q E hr h => ?_)
  · exact h.len
  · have hu := hu_of hr
    refine ⟨_, (pss_cons (ps_if (pt_not (pt_val (pe_call G_is_work (hr.mono (by decide)) rfl T.g_is_work (k_is_work T) (b_is_work T) .nil pass0 (pa_cons (pv 0) (pa_cons (pv 1) pa_nil))))) (pss_one (ps_raise rfl (takes_of rfl rfl rfl rfl) (pmk_oex0 T.e_NoWork T.i_NoWork T.t_NoWork G_NoWork_init (hr.mono (by decide)) (b_NoWork_init T) pass0 rfl T.g_NoWork))) pss_nil) (pss_cons (ps_set (i := 2) sc_within.nd rfl (Or.inr rfl) (pe_ix ix_tup (pe_fld (pv 0) rfl) (pv 1) (fun _ _ => rfl))) (pss_one (ps_ret (pe_callTy call_tuple_of (by rfl) T.n_tuple (by decide +kernel) (pa_cons (pe_lc (own := [("other", 3), ("inner", 4)]) (g := (gTup K 2 (gCons (gName 3) (gCons (gName 4) gNil))))  rfl sc_within.nd (pi_enT (by rfl) T.n_enumerate (pa_cons (pe_fld (pv 0) rfl) pa_nil)) (blkOk_by (own := [("other", 3), ("inner", 4)]) (N := n_within) (sc := defScope s_within) (by decide +kernel)) (fun _ _ _ _ _ => (pg_tup rfl (pgs_cons (pg_name (i := 3) sc_within.nd rfl (Or.inl rfl)) (pgs_cons (pg_name (i := 4) sc_within.nd rfl (Or.inl rfl)) pgs_nil)))) (fun _ _ _ _ _ => pts_one (pt_val (pe_call G_is_inside (hr.mono (by decide)) rfl T.g_is_inside (k_is_inside T) (b_is_inside T) .nil pass0 (pa_cons (pv 4) (pa_cons (pv 2) pa_nil))))) (fun _ _ _ _ _ => (pv 3))) pa_nil)))))), ?_⟩
    obtain ⟨x, y, rfl, b, w0, ws, d, rfl, hb, hW, hR, kE, kQ⟩ := h.ex
    refine ⟨_, rfl, _, rfl, ⟨_, _, rfl, b, w0, ws, d, rfl, hb, hW, hR, fun H1 e1 => ⟨_, rfl, ?_⟩⟩⟩
    cases hd : workD ws.length d with
    | false => exact iteT (kE hd H1 e1)
    | true =>
      refine iteF ?_
      obtain ⟨i, rfl, hi⟩ := workD_int hd
      have k := kQ i rfl hi
      obtain ⟨dx, hb⟩ := hb
      obtain ⟨as, h1, h2, h3⟩ := hW.ex
      obtain ⟨a, g1, g2⟩ := WinAt.item h2 h3 hi
      cases hR
      -- outer = book.windows[work]
      refine ⟨_, rfl, b, A.C_Book, dx, _, _, rfl, e1 _ _ hb, T.cl_Book, T.na_windows, by simp [List.lookup], _, rfl, w0, _, _, _, rfl, rfl, ex_t e1 h1, atI_of g1, ?_⟩
      -- the comprehension
      refine ⟨_, rfl, b, A.C_Book, dx, _, _, rfl, e1 _ _ hb, T.cl_Book, T.na_windows, by simp [List.lookup], w0, _, rfl, ex_t e1 h1, fun D hD => lc_it walk_enT (fun j H' => H' D = some (.lst (given j (fun j => insideB (winAt ws j) (winAt ws i)) (fun j => .int (j : Nat)))) ∧ Ex H1 H') ⟨upd_same, Ex.new hD⟩ (fun j H' _ p => ex_t (e1.trans p.2) h1) ?_ ?_⟩
      · rintro j y H' H2 hj ⟨p1, p2⟩ ⟨t, u, v, rfl, nt, rfl, hu, hv⟩
        rw [List.length_map, h2] at hj
        obtain ⟨c, f1, f2⟩ := WinAt.item h2 h3 hj
        have hv' : some (V.ref c) = some v := f1.symm.trans hv
        cases Option.some.inj hu
        cases Option.some.inj hv'
        have x2 : Ex H' (L2.upd H' t (.tup [.int (j : Nat), .ref c])) := Ex.new nt
        have p3 := p2.trans x2
        refine ⟨t, _, rfl, SqT.of upd_same, rfl, _, _, rfl, _, _, rfl, rfl, rfl, ?_⟩
        refine ⟨_, rfl, _, rfl, ⟨_, _, rfl, c, a, _, _, rfl, rfl, ex_t (e1.trans p3) f2, ex_t (e1.trans p3) g2, _, rfl, ?_⟩⟩
        cases hf : insideB (winAt ws j) (winAt ws i) with
        | true =>
          refine iteT ⟨_, rfl, _, x2 _ _ p1, small1000 ?_, ?_, p3.mut hD⟩
          · have := given_len j (fun j => insideB (winAt ws j) (winAt ws i)) (fun j => V.int (j : Nat))
            have := hW.le
            omega
          · rw [upd_same, given_yes (f := fun j => insideB (winAt ws j) (winAt ws i)) hf]
        | false =>
          refine iteF ⟨?_, p3⟩
          rw [given_no (f := fun j => insideB (winAt ws j) (winAt ws i)) hf]
          exact x2 _ _ p1
      · rintro H' ⟨p1, p2⟩
        rw [List.length_map, h2] at p1
        refine ⟨D, _, rfl, .inl ⟨SqL.of p1, fun l nl => k l _ ?_ ?_ upd_same⟩⟩
        · exact fresh_back (e1.trans p2) nl
        · exact (e1.trans p2).trans (Ex.new nl)
theorem ok_Book_init (T : Txt K mg A D) : FnOk P w K mg base (L2.CX P w) 4 A.a_Book_init D.d_Book_init p_Book_init (sp_Book_init K A) := by
  have G_is_windows := ok_is_windows (P := P) (w := w) (base := base) T
  have G_BadBook_init := ok_BadBook_init (P := P) (w := w) (base := base) T
  refine T.F_Book_init.okX sc_Book_init (fun vs H Q E h => ?_) (fun cdv Ar outer s H vs Q E hr h => ?_)
  · exact h.len
  · have hu := hu_of hr
    refine ⟨_, (pss_cons (ps_if (pt_not (pt_val (pe_call G_is_windows (hr.mono (by decide)) rfl T.g_is_windows (k_is_windows T) (b_is_windows T) .nil pass0 (pa_cons (pv 1) pa_nil)))) (pss_one (ps_raise rfl (takes_of rfl rfl rfl rfl) (pmk_oex0 T.e_BadBook T.i_BadBook T.t_BadBook G_BadBook_init (hr.mono (by decide)) (b_BadBook_init T) pass0 rfl T.g_BadBook))) pss_nil) (pss_one (ps_fld (pv 0) (pv 1) rfl))), ?_⟩
    obtain ⟨x, y, rfl, p, dx, d, rfl, hp, hR, kQ, kE⟩ := h.ex
    refine ⟨_, rfl, ⟨_, rfl, d, hR, fun H1 e1 => ⟨_, rfl, ?_⟩⟩⟩
    cases hd : winsD d with
    | false => exact iteT (kE hd H1 e1)
    | true => exact iteF ⟨_, rfl, _, rfl, p, A.C_Book, dx, _, rfl, e1 _ _ hp, T.cl_Book, T.na_windows, (by show 0 < 1000; decide), kQ hd H1 e1⟩
theorem ok_l_refused (T : Txt K mg A D) : FnOk P w K mg base CX0 4 A.a_l_refused D.d_l_refused p_l_refused (sp_l_refused K A) := by
  have G_middle := ok_middle (P := P) (w := w) (base := base) T
  have G_within := ok_within (P := P) (w := w) (base := base) T
  refine T.F_l_refused.ok sc_l_refused (fun vs H Q E h => ?_) (fun cdv Ar outer s H vs Q E hr h => ?_)
  · exact h.len
  · have hu := hu_of hr
    refine ⟨_, (pss_cons (ps_set (i := 3) sc_l_refused.nd rfl (Or.inl rfl) pe_bl) (pss_cons (ps_try_only rfl rfl ⟨rfl, by decide, .inl T.g_NoWork⟩ takes0 (fun W pn xe tk _ => (pss_one (ps_if (pt_cmpR op_eq (pv 0) pe_int (nomark _)) (pss_one (ps_expr (pe_callS G_middle (hr.mono (by decide)) (by rfl) T.g_middle (k_middle T) (b_middle T) (fun σ => passAt tk σ) (pa_cons (pv 1) (pa_cons (pv 2) pa_nil))))) (pss_one (ps_expr (pe_callS G_within (hr.mono (by decide)) (by rfl) T.g_within (k_within T) (b_within T) (fun σ => passAt tk σ) (pa_cons (pv 1) (pa_cons (pv 2) pa_nil)))))))) (fun a oe cls d pn _ _ => (pss_one (ps_set (i := 3) sc_l_refused.nd rfl (Or.inl rfl) pe_bl)))) (pss_one (ps_ret (pv 3))))), ?_⟩
    obtain ⟨x, y, z, rfl, n, b, w0, ws, d, rfl, rfl, hb, hW, hR, hd, k⟩ := h.ex
    have hE : ∀ {Q : VK} {E : XK} {G : List (Int × Int) → Nat → Prop} (H1 : Hp), H1 = H → (∀ H', Ex H H' → E (.ref A.C_NoWork) none H') → OnWork K A H1 (.ref b) z E G := fun H1 e kE => by
      subst e
      refine ⟨⟨b, w0, ws, d, rfl, hb, hW, hR, fun _ => kE, fun i hi hl => ?_⟩⟩
      rw [hi] at hd
      have : workD ws.length (.int (i : Int)) = true := by simp [workD, hl]
      rw [this] at hd
      cases hd
    -- told = False; try
    refine ⟨_, rfl, rfl, _, rfl, ?_⟩
    refine ite2 (fun _ => ?_) (fun _ => ?_)
    all_goals
      refine ⟨_, rfl, _, rfl, ⟨_, _, rfl, hE (Q := Q) H rfl fun H' e => ?_⟩⟩
      exact ⟨true, T.m_NoWork, fun _ _ _ => ⟨_, rfl, k H' e⟩, fun q => nomatch q⟩
theorem ok_law (T : Txt K mg A D) : FnOk P w K mg base CX0 6 A.a_law D.d_law p_law (sp_law K A) := by
  have G_l_pool := ok_l_pool (P := P) (w := w) (base := base) T
  have G_l_windows := ok_l_windows (P := P) (w := w) (base := base) T
  have G_Book_init := ok_Book_init (P := P) (w := w) (base := base) T
  have G_l_draw := ok_l_draw (P := P) (w := w) (base := base) T
  have G_middle := ok_middle (P := P) (w := w) (base := base) T
  have G_within := ok_within (P := P) (w := w) (base := base) T
  have G_l_refused := ok_l_refused (P := P) (w := w) (base := base) T
  refine T.F_law.ok sc_law (fun vs H Q E h => ?_) (fun cdv Ar outer s H vs Q E hr h => ?_)
  · exact h.len
  · have hu := hu_of hr
    refine ⟨_, (pss_cons (ps_set (i := 1) sc_law.nd rfl (Or.inl rfl) (pe_call G_l_pool (hr.mono (by decide)) rfl T.g_l_pool (k_l_pool T) (b_l_pool T) .nil pass0 (pa_cons (pv 0) pa_nil))) (pss_cons (ps_set (i := 2) sc_law.nd rfl (Or.inl rfl) (pe_op op_add pe_int (pe_call G_l_draw (hr.mono (by decide)) rfl T.g_l_draw (k_l_draw T) (b_l_draw T) .nil pass0 (pa_cons (pv 1) (pa_cons pe_int pa_nil))))) (pss_cut (ps_if (pt_cmpR op_eq (pe_call G_l_draw (hr.mono (by decide)) rfl T.g_l_draw (k_l_draw T) (b_l_draw T) .nil pass0 (pa_cons (pv 1) (pa_cons pe_int pa_nil))) pe_int (nomark _)) (pss_one (ps_set (i := 2) sc_law.nd rfl (Or.inl rfl) pe_int)) pss_nil) (pss_cons (ps_set (i := 3) sc_law.nd rfl (Or.inr rfl) (pe_call G_l_windows (hr.mono (by decide)) rfl T.g_l_windows (k_l_windows T) (b_l_windows T) .nil pass0 (pa_cons (pv 1) (pa_cons (pv 2) (pa_cons (pe_ix ix_list (pe_lst (pa_cons pe_int (pa_cons pe_int (pa_cons pe_int pa_nil)))) (pe_call G_l_draw (hr.mono (by decide)) rfl T.g_l_draw (k_l_draw T) (b_l_draw T) .nil pass0 (pa_cons (pv 1) (pa_cons pe_int pa_nil))) (fun _ _ => rfl)) pa_nil))))) (pss_cons (ps_set (i := 4) sc_law.nd rfl (Or.inl rfl) (pe_make T.mk_Book G_Book_init (hr.mono (by decide)) (by rfl) T.g_Book (b_Book_init T) .nil (passes_call takes0 (fun _ _ _ _ h => h)) (pa_cons (pv 3) pa_nil))) (pss_cons (ps_set (i := 5) sc_law.nd rfl (Or.inr rfl) (pe_lst pa_nil)) (pss_cons (ps_for PassesOwn.never rfl (pi_range1 (by rfl) T.n_range (pa_cons (pv 2) pa_nil)) (pg_name (i := 6) sc_law.nd rfl (Or.inr rfl)) (pss_cons (ps_asg (pe_ix ix_tup (pv 3) (pv 6) (fun _ _ => rfl)) (pg_tup rfl (pgs_cons (pg_name (i := 7) sc_law.nd rfl (Or.inr rfl)) (pgs_cons (pg_name (i := 8) sc_law.nd rfl (Or.inr rfl)) pgs_nil)))) (pss_cons (ps_set (i := 9) sc_law.nd rfl (Or.inl rfl) (pe_call G_middle (hr.mono (by decide)) rfl T.g_middle (k_middle T) (b_middle T) .nil (passes_call takes0 (fun _ _ _ _ h => h)) (pa_cons (pv 4) (pa_cons (pv 6) pa_nil)))) (pss_cons (ps_if (PW.pt (pw_or (pt_cmpR op_ne (pv 9) (pe_op op_add (pv 7) (pv 8)) (nomark _)) (pw_or1 (pt_val (pe_callB call_isi (by rfl) T.n_isinstance (by decide +kernel) (pa_cons (pv 9) (pa_cons (pe_bltn (v := .ty "bool") (by rfl) T.n_bool (by decide +kernel) rfl) pa_nil))))))) (pss_one (ps_ret pe_bl)) pss_nil) (pss_cons (ps_set (i := 11) sc_law.nd rfl (Or.inl rfl) (pe_callTy call_tuple_of (by rfl) T.n_tuple (by decide +kernel) (pa_cons (pe_lc (own := [("_law_k", 10)]) (g := (gName 10))  rfl sc_law.nd (pi_range1 (by rfl) T.n_range (pa_cons (pv 2) pa_nil)) (blkOk_by (own := [("_law_k", 10)]) (N := n_law) (sc := defScope s_law) (by decide +kernel)) (fun _ _ _ _ _ => (pg_name (i := 10) sc_law.nd rfl (Or.inl rfl))) (fun _ _ _ _ _ => pts_one (PW.pt (pw_and (pt_cmpR op_gt (pe_ix (ix_tupB (K := K)) (pe_ix (ix_tupB (K := K)) (pv 3) (pv 10) (fun _ _ => rfl)) pe_int (fun _ _ => rfl)) (pv 7) (nomark _)) (pw_and1 (pt_cmpR op_lt (pe_ix (ix_tupB (K := K)) (pe_ix (ix_tupB (K := K)) (pv 3) (pv 10) (fun _ _ => rfl)) pe_int (fun _ _ => rfl)) (pv 8) (nomark _)))))) (fun _ _ _ _ _ => (pv 10))) pa_nil))) (pss_cons (ps_if (PW.pt (pw_or (pt_cmpR (op_neD hr.units) (pe_call G_within (hr.mono (by decide)) rfl T.g_within (k_within T) (b_within T) .nil (passes_call takes0 (fun _ _ _ _ h => h)) (pa_cons (pv 4) (pa_cons (pv 6) pa_nil))) (pv 11) (nomark _)) (pw_or1 (pt_not (pt_val (pe_callB call_isi (by rfl) T.n_isinstance (by decide +kernel) (pa_cons (pe_call G_within (hr.mono (by decide)) rfl T.g_within (k_within T) (b_within T) .nil (passes_call takes0 (fun _ _ _ _ h => h)) (pa_cons (pv 4) (pa_cons (pv 6) pa_nil))) (pa_cons (pe_bltn (v := .ty "tuple") (by rfl) T.n_tuple (by decide +kernel) rfl) pa_nil)))))))) (pss_one (ps_ret pe_bl)) pss_nil) (pss_one (ps_expr (pe_bm PySem.F.plainAttrs_list PySem.F.slot_list_append PySem.F.type_list_append mt_append (pv 5) (pa_cons (pv 11) pa_nil)))))))))) (pss_cons (ps_for PassesOwn.never rfl (pi_range1 (by rfl) T.n_range (pa_cons (pv 2) pa_nil)) (pg_name (i := 6) sc_law.nd rfl (Or.inr rfl)) (pss_one (ps_for PassesOwn.never rfl (pi_tup (pe_ix ix_list (pv 5) (pv 6) (fun _ _ => rfl))) (pg_name (i := 12) sc_law.nd rfl (Or.inl rfl)) (pss_one (ps_if (PW.pt (pw_or (pt_cmpR op_in_seq (pv 6) (pe_ix ix_list (pv 5) (pv 12) (fun _ _ => rfl)) (by rfl)) (pw_or (pt_cmpR op_eq (pv 12) (pv 6) (nomark _)) (pw_or1 (pt_not (pt_val (pe_callB (cr_all rfl) (by rfl) T.n_all (by decide +kernel) (pa_cons (pe_lc (own := [("_law_one", 13)]) (g := (gName 13)) (tt := tYes) rfl sc_law.nd (pi_tup (pe_ix ix_list (pv 5) (pv 12) (fun _ _ => rfl))) (blkOk_by (own := [("_law_one", 13)]) (N := n_law) (sc := defScope s_law) (by decide +kernel)) (fun _ _ _ _ _ => (pg_name (i := 13) sc_law.nd rfl (Or.inl rfl))) (fun _ _ _ _ _ => pts_nil) (fun _ _ _ _ _ => (pe_cmpR (op_in_seqB (K := K)) (pv 13) (pe_ix (ix_listB (K := K)) (pv 5) (pv 6) (fun _ _ => rfl)) (by rfl)))) pa_nil)))))))) (pss_one (ps_ret pe_bl)) pss_nil))))) (pss_cons (ps_for PassesOwn.never rfl (pi_list (pe_lst (pa_cons pe_non (pa_cons (pe_un un_neg pe_int) (pa_cons (pv 2) (pa_cons pe_bl (pa_cons pe_bl (pa_cons pe_str (pa_cons (pe_tup (pa_cons pe_int pa_nil)) (pa_cons (pe_lst (pa_cons pe_int pa_nil)) (pa_cons pe_dnewK (pa_cons (pe_op op_pow pe_int pe_int) pa_nil)))))))))))) (pg_name (i := 14) sc_law.nd rfl (Or.inl rfl)) (pss_one (ps_if (PW.pt (pw_or (pt_not (pt_val (pe_call G_l_refused (hr.mono (by decide)) rfl T.g_l_refused (k_l_refused T) (b_l_refused T) .nil pass0 (pa_cons pe_int (pa_cons (pv 4) (pa_cons (pv 14) pa_nil)))))) (pw_or1 (pt_not (pt_val (pe_call G_l_refused (hr.mono (by decide)) rfl T.g_l_refused (k_l_refused T) (b_l_refused T) .nil pass0 (pa_cons pe_int (pa_cons (pv 4) (pa_cons (pv 14) pa_nil))))))))) (pss_one (ps_ret pe_bl)) pss_nil))) (pss_one (ps_ret pe_bl))))))))))), ?_⟩
    obtain ⟨s0, ns, rfl, hS, hlen, kfin⟩ := h.ex
    -- pool, many
    refine ⟨_, rfl, ⟨s0, ns, rfl, hS, hlen, fun p c H1 np nc P1 x1 => ?_⟩⟩
    refine ⟨_, rfl, ⟨p, c, 10, rfl, P1, by decide, by decide, fun d1 H2 d10 d11 P2 K2 => ⟨_, _, rfl, rfl, ?_⟩⟩⟩
    refine ⟨fun σ H' => ∃ n : Int, σ = [some (.ref s0), some (.ref p), some (.int n), none, none, none, none, none, none, none, none, none, none, none, none] ∧ 1 ≤ n ∧ n ≤ 40 ∧ PoolAt H' p c, ?_, ?_⟩
    · refine ⟨_, rfl, ⟨p, c, 5, rfl, P2, by decide, by decide, fun d2 H3 d20 d21 P3 K3 => ⟨rfl, _, rfl, ?_⟩⟩⟩
      exact ite2 (fun _ => ⟨40, rfl, by decide, by decide, P3⟩) (fun _ => ⟨1 + d1, rfl, by omega, by omega, P3⟩)
    rintro σ H3 ⟨n, rfl, n1, n2, P3⟩
    -- windows
    refine ⟨_, rfl, _, rfl, (by show 3 ≤ sizeLine; decide), fun l0 nl0 => ?_⟩
    have l0p := P3.nep nl0
    have l0c := P3.nec nl0
    refine ⟨_, rfl, ⟨p, c, 3, rfl, P3.upd l0p.symm l0c.symm, by decide, by decide, fun d3 H4 d30 d31 P4 K4 => ?_⟩⟩
    obtain ⟨t, ht, htt⟩ := atI_three (a := 4) (b := 12) (c := 400) d30 d31
    refine ⟨l0, _, d3, _, rfl, rfl, SqL.of (K4 _ _ l0p l0c upd_same), ht, ⟨p, c, n, t, rfl, P4, by omega, by omega, by omega, by omega, fun w0 ws H5 nw hW hwl hwb P5 K5 => ?_⟩⟩
    -- book
    have hws : ws.length = n.toNat := by omega
    have hok : winsD (.tup (ws.map winDa)) = true := winsD_of (by omega) (by omega) fun q hq => by
      obtain ⟨a, b, c⟩ := hwb q hq
      exact ⟨a, b, by omega⟩
    refine ⟨_, rfl, fun b dx nb ndx nbx => ⟨_, _, rfl, b, dx, _, rfl, upd_same, hW.rp.mono ?_, fun _ H6 e6 => ⟨rfl, ?_⟩, fun hf => absurd hf (by rw [hok]; decide)⟩⟩
    · exact ((Ex.new ndx).trans (Ex.new (by rw [upd_ne nbx.symm]; exact nb)))
    have e56 : Ex H5 (L2.upd H6 b (.ins A.C_Book dx [("windows", .ref w0)])) := Ex.mut (((Ex.new ndx).trans (Ex.new (by rw [upd_ne nbx.symm]; exact nb))).trans e6) nb
    have hB : BookAt A.C_Book (L2.upd H6 b (.ins A.C_Book dx [("windows", .ref w0)])) b w0 := ⟨dx, upd_same⟩
    have hW7 := hW.mono e56
    generalize L2.upd H6 b (.ins A.C_Book dx [("windows", .ref w0)]) = H7 at e56 hB hW7
    clear e56 e6 P5 K5 P4 K4 P3 P2 K2 P1
    -- inner = []
    refine ⟨Nat.zero_le _, fun l nl => ?_⟩
    have x8 : Ex H7 (L2.upd H7 l (.lst [])) := Ex.new nl
    have l8 : (L2.upd H7 l (.lst [])) l = some (.lst (([] : List Addr).map V.ref)) := upd_same
    generalize L2.upd H7 l (.lst []) = H8 at x8 l8
    obtain ⟨wle, was, w1, w2, w3⟩ := id hW7
    -- the first loop
    refine ⟨_, rfl, n, rfl, by omega, by omega, for_range (lo := 0) (n := n.toNat) (fun i σ H' => ∃ (v6 v7 v8 v9 v10 v11 v12 v13 v14 : Option V) (as : List Addr), σ = [some (.ref s0), some (.ref p), some (.int n), some (.ref w0), some (.ref b), some (.ref l), v6, v7, v8, v9, v10, v11, v12, v13, v14] ∧
      H' l = some (.lst (as.map V.ref)) ∧ as.length = i ∧ (∀ (j : Nat) (a : Addr), as[j]? = some a → H' a = some (.tup (withinL ws j))) ∧ Ex H7 H')
      ⟨_, _, _, _, _, _, _, _, _, [], rfl, l8, rfl, fun j a e => by simp at e, x8⟩ ?_ ?_⟩
    · rintro i σ H' hi ⟨v6, v7, v8, v9, v10, v11, v12, v13, v14, as, rfl, hl, hal, has, e7⟩
      have hi' : i < ws.length := by omega
      obtain ⟨a, g1, g2⟩ := WinAt.item w2 w3 hi'
      have ei : (0 : Int) + (i : Int) = (i : Int) := Int.zero_add _
      rw [ei]
      -- first, last = windows[work]
      refine ⟨_, rfl, _, rfl, w0, _, _, _, rfl, rfl, ex_t e7 w1, atI_of g1, a, _, rfl, ex_t e7 g2, rfl, _, _, rfl, _, _, rfl, rfl, ?_⟩
      -- told = middle(book, work)
      have onw : ∀ {H2 : Hp} {E : XK} {G : List (Int × Int) → Nat → Prop}, Ex H7 H2 → G ws i → OnWork K A H2 (.ref b) (.int (i : Nat)) E G := fun {H2 E G} e g =>
        ⟨⟨b, w0, ws, .int (i : Nat), rfl, hB.mono e, hW7.mono e, .int _, fun z => absurd z (by simp [workD, hi']), fun j hj _ => by
          injection hj with hj
          have : i = j := by omega
          rw [← this]
          exact g⟩⟩
      refine ⟨_, rfl, _, rfl, ⟨_, _, rfl, onw e7 fun H2 e2 => ?_⟩⟩
      have e72 := e7.trans e2
      -- if told != first + last or isinstance(told, bool)
      refine ⟨_, rfl, _, rfl, _, rfl, _, _, rfl, rfl, rfl, _, rfl, ?_⟩
      refine iteNS rfl ⟨_, rfl, _, _, _, _, _, rfl, ClsV.ty _, .base (.int _), kit_ty (by decide +kernel : kitB "int" "bool" = some false), _, rfl, iteF ?_⟩
      -- due
      refine ⟨_, rfl, n, rfl, by omega, by omega, fun D hD => lc_range (lo := 0) (n := n.toNat) (fun j H3 => H3 D = some (.lst (given j (fun j => insideB (winAt ws j) (winAt ws i)) (fun j => .int (j : Nat)))) ∧ Ex H2 H3) ⟨upd_same, Ex.new hD⟩ ?_ ?_⟩
      · rintro j H3 hj ⟨p1, p2⟩
        have hj' : j < ws.length := by omega
        obtain ⟨c, f1, f2⟩ := WinAt.item w2 w3 hj'
        have ej : (0 : Int) + (j : Int) = (j : Int) := Int.zero_add _
        rw [ej]
        have e73 := e72.trans p2
        refine ⟨rfl, _, rfl, _, rfl, w0, _, _, _, rfl, rfl, ex_t e73 w1, atI_of f1, c, _, 0, _, rfl, rfl, ex_t e73 f2, rfl, _, rfl, _, _, rfl, rfl, _, rfl, ?_⟩
        have hin : insideB (winAt ws j) (winAt ws i) = (decide ((winAt ws i).1 < (winAt ws j).1) && decide ((winAt ws j).2 < (winAt ws i).2)) := rfl
        have yes : insideB (winAt ws j) (winAt ws i) = true → ∃ acc : List V, H3 D = some (.lst acc) ∧ acc.length < sizeLine ∧ (L2.upd H3 D (.lst (acc ++ [.int (j : Nat)])) D = some (.lst (given (j + 1) (fun j => insideB (winAt ws j) (winAt ws i)) (fun j => .int (j : Nat)))) ∧ Ex H2 (L2.upd H3 D (.lst (acc ++ [.int (j : Nat)])))) := fun hf => by
          refine ⟨_, p1, small1000 ?_, ?_, p2.mut hD⟩
          · have := given_len j (fun j => insideB (winAt ws j) (winAt ws i)) (fun j => V.int (j : Nat))
            omega
          · rw [upd_same, given_yes (f := fun j => insideB (winAt ws j) (winAt ws i)) hf]
        have no : insideB (winAt ws j) (winAt ws i) = false → (H3 D = some (.lst (given (j + 1) (fun j => insideB (winAt ws j) (winAt ws i)) (fun j => .int (j : Nat)))) ∧ Ex H2 H3) := fun hf => by
          rw [given_no (f := fun j => insideB (winAt ws j) (winAt ws i)) hf]
          exact ⟨p1, p2⟩
        by_cases c1 : (winAt ws i).1 < (winAt ws j).1
        · rw [decide_eq_true c1] at hin ⊢
          refine iteT ⟨_, rfl, _, rfl, w0, _, _, _, rfl, rfl, ex_t e73 w1, atI_of f1, c, _, 1, _, rfl, rfl, ex_t e73 f2, rfl, _, rfl, _, _, rfl, rfl, _, rfl, ?_⟩
          by_cases c2 : (winAt ws j).2 < (winAt ws i).2
          · rw [decide_eq_true c2] at hin ⊢
            exact iteT ⟨_, rfl, yes hin⟩
          · rw [decide_eq_false c2] at hin ⊢
            exact iteF (no hin)
        · rw [decide_eq_false c1] at hin ⊢
          exact iteF (iteF (no hin))
      · rintro H3 ⟨p1, p2⟩
        rw [← hws] at p1
        refine ⟨D, _, rfl, .inl ⟨SqL.of p1, fun r nr => ?_⟩⟩
        have hr4 : (L2.upd H3 r (.tup (withinL ws i))) r = some (.tup (withinL ws i)) := upd_same
        have e74 : Ex H7 (L2.upd H3 r (.tup (withinL ws i))) := (e72.trans p2).trans (Ex.new nr)
        have hl4 : (L2.upd H3 r (.tup (withinL ws i))) l = some (.lst (as.map V.ref)) := ((e2.trans p2).trans (Ex.new nr)) _ _ hl
        have has4 : ∀ (j : Nat) (a : Addr), as[j]? = some a → (L2.upd H3 r (.tup (withinL ws i))) a = some (.tup (withinL ws j)) := fun j a e => ((e2.trans p2).trans (Ex.new nr)) _ _ (has j a e)
        show tSeq _ _ _ _ (L2.upd H3 r (.tup (withinL ws i)))
        generalize L2.upd H3 r (.tup (withinL ws i)) = H4 at hr4 e74 hl4 has4
        -- if within(book, work) != due or not isinstance(..)
        refine ⟨_, rfl, _, rfl, ⟨_, _, rfl, onw e74 fun q H5 nq e5 hq => ?_⟩⟩
        rw [withinL_eq] at hq hr4
        refine ⟨_, rfl, _, _, dp_ints (SqT.of hq), dp_ints (SqT.of (e5 _ _ hr4)), shaped_ints _, shaped_ints _, _, rfl, ?_⟩
        rw [eqv_dInts, decide_eq_true rfl]
        refine iteF ⟨_, rfl, _, rfl, ⟨_, _, rfl, onw (e74.trans e5) fun q2 H6 nq2 e6 hq2 => ?_⟩⟩
        refine ⟨_, _, _, _, _, rfl, ClsV.ty _, ty_tup (SqT.of hq2), kit_ty (by decide +kernel : kitB "tuple" "tuple" = some true), _, rfl, iteF ?_⟩
        -- inner.append(due)
        have e46 := e5.trans e6
        refine ⟨_, rfl, .inl ⟨rfl, _, SqL.of (e46 _ _ hl4)⟩, _, rfl, l, _, _, rfl, rfl, e46 _ _ hl4, small1000 (by rw [List.length_map]; omega), ?_⟩
        refine ⟨_, _, _, _, _, _, _, _, _, as ++ [r], rfl, by rw [upd_same, List.map_append] <;> rfl, by rw [List.length_append, hal] <;> rfl, fun j a e => ?_, (e74.trans e46).mut nl⟩
        have ne : ∀ {a : Addr} {xs : List V}, H6 a = some (.tup xs) → a ≠ l := fun {a xs} z y => by
          rw [y, e46 _ _ hl4] at z
          cases z
        by_cases hj : j < as.length
        · rw [List.getElem?_append_left hj] at e
          have z := e46 _ _ (has4 j a e)
          rw [upd_ne (ne z)]
          exact z
        · rw [List.getElem?_append_right (by omega)] at e
          have e0 : j - as.length = 0 := by
            have := (List.getElem?_eq_some_iff.mp e).1
            simp at this
            omega
          rw [e0] at e
          cases Option.some.inj e
          have ej : j = i := by omega
          rw [ej, withinL_eq]
          have z := e46 _ _ hr4
          rw [upd_ne (ne z)]
          exact z
    · rintro σ H9 ⟨v6, v7, v8, v9, v10, v11, v12, v13, v14, as, rfl, hl, hal, has, e7⟩
      rw [← hws] at hal
      have tupAt : ∀ {H' : Hp} {j : Nat}, Ex H9 H' → j < ws.length → ∃ a, atI (as.map V.ref) (j : Int) = some (.ref a) ∧ SqT K H' a ((withinN ws j).map V.int) := fun {H' j} e hj => by
        have e1 : as[j]? = some (as[j]'(by omega)) := List.getElem?_eq_getElem _
        refine ⟨_, atI_of (by rw [List.getElem?_map, e1] <;> rfl), ?_⟩
        rw [← withinL_eq]
        exact SqT.of (e _ _ (has j _ e1))
      -- the second loop
      refine ⟨_, rfl, n, rfl, by omega, by omega, for_range (lo := 0) (n := n.toNat) (fun i σ H' => ∃ (v6 v7 v8 v9 v10 v11 v12 v13 v14 : Option V), σ = [some (.ref s0), some (.ref p), some (.int n), some (.ref w0), some (.ref b), some (.ref l), v6, v7, v8, v9, v10, v11, v12, v13, v14] ∧ Ex H9 H')
        ⟨_, _, _, _, _, _, _, _, _, rfl, Ex.refl _⟩ ?_ ?_⟩
      · rintro i σ H' hi ⟨u6, u7, u8, u9, u10, u11, u12, u13, u14, rfl, e9⟩
        have hi' : i < ws.length := by omega
        have ei : (0 : Int) + (i : Int) = (i : Int) := Int.zero_add _
        rw [ei]
        obtain ⟨a, a1, a2⟩ := tupAt e9 hi'
        refine ⟨_, rfl, _, rfl, l, _, _, _, rfl, rfl, SqL.of (e9 _ _ hl), a1, a, rfl, ⟨_, a2⟩, for_tup (K := K) (a := a) (xs := (withinN ws i).map V.int) (fun k σ H2 => ∃ (v7 v8 v9 v10 v11 v12 v13 v14 : Option V), σ = [some (.ref s0), some (.ref p), some (.int n), some (.ref w0), some (.ref b), some (.ref l), some (.int (i : Nat)), v7, v8, v9, v10, v11, v12, v13, v14] ∧ Ex H' H2)
          ⟨_, _, _, _, _, _, _, _, rfl, Ex.refl _⟩ (fun k σ H2 _ ⟨_, _, _, _, _, _, _, _, _, x⟩ => ex_t x a2) ?_ ?_⟩
        · rintro k y σ H2 hk ⟨t7, t8, t9, t10, t11, t12, t13, t14, rfl, e2⟩
          obtain ⟨z, hz, rfl⟩ := ints_get hk
          obtain ⟨j, rfl, hj, hji⟩ := mem_withinN.mp (List.mem_of_getElem? hz)
          have e92 := e9.trans e2
          obtain ⟨c, c1, c2⟩ := tupAt e92 hj
          obtain ⟨i1, i2⟩ := insideB_iff.mp hji
          -- work in inner[other]
          refine ⟨_, rfl, _, rfl, _, rfl, l, _, _, _, rfl, rfl, SqL.of (e92 _ _ hl), c1, c, _, rfl, .inr c2, rfl, flat_ints _, _, rfl, ?_⟩
          have m1 : inV (.int (i : Nat)) ((withinN ws j).map V.int) = false := by
            rw [inV_ints]
            refine decide_eq_false fun hm => ?_
            obtain ⟨q, hq, _, hqj⟩ := mem_withinN.mp hm
            have : i = q := by omega
            rw [← this] at hqj
            have := insideB_iff.mp hqj
            omega
          show if (if false = true then !inV (.int (i : Nat)) ((withinN ws j).map V.int) else inV (.int (i : Nat)) ((withinN ws j).map V.int)) = true then _ else _
          rw [if_neg Bool.false_ne_true, m1]
          -- other == work
          refine iteF ⟨_, rfl, _, rfl, rfl, _, rfl, ?_⟩
          have m2 : decide (V.int (j : Nat) = V.int (i : Nat)) = false := decide_eq_false fun e => by
            injection e with e
            have : j = i := by omega
            rw [this] at i1
            omega
          rw [m2]
          -- all([one in inner[work] for one in inner[other]])
          refine iteF ⟨_, rfl, _, rfl, l, _, _, _, rfl, rfl, SqL.of (e92 _ _ hl), c1, c, rfl, ⟨_, c2⟩, fun D hD => lc_tup (K := K) (a := c) (xs := (withinN ws j).map V.int) (fun q H3 => H3 D = some (.lst ((List.replicate q true).map V.bl)) ∧ Ex H2 H3) ⟨upd_same, Ex.new hD⟩ (fun q H3 _ p => ex_t p.2 c2) ?_ ?_⟩
          · rintro q y H3 hq ⟨p1, p2⟩
            obtain ⟨z, hz, rfl⟩ := ints_get hq
            obtain ⟨o, rfl, ho, hoj⟩ := mem_withinN.mp (List.mem_of_getElem? hz)
            obtain ⟨o1, o2⟩ := insideB_iff.mp hoj
            obtain ⟨d, d1, d2⟩ := tupAt (e92.trans p2) hi'
            have hql : q < 1000 := by
              have := (List.getElem?_eq_some_iff.mp hz).1
              have h3 : (withinN ws j).length ≤ ws.length := by
                have := given_len ws.length (fun k => insideB (winAt ws k) (winAt ws j)) (fun k => V.int (k : Nat))
                have h4 := congrArg List.length (withinL_eq ws j)
                rw [List.length_map] at h4
                unfold withinL at h4
                omega
              omega
            refine ⟨rfl, _, rfl, _, rfl, _, rfl, l, _, _, _, rfl, rfl, SqL.of ((e92.trans p2) _ _ hl), d1, d, _, rfl, .inr d2, rfl, flat_ints _, _, p1, small1000 (by rw [List.length_map, List.length_replicate]; omega), ?_, p2.mut hD⟩
            have m3 : inV (.int (o : Nat)) ((withinN ws i).map V.int) = true := by
              rw [inV_ints]
              exact decide_eq_true (mem_withinN.mpr ⟨o, rfl, ho, insideB_iff.mpr ⟨by omega, by omega⟩⟩)
            show (L2.upd H3 D (.lst ((List.replicate q true).map V.bl ++ [.bl (if false = true then !inV (.int (o : Nat)) ((withinN ws i).map V.int) else inV (.int (o : Nat)) ((withinN ws i).map V.int))]))) D = _
            rw [if_neg Bool.false_ne_true, m3, upd_same, List.replicate_succ', List.map_append] <;> rfl
          · rintro H3 ⟨p1, p2⟩
            refine ⟨D, _, rfl, SqL.of p1, _, rfl, ?_⟩
            have m4 : (List.replicate ((withinN ws j).map V.int).length true).all id = true := by simp
            rw [m4]
            exact iteF ⟨_, _, _, _, _, _, _, _, rfl, e2.trans p2⟩
        · rintro σ H2 ⟨t7, t8, t9, t10, t11, t12, t13, t14, rfl, e2⟩
          exact ⟨_, _, _, _, _, _, _, _, _, rfl, e9.trans e2⟩
      · rintro σ H10 ⟨u6, u7, u8, u9, u10, u11, u12, u13, u14, rfl, e9⟩
        have e10 := e7.trans e9
        -- the third loop
        refine ⟨_, rfl, _, rfl, (by show 1 ≤ sizeLine; decide), fun q1 nq1 => ⟨(by show 1 ≤ sizeLine; decide), fun q2 nq2 q3 nq3 => ⟨_, _, rfl, rfl, ⟨by decide, by decide, by decide⟩, (by show 10 ≤ sizeLine; decide), fun q4 nq4 => ?_⟩⟩⟩
        have y1 : Ex H10 (L2.upd H10 q1 (.tup [.int 0])) := Ex.new nq1
        have g1 : (L2.upd H10 q1 (.tup [.int 0])) q1 = some (.tup [.int 0]) := upd_same
        generalize L2.upd H10 q1 (.tup [.int 0]) = H11 at nq2 nq3 nq4 y1 g1
        have y2 : Ex H11 (L2.upd H11 q2 (.lst [.int 0])) := Ex.new nq2
        have g2 : (L2.upd H11 q2 (.lst [.int 0])) q2 = some (.lst [.int 0]) := upd_same
        generalize L2.upd H11 q2 (.lst [.int 0]) = H12 at nq3 nq4 y2 g2
        have y3 : Ex H12 (L2.upd H12 q3 (.dK [])) := Ex.new nq3
        have g3 : (L2.upd H12 q3 (.dK [])) q3 = some (.dK []) := upd_same
        generalize L2.upd H12 q3 (.dK []) = H13 at nq4 y3 g3
        have y4 : Ex H13 (L2.upd H13 q4 (.lst [.non, .int (-1), .int n, .bl true, .bl false, .str "0", .ref q1, .ref q2, .ref q3, .int (10 ^ 30)])) := Ex.new nq4
        have g4 : (L2.upd H13 q4 (.lst [.non, .int (-1), .int n, .bl true, .bl false, .str "0", .ref q1, .ref q2, .ref q3, .int (10 ^ 30)])) q4 = some (.lst [.non, .int (-1), .int n, .bl true, .bl false, .str "0", .ref q1, .ref q2, .ref q3, .int (10 ^ 30)]) := upd_same
        have wrong : ∀ (i : Nat) (y : V), [V.non, .int (-1), .int n, .bl true, .bl false, .str "0", .ref q1, .ref q2, .ref q3, .int (10 ^ 30)][i]? = some y → ∃ d, Rp K H13 y d ∧ workD ws.length d = false := fun i y e => by
          have z30 : ¬ ((10 : Int) ^ 30 < (ws.length : Int)) := by
            have : (ws.length : Int) ≤ 1000 := by omega
            have h30 : (1000 : Int) < 10 ^ 30 := by decide
            omega
          match i, e with
          | 0, e => cases e; exact ⟨_, .non, rfl⟩
          | 1, e => cases e; exact ⟨_, .int _, by simp [workD]⟩
          | 2, e => cases e; exact ⟨_, .int _, by simp [workD]; omega⟩
          | 3, e => cases e; exact ⟨_, .bl _, rfl⟩
          | 4, e => cases e; exact ⟨_, .bl _, rfl⟩
          | 5, e => cases e; exact ⟨_, .str _, rfl⟩
          | 6, e => cases e; exact ⟨_, .tup (SqT.of (y3 _ _ (y2 _ _ g1))) (.cons (.int 0) .nil), rfl⟩
          | 7, e => cases e; exact ⟨_, .lst (SqL.of (y3 _ _ g2)), rfl⟩
          | 8, e => cases e; exact ⟨_, .dic g3, rfl⟩
          | 9, e => cases e; exact ⟨_, .int _, by simp only [workD, decide_eq_false z30, Bool.and_false]⟩
          | i + 10, e => simp at e
        refine ⟨q4, rfl, ⟨_, SqL.of g4⟩, for_list (K := K) (a := q4) (xs := [.non, .int (-1), .int n, .bl true, .bl false, .str "0", .ref q1, .ref q2, .ref q3, .int (10 ^ 30)]) (fun i σ H' => ∃ (v6 v7 v8 v9 v10 v11 v12 v13 v14 : Option V), σ = [some (.ref s0), some (.ref p), some (.int n), some (.ref w0), some (.ref b), some (.ref l), v6, v7, v8, v9, v10, v11, v12, v13, v14] ∧ Ex (L2.upd H13 q4 (.lst [.non, .int (-1), .int n, .bl true, .bl false, .str "0", .ref q1, .ref q2, .ref q3, .int (10 ^ 30)])) H')
          ⟨_, _, _, _, _, _, _, _, _, rfl, Ex.refl _⟩ (fun i σ H' _ ⟨_, _, _, _, _, _, _, _, _, _, x⟩ => ex_l x (SqL.of g4)) ?_ ?_⟩
        · rintro i y σ H' hi ⟨t6, t7, t8, t9, t10, t11, t12, t13, t14, rfl, e⟩
          obtain ⟨d, hd, hw⟩ := wrong i y hi
          have eb : Ex H7 H' := ((((e10.trans y1).trans y2).trans y3).trans y4).trans e
          refine ⟨_, rfl, _, rfl, ⟨_, _, _, rfl, 0, b, w0, ws, d, rfl, rfl, hB.mono eb, hW7.mono eb, hd.mono (y4.trans e), hw, fun H2 e2 => ⟨_, rfl, iteF ?_⟩⟩⟩
          refine ⟨_, rfl, _, rfl, ⟨_, _, _, rfl, 1, b, w0, ws, d, rfl, rfl, hB.mono (eb.trans e2), hW7.mono (eb.trans e2), hd.mono ((y4.trans e).trans e2), hw, fun H3 e3 => ⟨_, rfl, iteF ?_⟩⟩⟩
          exact ⟨_, _, _, _, _, _, _, _, _, rfl, (e.trans e2).trans e3⟩
        · rintro σ H' ⟨t6, t7, t8, t9, t10, t11, t12, t13, t14, rfl, e⟩
          exact kfin H'
end
theorem all_mk {l : PySem.W.OpenLaw} {w : World} {K : PySem.W.Frag} {h : Heap} {mg : Str → Option Value} {fa : Addr} (X : K.In h) (G : h.Ns mainGlobals mg) (hfa : mg "law" = some (.ref fa))
    {C_BadBook : Addr}
    {nm_BadBook q_BadBook : Str} {N_BadBook CM_BadBook : Addr} {bs_BadBook : List Value} {sn_BadBook : List Str} {sub_BadBook : List Value} {ab_BadBook : Bool} {col_BadBook : Option Bool} {dd_BadBook : Option Addr} {m0_BadBook m1_BadBook m2_BadBook m3_BadBook m5_BadBook : Option Value}
    {C_NoWork : Addr}
    {nm_NoWork q_NoWork : Str} {N_NoWork CM_NoWork : Addr} {bs_NoWork : List Value} {sn_NoWork : List Str} {sub_NoWork : List Value} {ab_NoWork : Bool} {col_NoWork : Option Bool} {dd_NoWork : Option Addr} {m0_NoWork m1_NoWork m2_NoWork m3_NoWork m5_NoWork : Option Value}
    {C_Book : Addr}
    {f_BadBook_init : Addr} {oc_BadBook_init kV_BadBook_init dc_BadBook_init pm_BadBook_init cd_BadBook_init ct_BadBook_init : Value} {od_BadBook_init an_BadBook_init : Option Addr} {sl_BadBook_init : Array (Option Value)}
    {f_NoWork_init : Addr} {oc_NoWork_init kV_NoWork_init dc_NoWork_init pm_NoWork_init cd_NoWork_init ct_NoWork_init : Value} {od_NoWork_init an_NoWork_init : Option Addr} {sl_NoWork_init : Array (Option Value)}
    {f_is_integer : Addr} {oc_is_integer kV_is_integer dc_is_integer pm_is_integer cd_is_integer ct_is_integer : Value} {od_is_integer an_is_integer : Option Addr} {sl_is_integer : Array (Option Value)}
    {f_is_pair : Addr} {oc_is_pair kV_is_pair dc_is_pair pm_is_pair cd_is_pair ct_is_pair : Value} {od_is_pair an_is_pair : Option Addr} {sl_is_pair : Array (Option Value)}
    {f_Book_init : Addr} {oc_Book_init kV_Book_init dc_Book_init pm_Book_init cd_Book_init ct_Book_init : Value} {od_Book_init an_Book_init : Option Addr} {sl_Book_init : Array (Option Value)}
    {f_is_windows : Addr} {oc_is_windows kV_is_windows dc_is_windows pm_is_windows cd_is_windows ct_is_windows : Value} {od_is_windows an_is_windows : Option Addr} {sl_is_windows : Array (Option Value)}
    {f_is_window : Addr} {oc_is_window kV_is_window dc_is_window pm_is_window cd_is_window ct_is_window : Value} {od_is_window an_is_window : Option Addr} {sl_is_window : Array (Option Value)}
    {f_is_work : Addr} {oc_is_work kV_is_work dc_is_work pm_is_work cd_is_work ct_is_work : Value} {od_is_work an_is_work : Option Addr} {sl_is_work : Array (Option Value)}
    {f_middle : Addr} {oc_middle kV_middle dc_middle pm_middle cd_middle ct_middle : Value} {od_middle an_middle : Option Addr} {sl_middle : Array (Option Value)}
    {f_is_inside : Addr} {oc_is_inside kV_is_inside dc_is_inside pm_is_inside cd_is_inside ct_is_inside : Value} {od_is_inside an_is_inside : Option Addr} {sl_is_inside : Array (Option Value)}
    {f_within : Addr} {oc_within kV_within dc_within pm_within cd_within ct_within : Value} {od_within an_within : Option Addr} {sl_within : Array (Option Value)}
    {f_l_pool : Addr} {oc_l_pool kV_l_pool dc_l_pool pm_l_pool cd_l_pool ct_l_pool : Value} {od_l_pool an_l_pool : Option Addr} {sl_l_pool : Array (Option Value)}
    {f_l_draw : Addr} {oc_l_draw kV_l_draw dc_l_draw pm_l_draw cd_l_draw ct_l_draw : Value} {od_l_draw an_l_draw : Option Addr} {sl_l_draw : Array (Option Value)}
    {f_l_windows : Addr} {oc_l_windows kV_l_windows dc_l_windows pm_l_windows cd_l_windows ct_l_windows : Value} {od_l_windows an_l_windows : Option Addr} {sl_l_windows : Array (Option Value)}
    {f_l_refused : Addr} {oc_l_refused kV_l_refused dc_l_refused pm_l_refused cd_l_refused ct_l_refused : Value} {od_l_refused an_l_refused : Option Addr} {sl_l_refused : Array (Option Value)}
    {f_law : Addr} {oc_law kV_law dc_law pm_law cd_law ct_law : Value} {od_law an_law : Option Addr} {sl_law : Array (Option Value)}
    {u_MOST_HOUR : Tok}
    {u_MOST_WORKS : Tok}
    (aC_BadBook : PySem.W.nsIn K mainGlobals "BadBook" = some (some (.ref C_BadBook)))
    (xL_BadBook : K.lookup C_BadBook = some (excClassObj nm_BadBook q_BadBook C_BadBook N_BadBook bs_BadBook [.ref CM_BadBook, .type "ValueError", .type "Exception", .type "BaseException", .type "object"] true sn_BadBook sub_BadBook ab_BadBook col_BadBook dd_BadBook m0_BadBook m1_BadBook m2_BadBook m3_BadBook m5_BadBook "ValueError.__new__"))
    (sa_BadBook : PySem.W.findIn K (.ref C_BadBook) "__setattr__" = some (some (.builtin "object.__setattr__")))
    (kC_BadBook : PySem.W.keepIn K (.ref C_BadBook) = true)
    (eC_BadBook : PySem.W.subIn K (.ref C_BadBook) (.type "BaseException") = some true)
    (tC_BadBook : PySem.W.typeIn K (.ref C_BadBook) = some (.type "type"))
    (hC_BadBook : PySem.W.hasDictIn K C_BadBook = true)
    (sC_BadBook : PySem.W.subIn K (.ref C_BadBook) (.ref C_BadBook) = some true)
    (aC_NoWork : PySem.W.nsIn K mainGlobals "NoWork" = some (some (.ref C_NoWork)))
    (xL_NoWork : K.lookup C_NoWork = some (excClassObj nm_NoWork q_NoWork C_NoWork N_NoWork bs_NoWork [.ref CM_NoWork, .type "ValueError", .type "Exception", .type "BaseException", .type "object"] true sn_NoWork sub_NoWork ab_NoWork col_NoWork dd_NoWork m0_NoWork m1_NoWork m2_NoWork m3_NoWork m5_NoWork "ValueError.__new__"))
    (sa_NoWork : PySem.W.findIn K (.ref C_NoWork) "__setattr__" = some (some (.builtin "object.__setattr__")))
    (kC_NoWork : PySem.W.keepIn K (.ref C_NoWork) = true)
    (eC_NoWork : PySem.W.subIn K (.ref C_NoWork) (.type "BaseException") = some true)
    (tC_NoWork : PySem.W.typeIn K (.ref C_NoWork) = some (.type "type"))
    (hC_NoWork : PySem.W.hasDictIn K C_NoWork = true)
    (sC_NoWork : PySem.W.subIn K (.ref C_NoWork) (.ref C_NoWork) = some true)
    (aC_Book : PySem.W.nsIn K mainGlobals "Book" = some (some (.ref C_Book)))
    (pg_Book : PySem.W.plainGet K C_Book Str.empty = true)
    (hd_Book : PySem.W.hasDictIn K C_Book = true)
    (po_Book : PySem.W.plainOver K C_Book = true)
    (sa_Book : PySem.W.findIn K (.ref C_Book) "__setattr__" = some (some (.builtin "object.__setattr__")))
    (mk_Book : PySem.W.makesIn K C_Book = true)
    (kc_Book : PySem.W.keepIn K (.ref C_Book) = true)
    (na_windows : PySem.W.findIn K (.ref C_Book) "windows" = some none)
    (a_BadBook_init : PySem.W.findIn K (.ref C_BadBook) "__init__" = some (some (.ref f_BadBook_init)))
    (t_BadBook_init : PySem.W.typeIn K (.ref f_BadBook_init) = some (.type "function"))
    (l_BadBook_init : K.lookup f_BadBook_init = some ⟨oc_BadBook_init, od_BadBook_init, .func (PySem.W.fnOf "__init__" "BadBook.__init__" (defArgs s_BadBook_init) (defBody s_BadBook_init) (defScope s_BadBook_init) .none kV_BadBook_init dc_BadBook_init pm_BadBook_init an_BadBook_init cd_BadBook_init ct_BadBook_init), sl_BadBook_init⟩)
    (c_BadBook_init : PySem.W.codeIn K cd_BadBook_init "BadBook.__init__" = true)
    (k_BadBook_init : PySem.W.keepIn K (.ref f_BadBook_init) = true)
    (a_NoWork_init : PySem.W.findIn K (.ref C_NoWork) "__init__" = some (some (.ref f_NoWork_init)))
    (t_NoWork_init : PySem.W.typeIn K (.ref f_NoWork_init) = some (.type "function"))
    (l_NoWork_init : K.lookup f_NoWork_init = some ⟨oc_NoWork_init, od_NoWork_init, .func (PySem.W.fnOf "__init__" "NoWork.__init__" (defArgs s_NoWork_init) (defBody s_NoWork_init) (defScope s_NoWork_init) .none kV_NoWork_init dc_NoWork_init pm_NoWork_init an_NoWork_init cd_NoWork_init ct_NoWork_init), sl_NoWork_init⟩)
    (c_NoWork_init : PySem.W.codeIn K cd_NoWork_init "NoWork.__init__" = true)
    (k_NoWork_init : PySem.W.keepIn K (.ref f_NoWork_init) = true)
    (a_is_integer : PySem.W.nsIn K mainGlobals "is_integer" = some (some (.ref f_is_integer)))
    (l_is_integer : K.lookup f_is_integer = some ⟨oc_is_integer, od_is_integer, .func (PySem.W.fnOf "is_integer" "is_integer" (defArgs s_is_integer) (defBody s_is_integer) (defScope s_is_integer) .none kV_is_integer dc_is_integer pm_is_integer an_is_integer cd_is_integer ct_is_integer), sl_is_integer⟩)
    (c_is_integer : PySem.W.codeIn K cd_is_integer "is_integer" = true)
    (k_is_integer : PySem.W.keepIn K (.ref f_is_integer) = true)
    (a_is_pair : PySem.W.nsIn K mainGlobals "is_pair" = some (some (.ref f_is_pair)))
    (l_is_pair : K.lookup f_is_pair = some ⟨oc_is_pair, od_is_pair, .func (PySem.W.fnOf "is_pair" "is_pair" (defArgs s_is_pair) (defBody s_is_pair) (defScope s_is_pair) .none kV_is_pair dc_is_pair pm_is_pair an_is_pair cd_is_pair ct_is_pair), sl_is_pair⟩)
    (c_is_pair : PySem.W.codeIn K cd_is_pair "is_pair" = true)
    (k_is_pair : PySem.W.keepIn K (.ref f_is_pair) = true)
    (a_Book_init : PySem.W.findIn K (.ref C_Book) "__init__" = some (some (.ref f_Book_init)))
    (i_Book_init : PySem.W.isFn K (.ref f_Book_init) = true)
    (l_Book_init : K.lookup f_Book_init = some ⟨oc_Book_init, od_Book_init, .func (PySem.W.fnOf "__init__" "Book.__init__" (defArgs s_Book_init) (defBody s_Book_init) (defScope s_Book_init) .none kV_Book_init dc_Book_init pm_Book_init an_Book_init cd_Book_init ct_Book_init), sl_Book_init⟩)
    (c_Book_init : PySem.W.codeIn K cd_Book_init "Book.__init__" = true)
    (k_Book_init : PySem.W.keepIn K (.ref f_Book_init) = true)
    (a_is_windows : PySem.W.nsIn K mainGlobals "is_windows" = some (some (.ref f_is_windows)))
    (l_is_windows : K.lookup f_is_windows = some ⟨oc_is_windows, od_is_windows, .func (PySem.W.fnOf "is_windows" "is_windows" (defArgs s_is_windows) (defBody s_is_windows) (defScope s_is_windows) .none kV_is_windows dc_is_windows pm_is_windows an_is_windows cd_is_windows ct_is_windows), sl_is_windows⟩)
    (c_is_windows : PySem.W.codeIn K cd_is_windows "is_windows" = true)
    (k_is_windows : PySem.W.keepIn K (.ref f_is_windows) = true)
    (a_is_window : PySem.W.nsIn K mainGlobals "is_window" = some (some (.ref f_is_window)))
    (l_is_window : K.lookup f_is_window = some ⟨oc_is_window, od_is_window, .func (PySem.W.fnOf "is_window" "is_window" (defArgs s_is_window) (defBody s_is_window) (defScope s_is_window) .none kV_is_window dc_is_window pm_is_window an_is_window cd_is_window ct_is_window), sl_is_window⟩)
    (c_is_window : PySem.W.codeIn K cd_is_window "is_window" = true)
    (k_is_window : PySem.W.keepIn K (.ref f_is_window) = true)
    (a_is_work : PySem.W.nsIn K mainGlobals "is_work" = some (some (.ref f_is_work)))
    (l_is_work : K.lookup f_is_work = some ⟨oc_is_work, od_is_work, .func (PySem.W.fnOf "is_work" "is_work" (defArgs s_is_work) (defBody s_is_work) (defScope s_is_work) .none kV_is_work dc_is_work pm_is_work an_is_work cd_is_work ct_is_work), sl_is_work⟩)
    (c_is_work : PySem.W.codeIn K cd_is_work "is_work" = true)
    (k_is_work : PySem.W.keepIn K (.ref f_is_work) = true)
    (a_middle : PySem.W.nsIn K mainGlobals "middle" = some (some (.ref f_middle)))
    (l_middle : K.lookup f_middle = some ⟨oc_middle, od_middle, .func (PySem.W.fnOf "middle" "middle" (defArgs s_middle) (defBody s_middle) (defScope s_middle) .none kV_middle dc_middle pm_middle an_middle cd_middle ct_middle), sl_middle⟩)
    (c_middle : PySem.W.codeIn K cd_middle "middle" = true)
    (k_middle : PySem.W.keepIn K (.ref f_middle) = true)
    (a_is_inside : PySem.W.nsIn K mainGlobals "is_inside" = some (some (.ref f_is_inside)))
    (l_is_inside : K.lookup f_is_inside = some ⟨oc_is_inside, od_is_inside, .func (PySem.W.fnOf "is_inside" "is_inside" (defArgs s_is_inside) (defBody s_is_inside) (defScope s_is_inside) .none kV_is_inside dc_is_inside pm_is_inside an_is_inside cd_is_inside ct_is_inside), sl_is_inside⟩)
    (c_is_inside : PySem.W.codeIn K cd_is_inside "is_inside" = true)
    (k_is_inside : PySem.W.keepIn K (.ref f_is_inside) = true)
    (a_within : PySem.W.nsIn K mainGlobals "within" = some (some (.ref f_within)))
    (l_within : K.lookup f_within = some ⟨oc_within, od_within, .func (PySem.W.fnOf "within" "within" (defArgs s_within) (defBody s_within) (defScope s_within) .none kV_within dc_within pm_within an_within cd_within ct_within), sl_within⟩)
    (c_within : PySem.W.codeIn K cd_within "within" = true)
    (k_within : PySem.W.keepIn K (.ref f_within) = true)
    (a_l_pool : PySem.W.nsIn K mainGlobals "_law_pool" = some (some (.ref f_l_pool)))
    (l_l_pool : K.lookup f_l_pool = some ⟨oc_l_pool, od_l_pool, .func (PySem.W.fnOf "_law_pool" "_law_pool" (defArgs s_l_pool) (defBody s_l_pool) (defScope s_l_pool) .none kV_l_pool dc_l_pool pm_l_pool an_l_pool cd_l_pool ct_l_pool), sl_l_pool⟩)
    (c_l_pool : PySem.W.codeIn K cd_l_pool "_law_pool" = true)
    (k_l_pool : PySem.W.keepIn K (.ref f_l_pool) = true)
    (a_l_draw : PySem.W.nsIn K mainGlobals "_law_draw" = some (some (.ref f_l_draw)))
    (l_l_draw : K.lookup f_l_draw = some ⟨oc_l_draw, od_l_draw, .func (PySem.W.fnOf "_law_draw" "_law_draw" (defArgs s_l_draw) (defBody s_l_draw) (defScope s_l_draw) .none kV_l_draw dc_l_draw pm_l_draw an_l_draw cd_l_draw ct_l_draw), sl_l_draw⟩)
    (c_l_draw : PySem.W.codeIn K cd_l_draw "_law_draw" = true)
    (k_l_draw : PySem.W.keepIn K (.ref f_l_draw) = true)
    (a_l_windows : PySem.W.nsIn K mainGlobals "_law_windows" = some (some (.ref f_l_windows)))
    (l_l_windows : K.lookup f_l_windows = some ⟨oc_l_windows, od_l_windows, .func (PySem.W.fnOf "_law_windows" "_law_windows" (defArgs s_l_windows) (defBody s_l_windows) (defScope s_l_windows) .none kV_l_windows dc_l_windows pm_l_windows an_l_windows cd_l_windows ct_l_windows), sl_l_windows⟩)
    (c_l_windows : PySem.W.codeIn K cd_l_windows "_law_windows" = true)
    (k_l_windows : PySem.W.keepIn K (.ref f_l_windows) = true)
    (a_l_refused : PySem.W.nsIn K mainGlobals "_law_refused" = some (some (.ref f_l_refused)))
    (l_l_refused : K.lookup f_l_refused = some ⟨oc_l_refused, od_l_refused, .func (PySem.W.fnOf "_law_refused" "_law_refused" (defArgs s_l_refused) (defBody s_l_refused) (defScope s_l_refused) .none kV_l_refused dc_l_refused pm_l_refused an_l_refused cd_l_refused ct_l_refused), sl_l_refused⟩)
    (c_l_refused : PySem.W.codeIn K cd_l_refused "_law_refused" = true)
    (k_l_refused : PySem.W.keepIn K (.ref f_l_refused) = true)
    (a_law : PySem.W.nsIn K mainGlobals "law" = some (some (.ref f_law)))
    (l_law : K.lookup f_law = some ⟨oc_law, od_law, .func (PySem.W.fnOf "law" "law" (defArgs s_law) (defBody s_law) (defScope s_law) .none kV_law dc_law pm_law an_law cd_law ct_law), sl_law⟩)
    (c_law : PySem.W.codeIn K cd_law "law" = true)
    (k_law : PySem.W.keepIn K (.ref f_law) = true)
    (gc_MOST_HOUR : PySem.W.nsIn K mainGlobals "MOST_HOUR" = some (some (.int 1000000 u_MOST_HOUR)))
    (gc_MOST_WORKS : PySem.W.nsIn K mainGlobals "MOST_WORKS" = some (some (.int 40 u_MOST_WORKS)))
    (z_abs : PySem.W.nsIn K mainGlobals "abs" = some none)
    (z_all : PySem.W.nsIn K mainGlobals "all" = some none)
    (z_bool : PySem.W.nsIn K mainGlobals "bool" = some none)
    (z_enumerate : PySem.W.nsIn K mainGlobals "enumerate" = some none)
    (z_int : PySem.W.nsIn K mainGlobals "int" = some none)
    (z_isinstance : PySem.W.nsIn K mainGlobals "isinstance" = some none)
    (z_len : PySem.W.nsIn K mainGlobals "len" = some none)
    (z_max : PySem.W.nsIn K mainGlobals "max" = some none)
    (z_min : PySem.W.nsIn K mainGlobals "min" = some none)
    (z_range : PySem.W.nsIn K mainGlobals "range" = some none)
    (z_sum : PySem.W.nsIn K mainGlobals "sum" = some none)
    (z_tuple : PySem.W.nsIn K mainGlobals "tuple" = some none) :
    ∃ fd : FuncData, (∀ (s : Shared) (v : Value), BindsTo s fd ⟨[v], []⟩ [("_law_script", v)]) ∧ ∀ base : Heap, K.In base → base.Ns mainGlobals mg → FnOk l.prog w K mg base CX0 6 fa fd ["_law_script"] (sp_law K ⟨fun _ => 0, fun _ => 0⟩) := by
  have e := (PySem.W.mg_of X G a_law).symm.trans hfa
  cases e
  have T : Txt K mg ⟨fun n => ([f_BadBook_init, f_NoWork_init, f_is_integer, f_is_pair, f_Book_init, f_is_windows, f_is_window, f_is_work, f_middle, f_is_inside, f_within, f_l_pool, f_l_draw, f_l_windows, f_l_refused, fa] : List Addr).getD n 0, fun n => ([C_BadBook, C_NoWork, C_Book] : List Addr).getD n 0⟩ ⟨fun n => ([PySem.W.fnOf "__init__" "BadBook.__init__" (defArgs s_BadBook_init) (defBody s_BadBook_init) (defScope s_BadBook_init) .none kV_BadBook_init dc_BadBook_init pm_BadBook_init an_BadBook_init cd_BadBook_init ct_BadBook_init, PySem.W.fnOf "__init__" "NoWork.__init__" (defArgs s_NoWork_init) (defBody s_NoWork_init) (defScope s_NoWork_init) .none kV_NoWork_init dc_NoWork_init pm_NoWork_init an_NoWork_init cd_NoWork_init ct_NoWork_init, PySem.W.fnOf "is_integer" "is_integer" (defArgs s_is_integer) (defBody s_is_integer) (defScope s_is_integer) .none kV_is_integer dc_is_integer pm_is_integer an_is_integer cd_is_integer ct_is_integer, PySem.W.fnOf "is_pair" "is_pair" (defArgs s_is_pair) (defBody s_is_pair) (defScope s_is_pair) .none kV_is_pair dc_is_pair pm_is_pair an_is_pair cd_is_pair ct_is_pair, PySem.W.fnOf "__init__" "Book.__init__" (defArgs s_Book_init) (defBody s_Book_init) (defScope s_Book_init) .none kV_Book_init dc_Book_init pm_Book_init an_Book_init cd_Book_init ct_Book_init, PySem.W.fnOf "is_windows" "is_windows" (defArgs s_is_windows) (defBody s_is_windows) (defScope s_is_windows) .none kV_is_windows dc_is_windows pm_is_windows an_is_windows cd_is_windows ct_is_windows, PySem.W.fnOf "is_window" "is_window" (defArgs s_is_window) (defBody s_is_window) (defScope s_is_window) .none kV_is_window dc_is_window pm_is_window an_is_window cd_is_window ct_is_window, PySem.W.fnOf "is_work" "is_work" (defArgs s_is_work) (defBody s_is_work) (defScope s_is_work) .none kV_is_work dc_is_work pm_is_work an_is_work cd_is_work ct_is_work, PySem.W.fnOf "middle" "middle" (defArgs s_middle) (defBody s_middle) (defScope s_middle) .none kV_middle dc_middle pm_middle an_middle cd_middle ct_middle, PySem.W.fnOf "is_inside" "is_inside" (defArgs s_is_inside) (defBody s_is_inside) (defScope s_is_inside) .none kV_is_inside dc_is_inside pm_is_inside an_is_inside cd_is_inside ct_is_inside, PySem.W.fnOf "within" "within" (defArgs s_within) (defBody s_within) (defScope s_within) .none kV_within dc_within pm_within an_within cd_within ct_within, PySem.W.fnOf "_law_pool" "_law_pool" (defArgs s_l_pool) (defBody s_l_pool) (defScope s_l_pool) .none kV_l_pool dc_l_pool pm_l_pool an_l_pool cd_l_pool ct_l_pool, PySem.W.fnOf "_law_draw" "_law_draw" (defArgs s_l_draw) (defBody s_l_draw) (defScope s_l_draw) .none kV_l_draw dc_l_draw pm_l_draw an_l_draw cd_l_draw ct_l_draw, PySem.W.fnOf "_law_windows" "_law_windows" (defArgs s_l_windows) (defBody s_l_windows) (defScope s_l_windows) .none kV_l_windows dc_l_windows pm_l_windows an_l_windows cd_l_windows ct_l_windows, PySem.W.fnOf "_law_refused" "_law_refused" (defArgs s_l_refused) (defBody s_l_refused) (defScope s_l_refused) .none kV_l_refused dc_l_refused pm_l_refused an_l_refused cd_l_refused ct_l_refused, PySem.W.fnOf "law" "law" (defArgs s_law) (defBody s_law) (defScope s_law) .none kV_law dc_law pm_law an_law cd_law ct_law] : List FuncData).getD n (PySem.W.fnOf "law" "law" (defArgs s_law) (defBody s_law) (defScope s_law) .none kV_law dc_law pm_law an_law cd_law ct_law)⟩ := {
    g_BadBook := PySem.W.mg_of X G aC_BadBook,
    e_BadBook := ⟨⟨nm_BadBook, q_BadBook, N_BadBook, bs_BadBook, _, sn_BadBook, sub_BadBook, ab_BadBook, col_BadBook, dd_BadBook, m0_BadBook, m1_BadBook, m2_BadBook, m3_BadBook, m5_BadBook, xL_BadBook, rfl⟩, sa_BadBook, eC_BadBook, tC_BadBook, kC_BadBook⟩,
    i_BadBook := a_BadBook_init,
    t_BadBook := t_BadBook_init,
    m_BadBook := PySem.W.exm_ref eC_BadBook hC_BadBook tC_BadBook sC_BadBook,
    g_NoWork := PySem.W.mg_of X G aC_NoWork,
    e_NoWork := ⟨⟨nm_NoWork, q_NoWork, N_NoWork, bs_NoWork, _, sn_NoWork, sub_NoWork, ab_NoWork, col_NoWork, dd_NoWork, m0_NoWork, m1_NoWork, m2_NoWork, m3_NoWork, m5_NoWork, xL_NoWork, rfl⟩, sa_NoWork, eC_NoWork, tC_NoWork, kC_NoWork⟩,
    i_NoWork := a_NoWork_init,
    t_NoWork := t_NoWork_init,
    m_NoWork := PySem.W.exm_ref eC_NoWork hC_NoWork tC_NoWork sC_NoWork,
    g_Book := PySem.W.mg_of X G aC_Book,
    cl_Book := ⟨pg_Book, hd_Book, po_Book, sa_Book⟩,
    mk_Book := ⟨mk_Book, a_Book_init, i_Book_init, kc_Book⟩,
    na_windows := na_windows,
    F_BadBook_init := fun_mk (st := s_BadBook_init) l_BadBook_init c_BadBook_init k_BadBook_init,
    F_NoWork_init := fun_mk (st := s_NoWork_init) l_NoWork_init c_NoWork_init k_NoWork_init,
    g_is_integer := PySem.W.mg_of X G a_is_integer,
    F_is_integer := fun_mk (st := s_is_integer) l_is_integer c_is_integer k_is_integer,
    g_is_pair := PySem.W.mg_of X G a_is_pair,
    F_is_pair := fun_mk (st := s_is_pair) l_is_pair c_is_pair k_is_pair,
    F_Book_init := fun_mk (st := s_Book_init) l_Book_init c_Book_init k_Book_init,
    g_is_windows := PySem.W.mg_of X G a_is_windows,
    F_is_windows := fun_mk (st := s_is_windows) l_is_windows c_is_windows k_is_windows,
    g_is_window := PySem.W.mg_of X G a_is_window,
    F_is_window := fun_mk (st := s_is_window) l_is_window c_is_window k_is_window,
    g_is_work := PySem.W.mg_of X G a_is_work,
    F_is_work := fun_mk (st := s_is_work) l_is_work c_is_work k_is_work,
    g_middle := PySem.W.mg_of X G a_middle,
    F_middle := fun_mk (st := s_middle) l_middle c_middle k_middle,
    g_is_inside := PySem.W.mg_of X G a_is_inside,
    F_is_inside := fun_mk (st := s_is_inside) l_is_inside c_is_inside k_is_inside,
    g_within := PySem.W.mg_of X G a_within,
    F_within := fun_mk (st := s_within) l_within c_within k_within,
    g_l_pool := PySem.W.mg_of X G a_l_pool,
    F_l_pool := fun_mk (st := s_l_pool) l_l_pool c_l_pool k_l_pool,
    g_l_draw := PySem.W.mg_of X G a_l_draw,
    F_l_draw := fun_mk (st := s_l_draw) l_l_draw c_l_draw k_l_draw,
    g_l_windows := PySem.W.mg_of X G a_l_windows,
    F_l_windows := fun_mk (st := s_l_windows) l_l_windows c_l_windows k_l_windows,
    g_l_refused := PySem.W.mg_of X G a_l_refused,
    F_l_refused := fun_mk (st := s_l_refused) l_l_refused c_l_refused k_l_refused,
    g_law := PySem.W.mg_of X G a_law,
    F_law := fun_mk (st := s_law) l_law c_law k_law,
    c_MOST_HOUR := ⟨_, PySem.W.mg_of X G gc_MOST_HOUR⟩,
    c_MOST_WORKS := ⟨_, PySem.W.mg_of X G gc_MOST_WORKS⟩,
    n_abs := PySem.W.mg_none_of X G z_abs,
    n_all := PySem.W.mg_none_of X G z_all,
    n_bool := PySem.W.mg_none_of X G z_bool,
    n_enumerate := PySem.W.mg_none_of X G z_enumerate,
    n_int := PySem.W.mg_none_of X G z_int,
    n_isinstance := PySem.W.mg_none_of X G z_isinstance,
    n_len := PySem.W.mg_none_of X G z_len,
    n_max := PySem.W.mg_none_of X G z_max,
    n_min := PySem.W.mg_none_of X G z_min,
    n_range := PySem.W.mg_none_of X G z_range,
    n_sum := PySem.W.mg_none_of X G z_sum,
    n_tuple := PySem.W.mg_none_of X G z_tuple }
  exact ⟨PySem.W.fnOf "law" "law" (defArgs s_law) (defBody s_law) (defScope s_law) .none kV_law dc_law pm_law an_law cd_law ct_law, fun s v => .of_eq rfl, fun base _ _ => ok_law T⟩
theorem walk {l : PySem.W.OpenLaw} {q : Program} {loose : List Str} {XP : (Str → Option Value) → Heap → Prop} {YP : World → Heap → Prop} {d : DefRec} {K : Params → PySem.W.Frag} (hn : l.most = some 63) (hdf : d.params.defaults = [])
    (hY : ∀ (w : World) (h : Heap), YP w h → (K w.params).In h)
    (F : ∀ (w : World) (mg : Str → Option Value) (fa : Addr) (h : Heap), (K w.params).In h → h.Ns mainGlobals mg → mg d.name = some (.ref fa) →
      ∃ fd : FuncData, (∀ (s : Shared) (u : Value), BindsTo s fd ⟨[u], []⟩ [("_law_script", u)]) ∧ ∀ base : Heap, (K w.params).In base → base.Ns mainGlobals mg → FnOk l.prog w (K w.params) mg base CX0 6 fa fd ["_law_script"] (sp_law (K w.params) ⟨fun _ => 0, fun _ => 0⟩)) :
    PySem.W.WalkO q loose XP YP l.row.toRowW d [] (fun f vs => PySem.call f vs) :=
  L2.walk_of (n := 63) (k := 6) (x := "_law_script") (CX := fun _ => CX0) (sp := fun w => sp_law (K w.params) ⟨fun _ => 0, fun _ => 0⟩) hn (by decide) hdf ⟨rfl, by decide, by decide⟩ hY F (fun _ _ a ns hl _ hS => ⟨a, ns, rfl, hS, hl, fun _ => rfl⟩) fun _ _ _ _ _ z => z
end My
open PySem PySem.W PyProof.Rows
set_option maxRecDepth 100000 in
set_option maxHeartbeats 0 in
theorem PySem.Challenge.cw_bymiddles_k03_whole_middles_and_windows_holds : PySem.Challenge.rw_bymiddles_k03_whole_middles_and_windows.Holds := by
  w_on; o_law; k_head; (case hw => w_witness2)
  k_fill
  refine My.walk (l := PySem.Challenge.rw_bymiddles_k03_whole_middles_and_windows) rfl rfl (fun w h Y => PySem.W.kIn_of Y) ?F
  case F =>
    intro w mg fa h KX G hmg
    refine' My.all_mk KX G hmg ?aC_BadBook ?xL_BadBook ?sa_BadBook ?kC_BadBook ?eC_BadBook ?tC_BadBook ?hC_BadBook ?sC_BadBook ?aC_NoWork ?xL_NoWork ?sa_NoWork ?kC_NoWork ?eC_NoWork ?tC_NoWork ?hC_NoWork ?sC_NoWork ?aC_Book ?pg_Book ?hd_Book ?po_Book ?sa_Book ?mk_Book ?kc_Book ?na_windows ?a_BadBook_init ?t_BadBook_init ?l_BadBook_init ?c_BadBook_init ?k_BadBook_init ?a_NoWork_init ?t_NoWork_init ?l_NoWork_init ?c_NoWork_init ?k_NoWork_init ?a_is_integer ?l_is_integer ?c_is_integer ?k_is_integer ?a_is_pair ?l_is_pair ?c_is_pair ?k_is_pair ?a_Book_init ?i_Book_init ?l_Book_init ?c_Book_init ?k_Book_init ?a_is_windows ?l_is_windows ?c_is_windows ?k_is_windows ?a_is_window ?l_is_window ?c_is_window ?k_is_window ?a_is_work ?l_is_work ?c_is_work ?k_is_work ?a_middle ?l_middle ?c_middle ?k_middle ?a_is_inside ?l_is_inside ?c_is_inside ?k_is_inside ?a_within ?l_within ?c_within ?k_within ?a_l_pool ?l_l_pool ?c_l_pool ?k_l_pool ?a_l_draw ?l_l_draw ?c_l_draw ?k_l_draw ?a_l_windows ?l_l_windows ?c_l_windows ?k_l_windows ?a_l_refused ?l_l_refused ?c_l_refused ?k_l_refused ?a_law ?l_law ?c_law ?k_law ?gc_MOST_HOUR ?gc_MOST_WORKS ?z_abs ?z_all ?z_bool ?z_enumerate ?z_int ?z_isinstance ?z_len ?z_max ?z_min ?z_range ?z_sum ?z_tuple
    (case aC_BadBook => k_is)
    (case xL_BadBook => k_is)
    (case sa_BadBook => k_is)
    (case kC_BadBook => k_is)
    (case eC_BadBook => k_is)
    (case tC_BadBook => k_is)
    (case hC_BadBook => k_is)
    (case sC_BadBook => first | rfl | k_is)
    (case aC_NoWork => k_is)
    (case xL_NoWork => k_is)
    (case sa_NoWork => k_is)
    (case kC_NoWork => k_is)
    (case eC_NoWork => k_is)
    (case tC_NoWork => k_is)
    (case hC_NoWork => k_is)
    (case sC_NoWork => first | rfl | k_is)
    (case aC_Book => k_is)
    (case pg_Book => k_is)
    (case hd_Book => k_is)
    (case po_Book => k_is)
    (case sa_Book => k_is)
    (case mk_Book => k_is)
    (case kc_Book => k_is)
    (case na_windows => k_is)
    (case a_BadBook_init => k_is)
    (case t_BadBook_init => k_is)
    (case l_BadBook_init => k_is)
    (case c_BadBook_init => k_is)
    (case k_BadBook_init => k_is)
    (case a_NoWork_init => k_is)
    (case t_NoWork_init => k_is)
    (case l_NoWork_init => k_is)
    (case c_NoWork_init => k_is)
    (case k_NoWork_init => k_is)
    (case a_is_integer => k_is)
    (case l_is_integer => k_is)
    (case c_is_integer => k_is)
    (case k_is_integer => k_is)
    (case a_is_pair => k_is)
    (case l_is_pair => k_is)
    (case c_is_pair => k_is)
    (case k_is_pair => k_is)
    (case a_Book_init => k_is)
    (case i_Book_init => k_is)
    (case l_Book_init => k_is)
    (case c_Book_init => k_is)
    (case k_Book_init => k_is)
    (case a_is_windows => k_is)
    (case l_is_windows => k_is)
    (case c_is_windows => k_is)
    (case k_is_windows => k_is)
    (case a_is_window => k_is)
    (case l_is_window => k_is)
    (case c_is_window => k_is)
    (case k_is_window => k_is)
    (case a_is_work => k_is)
    (case l_is_work => k_is)
    (case c_is_work => k_is)
    (case k_is_work => k_is)
    (case a_middle => k_is)
    (case l_middle => k_is)
    (case c_middle => k_is)
    (case k_middle => k_is)
    (case a_is_inside => k_is)
    (case l_is_inside => k_is)
    (case c_is_inside => k_is)
    (case k_is_inside => k_is)
    (case a_within => k_is)
    (case l_within => k_is)
    (case c_within => k_is)
    (case k_within => k_is)
    (case a_l_pool => k_is)
    (case l_l_pool => k_is)
    (case c_l_pool => k_is)
    (case k_l_pool => k_is)
    (case a_l_draw => k_is)
    (case l_l_draw => k_is)
    (case c_l_draw => k_is)
    (case k_l_draw => k_is)
    (case a_l_windows => k_is)
    (case l_l_windows => k_is)
    (case c_l_windows => k_is)
    (case k_l_windows => k_is)
    (case a_l_refused => k_is)
    (case l_l_refused => k_is)
    (case c_l_refused => k_is)
    (case k_l_refused => k_is)
    (case a_law => k_is)
    (case l_law => k_is)
    (case c_law => k_is)
    (case k_law => k_is)
    (case gc_MOST_HOUR => k_is)
    (case gc_MOST_WORKS => k_is)
    (case z_abs => k_is)
    (case z_all => k_is)
    (case z_bool => k_is)
    (case z_enumerate => k_is)
    (case z_int => k_is)
    (case z_isinstance => k_is)
    (case z_len => k_is)
    (case z_max => k_is)
    (case z_min => k_is)
    (case z_range => k_is)
    (case z_sum => k_is)
    (case z_tuple => k_is)
