import PyProof.Rows.All
import Wide.All
import OpenK.AllK
import Wide.FinOn
import HandS.ForMost
import HandS.Defaults
import HandS.IsInst
import HandS.Walk
import HandS.Lambda
import HandS.EndTab
import HandS.Evl
import HandS.More
import HandS.MakeKw
import HandS.MakeKwOnly
import HandS.Text
import HandS.Deep
import HandS.Style
import HandS.Star
import HandS.Zip
import HandS.Conv
import HandS.Sort
import HandS.OwnEq
import HandS.FStr
import KE.KCallOwn
import KE.GoesMore
import PyProof.EnumMake
import HandS.Dict
import HandS.Codes
import PySem.Challenge.RW_blocksearch_k12_rows_alike
set_option Elab.async false
set_option linter.all false
set_option maxRecDepth 100000
/-! words of my own: the drawn pool, heaps that grow beside it, small facts -/
namespace My
open PySem PySem.Spec PyProof.Rows L2 Evl

/-- the pool at p: three ints, at most c draws mixed so far -/
def Pl (H : Hp) (p : Addr) (c : Nat) : Prop := ∃ (g b : Int) (k : Nat), H p = some (.lst [.int g, .int b, .int (k : Int)]) ∧ 0 ≤ g ∧ 0 ≤ b ∧ b < 281474976710656 ∧ k ≤ c
/-- all but p stays -/
def Fx (p : Addr) (H H' : Hp) : Prop := ∀ a o, a ≠ p → H a = some o → H' a = some o
theorem Fx.refl (p : Addr) (H : Hp) : Fx p H H := fun _ _ _ h => h
theorem Fx.trans {p : Addr} {H H1 H2 : Hp} (a : Fx p H H1) (b : Fx p H1 H2) : Fx p H H2 := fun x o n h => b x o n (a x o n h)
theorem Fx.ex {p : Addr} {H H' : Hp} (e : Ex H H') : Fx p H H' := fun a o _ h => e a o h
theorem Fx.upd {p : Addr} {H : Hp} {o : HO} : Fx p H (L2.upd H p o) := fun a u n h => by
  rw [upd_ne n]
  exact h
theorem Pl.mono {H : Hp} {p : Addr} {c c' : Nat} (h : Pl H p c) (l : c ≤ c') : Pl H p c' := by
  obtain ⟨g, b, k, h1, h2, h3, h4, h5⟩ := h
  exact ⟨g, b, k, h1, h2, h3, h4, Nat.le_trans h5 l⟩
theorem Pl.ex {H H' : Hp} {p : Addr} {c : Nat} (h : Pl H p c) (e : Ex H H') : Pl H' p c := by
  obtain ⟨g, b, k, h1, h2⟩ := h
  exact ⟨g, b, k, e _ _ h1, h2⟩
theorem Pl.some {H : Hp} {p : Addr} {c : Nat} (h : Pl H p c) : ∃ xs, H p = some (.lst xs) := by
  obtain ⟨g, b, k, h1, _⟩ := h
  exact ⟨_, h1⟩
/-- what is free behind was free ahead -/
theorem fx_free {p a : Addr} {H H' : Hp} {c : Nat} (f : Fx p H H') (h : Pl H' p c) (e : H' a = none) : H a = none := by
  cases q : H a with
  | none => rfl
  | some o =>
    have n : a ≠ p := fun z => by
      obtain ⟨xs, hx⟩ := h.some
      rw [z, hx] at e
      cases e
    rw [f a o n q] at e
    cases e
/-- a tuple is not the pool -/
theorem Fx.tup {p a : Addr} {H H' : Hp} {xs : List V} {c : Nat} (f : Fx p H H') (hp : Pl H p c) (h : H a = some (.tup xs)) : H' a = some (.tup xs) := by
  obtain ⟨ys, hy⟩ := hp.some
  exact f a _ (ne_of h hy (by intro z; cases z)) h
theorem Fx.sqt {K : PySem.W.Frag} {p a : Addr} {H H' : Hp} {xs : List V} {c : Nat} (f : Fx p H H') (hp : Pl H p c) (h : SqT K H a xs) : SqT K H' a xs := by
  obtain ⟨ys, hy⟩ := hp.some
  rcases h with (h | ⟨o, h⟩) | h
  · exact .inl (.inl (f a _ (ne_of h hy (by intro z; cases z)) h))
  · exact .inl (.inr ⟨o, f a _ (ne_of h hy (by intro z; cases z)) h⟩)
  · exact .inr h
theorem Fx.lst {p a : Addr} {H H' : Hp} {xs : List V} (f : Fx p H H') (n : a ≠ p) (h : H a = some (.lst xs)) : H' a = some (.lst xs) := f a _ n h
theorem ex_upd {H : Hp} {p : Addr} {o : HO} (h : H p = none) : Ex H (L2.upd H p o) := Ex.new h
theorem ret_v {v : V} {H : Hp} {Q : VK} (q : RetV v H Q) : Q v H := q H (Ex.refl H)
theorem sz {n : Nat} (h : n ≤ 100000) : n ≤ sizeLine := sz_of h
theorem natAbs_lt {z : Int} {n : Nat} (h0 : 0 ≤ z) (h : z < (n : Int)) : z.natAbs < n := by omega
/-- a * b ≤ A * B -/
theorem mul_le {a b A B : Int} (h0 : 0 ≤ a) (h1 : a ≤ A) (h2 : 0 ≤ b) (h3 : b ≤ B) : a * b ≤ A * B := Int.mul_le_mul h1 h3 h2 (Int.le_trans h0 h1)
theorem mul_nn {a b : Int} (h0 : 0 ≤ a) (h1 : 0 ≤ b) : 0 ≤ a * b := Int.mul_nonneg h0 h1
/-! the rules with the written part said, for blocks of comprehensions -/
section
variable {X : Cx} {K : PySem.W.Frag}
theorem lenK (h : X.K = K) : CallR X (.builtin "len") (rLenS K) := by subst h; exact call_len_seq
theorem listK (h : X.K = K) : CallR X (.type "list") (rListS K) := by subst h; exact call_list_of
def rTupS (K : PySem.W.Frag) : List V → Hp → VK → Prop := fun xs H Q => ∃ p ys, xs = [.ref p] ∧ ((SqL K H p ys ∧ ∀ l, H l = none → Q (.ref l) (L2.upd H l (.tup ys))) ∨ (SqT K H p ys ∧ Q (.ref p) H))
theorem tupK (h : X.K = K) : CallR X (.type "tuple") (rTupS K) := by subst h; exact call_tuple_of
theorem ixLK (h : X.K = K) : IxR X (rIxL K) := by subst h; exact ix_list
theorem ixTK (h : X.K = K) : IxR X (rIxT K) := by subst h; exact ix_tup
theorem slLK (h : X.K = K) : SlR X (rSlL K) := by subst h; exact sl_list
theorem slTK (h : X.K = K) : SlR X (rSlT K) := by subst h; exact sl_tup
theorem catTK (h : X.K = K) : OpR X (binaryOp .Add) (rCatT K) := by subst h; exact op_catT
theorem inK (h : X.K = K) : OpR X (compareOp .In) (rIn K false) := by subst h; exact op_in_seq
theorem notInK (h : X.K = K) : OpR X (compareOp .NotIn) (rIn K true) := by subst h; exact op_notIn_seq
theorem isiK (h : X.K = K) : CallR X (.builtin "isinstance") (rIsi K) := by subst h; exact call_isi
theorem isiTK (h : X.K = K) : CallR X (.builtin "isinstance") (rIsiT K) := by subst h; exact call_isiT
theorem allK (h : X.K = K) (hc : X.calm = true) : CallR X (.builtin "all") (rAll K) := by subst h; exact cr_all hc
theorem anyK (h : X.K = K) (hc : X.calm = true) : CallR X (.builtin "any") (rAny K) := by subst h; exact cr_any hc
theorem sumK (h : X.K = K) (hc : X.calm = true) : CallR X (.builtin "sum") (rSum K) := by subst h; exact cr_sum hc
theorem maxK (h : X.K = K) (hc : X.calm = true) : CallR X (.builtin "max") (rMax K) := by subst h; exact cr_max hc
theorem minK (h : X.K = K) (hc : X.calm = true) : CallR X (.builtin "min") (rMin K) := by subst h; exact cr_min hc
theorem fldK {e : Expr} {f : Str} {pos : Pos} {ta : TE} (h : X.K = K) (he : PE X e ta) (hb : attributeBase e f X.env (eval e X.env) = eval e X.env) : PE X (.Attribute e f pos) (tFld K ta f) := by subst h; exact pe_fld he hb
theorem tupGK {es : List Expr} {k : Nat} {t : TGs} {n : Nat} {pos : Pos} (h : X.K = K) (hc : X.calm = true) (hg : PGs X es t) (hn : (assignEach es X.env).length = n := by rfl) (hst : (assignEach es X.env).findIdx? (·.1) = none := by rfl) : PG X (.Tuple es k pos) (gTup K n t) := by subst h; exact pg_tup hc hg hn hst
theorem eqDK (h : X.K = K) (hu : X.A.units + 64 < cLine) : OpR X (compareOp .Eq) (rEqD K) := by subst h; exact op_eqD hu
theorem neDK (h : X.K = K) (hu : X.A.units + 64 < cLine) : OpR X (compareOp .NotEq) (rNeD K) := by subst h; exact op_neD hu
theorem indexK (h : X.K = K) : MtR X "list.index" (rIndex K) := by subst h; exact mt_index
theorem piOr {tg e : Expr} {w1 w2 : TI} (h1 : PI X tg e w1) (h2 : PI X tg e w2) : PI X tg e (fun σ H R => w1 σ H R ∨ w2 σ H R) := ⟨fun pins s σ H R I h => h.elim (fun h => h1.run pins s σ H R I h) (fun h => h2.run pins s σ H R I h)⟩
theorem piLK {tg l : Expr} {tl : TE} (h : X.K = K) (hl : PE X l tl) : PI X tg l (iList K tl) := by subst h; exact pi_list hl
theorem piTK {tg l : Expr} {tl : TE} (h : X.K = K) (hl : PE X l tl) : PI X tg l (iTup K tl) := by subst h; exact pi_tup hl
end
end My
/-! enumerate over a tuple -/
namespace EnT
open PySem PySem.Spec PyProof.Rows L2
open AutoSeq1 (wpAny_loadPart')
abbrev tIt (t : Addr) : Obj := { cls := .type "tuple_iterator", data := .fields #[.ref t, .int 0 0] }
abbrev eIt (it : Addr) : Obj := { cls := .type "enumerate", data := .fields #[.none, .bool false, .ref it, rawInt 0, .none, .none] }
set_option maxHeartbeats 2000000 in
theorem newT (t : Addr) (items : Array Value) (n : Nat) (dct : Option Addr) (sl : Array (Option Value)) :
    Meets (Builtin.«enumerate.__new__» ⟨[.type "enumerate", .ref t], []⟩) (fun _ R s => s.heap.get? t = some { cls := .type "tuple", dict := dct, data := .seq items n, slots := sl } ∧ R (.ok (.ret (.ref (s.heap.push (tIt t)).objs.size))) { s with heap := (s.heap.push (tIt t)).push (eIt s.heap.objs.size) }) :=
  .of_wp fun prog w A R s z => by
    obtain ⟨hp, g, d, tk, os⟩ := s
    obtain ⟨ht, z⟩ := z
    have hS := sub_enumerate
    have hT : Heap.IsTuple (Shared.heap ⟨hp, g, d, tk, os⟩) t items := ⟨_, ht, rfl, n, rfl⟩
    wp_walk using wpAny_loadPart' ht
    refine wpAny_stack_any (fun _ => wpAny_pure ?_)
    split
    · rename_i cc _ _ _ _ _; cases (cc == Value.type "enumerate") <;> (wp_walk using wpAny_loadPart' ht, wpAny_pyIter_tuple hT; exact ⟨_, rfl, z⟩)
    · wp_walk using wpAny_loadPart' ht, wpAny_pyIter_tuple hT; exact ⟨_, rfl, z⟩
theorem callT {prog : Program} {w : World} {A : Around} {E : Value → Shared → Prop} {s : Shared} {t : Addr} {items : Array Value} {Q : Value → Shared → Prop} (hT : s.heap.IsTuple t items)
    (k : ∀ h', IsEnum h' (s.heap.objs.size + 1) s.heap.objs.size 0 .none → h'.IsTupleIter s.heap.objs.size t 0 → h'.objs.size = s.heap.objs.size + 2 → (∀ b o, s.heap.get? b = some o → h'.get? b = some o) → Q (.ref (s.heap.objs.size + 1)) { s with heap := h' }) :
    wpAny (model prog w) A (call (.type "enumerate") [.ref t]) Q E s := by
  obtain ⟨⟨c, dct, dt, sl⟩, ht, c1, n, d1⟩ := hT
  simp only at c1 d1
  subst c1 d1
  refine callType_new F.called_enumerate (by decide) (F.typeCall_enumerate_1 _) (F.newCall_enumerate_1 _) (fun ob => F.args_object_init_2 ob _) F.entry_enumerate_new (newT t items n dct sl) ⟨ht, ?_⟩
  have z : (s.heap.push (tIt t)).objs.size = s.heap.objs.size + 1 := Heap.size_push ..
  show _ ∧ _
  rw [z]
  have e1 : IsEnum ((s.heap.push (tIt t)).push (eIt s.heap.objs.size)) (s.heap.objs.size + 1) s.heap.objs.size 0 .none := by
    have e0 := Heap.get?_push_size (s.heap.push (tIt t)) (o := eIt s.heap.objs.size) rfl
    rw [z] at e0
    exact e0
  exact ⟨⟨_, e1, rfl⟩, k _ e1 ⟨_, Heap.get?_push_of_some _ (Heap.get?_push_size _ rfl), rfl, rfl⟩ (by rw [Heap.size_push, z]) (fun b o x => Heap.get?_push_of_some _ (Heap.get?_push_of_some _ x))⟩
/-- the tuple at a, each item in a new pair -/
def IteT (K : PySem.W.Frag) (a : Addr) : It :=
  ⟨fun i H => ∃ (xs : List V) (x : V), SqT K H a xs ∧ xs[i]? = some x, fun i H v H' => ∃ T x, v = .ref T ∧ H T = none ∧ H' = upd H T (.tup [.int (i : Nat), x]) ∧ ∀ xs, SqT K H a xs → xs[i]? = some x, fun i H => ∃ xs : List V, SqT K H a xs ∧ xs.length ≤ i ∧ i ≤ xs.length⟩
set_option maxHeartbeats 2000000 in
theorem turnT {P : Program} {w : World} {K : PySem.W.Frag} {elts : List Expr} {kk : Nat} {tpos : Pos} (a e it : Addr) (na : a ≠ it) (nea : e ≠ a) :
    Turn P w K (.Tuple elts kk tpos) (IteT K a) [e, it] e (fun i h => (∃ old, IsEnum h e it ((i : Nat) : Int) old) ∧ h.IsTupleIter it a i ∧ e ≠ it) where
  mem := by simp
  obj := fun i h st b hb => by
    obtain ⟨⟨old, he⟩, ⟨o, ho, hc, hd⟩, _⟩ := st
    have z : b = e ∨ b = it := by simpa using hb
    rcases z with rfl | rfl
    · exact ⟨_, he, fun v q => nomatch q⟩
    · exact ⟨o, ho, fun v q => by rw [hd] at q; cases q⟩
  keep := fun i h h' st k => by
    obtain ⟨⟨old, he⟩, hi, ne⟩ := st
    exact ⟨⟨old, k e (by simp) _ he⟩, hi.at (fun o q => k it (by simp) o q), ne⟩
  item := by
    intro X hP hw hK hc i pins s σ H E I hf st hg
    subst hP; subst hw; subst hK
    obtain ⟨⟨old, he⟩, hit, hne⟩ := st
    obtain ⟨xs, x, hq, hx⟩ := hg
    obtain ⟨its, rv, pt, hz⟩ := I.tuple hq
    obtain ⟨u, hu, ru⟩ := rv.get hx
    have l1 : e < s.heap.objs.size := Heap.lt_size he
    have l2 : it < s.heap.objs.size := by obtain ⟨_, q, _⟩ := hit; exact Heap.lt_size q
    have il : i < its.toArray.size := by rw [List.size_toArray]; exact (List.getElem?_eq_some_iff.mp hu).1
    refine wpAny_pyNext_enum_itemD (Draws.tuple (A := X.A.in1) (prog := X.prog) (w := X.w) (show X.A.in1.handled = none from I.ok.hd hc) it a na its.toArray) he ⟨hit, pt⟩ il hne (by simp [hne, nea]) fun v h' tk hv ho hst hT hsz hk => ?_
    have ev : v = u := by
      have : its[i]? = some v := by simpa using hv
      rw [hu] at this
      exact (Option.some.inj this).symm
    subst ev
    refine ⟨_, rfl, wpAny_letOwnedTupleGo_enum (s := { s with heap := h', toks := tk + 1 }) ho fun h2 he2 sb => ?_⟩
    have hT2 : h2.get? s.heap.objs.size = some { cls := .type "tuple", data := .seq #[.int i tk, v] } := (sb.2 _ (Nat.ne_of_gt l1)).trans hT
    have nw : ObjOk X.prog X.w (upd H s.heap.objs.size (.tup [.int (i : Nat), x])) h2 s.heap.objs.size (.tup [.int (i : Nat), x]) := ⟨by show 2 ≤ sizeLine; decide, [.int i tk, v], .cons ⟨_, rfl⟩ (.cons ru .nil), ⟨_, hT2, rfl, _, rfl⟩⟩
    have I1 : Inv X pins σ (upd H s.heap.objs.size (.tup [.int (i : Nat), x])) { s with heap := h2, toks := tk + 1 } := I.turnedNew (ch := [e, it]) (fun b ob hb q => (sb.2 b (fun z => hb (by simp [z]))).trans (hk b ob (fun z => hb (by simp [z])) (fun z => hb (by simp [z])) q)) hf (Nat.le_refl _) nw
    refine ⟨.ref s.heap.objs.size, _, I1, rfl, ⟨_, x, rfl, I.hok.fresh (Nat.le_refl _), rfl, fun ys hy => by rw [I.tuple_inj hy hq]; exact hx⟩, ⟨⟨v, ?_⟩, hst.1.at (fun o q => (sb.2 it (Ne.symm hne)).trans q), hne⟩, fun b hb => ?_⟩
    · rw [show ((i + 1 : Nat) : Int) = (i : Int) + 1 by omega]; exact he2
    · have z : b = e ∨ b = it := by simpa using hb
      have lb : b < s.heap.objs.size := by rcases z with rfl | rfl <;> assumption
      rw [upd_ne (Nat.ne_of_lt lb)]; exact (hf b hb).1
  done := by
    intro X hP hw hK hc i pins s σ H E I hf st hg
    subst hP; subst hw; subst hK
    obtain ⟨⟨old, he⟩, hit, hne⟩ := st
    obtain ⟨xs, hq, h1, h2⟩ := hg
    obtain ⟨its, rv, pt, hz⟩ := I.tuple hq
    obtain ⟨f0, f1, f2, f3, f4, f5⟩ := hf it (by simp)
    have hl := rv.length
    have ei : i = its.toArray.size := by rw [List.size_toArray]; omega
    subst ei
    exact wpAny_pyNext_enum_endD (Draws.tuple (A := X.A.in1) (prog := X.prog) (w := X.w) (show X.A.in1.handled = none from I.ok.hd hc) it a na its.toArray) he ⟨hit, pt⟩ fun h' eb => ⟨rfl, I.turned (t' := s.toks) (fun b o hb q => eb b o hb q) f0 f1 f3 f4 f5⟩
  self := fun A i s Q E st h => wpAny_pyIter_enum st.1.choose_spec h
def iEnumT (K : PySem.W.Frag) (ta : TA) : TI := fun σ H R => ta σ H fun vs H1 => ∃ a xs, vs = [.ref a] ∧ SqT K H1 a xs ∧ R (IteT K a) H1
set_option maxHeartbeats 2000000 in
theorem pi_enumT {X : Cx} {K : PySem.W.Frag} {e : Expr} {ta : TA} {p pos tpos : Pos} {elts : List Expr} {kk : Nat} (hX : X.K = K) (hg : Gl X "enumerate") (hm : X.mg "enumerate" = none) (ha : PA X [e] ta) (hs : starEach [e] X.env = [(false, eval e X.env)] := by rfl) :
    PI X (.Tuple elts kk tpos) (.Call (.Name "enumerate" p) [e] [] pos) (iEnumT K ta) := by
  subst hX
  refine ⟨fun pins s σ H R I h => Call_ (ld_blt I hg hm boot_enumerate (PyProof.Rows.callWith_type1 (thn (ha.run pos pins s σ H _ I h) fun us s1 ⟨vs, H1, I1, r1, q1⟩ => ?_) hs rfl))⟩
  obtain ⟨a, xs, ex, hq, q⟩ := q1
  subst ex
  cases r1 with
  | cons r rr =>
    cases rr
    cases r
    obtain ⟨its, rv, pt, hz⟩ := I1.tuple hq
    have la : a < s1.heap.objs.size := by obtain ⟨o, ho, _⟩ := pt; exact Heap.lt_size ho
    refine callT pt fun h' he hit hsz hk => wpAny_pyIter_enum he ?_
    have I2 : Inv X pins σ H1 { s1 with heap := h' } := I1.kept (t' := s1.toks) hk
    refine ⟨s1.heap.objs.size + 1, [s1.heap.objs.size + 1, s1.heap.objs.size], _, _, H1, rfl, I2, turnT a (s1.heap.objs.size + 1) s1.heap.objs.size (Nat.ne_of_lt la) (Nat.ne_of_gt (Nat.lt_succ_of_lt la)), ⟨⟨.none, he⟩, hit, Nat.succ_ne_self _⟩, fun b hb => ?_, q⟩
    have z : b = s1.heap.objs.size + 1 ∨ b = s1.heap.objs.size := by simpa using hb
    have lb : s1.heap.objs.size ≤ b := by
      rcases z with z | z
      · rw [z]; exact Nat.le_succ _
      · rw [z]; exact Nat.le_refl _
    exact I1.fpOk lb (I1.hok.fresh lb)
theorem walkT {K : PySem.W.Frag} {a : Addr} {xs : List V} : Walk (IteT K a) xs.length (fun H => SqT K H a xs) (YPair (fun i => some (.int (i : Nat))) (fun i => xs[i]?)) := by
  refine ⟨fun i _ hi q => ⟨xs, xs[i], q, by simp [hi]⟩, fun _ q => ⟨xs, q, Nat.le_refl _, Nat.le_refl _⟩, fun i H v H' _ q y => ?_⟩
  obtain ⟨T, x, h1, h2, h3, h4⟩ := y
  exact ⟨T, .int (i : Nat), x, h1, h2, h3, rfl, h4 xs q⟩
end EnT
/-! len(range(n)); xs[:] = ys -/
namespace RgV
open PySem PySem.Spec PyProof.Rows L2
variable {X : Cx}
theorem cr_range1 : CallR X (.type "range") (fun vs H Q => ∃ j, vs = [V.int j] ∧ ∀ p, H p = none → Q (.ref p) (upd H p (.rng 0 j))) := by
  intro pins s σ H vs us Q I r h
  obtain ⟨j, rfl, q⟩ := h
  cases r with
  | cons rj rn =>
    cases rn
    obtain ⟨t, rfl⟩ := rj
    refine call_range_1 ⟨.ref s.heap.objs.size, upd H s.heap.objs.size (.rng 0 j), I.laid (t' := s.toks + 1 + 1) (fun b o z => Heap.get?_push_of_some _ z) (Nat.le_refl _) ?_, rfl, q _ (I.hok.fresh (Nat.le_refl _))⟩
    exact ⟨s.toks, t, s.toks + 1, Heap.get?_push_size _ rfl⟩
theorem cr_lenR : CallR X (.builtin "len") (fun vs H Q => ∃ (a : Addr) (hi : Int), vs = [V.ref a] ∧ H a = some (.rng 0 hi) ∧ 0 ≤ hi ∧ hi < 4611686018427387904 ∧ Q (.int hi) H) := by
  intro pins s σ H vs us Q I r h
  obtain ⟨a, hi, rfl, ha, h0, h1, q⟩ := h
  rw [Vals.ref1 r]
  obtain ⟨t, u, v, ho⟩ := I.hok a _ ha
  obtain ⟨n, rfl⟩ := Int.eq_ofNat_of_zero_le h0
  refine call_len_range (n := n) (show IsRange s.heap a 0 n 1 t u v from ho) ?_ (by omega) ⟨.int n, H, I.tok _, ⟨_, rfl⟩, q⟩
  rw [rangeSize_one]
  split <;> omega
end RgV
namespace SlA
open PySem PySem.Spec PyProof.Rows L2
section
variable {prog : Program} {w : World} {A : Around} {E : Value → Shared → Prop} {s : Shared}
theorem bounds_all (n : Nat) : sliceBounds none none none n = ((0 : Int), (n : Int), 1) := by
  simp [sliceBounds]
set_option maxRecDepth 100000 in
set_option maxHeartbeats 4000000 in
theorem store_all {l b sl : Addr} {old new : Array Value} {n n2 : Nat} {Q : Unit → Shared → Prop}
    (e : s.heap.get? l = some { cls := .type "list", data := .seq old n }) (e2 : s.heap.get? b = some { cls := .type "list", data := .seq new n2 }) (ne : l ≠ b) (hs : s.heap.IsSliceOf sl .none .none .none)
    (sz : old.size + new.size ≤ sizeLine) (h : Q () { s with heap := s.heap.update l (Obj.mapSeq fun xs => xs.extract 0 0 ++ new ++ xs.extract old.size xs.size) }) :
    wpAny (model prog w) A (setItem (.ref l) (.ref sl) (.ref b)) Q E s := by
  have kl : s.heap.IsList l old := PySem.IsL.isList e
  have kb : s.heap.IsList b new := PySem.IsL.isList e2
  obtain ⟨os, g1, g2, g3⟩ := id hs
  have ty : s.TypeIs (.ref sl) "slice" := ⟨os, g1, g2⟩
  have st : ¬ ((rawPart none == rawInt 0) = true) := Bool.false_ne_true
  have nosame : Builtin.List.listSameRef (.ref l) (.ref b) = false := by
    unfold Builtin.List.listSameRef
    exact beq_eq_false_iff_ne.mpr ne
  have mx : (max (0 : Int) (old.size : Int)).toNat = old.size := by omega
  have z2 : ((fun xs : Array Value => xs.extract 0 0 ++ new ++ xs.extract old.size xs.size) old).size ≤ sizeLine + 1 := by
    simp only [Array.size_append, Array.size_extract]
    omega
  unfold setItem
  try with_reducible refine wpAny_holding ?_
  first | refine wpAny_bind (wpAny_pure ?_) | skip
  refine wpAny_bind (wpAny_sequenceKey kl.typeIs (by decide) ?_)
  refine wpAny_bind (wpAny_callSpecial?_slot (name := Str.ofString "__setitem__") kl.typeIs slot_list_setitem (wpAny_call_entry slot_list_setitem kl.typeIs entry_list_setitem ?_ (args_list_setitem _ _ _)))
  show wpAny _ _ (Builtin.List.listSubscript? (.ref sl) >>= _) _ _ s
  refine wpAny_bind ?_
  unfold Builtin.List.listSubscript?
  refine wpAny_bind (wpAny_specialOf ty slice_no_index ?_)
  simp only [Option.isNone_none, if_true]
  refine wpAny_pure ?_
  show wpAny _ _ (typeOf (.ref sl) >>= _) _ _ s
  refine wpAny_bind (wpAny_typeOf ty ?_)
  first
    | rw [if_neg (by decide)]
    | refine PySem.W.KFB.if_not (by decide) ?_
  rw [listSliceParts_eq]
  refine wpAny_bind (wpAny_bind (wpAny_field g1 g3 (x := .none) rfl (wpAny_bind (wpAny_listPart .none ?_))))
  rw [if_neg st]
  refine wpAny_bind (wpAny_field g1 g3 (x := .none) rfl (wpAny_bind (wpAny_listPart .none ?_)))
  refine wpAny_bind (wpAny_field g1 g3 (x := .none) rfl (wpAny_bind (wpAny_listPart .none (wpAny_pure ?_))))
  first
    | simp only [nosame, Bool.false_eq_true, if_false]
    | refine PySem.W.KFB.if_not nosame ?_
    | (dsimp only
       rw [if_neg (by rw [nosame]; exact Bool.false_ne_true)])
  refine wpAny_bind (m := Builtin.List.listAllItems (.ref b) "must assign iterable to extended slice") ?_
  unfold Builtin.List.listAllItems
  refine wpAny_bind (wpAny_typeOf kb.typeIs ?_)
  first
    | refine PySem.W.KFB.if_so (by decide) ?_
    | rw [if_pos (by decide)]
    | simp only [beq_self_eq_true, Bool.true_or, if_true]
  unfold Builtin.List.listItems
  refine wpAny_bind (wpAny_seqItems e2 rfl (wpAny_pure ?_))
  refine wpAny_bind (wpAny_bind (wpAny_seqItems e rfl (wpAny_pure ?_)))
  refine wpAny_bind (wpAny_of_eq ((sliceIndices_raw none none none old.size (by simp)).trans (congrArg (pure : Int × Int × Int → Sem (Int × Int × Int)) (bounds_all old.size))) ?_)
  show wpAny _ _ (if ((1 : Int) == 1) = true then _ else _) _ _ s
  rw [if_pos (by decide)]
  refine wpAny_bind (wpAny_rule ?_)
  first
    | simp only [notLongL sz, Bool.false_eq_true, if_false]
    | refine PySem.W.KFB.if_not (notLongL sz) ?_
  first | refine wpAny_bind (wpAny_pure ?_) | skip
  show wpAny _ _ (updateSeq l (fun xs => xs.extract 0 ((0 : Int)).toNat ++ new ++ xs.extract (max (0 : Int) (old.size : Int)).toNat xs.size) >>= _) _ _ s
  rw [mx]
  refine wpAny_bind (wpAny_updateSeq (hz := Nat.le_trans (Nat.le_add_right _ _) sz) (_hz' := z2) e rfl ?_)
  refine wpAny_bind (wpAny_letGo ?_)
  first
    | exact wpAny_bind (wpAny_pure (wpAny_pure ⟨.none, rfl, wpAny_pure h⟩))
    | exact wpAny_pure ⟨.none, rfl, wpAny_pure h⟩
end
section
variable {X : Cx}
def gAll (to : TE) : TG := fun v σ H Q => to σ H fun x H1 => ∃ (l b : Addr) (xs ys : List V), x = .ref l ∧ v = .ref b ∧ H1 l = some (.lst xs) ∧ H1 b = some (.lst ys) ∧ l ≠ b ∧ xs.length + ys.length ≤ sizeLine ∧ Q σ (upd H1 l (.lst ys))
set_option maxHeartbeats 4000000 in
theorem pg_all {o : Expr} {to : TE} {p2 pos : Pos} (ho : PE X o to)
    (ha : ∀ v, assign (.Subscript o (.Slice none none none p2) pos) X.env v = (do
      let ov ← holding [v] (eval o X.env)
      let iv ← holding [v, ov] (eval (.Slice none none none p2) X.env)
      standAt pos
      holding [v, ov, iv] (setItem ov iv v)
      release [iv, v, ov] []) := by intro _; rfl) : PG X (.Subscript o (.Slice none none none p2) pos) (gAll to) := by
  refine ⟨fun pins s σ H v u Q I r h => ?_⟩
  rw [ha]
  refine wpAny_bind (wpAny_holding (thn (ho.run pins s σ H _ I h) fun ov s1 ⟨x, H1, I1, r1, l, b, xs, ys, e1, e2, hl, hb, ne, sz, q⟩ => ?_))
  subst e1
  subst e2
  obtain rfl : ov = Value.ref l := r1
  obtain rfl : u = Value.ref b := r
  refine wpAny_bind (wpAny_holding (wpAny_Slice ?_))
  rw [evalPart_none]
  refine wpAny_pure (wpAny_pure (wpAny_pure ?_))
  have I4 : Inv X pins σ H1 { s1 with heap := s1.heap.push { cls := .type "slice", data := .fields #[.none, .none, .none] } } := I1.kept (t' := s1.toks) fun b ob z => Heap.get?_push_of_some _ z
  obtain ⟨zl, its, n, rv, kl, el⟩ := I4.lstM hl
  obtain ⟨zb, its2, n2, rv2, kb, eb⟩ := I4.lstM hb
  refine wpAny_bind (wpAny_standAt (wpAny_bind (wpAny_holding ?_)))
  refine store_all el eb ne (Heap.IsSliceOf.new ..) (by rw [List.size_toArray, List.size_toArray]; omega) ?_
  refine wpAny_release ⟨σ, _, ?_, q⟩
  refine I4.lset (its' := its2) (t' := s1.toks) hl el ?_ rv2 (by omega)
  rw [List.size_toArray]
  simp
end
end SlA
/-! ==, !=, len, str, repr of an instance of the program's own class, by its own def -/
namespace Own
open PySem PySem.Spec PyProof.Rows L2
section
variable {X : Cx} {K : PySem.W.Frag} {pins : List (Addr × Obj)} {s : Shared} {σ : L2.St} {H : Hp} {CX : CXT} {C f : Addr} {fd : FuncData} {ps : List Str} {sp : Sp} {E : XK} {n : Nat}
/-- the def at f is run on us, somewhere below the running body -/
theorem run_own {A : Around} {vs : List V} {us : List Value} {Q : VK} (F : FnOk X.prog X.w X.K X.mg X.base CX n f fd ps sp) (hb : Binds X.K fd ps []) (hx : Passes CX X E) (sb : Sub X n A) (I : Inv X pins σ H s) (r : Vals vs us) (h : sp vs H Q E) :
    wpAny (model X.prog X.w) A (call (.ref f) us) (EP X pins σ Q) X.xe s := by
  have e0 : Env0 X.prog X.w X.K X.mg X.base A X.stack s H := by
    have e := I.env0
    exact ⟨by rw [sb.fr]; exact e.frames, e.mod, e.bs, e.bsz, e.funs, e.frf, e.hok, e.bare⟩
  have hl := F.len _ _ _ _ h
  have hl2 := r.length
  refine wpAny_call (codeAny_mono (F.run A X.stack s H ⟨us, []⟩ us vs _ E sb.room e0 (by
    have z := hb s us I.kIn (by simp; omega)
    simpa using z) r h) fun q s' hq => ?_)
  cases q with
  | error e => exact hx pins σ H s e s' I hq
  | ok fl =>
    cases fl with
    | ret w => exact I.after hq
    | next => exact False.elim hq
    | brk => exact False.elim hq
    | cont => exact False.elim hq
/-- len(o) -/
def rLenO (C : Addr) (sp : Sp) (E : XK) : List V → Hp → VK → Prop := fun xs H Q => ∃ a dx fs, xs = [.ref a] ∧ H a = some (.ins C dx fs) ∧ sp [.ref a] H (fun v H' => ∃ i : Int, v = .int i ∧ (0 ≤ i ∧ i < 2 ^ 63) ∧ Q (.int i) H') E
theorem cr_lenO (F : FnOk X.prog X.w X.K X.mg X.base CX n f fd ps sp) (m : Meth X.K C "__len__" f) (hb : Binds X.K fd ps []) (hx : Passes CX X E) (hr : Room (n + 1) X.A) : CallR X (.builtin "len") (rLenO C sp E) := by
  intro pins s σ H xs us Q I r h
  obtain ⟨a, dx, fs, rfl, ha, h⟩ := h
  cases r with
  | cons r1 rr =>
    cases rr
    cases r1
    obtain ⟨mA, J, _⟩ := ins_get I.hok ha
    obtain ⟨od, J, _⟩ := J.look
    obtain ⟨mm, hF⟩ := I.fr
    refine PySem.W.len_K hF I.ok.mod.kin J m.at_ m.fn (wpAny_mono (run_own F hb hx ⟨hr.in1, rfl⟩ I (vs := [.ref a]) (.cons rfl .nil) h) (fun v s' q => ?_) fun _ _ z => z)
    obtain ⟨z, H', I', rz, i, rfl, hi, q⟩ := q
    obtain ⟨t, rfl⟩ := rz
    exact ⟨hi, .int i, H', I'.tok _, ⟨_, rfl⟩, q⟩
/-- repr(o), str(o) -/
def rStrO (C : Addr) (sp : Sp) (E : XK) : List V → Hp → VK → Prop := fun xs H Q => ∃ a dx fs, xs = [.ref a] ∧ H a = some (.ins C dx fs) ∧ sp [.ref a] H (fun v H' => ∃ z : Str, v = .str z ∧ Q (.str z) H') E
theorem cr_reprO (F : FnOk X.prog X.w X.K X.mg X.base CX n f fd ps sp) (m : Meth X.K C "__repr__" f) (hb : Binds X.K fd ps []) (hx : Passes CX X E) (hr : Room (n + 1) X.A) : CallR X (.builtin "repr") (rStrO C sp E) := by
  intro pins s σ H xs us Q I r h
  obtain ⟨a, dx, fs, rfl, ha, h⟩ := h
  cases r with
  | cons r1 rr =>
    cases rr
    cases r1
    obtain ⟨mA, J, _⟩ := ins_get I.hok ha
    obtain ⟨od, J, _⟩ := J.look
    obtain ⟨mm, hF⟩ := I.fr
    refine PySem.W.repr_K hr.in1.units0 hF I.ok.mod.kin J m.at_ m.fn (wpAny_mono (run_own F hb hx ⟨hr.in1, rfl⟩ I (vs := [.ref a]) (.cons rfl .nil) h) (fun v s' q => ?_) fun _ _ z => z)
    obtain ⟨z, H', I', rz, y, rfl, q⟩ := q
    obtain ⟨t, rfl⟩ := rz
    exact ⟨.str y, H', I', ⟨_, rfl⟩, q⟩
theorem cr_strO (F : FnOk X.prog X.w X.K X.mg X.base CX n f fd ps sp) (m : Meth X.K C "__str__" f) (hb : Binds X.K fd ps []) (hx : Passes CX X E) (hr : Room (n + 2) X.A) : CallR X (.type "str") (rStrO C sp E) := by
  intro pins s σ H xs us Q I r h
  obtain ⟨a, dx, fs, rfl, ha, h⟩ := h
  cases r with
  | cons r1 rr =>
    cases rr
    cases r1
    obtain ⟨mA, J, _⟩ := ins_get I.hok ha
    obtain ⟨od, J, _⟩ := J.look
    refine PySem.W.kso_call hr.in1.in1.units0 I.kIn J m.at_ m.fn (wpAny_mono (run_own F hb hx ⟨hr.in1.in1, rfl⟩ I (vs := [.ref a]) (.cons rfl .nil) h) (fun v s' q => ?_) fun _ _ z => z)
    obtain ⟨z, H', I', rz, y, rfl, q⟩ := q
    obtain ⟨t, rfl⟩ := rz
    exact ⟨.str y, H', I', ⟨_, rfl⟩, q⟩
/-- x == y by x's own def: y is an instance of the same class, or of a type that doesn't go first -/
def OthK (K : PySem.W.Frag) (C : Addr) (H : Hp) (y : V) : Prop := (∃ b dy gs, y = .ref b ∧ H b = some (.ins C dy gs)) ∨ ∃ T, TyX K H y (.type T) ∧ PySem.W.notFirst K C (.type T) = true
def rEqO (K : PySem.W.Frag) (C : Addr) (sp : Sp) (E : XK) : R2 := fun x y H Q => ∃ a dx fs, x = .ref a ∧ H a = some (.ins C dx fs) ∧ OthK K C H y ∧ sp [x, y] H (fun v H' => ∃ b : Bool, v = .bl b ∧ Q (.bl b) H') E
theorem oth_looks {y : V} {u : Value} (I : Inv X pins σ H s) (ry : RelV y u) (h : OthK X.K C H y) : ∃ tb, PySem.W.Looks (model X.prog X.w) s.heap (typeOf u) tb ∧ PySem.W.notFirst X.K C tb = true := by
  rcases h with ⟨b, dy, gs, rfl, hb⟩ | ⟨T, ty, nf⟩
  · cases ry
    obtain ⟨mB, J, _⟩ := ins_get I.hok hb
    obtain ⟨od, J, _⟩ := J.look
    exact ⟨_, J.type, by simp [PySem.W.notFirst]⟩
  · obtain ⟨P, Z, p, _⟩ := kit_of I ry ty
    exact ⟨_, Z.ty _ _ I.kIn p, nf⟩
theorem op_eqO (F : FnOk X.prog X.w X.K X.mg X.base CX n f fd ps sp) (m : Meth X.K C "__eq__" f) (hb : Binds X.K fd ps []) (hx : Passes CX X E) (hr : Room n X.A) (hK : X.K = K) : OpR X (compareOp .Eq) (rEqO K C sp E) := by
  subst hK
  intro pins s σ H x y v u Q I rx ry h
  obtain ⟨a, dx, fs, rfl, ha, ho, h⟩ := h
  cases rx
  obtain ⟨mA, J, _⟩ := ins_get I.hok ha
  obtain ⟨od, J, _⟩ := J.look
  obtain ⟨mm, hF⟩ := I.fr
  obtain ⟨tb, ht, hn⟩ := oth_looks I ry ho
  show wpAny (model X.prog X.w) X.A (richCompare .Eq (.ref a) u) (EP X pins σ Q) X.xe s
  refine PySem.W.cmp_K (op := .Eq) hr.units0 hF I.ok.mod.kin J ht hn m.at_ m.fn (wpAny_mono (run_own F hb hx ⟨hr, rfl⟩ I (vs := [.ref a, y]) (.cons rfl (.cons ry .nil)) h) (fun v s' q => ?_) fun _ _ z => z)
  obtain ⟨z, H', I', rz, b, rfl, q⟩ := q
  cases rz
  exact ⟨.bl b, H', I', rfl, q⟩
section
variable {M : Model} {prog : Program} {w : World} {A : Around} {E : Value → Shared → Prop} {s : Shared} {x : Addr} {ox : Obj} {od : Option Obj}
theorem ifBound_ne {args : List Value} {Q : Option Value → Shared → Prop} (Z : K.In s.heap) (I : PySem.W.InstAt s.heap x ox C od) (hs : PySem.W.findIn K (.ref C) "__ne__" = some (some (.builtin "object.__ne__")))
    (h : wpAny M A (call (.builtin "object.__ne__") (.ref x :: args)) (fun v => Q (some v)) E s) : wpAny M A (callSpecialIfBound? (.ref x) "__ne__" args) Q E s := by
  have fin : wpAny M A (call (.builtin "object.__ne__") ([.ref x] ++ args) >>= fun v => pure (some v)) Q E s := wpAny_bind (wpAny_mono h (fun v s' z => wpAny_pure z) fun _ _ z => z)
  simp only [callSpecialIfBound?, bindSpecialIfBound?]
  refine wpAny_holding (wpAny_bind (wpAny_bind (wpAny_bind (I.type.here ((PySem.W.looks_findIn Z hs).here (wpAny_bind (wpAny_askSetting (wpAny_ite ?_))))))))
  split
  · exact wpAny_bind (wpAny_of_eq (F.cmp_object.ne.bind _) (wpAny_pure fin))
  · exact wpAny_tryCatch (wpAny_bind (wpAny_of_eq (F.cmp_object.ne.bind _) (wpAny_pure fin)))
theorem call_ne {u : Value} {f : Addr} {Q : Value → Shared → Prop} (hu : A.in1.units < cLine) (Z : K.In s.heap) (I : PySem.W.InstAt s.heap x ox C od) (hm : PySem.W.mroIn K C (.type "object") = some true) (hs : PySem.W.findIn K (.ref C) "__eq__" = some (some (.ref f))) (hf : PySem.W.isFn K (.ref f) = true)
    (h : wpAny (model prog w) A.in1 (call (.ref f) [.ref x, u]) (fun v s' => ∃ b, v = .bool b ∧ Q (.bool (!b)) s') E s) : wpAny (model prog w) A (call (.builtin "object.__ne__") [.ref x, u]) Q E s := by
  refine wpAny_call (codeAny_call_builtin F.cmp_object.ne.plain F.cmpEntry_ne (PySem.W.check_slot F.cmpKind_ne F.cmpSplit_ne (I.type.andThen (PySem.W.looks_mroIn Z hm)) (F.cmpArgs_ne _ _) ?_))
  unfold Builtin.«object.__ne__»
  refine wpAny_bind (m := slotArgs "__ne__" 1 _) (wpAny_pure ?_)
  refine wpAny_bind (wpAny_cRoomFor hu ?_)
  refine wpAny_bind (m := callSpecialIfBound? (.ref x) (Str.ofString "__eq__") _) (PySem.W.ifBound_K Z I hs hf (wpAny_mono h (fun v s' z => ?_) fun _ _ z => z))
  obtain ⟨b, rfl, q⟩ := z
  exact wpAny_bind (wpAny_truthy_bool (wpAny_pure q))
end
/-- x != y by x's own == -/
def rNeO (K : PySem.W.Frag) (C : Addr) (sp : Sp) (E : XK) : R2 := fun x y H Q => ∃ a dx fs, x = .ref a ∧ H a = some (.ins C dx fs) ∧ OthK K C H y ∧ sp [x, y] H (fun v H' => ∃ b : Bool, v = .bl b ∧ Q (.bl (!b)) H') E
theorem op_neO (F : FnOk X.prog X.w X.K X.mg X.base CX n f fd ps sp) (m : Meth X.K C "__eq__" f) (hb : Binds X.K fd ps []) (hx : Passes CX X E) (hr : Room (n + 1) X.A) (hne : PySem.W.findIn X.K (.ref C) "__ne__" = some (some (.builtin "object.__ne__"))) (hm : PySem.W.mroIn X.K C (.type "object") = some true) (hK : X.K = K) : OpR X (compareOp .NotEq) (rNeO K C sp E) := by
  subst hK
  intro pins s σ H x y v u Q I rx ry h
  obtain ⟨a, dx, fs, rfl, ha, ho, h⟩ := h
  cases rx
  obtain ⟨mA, J, _⟩ := ins_get I.hok ha
  obtain ⟨od, J, _⟩ := J.look
  obtain ⟨tb, ht, hn⟩ := oth_looks I ry ho
  have one : wpAny (model X.prog X.w) X.A (tryCompare (.ref a) "__ne__" u) (fun r s' => ∃ v, r = some v ∧ EP X pins σ Q v s') X.xe s := by
    unfold tryCompare
    refine wpAny_bind (ifBound_ne I.kIn J hne (call_ne hr.in1.units0 I.kIn J hm m.at_ m.fn (wpAny_mono (run_own F hb hx ⟨hr.in1, rfl⟩ I (vs := [.ref a, y]) (.cons rfl (.cons ry .nil)) h) (fun v s' q => ?_) fun _ _ z => z)))
    obtain ⟨z, H', I', rz, b, rfl, q⟩ := q
    cases rz
    exact ⟨b, rfl, wpAny_pure ⟨_, rfl, .bl (!b), H', I', rfl, q⟩⟩
  show wpAny (model X.prog X.w) X.A (richCompare .NotEq (.ref a) u) (EP X pins σ Q) X.xe s
  unfold richCompare
  simp only [oneThing_ref]
  refine wpAny_holding (wpAny_bind (wpAny_cRoomFor hr.units0 (wpAny_bind (J.type.here (wpAny_bind (ht.here ?_))))))
  split
  · rename_i q
    have e : PySem.W.subIn X.K tb (.ref C) = some false := by
      rcases Bool.or_eq_true_iff.mp hn with e | e
      · rw [beq_iff_eq.mp e] at q; simp at q
      · exact beq_iff_eq.mp e
    refine wpAny_bind ((PySem.W.looks_subIn I.kIn e).here ?_)
    simp only [Bool.false_eq_true, if_false]
    refine wpAny_bind (wpAny_mono one (fun r s' z => ?_) fun _ _ e => e)
    obtain ⟨v, rfl, hq⟩ := z
    exact wpAny_pure hq
  · refine wpAny_bind (wpAny_pure ?_)
    simp only [Bool.false_eq_true, if_false]
    refine wpAny_bind (wpAny_mono one (fun r s' z => ?_) fun _ _ e => e)
    obtain ⟨v, rfl, hq⟩ := z
    exact wpAny_pure hq
/-- a built-in type doesn't go first -/
theorem nf {T : String} {ts : List Value} (e : fastBuiltinMro T = some ts) (h : ts.all (fun t => match t with | .type _ => true | _ => false) = true) : PySem.W.notFirst K C (.type T) = true := by
  have z : PySem.W.subIn K (.type T) (.ref C) = some false := by
    show (fastBuiltinMro T).map (·.contains (.ref C)) = some false
    rw [e]
    refine congrArg some (Bool.eq_false_iff.mpr fun q => ?_)
    have := List.all_eq_true.mp h _ (List.contains_iff_mem.mp q)
    exact absurd this (by simp)
  unfold PySem.W.notFirst
  rw [z]
  simp
end
end Own
/-! x in a list, list == list: items with a == of their own, any answer, that keeps all objects -/
namespace OwnS
open PySem PySem.Spec PyProof.Rows L2
open AutoSeq1 (wpAny_loadPart')
open MeetsSeq MeetsSeq2 MeetsSeq3 SeqRoads2
/-- all of e from i on, k of them -/
def al (e : Nat → Bool) : Nat → Nat → Bool
  | _, 0 => true
  | i, k + 1 => e i && al e (i + 1) k
def an (e : Nat → Bool) : Nat → Nat → Bool
  | _, 0 => false
  | i, k + 1 => e i || an e (i + 1) k
section
variable {prog : Program} {w : World} {A : Around} {R : Result → Shared → Prop}
def ListB (prog : Program) (w : World) (A : Around) (E : Value → Shared → Prop) (l b : Addr) (N : Nat) (e : Nat → Bool) (I : Shared → Prop) : Prop :=
  ∀ s, I s → ∃ (items items2 : Array Value) (n n2 : Nat), s.heap.get? l = some { cls := .type "list", data := .seq items n } ∧ s.heap.get? b = some { cls := .type "list", data := .seq items2 n2 } ∧ items.size = N ∧ items2.size = N ∧
    ∀ i (h1 : i < items.size) (h2 : i < items2.size), wpAny (model prog w) A.in1 (eqBool items[i] items2[i]) (fun r s' => r = e i ∧ I s') E s
theorem eq_loopB (l b : Addr) (N : Nat) (e : Nat → Bool) (I : Shared → Prop) (hl : ListB prog w A (fun e s' => R (.error e) s') l b N e I) (k : Nat) :
    ∀ i : Nat, N - i = k → i ≤ N → (∀ s, I s → R (.ok (.ret (.bool (al e i k)))) s) → ∀ s, I s →
      wpAny (model prog w) A.in1 (Builtin.«list.__eq__.loop» ⟨[.ref l, .ref b, rawInt i, rawInt 2], []⟩) (GQ.FinOf prog w A R) (fun e s' => R (.error e) s') s := by
  induction k with
  | zero =>
    intro i hk hi fin s h
    obtain ⟨items, items2, n, n2, hl1, hb1, hs1, hs2, _⟩ := hl _ h
    have hi' : i = N := by omega
    have hR : R (.ok (.ret (.bool true))) s := fin s h
    obtain ⟨hp, g, d, tk, os⟩ := s
    wp_walk using wpAny_loadPart' hl1, wpAny_loadPart' hb1
    have hi1 : items[((i : Nat) : Int).toNat]? = none := by simp; omega
    have hi2 : items2[((i : Nat) : Int).toNat]? = none := by simp; omega
    rw [hi1, hi2]
    wp_walk using wpAny_loadPart' hl1, wpAny_loadPart' hb1
    show R (.ok (.ret (.bool (items.size == items2.size)))) _
    rw [hs1, hs2]
    simpa using hR
  | succ k ih =>
    intro i hk hi fin s h
    obtain ⟨items, items2, n, n2, hl1, hb1, hs1, hs2, turn⟩ := hl _ h
    have hlt : i < items.size := by omega
    have hlt2 : i < items2.size := by omega
    have ht := turn i hlt hlt2
    obtain ⟨hp, g, d, tk, os⟩ := s
    wp_walk using wpAny_loadPart' hl1, wpAny_loadPart' hb1
    have hi1 : items[((i : Nat) : Int).toNat]? = some items[i] := by simp [hlt]
    have hi2 : items2[((i : Nat) : Int).toNat]? = some items2[i] := by simp [hlt2]
    have hc : ((i : Int) + 1) = ((i + 1 : Nat) : Int) := by omega
    rw [hi1, hi2]
    refine wpAny_bind (wpAny_mono ht (fun r s2 h2 => ?_) fun _ _ x => x)
    obtain ⟨hr, h2⟩ := h2
    subst hr
    cases he : e i with
    | true =>
      have hrec := ih (i + 1) (by omega) (by omega) (fun s hs => by have := fin s hs; rwa [al, he, Bool.true_and] at this) s2 h2
      obtain ⟨hp2, g2, d2, tk2, os2⟩ := s2
      wp_walk
      rw [hc]
      exact ⟨plainId_quiet plain_eq_loop _, codeAny_builtin entry_eq_loop (by
        rw [Around.under_plainId plain_eq_loop _]
        exact hrec)⟩
    | false =>
      have hR := fin s2 h2
      rw [al, he, Bool.false_and] at hR
      obtain ⟨itemsB, items2B, nB, n2B, hl1B, hb1B, hs1B, hs2B, _⟩ := hl _ h2
      obtain ⟨hp2, g2, d2, tk2, os2⟩ := s2
      wp_walk using wpAny_loadPart' hl1B, wpAny_loadPart' hb1B
      have hi1B : itemsB[((i : Nat) : Int).toNat]? = some (itemsB[i]'(by omega)) := by simp
      have hi2B : items2B[((i : Nat) : Int).toNat]? = some (items2B[i]'(by omega)) := by simp
      rw [hi1B, hi2B]
      wp_walk
      exact hR
theorem list_eqB (l b : Addr) (N : Nat) (e : Nat → Bool) (I : Shared → Prop) (hl : ListB prog w A (fun e s' => R (.error e) s') l b N e I)
    (fin : ∀ s, I s → R (.ok (.ret (.bool (al e 0 N)))) s) {s : Shared} (h : I s) :
    wpAny (model prog w) A.in1 (Builtin.«list.__eq__» ⟨[.ref l, .ref b], []⟩) (GQ.FinOf prog w A R) (fun e s' => R (.error e) s') s := by
  obtain ⟨items, items2, n, n2, hl1, hb1, hs1, hs2, _⟩ := hl _ h
  have hrec := eq_loopB (A := A) (R := R) l b N e I hl N 0 (by omega) (Nat.zero_le _) fin s h
  obtain ⟨hp, g, d, tk, os⟩ := s
  have f3 := AutoSeq1.sub_list_list
  have hne : ¬ (items.size != items2.size) = true := by simp [hs1, hs2]
  wp_walk using wpAny_loadPart' hl1, wpAny_loadPart' hb1
  exact ⟨plainId_quiet plain_eq_loop _, codeAny_builtin entry_eq_loop (by
    rw [Around.under_plainId plain_eq_loop _]
    exact hrec)⟩
/-- x is sought in the list -/
def SeekB (prog : Program) (w : World) (A : Around) (E : Value → Shared → Prop) (l : Addr) (x : Value) (N : Nat) (e : Nat → Bool) (I : Shared → Prop) : Prop :=
  ∀ s, I s → ∃ (items : Array Value) (n : Nat), s.heap.get? l = some { cls := .type "list", data := .seq items n } ∧ items.size = N ∧
    ∀ i (h1 : i < items.size), wpAny (model prog w) A.in1 (eqBool items[i] x) (fun r s' => r = e i ∧ I s') E s
theorem in_loopB (l : Addr) (x : Value) (N : Nat) (e : Nat → Bool) (I : Shared → Prop) (hl : SeekB prog w A (fun e s' => R (.error e) s') l x N e I) (k : Nat) :
    ∀ i : Nat, N - i = k → i ≤ N → (∀ s, I s → R (.ok (.ret (.bool (an e i k)))) s) → ∀ s, I s →
      wpAny (model prog w) A.in1 (Builtin.«list.__contains__.loop» ⟨[.ref l, x, rawInt i], []⟩) (GQ.FinOf prog w A R) (fun e s' => R (.error e) s') s := by
  induction k with
  | zero =>
    intro i hk hi fin s h
    obtain ⟨items, n, hl1, hs1, _⟩ := hl _ h
    have hR : R (.ok (.ret (.bool false))) s := fin s h
    obtain ⟨hp, g, d, tk, os⟩ := s
    wp_walk using wpAny_loadPart' hl1
    have hi1 : items[((i : Nat) : Int).toNat]? = none := by simp; omega
    rw [hi1]
    wp_walk
    exact hR
  | succ k ih =>
    intro i hk hi fin s h
    obtain ⟨items, n, hl1, hs1, turn⟩ := hl _ h
    have hlt : i < items.size := by omega
    have ht := turn i hlt
    obtain ⟨hp, g, d, tk, os⟩ := s
    wp_walk using wpAny_loadPart' hl1
    have hi1 : items[((i : Nat) : Int).toNat]? = some items[i] := by simp [hlt]
    have hc : ((i : Int) + 1) = ((i + 1 : Nat) : Int) := by omega
    rw [hi1]
    refine wpAny_bind (wpAny_mono ht (fun r s2 h2 => ?_) fun _ _ x => x)
    obtain ⟨hr, h2⟩ := h2
    subst hr
    cases he : e i with
    | false =>
      have hrec := ih (i + 1) (by omega) (by omega) (fun s hs => by have := fin s hs; rwa [an, he, Bool.false_or] at this) s2 h2
      obtain ⟨hp2, g2, d2, tk2, os2⟩ := s2
      wp_walk
      rw [hc]
      exact ⟨plainId_quiet plain_contains_loop _, codeAny_builtin entry_contains_loop (by
        rw [Around.under_plainId plain_contains_loop _]
        exact hrec)⟩
    | true =>
      have hR := fin s2 h2
      rw [an, he, Bool.true_or] at hR
      obtain ⟨hp2, g2, d2, tk2, os2⟩ := s2
      wp_walk
      exact hR
theorem list_inB (l : Addr) (x : Value) (N : Nat) (e : Nat → Bool) (I : Shared → Prop) (hl : SeekB prog w A (fun e s' => R (.error e) s') l x N e I)
    (fin : ∀ s, I s → R (.ok (.ret (.bool (an e 0 N)))) s) {s : Shared} (h : I s) :
    wpAny (model prog w) A.in1 (Builtin.«list.__contains__» ⟨[.ref l, x], []⟩) (GQ.FinOf prog w A R) (fun e s' => R (.error e) s') s := by
  obtain ⟨items, n, hl1, hs1, _⟩ := hl _ h
  have hrec := in_loopB (A := A) (R := R) l x N e I hl N 0 (by omega) (Nat.zero_le _) fin s h
  obtain ⟨hp, g, d, tk, os⟩ := s
  wp_walk using wpAny_loadPart' hl1
  exact ⟨plainId_quiet plain_contains_loop _, codeAny_builtin entry_contains_loop (by
    rw [Around.under_plainId plain_contains_loop _]
    exact hrec)⟩
end
section
variable {prog : Program} {w : World} {A : Around} {E : Value → Shared → Prop} {s : Shared}
theorem rc_listB {l b : Addr} {N : Nat} {e : Nat → Bool} {Q : Value → Shared → Prop} (hu : A.units < cLine) (I : Shared → Prop) (hl : ListB prog w A E l b N e I)
    (fin : ∀ s, I s → Q (.bool (al e 0 N)) s) (h : I s) : wpAny (model prog w) A (richCompare .Eq (.ref l) (.ref b)) Q E s := by
  obtain ⟨items, items2, n, n2, hl1, hb1, _, _, _⟩ := hl _ h
  refine wpAny_richCompare_same_room (op := .Eq) ⟨_, hl1, rfl⟩ ⟨_, hb1, rfl⟩ F.slot_list_eq (GQ.call_here F.slot_list_eq ⟨_, hl1, rfl⟩ F.entry_list_eq (F.args_list_eq_2 _ _) ?_) hu
  exact list_eqB (R := wants (fun v s' => v ≠ .notImplemented ∧ Q v s') E) l b N e I hl (fun s' q => ⟨(fun x => nomatch x), fin s' q⟩) h
theorem in_listB {l : Addr} {x : Value} {N : Nat} {e : Nat → Bool} {Q : Value → Shared → Prop} (I : Shared → Prop) (hl : SeekB prog w A E l x N e I)
    (fin : ∀ s, I s → Q (.bool (an e 0 N)) s) (h : I s) : wpAny (model prog w) A (compareOp .In x (.ref l)) Q E s := by
  obtain ⟨items, n, hl1, _, _⟩ := hl _ h
  show wpAny _ A (do return .bool (← contains (.ref l) x)) Q E s
  refine wpAny_bind (wpAny_contains_slot ⟨_, hl1, rfl⟩ F.slot_list_contains (wpAny_mono (GQ.call_here (Q := fun v s' => ∃ b, v = .bool b ∧ Q (.bool b) s') F.slot_list_contains ⟨_, hl1, rfl⟩ F.entry_list_contains (F.args_list_contains_2 _ _) ?_) (fun v s' hv => ?_) fun _ _ e => e))
  · exact list_inB (R := wants (fun v s' => ∃ b, v = .bool b ∧ Q (.bool b) s') E) l x N e I hl (fun s' q => ⟨_, rfl, fin s' q⟩) h
  · obtain ⟨b, rfl, hq⟩ := hv
    exact wpAny_truthy_bool (wpAny_pure hq)
end
section
variable {X : Cx} {K : PySem.W.Frag} {CX : CXT} {C f : Addr} {fd : FuncData} {ps : List Str} {E : XK} {n : Nat} {R : Addr → Addr → Bool → Hp → Prop}
/-- what the own == promises: the answer that R tells, all objects kept; the same object is equal to itself -/
def spB (R : Addr → Addr → Bool → Hp → Prop) : Sp := fun vs H Q _ => ∃ a b r, vs = [.ref a, .ref b] ∧ R a b r H ∧ Q (.bl r) H
/-- two instances, and the answer -/
def DB (C : Addr) (R : Addr → Addr → Bool → Hp → Prop) (H : Hp) (x y : V) (r : Bool) : Prop := ∃ a b dx dy fs gs, x = .ref a ∧ y = .ref b ∧ H a = some (.ins C dx fs) ∧ H b = some (.ins C dy gs) ∧ R a b r H ∧ (a = b → r = true)
theorem eqB {pins : List (Addr × Obj)} {σ : L2.St} {H : Hp} {s : Shared} {A : Around} {x y : V} {u v : Value} {r : Bool} {sp : Sp} (hsp : ∀ a b r Q E, R a b r H → Q (.bl r) H → sp [.ref a, .ref b] H Q E) (F : FnOk X.prog X.w X.K X.mg X.base CX n f fd ps sp) (m : Meth X.K C "__eq__" f) (hb : Binds X.K fd ps []) (hx : Passes CX X E) (sb : Sub X n A)
    (I : Inv X pins σ H s) (rx : RelV x u) (ry : RelV y v) (d : DB C R H x y r) : wpAny (model X.prog X.w) A (eqBool u v) (fun z s' => z = r ∧ Inv X pins σ H s') X.xe s := by
  obtain ⟨a, b, dx, dy, fs, gs, rfl, rfl, ha, hb', hr, hs⟩ := d
  cases rx
  cases ry
  by_cases hab : a = b
  · subst hab
    exact SeqAt.EqAt.same (A := A) (s := s) (.ref a) X.prog X.w X.xe _ ⟨(hs rfl).symm, I⟩
  · obtain ⟨mA, J, _⟩ := ins_get I.hok ha
    obtain ⟨mB, J', _⟩ := ins_get I.hok hb'
    obtain ⟨od, J, _⟩ := J.look
    obtain ⟨od', J', _⟩ := J'.look
    obtain ⟨mm, hF⟩ := I.fr
    refine GQ.eqBool_refG hab ?_
    refine PySem.W.cmp_K (op := .Eq) (tb := .ref C) sb.room.units0 hF I.ok.mod.kin J J'.type (by simp [PySem.W.notFirst]) m.at_ m.fn (wpAny_mono (Own.run_own (Q := fun z H' => z = .bl r ∧ H' = H) F hb hx sb I (vs := [.ref a, .ref b]) (.cons rfl (.cons rfl .nil)) (hsp a b r _ E hr ⟨rfl, rfl⟩)) (fun v s' q => ?_) fun _ _ z => z)
    obtain ⟨z, H', I', rz, rfl, rfl⟩ := q
    cases rz
    exact ⟨r, rfl, rfl, I'⟩
/-- [x, ..] == [y, ..] -/
def rEqB (C : Addr) (R : Addr → Addr → Bool → Hp → Prop) : R2 := fun x y H Q => ∃ (a b : Addr) (xs ys : List V) (e : Nat → Bool), x = .ref a ∧ y = .ref b ∧ H a = some (.lst xs) ∧ H b = some (.lst ys) ∧ xs.length = ys.length ∧ (∀ (i : Nat) p q, xs[i]? = some p → ys[i]? = some q → DB C R H p q (e i)) ∧ Q (.bl (al e 0 xs.length)) H
def rInB (C : Addr) (R : Addr → Addr → Bool → Hp → Prop) : R2 := fun x y H Q => ∃ (b : Addr) (ys : List V) (e : Nat → Bool), y = .ref b ∧ H b = some (.lst ys) ∧ (∀ (i : Nat) q, ys[i]? = some q → DB C R H q x (e i)) ∧ Q (.bl (an e 0 ys.length)) H
theorem op_eqB {sp : Sp} (hsp : ∀ H a b r Q E, R a b r H → Q (.bl r) H → sp [.ref a, .ref b] H Q E) (F : FnOk X.prog X.w X.K X.mg X.base CX n f fd ps sp) (m : Meth X.K C "__eq__" f) (hb : Binds X.K fd ps []) (hx : Passes CX X E) (hr : Room (n + 1) X.A) : OpR X (compareOp .Eq) (rEqB C R) := by
  intro pins s σ H x y v u Q I rx ry h
  obtain ⟨a, b, xs, ys, e, rfl, rfl, ha, hb', hl, hd, q⟩ := h
  cases rx
  cases ry
  show wpAny (model X.prog X.w) X.A (richCompare .Eq (.ref a) (.ref b)) (EP X pins σ Q) X.xe s
  refine rc_listB (N := xs.length) (e := e) hr.units0 (fun s' => Inv X pins σ H s') (fun s' I' => ?_) (fun s' I' => ⟨.bl _, H, I', rfl, q⟩) I
  obtain ⟨z, its, k, r, h1⟩ := I'.hok a _ ha
  obtain ⟨z2, its2, k2, r2, h2⟩ := I'.hok b _ hb'
  refine ⟨its.toArray, its2.toArray, k, k2, h1, h2, by rw [List.size_toArray, ← r.length], by rw [List.size_toArray, ← r2.length, ← hl], fun i l1 l2 => ?_⟩
  have g1 : its[i]? = some its.toArray[i] := by
    have h1' : i < its.length := by simpa using l1
    rw [List.getElem?_eq_getElem h1'] <;> simp
  have g2 : its2[i]? = some its2.toArray[i] := by
    have h2' : i < its2.length := by simpa using l2
    rw [List.getElem?_eq_getElem h2'] <;> simp
  have k1 : i < xs.length := by rw [r.length]; simpa using l1
  have k2 : i < ys.length := by rw [r2.length]; simpa using l2
  obtain ⟨u, hu, ru⟩ := r.get (List.getElem?_eq_getElem k1)
  obtain ⟨v, hv, rv⟩ := r2.get (List.getElem?_eq_getElem k2)
  rw [g1] at hu
  rw [g2] at hv
  rw [Option.some.inj hu, Option.some.inj hv]
  exact eqB (hsp H) F m hb hx ⟨hr.in1, rfl⟩ I' ru rv (hd i _ _ (List.getElem?_eq_getElem k1) (List.getElem?_eq_getElem k2))
theorem op_inB {sp : Sp} (hsp : ∀ H a b r Q E, R a b r H → Q (.bl r) H → sp [.ref a, .ref b] H Q E) (F : FnOk X.prog X.w X.K X.mg X.base CX n f fd ps sp) (m : Meth X.K C "__eq__" f) (hb : Binds X.K fd ps []) (hx : Passes CX X E) (hr : Room (n + 1) X.A) : OpR X (compareOp .In) (rInB C R) := by
  intro pins s σ H x y v u Q I rx ry h
  obtain ⟨b, ys, e, rfl, hb', hd, q⟩ := h
  cases ry
  refine in_listB (N := ys.length) (e := e) (fun s' => Inv X pins σ H s') (fun s' I' => ?_) (fun s' I' => ⟨.bl _, H, I', rfl, q⟩) I
  obtain ⟨z2, its2, k2, r2, h2⟩ := I'.hok b _ hb'
  refine ⟨its2.toArray, k2, h2, by rw [List.size_toArray, ← r2.length], fun i l2 => ?_⟩
  have g2 : its2[i]? = some its2.toArray[i] := by
    have h2' : i < its2.length := by simpa using l2
    rw [List.getElem?_eq_getElem h2'] <;> simp
  have k2 : i < ys.length := by rw [r2.length]; simpa using l2
  obtain ⟨v, hv, rv⟩ := r2.get (List.getElem?_eq_getElem k2)
  rw [g2] at hv
  rw [Option.some.inj hv]
  exact eqB (hsp H) F m hb hx ⟨hr.in1, rfl⟩ I' rv rx (hd i _ (List.getElem?_eq_getElem k2))
end
end OwnS
/-! tuple == tuple: items with a == of their own, any answer; ==, != with an instance of another class on the right; two rules for one operator -/
namespace OwnT
open PySem PySem.Spec PyProof.Rows L2
open AutoSeq1 (wpAny_loadPart')
open MeetsSeq MeetsSeq2 MeetsSeq3 SeqRoads2
section
variable {prog : Program} {w : World} {A : Around} {R : Result → Shared → Prop}
/-- the answer: all of e, and as many on both sides -/
def ans (e : Nat → Bool) (m n : Nat) : Bool := (List.range (min m n)).all e && m == n
theorem tuple_eqB (l b : Addr) (xs ys : Array Value) (n n2 : Nat) (dd dd2 : Option Addr) (sl sl2 : Array (Option Value)) (e : Nat → Bool) (I : Shared → Prop)
    (he : ∀ s, I s → ∀ j (h1 : j < xs.size) (h2 : j < ys.size), wpAny (model prog w) A.in1 (eqBool xs[j] ys[j]) (fun r s' => r = e j ∧ I s') (fun x s' => R (.error x) s') s)
    (fin : ∀ s, I s → R (.ok (.ret (.bool (ans e xs.size ys.size)))) s) {s : Shared} (hl : s.heap.get? l = some { cls := .type "tuple", dict := dd, data := .seq xs n, slots := sl }) (hb : s.heap.get? b = some { cls := .type "tuple", dict := dd2, data := .seq ys n2, slots := sl2 }) (hI : I s) :
    wpAny (model prog w) A.in1 (Builtin.«tuple.__eq__» ⟨[.ref l, .ref b], []⟩) (GQ.FinOf prog w A R) (fun x s' => R (.error x) s') s := by
  have zl : (xs.toList.zip ys.toList).length = min xs.size ys.size := by simp
  have sub := AutoSeq1.sub_tuple_tuple
  obtain ⟨hp, g, d, tk, os⟩ := s
  wp_walk using wpAny_loadPart' hl, wpAny_loadPart' hb, wpAny_forIn_list _ (fun rest q t => q.1 = none ∧ I t ∧ ∃ i, rest = (xs.toList.zip ys.toList).drop i ∧ ((List.range (min xs.size ys.size)).take i).all e = true) _
  case turn =>
    rintro ⟨u, v⟩ rest q t ⟨hq, hI', i, hz, hR⟩
    have lt : i < (xs.toList.zip ys.toList).length := by
      apply Classical.byContradiction
      intro c
      rw [List.drop_of_length_le (by omega)] at hz
      cases hz
    have lm : i < min xs.size ys.size := by rw [← zl]; exact lt
    have k1 : i < xs.size := by omega
    have k2 : i < ys.size := by omega
    rw [List.drop_eq_getElem_cons lt] at hz
    obtain ⟨huv, hrest⟩ := List.cons.inj hz
    have hu : u = xs[i] := by simpa using congrArg Prod.fst huv
    have hv : v = ys[i] := by simpa using congrArg Prod.snd huv
    subst hu hv
    refine wpAny_bind (wpAny_mono (he t hI' i k1 k2) (fun r t2 h2 => ?_) fun _ _ x => x)
    obtain ⟨hr, hI2⟩ := h2
    subst hr
    have fin2 := fin t2 hI2
    obtain ⟨hp2, g2, d2, tk2, os2⟩ := t2
    cases hei : e i with
    | true =>
      wp_walk
      refine ⟨rfl, hI2, i + 1, hrest, ?_⟩
      have gi : (List.range (min xs.size ys.size))[i]? = some i := by simp [lm]
      rw [List.take_add_one, gi, List.all_append, hR]
      show (true && (e i && true)) = true
      rw [hei]
      rfl
    | false =>
      have no : ans e xs.size ys.size = false := by
        unfold ans
        rw [show (List.range (min xs.size ys.size)).all e = false from List.all_eq_false.mpr ⟨i, List.mem_range.mpr lm, by rw [hei]; decide⟩, Bool.false_and]
      rw [no] at fin2
      wp_walk
      exact fin2
  case fin =>
    rintro ⟨q1, q2⟩ t ⟨hq, hI', i, hz, hR⟩
    simp only at hq
    subst hq
    have ge : min xs.size ys.size ≤ i := by
      apply Classical.byContradiction
      intro c
      have lt : i < (xs.toList.zip ys.toList).length := by rw [zl]; omega
      rw [List.drop_eq_getElem_cons lt] at hz
      cases hz
    have fin2 := fin t hI'
    unfold ans at fin2
    rw [List.take_of_length_le (by rw [List.length_range]; exact ge)] at hR
    rw [hR] at fin2
    obtain ⟨hp2, g2, d2, tk2, os2⟩ := t
    wp_walk
    simpa [Builtin.Tuple.tupleCompareSizes] using fin2
  case h => exact ⟨rfl, hI, 0, rfl, rfl⟩
end
section
variable {prog : Program} {w : World} {A : Around} {E : Value → Shared → Prop} {s : Shared}
theorem rc_tupleB {l b : Addr} {xs ys : Array Value} {e : Nat → Bool} {Q : Value → Shared → Prop} (hu : A.units < cLine) (I : Shared → Prop) (hl : s.heap.IsTuple l xs) (hb : s.heap.IsTuple b ys)
    (he : ∀ s, I s → ∀ j (h1 : j < xs.size) (h2 : j < ys.size), wpAny (model prog w) A.in1 (eqBool xs[j] ys[j]) (fun r s' => r = e j ∧ I s') E s) (fin : ∀ s, I s → Q (.bool (ans e xs.size ys.size)) s) (h : I s) : wpAny (model prog w) A (richCompare .Eq (.ref l) (.ref b)) Q E s := by
  obtain ⟨⟨c1, dd, da, sl⟩, ho, hc, n, hd⟩ := id hl
  obtain ⟨⟨c2, dd2, da2, sl2⟩, ho2, hc2, n2, hd2⟩ := id hb
  simp only at hc hd hc2 hd2
  subst hc hd hc2 hd2
  refine wpAny_richCompare_same_room (op := .Eq) ⟨_, ho, rfl⟩ ⟨_, ho2, rfl⟩ F.slot_tuple_eq (GQ.call_here F.slot_tuple_eq ⟨_, ho, rfl⟩ F.entry_tuple_eq (F.args_tuple_eq_2 _ _) ?_) hu
  exact tuple_eqB (R := wants (fun v s' => v ≠ .notImplemented ∧ Q v s') E) l b xs ys n n2 dd dd2 sl sl2 e I he (fun s' q => ⟨(fun x => nomatch x), fin s' q⟩) ho ho2 h
end
section
variable {X : Cx} {K : PySem.W.Frag} {CX : CXT} {C f : Addr} {fd : FuncData} {ps : List Str} {E : XK} {n : Nat} {R : Addr → Addr → Bool → Hp → Prop}
/-- the own == promises the answer that R tells; it may make objects -/
abbrev Says (R : Addr → Addr → Bool → Hp → Prop) (sp : Sp) : Prop := ∀ H a b r Q E, R a b r H → (∀ H', Evl.Ex H H' → Q (.bl r) H') → sp [.ref a, .ref b] H Q E
abbrev Keeps (R : Addr → Addr → Bool → Hp → Prop) : Prop := ∀ H H' a b r, Evl.Ex H H' → R a b r H → R a b r H'
/-- what is known in between: all objects that were known -/
def Btw (X : Cx) (pins : List (Addr × Obj)) (σ : L2.St) (H : Hp) (s : Shared) : Prop := ∃ H', Evl.Ex H H' ∧ Inv X pins σ H' s
theorem eqX {pins : List (Addr × Obj)} {σ : L2.St} {H : Hp} {s : Shared} {A : Around} {x y : V} {u v : Value} {r : Bool} {sp : Sp} (hsp : Says R sp) (F : FnOk X.prog X.w X.K X.mg X.base CX n f fd ps sp) (m : Meth X.K C "__eq__" f) (hb : Binds X.K fd ps []) (hx : Passes CX X E) (sb : Sub X n A)
    (I : Inv X pins σ H s) (rx : RelV x u) (ry : RelV y v) (d : OwnS.DB C R H x y r) : wpAny (model X.prog X.w) A (eqBool u v) (fun z s' => z = r ∧ Btw X pins σ H s') X.xe s := by
  obtain ⟨a, b, dx, dy, fs, gs, rfl, rfl, ha, hb', hr, hs⟩ := d
  cases rx
  cases ry
  by_cases hab : a = b
  · subst hab
    exact SeqAt.EqAt.same (A := A) (s := s) (.ref a) X.prog X.w X.xe _ ⟨(hs rfl).symm, H, fun _ _ h => h, I⟩
  · obtain ⟨mA, J, _⟩ := ins_get I.hok ha
    obtain ⟨mB, J', _⟩ := ins_get I.hok hb'
    obtain ⟨od, J, _⟩ := J.look
    obtain ⟨od', J', _⟩ := J'.look
    obtain ⟨mm, hF⟩ := I.fr
    refine GQ.eqBool_refG hab ?_
    refine PySem.W.cmp_K (op := .Eq) (tb := .ref C) sb.room.units0 hF I.ok.mod.kin J J'.type (by simp [PySem.W.notFirst]) m.at_ m.fn (wpAny_mono (Own.run_own (Q := fun z H' => z = .bl r ∧ Evl.Ex H H') F hb hx sb I (vs := [.ref a, .ref b]) (.cons rfl (.cons rfl .nil)) (hsp H a b r _ E hr fun H' e => ⟨rfl, e⟩)) (fun v s' q => ?_) fun _ _ z => z)
    obtain ⟨z, H', I', rz, rfl, e⟩ := q
    cases rz
    exact ⟨r, rfl, rfl, H', e, I'⟩
theorem db_up {H H' : Hp} {x y : V} {r : Bool} (hk : Keeps R) (e : Evl.Ex H H') (d : OwnS.DB C R H x y r) : OwnS.DB C R H' x y r := by
  obtain ⟨a, b, dx, dy, fs, gs, h1, h2, ha, hb, hr, hs⟩ := d
  exact ⟨a, b, dx, dy, fs, gs, h1, h2, e _ _ ha, e _ _ hb, hk _ _ _ _ _ e hr, hs⟩
/-- (x, ..) == (y, ..) -/
def rEqT (C : Addr) (R : Addr → Addr → Bool → Hp → Prop) : R2 := fun x y H Q => ∃ (a b : Addr) (xs ys : List V) (e : Nat → Bool), x = .ref a ∧ y = .ref b ∧ H a = some (.tup xs) ∧ H b = some (.tup ys) ∧ (∀ (i : Nat) p q, xs[i]? = some p → ys[i]? = some q → OwnS.DB C R H p q (e i)) ∧ ∀ H', Evl.Ex H H' → Q (.bl (ans e xs.length ys.length)) H'
theorem op_eqT {sp : Sp} (hsp : Says R sp) (hk : Keeps R) (F : FnOk X.prog X.w X.K X.mg X.base CX n f fd ps sp) (m : Meth X.K C "__eq__" f) (hb : Binds X.K fd ps []) (hx : Passes CX X E) (hr : Room (n + 1) X.A) : OpR X (compareOp .Eq) (rEqT C R) := by
  intro pins s σ H x y v u Q I rx ry h
  obtain ⟨a, b, xs, ys, e, rfl, rfl, ha, hb', hd, q⟩ := h
  cases rx
  cases ry
  show wpAny (model X.prog X.w) X.A (richCompare .Eq (.ref a) (.ref b)) (EP X pins σ Q) X.xe s
  obtain ⟨z, its, r, t1⟩ := I.hok a _ ha
  obtain ⟨z2, its2, r2, t2⟩ := I.hok b _ hb'
  have l1 := r.length
  have l2 := r2.length
  refine rc_tupleB (e := e) hr.units0 (Btw X pins σ H) t1 t2 (fun s' hI i h1 h2 => ?_) (fun s' hI => ?_) ⟨H, fun _ _ h => h, I⟩
  · obtain ⟨H', e', I'⟩ := hI
    have h1' : i < its.length := by simpa using h1
    have h2' : i < its2.length := by simpa using h2
    have g1 := List.getElem?_eq_getElem (show i < xs.length by omega)
    have g2 := List.getElem?_eq_getElem (show i < ys.length by omega)
    obtain ⟨u, hu, ru⟩ := r.get g1
    obtain ⟨v, hv, rv⟩ := r2.get g2
    have e1 : its.toArray[i] = u := by
      rw [List.getElem?_eq_getElem h1'] at hu
      simpa using Option.some.inj hu
    have e2 : its2.toArray[i] = v := by
      rw [List.getElem?_eq_getElem h2'] at hv
      simpa using Option.some.inj hv
    rw [e1, e2]
    refine wpAny_mono (eqX hsp F m hb hx ⟨hr.in1, rfl⟩ I' ru rv (db_up hk e' (hd i _ _ g1 g2))) (fun z s2 q => ?_) fun _ _ z => z
    obtain ⟨hz, H2, e2', I2⟩ := q
    exact ⟨hz, H2, fun c o h => e2' _ _ (e' _ _ h), I2⟩
  · obtain ⟨H', e', I'⟩ := hI
    rw [List.size_toArray, List.size_toArray, ← l1, ← l2]
    exact ⟨.bl _, H', I', rfl, q H' e'⟩
/-- [x, ..] == [y, ..] -/
def rEqL (C : Addr) (R : Addr → Addr → Bool → Hp → Prop) : R2 := fun x y H Q => ∃ (a b : Addr) (xs ys : List V) (e : Nat → Bool), x = .ref a ∧ y = .ref b ∧ H a = some (.lst xs) ∧ H b = some (.lst ys) ∧ xs.length = ys.length ∧ (∀ (i : Nat) p q, xs[i]? = some p → ys[i]? = some q → OwnS.DB C R H p q (e i)) ∧ ∀ H', Evl.Ex H H' → Q (.bl (OwnS.al e 0 xs.length)) H'
theorem op_eqL {sp : Sp} (hsp : Says R sp) (hk : Keeps R) (F : FnOk X.prog X.w X.K X.mg X.base CX n f fd ps sp) (m : Meth X.K C "__eq__" f) (hb : Binds X.K fd ps []) (hx : Passes CX X E) (hr : Room (n + 1) X.A) : OpR X (compareOp .Eq) (rEqL C R) := by
  intro pins s σ H x y v u Q I rx ry h
  obtain ⟨a, b, xs, ys, e, rfl, rfl, ha, hb', hl, hd, q⟩ := h
  cases rx
  cases ry
  show wpAny (model X.prog X.w) X.A (richCompare .Eq (.ref a) (.ref b)) (EP X pins σ Q) X.xe s
  refine OwnS.rc_listB (N := xs.length) (e := e) hr.units0 (Btw X pins σ H) (fun s' hI => ?_) (fun s' hI => ?_) ⟨H, fun _ _ h => h, I⟩
  · obtain ⟨H', e', I'⟩ := hI
    obtain ⟨z, its, k, r, h1⟩ := I'.hok a _ (e' _ _ ha)
    obtain ⟨z2, its2, k2, r2, h2⟩ := I'.hok b _ (e' _ _ hb')
    have l1 := r.length
    have l2 := r2.length
    refine ⟨its.toArray, its2.toArray, k, k2, h1, h2, by rw [List.size_toArray, ← l1], by rw [List.size_toArray, ← l2, ← hl], fun i m1 m2 => ?_⟩
    have h1' : i < its.length := by simpa using m1
    have h2' : i < its2.length := by simpa using m2
    have g1 := List.getElem?_eq_getElem (show i < xs.length by omega)
    have g2 := List.getElem?_eq_getElem (show i < ys.length by omega)
    obtain ⟨u, hu, ru⟩ := r.get g1
    obtain ⟨v, hv, rv⟩ := r2.get g2
    have e1 : its.toArray[i] = u := by
      rw [List.getElem?_eq_getElem h1'] at hu
      simpa using Option.some.inj hu
    have e2 : its2.toArray[i] = v := by
      rw [List.getElem?_eq_getElem h2'] at hv
      simpa using Option.some.inj hv
    rw [e1, e2]
    refine wpAny_mono (eqX hsp F m hb hx ⟨hr.in1, rfl⟩ I' ru rv (db_up hk e' (hd i _ _ g1 g2))) (fun z s2 q => ?_) fun _ _ z => z
    obtain ⟨hz, H2, e2', I2⟩ := q
    exact ⟨hz, H2, fun c o h => e2' _ _ (e' _ _ h), I2⟩
  · obtain ⟨H', e', I'⟩ := hI
    exact ⟨.bl _, H', I', rfl, q H' e'⟩
/-- x in [y, ..] -/
def rInL (C : Addr) (R : Addr → Addr → Bool → Hp → Prop) : R2 := fun x y H Q => ∃ (b : Addr) (ys : List V) (e : Nat → Bool), y = .ref b ∧ H b = some (.lst ys) ∧ (∀ (i : Nat) q, ys[i]? = some q → OwnS.DB C R H q x (e i)) ∧ ∀ H', Evl.Ex H H' → Q (.bl (OwnS.an e 0 ys.length)) H'
theorem op_inL {sp : Sp} (hsp : Says R sp) (hk : Keeps R) (F : FnOk X.prog X.w X.K X.mg X.base CX n f fd ps sp) (m : Meth X.K C "__eq__" f) (hb : Binds X.K fd ps []) (hx : Passes CX X E) (hr : Room (n + 1) X.A) : OpR X (compareOp .In) (rInL C R) := by
  intro pins s σ H x y v u Q I rx ry h
  obtain ⟨b, ys, e, rfl, hb', hd, q⟩ := h
  cases ry
  refine OwnS.in_listB (N := ys.length) (e := e) (Btw X pins σ H) (fun s' hI => ?_) (fun s' hI => ?_) ⟨H, fun _ _ h => h, I⟩
  · obtain ⟨H', e', I'⟩ := hI
    obtain ⟨z2, its2, k2, r2, h2⟩ := I'.hok b _ (e' _ _ hb')
    have l2 := r2.length
    refine ⟨its2.toArray, k2, h2, by rw [List.size_toArray, ← l2], fun i m2 => ?_⟩
    have h2' : i < its2.length := by simpa using m2
    have g2 := List.getElem?_eq_getElem (show i < ys.length by omega)
    obtain ⟨w, hw, rw'⟩ := r2.get g2
    have e2 : its2.toArray[i] = w := by
      rw [List.getElem?_eq_getElem h2'] at hw
      simpa using Option.some.inj hw
    rw [e2]
    refine wpAny_mono (eqX hsp F m hb hx ⟨hr.in1, rfl⟩ I' rw' rx (db_up hk e' (hd i _ g2))) (fun z s2 q => ?_) fun _ _ z => z
    obtain ⟨hz, H2, e2', I2⟩ := q
    exact ⟨hz, H2, fun c o h => e2' _ _ (e' _ _ h), I2⟩
  · obtain ⟨H', e', I'⟩ := hI
    exact ⟨.bl _, H', I', rfl, q H' e'⟩
/-- two rules for one operator -/
def rOr (r r' : R2) : R2 := fun x y H Q => r x y H Q ∨ r' x y H Q
theorem op_or {fn : Value → Value → Sem Value} {r r' : R2} (h : OpR X fn r) (h' : OpR X fn r') : OpR X fn (rOr r r') := by
  intro pins s σ H x y v u Q I rx ry q
  rcases q with q | q
  · exact h pins s σ H x y v u Q I rx ry q
  · exact h' pins s σ H x y v u Q I rx ry q
/-- an instance of another class stands on the right -/
def rEqC (K : PySem.W.Frag) (C : Addr) (sp : Sp) (E : XK) : R2 := fun x y H Q => ∃ a dx fs b D dy gs, x = .ref a ∧ y = .ref b ∧ H a = some (.ins C dx fs) ∧ H b = some (.ins D dy gs) ∧ PySem.W.notFirst K C (.ref D) = true ∧ sp [x, y] H (fun v H' => ∃ b : Bool, v = .bl b ∧ Q (.bl b) H') E
theorem op_eqC {sp : Sp} (F : FnOk X.prog X.w X.K X.mg X.base CX n f fd ps sp) (m : Meth X.K C "__eq__" f) (hb : Binds X.K fd ps []) (hx : Passes CX X E) (hr : Room n X.A) (hK : X.K = K) : OpR X (compareOp .Eq) (rEqC K C sp E) := by
  subst hK
  intro pins s σ H x y v u Q I rx ry h
  obtain ⟨a, dx, fs, b, D, dy, gs, rfl, rfl, ha, hd, hn, h⟩ := h
  cases rx
  cases ry
  obtain ⟨mA, J, _⟩ := ins_get I.hok ha
  obtain ⟨od, J, _⟩ := J.look
  obtain ⟨mB, J', _⟩ := ins_get I.hok hd
  obtain ⟨od', J', _⟩ := J'.look
  obtain ⟨mm, hF⟩ := I.fr
  show wpAny (model X.prog X.w) X.A (richCompare .Eq (.ref a) (.ref b)) (EP X pins σ Q) X.xe s
  refine PySem.W.cmp_K (op := .Eq) hr.units0 hF I.ok.mod.kin J J'.type hn m.at_ m.fn (wpAny_mono (Own.run_own F hb hx ⟨hr, rfl⟩ I (vs := [.ref a, .ref b]) (.cons rfl (.cons rfl .nil)) h) (fun v s' q => ?_) fun _ _ z => z)
  obtain ⟨z, H', I', rz, c, rfl, q⟩ := q
  cases rz
  exact ⟨.bl c, H', I', rfl, q⟩
end
end OwnT
/-! ### tuples: a slice of all of it (the tuple itself), and turned about -/
namespace SlT
open PySem PySem.Spec PyProof.Rows L2 Evl
theorem getItem_whole {prog : Program} {w : World} {A : Around} {E : Value → Shared → Prop} {s : Shared} {t sl : Addr} {items : Array Value} {vl vu : Value} {lo hi : Option Int} {Q : Value → Shared → Prop}
    (ht : IsTup s.heap t items) (hs : s.heap.IsSliceOf sl vl vu Value.none) (pl : IsPart vl lo) (pu : IsPart vu hi) (h0 : HT.sIx items.size 0 lo = 0) (h1 : HT.sIx items.size items.size hi = items.size) (h : Q (.ref t) s) : wpAny (model prog w) A (getItem (Value.ref t) (Value.ref sl)) Q E s := by
  obtain ⟨os, hos, hcs, hds⟩ := id hs
  have hTs : s.TypeIs (Value.ref sl) "slice" := ⟨os, hos, hcs⟩
  unfold getItem
  refine wpAny_holding (wpAny_bind (wpAny_sequenceKey ht.typeIs (by decide) (wpAny_bind (wpAny_callSpecial?_slot ht.typeIs slot_tuple_getitem (wpAny_call_entry slot_tuple_getitem ht.typeIs entry_tuple_getitem ?_ (args_tuple_getitem _ _))))))
  show wpAny (model prog w) A.in1 (Bind.bind (Builtin.Tuple.tupleItemsOf (Value.ref t)) _) _ E s
  refine wpAny_bind (tupleItemsOf_ ht (wpAny_bind (wpAny_typeOf hTs ?_)))
  rw [if_pos (by decide)]
  refine wpAny_bind (HT.sliceApplied_gen hs pl pu ?_)
  show wpAny (model prog w) A.in1 (if (((HT.sIx items.size 0 lo : Nat) : Int) == 0 && (1 : Int) == 1 && (HT.sIx items.size items.size hi - HT.sIx items.size 0 lo) == items.size) = true then _ else _) _ E s
  rw [if_pos (by rw [h0, h1, Nat.sub_zero]; simp)]
  refine wpAny_bind (wpAny_bind (wpAny_typeOf ht.typeIs (wpAny_pure ?_)))
  rw [if_pos (by decide)]
  refine wpAny_bind (wpAny_rule (wpAny_pure ?_))
  exact ⟨_, rfl, wpAny_pure h⟩
/-- any slice of a tuple, step 1: all of it is the tuple itself -/
def rSlA (K : PySem.W.Frag) : V → Option Int → Option Int → Hp → VK → Prop := fun x lo hi H Q => ∃ a xs, x = .ref a ∧ SqT K H a xs ∧ ((HT.sIx xs.length 0 lo = 0 ∧ HT.sIx xs.length xs.length hi = xs.length) → Q (.ref a) H) ∧ (¬ (HT.sIx xs.length 0 lo = 0 ∧ HT.sIx xs.length xs.length hi = xs.length) → ∀ p, H p = none → Q (.ref p) (upd H p (.tup (cutV xs lo hi))))
theorem sl_tupA {X : Cx} {K : PySem.W.Frag} (hK : X.K = K) : SlR X (rSlA K) := by
  subst hK
  intro pins s σ H x v vl vu lo hi sl Q I rx hs pl pu h
  obtain ⟨a, xs, ex, hx, q1, q2⟩ := h
  by_cases c : HT.sIx xs.length 0 lo = 0 ∧ HT.sIx xs.length xs.length hi = xs.length
  · subst ex
    obtain rfl : v = Value.ref a := rx
    obtain ⟨its, r, ht, hz⟩ := I.tuple hx
    have hlen : its.toArray.size = xs.length := by rw [List.size_toArray]; exact (Vals.length r).symm
    exact ⟨"tuple", "tuple.__getitem__", slot_tuple_getitem.lookup, ht.typeIs, getItem_whole ht hs pl pu (by rw [hlen]; exact c.1) (by rw [hlen]; exact c.2) ⟨.ref a, H, I, rfl, q1 c⟩⟩
  · exact sl_tup pins s σ H x v vl vu lo hi sl Q I rx hs pl pu ⟨a, xs, ex, hx, c, q2 c⟩
theorem sliceApplied_rev {prog : Program} {w : World} {A : Around} {E : Value → Shared → Prop} {s : Shared} {sl : Addr} {t : Tok} {n : Nat} {Q : Int × Int × Nat → Shared → Prop} (hs : s.heap.IsSliceOf sl Value.none Value.none (.int (-1) t)) (h : Q ((n : Int) - 1, -1, n) s) : wpAny (model prog w) A (Builtin.Slice.sliceApplied (Value.ref sl) (pure (n : Int))) Q E s := by
  obtain ⟨os, hos, hcs, hds⟩ := id hs
  unfold Builtin.Slice.sliceApplied Builtin.Slice.sliceFields
  refine wpAny_bind (wpAny_bind (wpAny_field hos hds rfl (wpAny_bind (wpAny_field hos hds rfl (wpAny_bind (wpAny_field hos hds rfl (wpAny_pure ?_)))))))
  refine wpAny_bind (HT.slicePart_ (.int (-1) t) ?_)
  show wpAny (model prog w) A (if ((-1 : Int) == 0) = true then _ else _) Q E s
  rw [if_neg (by decide)]
  refine wpAny_bind (slicePart_none (wpAny_bind (slicePart_none (wpAny_bind (wpAny_pure ?_)))))
  have e : Builtin.Slice.sliceAdjust none none (-1) (n : Int) = ((n : Int) - 1, -1) := rfl
  have e2 : Builtin.Slice.slicePlaces ((n : Int) - 1) (-1) (-1) = n := by
    unfold Builtin.Slice.slicePlaces
    rw [if_neg (by decide)]
    split
    · rw [show -(-1 : Int) = 1 from rfl, Int.ediv_one]
      omega
    · omega
  show wpAny (model prog w) A (match Builtin.Slice.sliceAdjust none none (-1) (n : Int) with | (lo, hi) => pure (lo, -1, Builtin.Slice.slicePlaces lo hi (-1))) Q E s
  rw [e]
  show wpAny (model prog w) A (pure ((n : Int) - 1, -1, Builtin.Slice.slicePlaces ((n : Int) - 1) (-1) (-1))) Q E s
  rw [e2]
  exact wpAny_pure h
theorem pick_rev (xs : Array Value) : (List.filterMap (fun k => xs[((xs.size : Int) - 1 + (k : Nat) * (-1)).toNat]?) (List.range xs.size)) = xs.toList.reverse := by
  have g : ∀ (l : List Nat), (∀ k ∈ l, k < xs.size) → l.filterMap (fun k => xs[((xs.size : Int) - 1 + (k : Nat) * (-1)).toNat]?) = l.map (fun k => (xs.toList.reverse[k]?).getD Value.none) := by
    intro l
    induction l with
    | nil => intro _; rfl
    | cons k r ih =>
      intro h
      have hk := h k (List.mem_cons_self ..)
      have e1 : ((xs.size : Int) - 1 + (k : Nat) * (-1)).toNat = xs.size - 1 - k := by omega
      have e2 : xs.toList.reverse[k]? = xs[xs.size - 1 - k]? := by
        rw [List.getElem?_reverse (by simpa using hk), Array.length_toList, Array.getElem?_toList]
      have e3 : xs[xs.size - 1 - k]? = some (xs[xs.size - 1 - k]'(by omega)) := Array.getElem?_eq_getElem (by omega)
      rw [List.map_cons, List.filterMap_cons, e1, e2, e3, ih fun m hm => h m (List.mem_cons_of_mem _ hm)]
      rfl
  rw [g _ fun k hk => List.mem_range.mp hk]
  refine List.ext_getElem? fun i => ?_
  rw [List.getElem?_map]
  by_cases h : i < xs.size
  · rw [List.getElem?_range h, List.getElem?_eq_getElem (l := xs.toList.reverse) (by simpa using h)]
    show some ((xs.toList.reverse[i]?).getD Value.none) = _
    rw [List.getElem?_eq_getElem (l := xs.toList.reverse) (by simpa using h)]
    rfl
  · rw [List.getElem?_eq_none_iff.mpr (by simpa using h), List.getElem?_eq_none_iff.mpr (by simpa using h)]
    rfl
theorem getItem_rev {prog : Program} {w : World} {A : Around} {E : Value → Shared → Prop} {s : Shared} {t sl : Addr} {u : Tok} {items : Array Value} {Q : Value → Shared → Prop}
    (ht : IsTup s.heap t items) (hs : s.heap.IsSliceOf sl Value.none Value.none (.int (-1) u)) (hz : items.size ≤ sizeLine) (h : Q (Value.ref s.heap.objs.size) { s with heap := s.heap.push { cls := .type "tuple", data := .seq items.toList.reverse.toArray } }) : wpAny (model prog w) A (getItem (Value.ref t) (Value.ref sl)) Q E s := by
  obtain ⟨os, hos, hcs, hds⟩ := id hs
  have hTs : s.TypeIs (Value.ref sl) "slice" := ⟨os, hos, hcs⟩
  unfold getItem
  refine wpAny_holding (wpAny_bind (wpAny_sequenceKey ht.typeIs (by decide) (wpAny_bind (wpAny_callSpecial?_slot ht.typeIs slot_tuple_getitem (wpAny_call_entry slot_tuple_getitem ht.typeIs entry_tuple_getitem ?_ (args_tuple_getitem _ _))))))
  show wpAny (model prog w) A.in1 (Bind.bind (Builtin.Tuple.tupleItemsOf (Value.ref t)) _) _ E s
  refine wpAny_bind (tupleItemsOf_ ht (wpAny_bind (wpAny_typeOf hTs ?_)))
  rw [if_pos (by decide)]
  refine wpAny_bind (sliceApplied_rev hs ?_)
  show wpAny (model prog w) A.in1 (if (((items.size : Int) - 1) == 0 && (-1 : Int) == 1 && items.size == items.size) = true then _ else _) _ E s
  rw [if_neg (by simp)]
  show wpAny (model prog w) A.in1 (Bind.bind (newObj (Value.type "tuple") (Data.seq (List.filterMap (fun k => items[((items.size : Int) - 1 + (k : Nat) * (-1)).toNat]?) (List.range items.size)).toArray)) _) _ E s
  rw [pick_rev]
  refine wpAny_bind (wpAny_newObj_type ?_ (by show (items.toList.reverse.toArray).size ≤ sizeLine; simpa using hz))
  exact wpAny_pure ⟨_, rfl, wpAny_pure h⟩
def tRevT (K : PySem.W.Frag) (te : TE) : TE := fun σ H Q => te σ H fun x H1 => ∃ a xs, x = .ref a ∧ SqT K H1 a xs ∧ ∀ p, H1 p = none → Q (.ref p) (upd H1 p (.tup xs.reverse))
theorem pe_revT {X : Cx} {e : Expr} {te : TE} {k : Nat} {p1 p2 p3 pos : Pos} (he : PE X e te) : PE X (.Subscript e (.Slice none none (some (.UnaryOp .USub (.Constant (.int 1) k p1) p2)) p3) pos) (tRevT X.K te) := by
  refine ⟨fun pins s σ H Q I h => ?_⟩
  refine Subscript_ (thn (he.run pins s σ H _ I h) fun v s1 ⟨x, H1, I1, r1, q1⟩ => ?_)
  obtain ⟨a, xs, ex, hx, q⟩ := q1
  subst ex
  obtain rfl : v = Value.ref a := r1
  have hst : PO X (some (.UnaryOp .USub (.Constant (.int 1) k p1) p2)) (tPart (tUn (rU fun i => .int (-i)) (tC (.int 1)))) := po_some (pe_un un_neg pe_int)
  refine wpAny_Slice (thn (po_none.run pins s1 σ H1 (fun o H2 => o = none ∧ H2 = H1) I1 ⟨rfl, rfl⟩) fun vl s2 ⟨l, H2, I2, pl, el, e2⟩ => ?_)
  subst el e2
  refine thn (po_none.run pins s2 σ H2 (fun o H3 => o = none ∧ H3 = H2) I2 ⟨rfl, rfl⟩) fun vu s3 ⟨u, H3, I3, pu, eu, e3⟩ => ?_
  subst eu e3
  refine thn (hst.run pins s3 σ H3 (fun o H4 => o = some (-1) ∧ H4 = H3) I3 ⟨1, rfl, -1, rfl, rfl, rfl⟩) fun vs s4 ⟨o, H4, I4, ps, eo, e4⟩ => ?_
  subst eo e4
  cases pl
  cases pu
  cases ps
  rename_i st _
  have I5 : Inv X pins σ H4 { s4 with heap := s4.heap.push { cls := .type "slice", data := .fields #[.none, .none, .int (-1) st] } } := I4.kept (t' := s4.toks) fun b ob q => Heap.get?_push_of_some _ q
  obtain ⟨its, r, ht, hz⟩ := I5.tuple hx
  have hlen : its.toArray.size = xs.length := by rw [List.size_toArray]; exact (Vals.length r).symm
  show wpAny (model X.prog X.w) X.A (subscriptTail e (.Slice none none (some (.UnaryOp .USub (.Constant (.int 1) k p1) p2)) p3) (.ref a) (.ref s4.heap.objs.size)) (EP X pins σ Q) X.xe { s4 with heap := s4.heap.push { cls := .type "slice", data := .fields #[.none, .none, .int (-1) st] } }
  refine tail_any (ops := [.ref a, .ref s4.heap.objs.size]) ht.typeIs (slot_tuple_getitem.lookup) ?_ (by with_unfolding_all rfl)
  refine getItem_rev ht ⟨_, Heap.get?_push_size _ rfl, rfl, rfl⟩ (by rw [hlen]; exact hz) ?_
  refine ⟨.ref _, upd H4 _ (.tup xs.reverse), I5.laid (fun b ob q => Heap.get?_push_of_some _ q) (Nat.le_refl _) ⟨by rw [List.length_reverse]; exact hz, its.reverse, Vals.reverse r, IsTup.new _ _⟩, rfl, q _ (HOk.fresh I5.hok (Nat.le_refl _))⟩
/-- + of tuples, any of them empty -/
def rCatA (K : PySem.W.Frag) : R2 := fun x y H Q => ∃ a b xs ys, x = .ref a ∧ y = .ref b ∧ SqT K H a xs ∧ SqT K H b ys ∧ xs.length + ys.length ≤ sizeLine ∧ (xs = [] → Q (.ref b) H) ∧ (xs ≠ [] → ys = [] → Q (.ref a) H) ∧ (xs ≠ [] → ys ≠ [] → ∀ p, H p = none → Q (.ref p) (upd H p (.tup (xs ++ ys))))
theorem cat_left {prog : Program} {w : World} {A : Around} {E : Value → Shared → Prop} {s : Shared} {t b : Addr} {vs ws : Array Value} {Q : Value → Shared → Prop} (ht : IsTup s.heap t vs) (hb : IsTup s.heap b ws) (hv : vs.isEmpty = true) (h : Q (.ref b) s) : wpAny (model prog w) A (binaryOp Operator.Add (Value.ref t) (Value.ref b)) Q E s := by
  obtain ⟨⟨cls, dd, data, sl⟩, ho, hc, n, hd⟩ := id ht
  obtain ⟨⟨cls2, dd2, data2, sl2⟩, ho2, hc2, n2, hd2⟩ := id hb
  cases hc
  cases hd
  cases hc2
  cases hd2
  exact concat_meets ht.typeIs hb.typeIs noFill_tuple_add seq_tuple_add F.slot_tuple_add F.entry_tuple_add (F.args_tuple_add_2 (Value.ref t) (Value.ref b)) (tuple_addW0 t b vs ws n n2 dd dd2 sl sl2 hv) ⟨ho, ho2, h⟩
theorem op_catTA {X : Cx} {K : PySem.W.Frag} (hK : X.K = K) : OpR X (binaryOp Operator.Add) (rCatA K) := by
  subst hK
  intro pins s σ H x y v u Q I rx ry h
  obtain ⟨a, b, xs, ys, ex, ey, ha, hb, hz, q0, q1, q2⟩ := h
  by_cases c : xs = []
  · subst ex ey
    obtain rfl : v = Value.ref a := rx
    obtain rfl : u = Value.ref b := ry
    obtain ⟨its, r, ht, _⟩ := I.tuple ha
    obtain ⟨its2, r2, ht2, _⟩ := I.tuple hb
    have e : its = [] := (Vals.nil_iff r).mpr c
    exact cat_left ht ht2 (by rw [e]; rfl) ⟨.ref b, H, I, rfl, q0 c⟩
  · exact op_catT pins s σ H x y v u Q I rx ry ⟨a, b, xs, ys, ex, ey, ha, hb, c, hz, q1 c, q2 c⟩
/-- what a slice, a sum of tuples is, at some place -/
theorem slA_use {K : PySem.W.Frag} {H : Hp} {a : Addr} {xs : List V} {lo hi : Option Int} {Q : VK} (h : H a = some (.tup xs)) (q : ∀ p H', Ex H H' → H' p = some (.tup (cutV xs lo hi)) → Q (.ref p) H') : rSlA K (.ref a) lo hi H Q := by
  refine ⟨a, xs, rfl, SqT.of h, fun c => q a H (Ex.refl H) ?_, fun _ p np => q p _ (Ex.new np) upd_same⟩
  rw [h]
  unfold cutV
  rw [c.1, c.2, List.drop_zero, Nat.sub_zero, List.take_length]
theorem catA_use {K : PySem.W.Frag} {H : Hp} {a b : Addr} {xs ys : List V} {Q : VK} (h : H a = some (.tup xs)) (g : H b = some (.tup ys)) (l : xs.length + ys.length ≤ sizeLine) (q : ∀ p H', Ex H H' → H' p = some (.tup (xs ++ ys)) → Q (.ref p) H') : rCatA K (.ref a) (.ref b) H Q := by
  refine ⟨a, b, xs, ys, rfl, rfl, SqT.of h, SqT.of g, l, fun c => q b H (Ex.refl H) ?_, fun _ c => q a H (Ex.refl H) ?_, fun _ _ p np => q p _ (Ex.new np) upd_same⟩
  · rw [g, c, List.nil_append]
  · rw [h, c, List.append_nil]
end SlT
namespace K12
open PySem PySem.Spec PyProof.Rows L2 Evl My TL
def topS (i : Nat) : Stmt := PySem.Challenge.pw_blocksearch_k12_rows_alike.main.body.getD i (.Pass ⟨0, 0, 0, 0⟩)
abbrev N_is_whole : List Str := ["thing"]
theorem sc_is_whole : FnScope N_is_whole ["thing"] (defScope (topS 10)) := ⟨rfl, rfl, rfl, by decide +kernel, rfl, by decide +kernel, by decide +kernel⟩
abbrev N_is_within : List Str := ["thing", "least", "most"]
theorem sc_is_within : FnScope N_is_within ["thing", "least", "most"] (defScope (topS 11)) := ⟨rfl, rfl, rfl, by decide +kernel, rfl, by decide +kernel, by decide +kernel⟩
abbrev N_is_count : List Str := ["thing"]
theorem sc_is_count : FnScope N_is_count ["thing"] (defScope (topS 15)) := ⟨rfl, rfl, rfl, by decide +kernel, rfl, by decide +kernel, by decide +kernel⟩
abbrev N_code : List Str := ["number", "signs", "digit"]
theorem sc_code : FnScope N_code ["number"] (defScope (topS 16)) := ⟨rfl, rfl, rfl, by decide +kernel, rfl, by decide +kernel, by decide +kernel⟩
abbrev N_code_all : List Str := ["numbers", "at", "number"]
theorem sc_code_all : FnScope N_code_all ["numbers"] (defScope (topS 17)) := ⟨rfl, rfl, rfl, by decide +kernel, rfl, by decide +kernel, by decide +kernel⟩
abbrev N_code_entries : List Str := ["entries", "texts", "slot", "places"]
theorem sc_code_entries : FnScope N_code_entries ["entries"] (defScope (topS 18)) := ⟨rfl, rfl, rfl, by decide +kernel, rfl, by decide +kernel, by decide +kernel⟩
abbrev N_decode_entries : List Str := ["text", "many", "at", "slot_gaps", "entries", "slot", "further", "place_gaps"]
theorem sc_decode_entries : FnScope N_decode_entries ["text"] (defScope (topS 19)) := ⟨rfl, rfl, rfl, by decide +kernel, rfl, by decide +kernel, by decide +kernel⟩
abbrev N_check_entries : List Str := ["entries", "ahead", "at", "entry"]
theorem sc_check_entries : FnScope N_check_entries ["entries"] (defScope (topS 20)) := ⟨rfl, rfl, rfl, by decide +kernel, rfl, by decide +kernel, by decide +kernel⟩
abbrev N_is_entry : List Str := ["thing"]
theorem sc_is_entry : FnScope N_is_entry ["thing"] (defScope (topS 21)) := ⟨rfl, rfl, rfl, by decide +kernel, rfl, by decide +kernel, by decide +kernel⟩
abbrev N_are_places : List Str := ["thing"]
theorem sc_are_places : FnScope N_are_places ["thing"] (defScope (topS 22)) := ⟨rfl, rfl, rfl, by decide +kernel, rfl, by decide +kernel, by decide +kernel⟩
abbrev N_first_fall : List Str := ["things", "ahead", "at", "thing"]
theorem sc_first_fall : FnScope N_first_fall ["things"] (defScope (topS 23)) := ⟨rfl, rfl, rfl, by decide +kernel, rfl, by decide +kernel, by decide +kernel⟩
abbrev N_gaps_of : List Str := ["numbers", "gaps", "ahead", "number"]
theorem sc_gaps_of : FnScope N_gaps_of ["numbers"] (defScope (topS 24)) := ⟨rfl, rfl, rfl, by decide +kernel, rfl, by decide +kernel, by decide +kernel⟩
abbrev N_risen : List Str := ["gaps", "numbers", "ahead", "gap"]
theorem sc_risen : FnScope N_risen ["gaps"] (defScope (topS 25)) := ⟨rfl, rfl, rfl, by decide +kernel, rfl, by decide +kernel, by decide +kernel⟩
abbrev N_check_text : List Str := ["text"]
theorem sc_check_text : FnScope N_check_text ["text"] (defScope (topS 26)) := ⟨rfl, rfl, rfl, by decide +kernel, rfl, by decide +kernel, by decide +kernel⟩
abbrev N_read_number : List Str := ["text", "start", "number", "worth", "at", "last", "digit"]
theorem sc_read_number : FnScope N_read_number ["text", "start"] (defScope (topS 27)) := ⟨rfl, rfl, rfl, by decide +kernel, rfl, by decide +kernel, by decide +kernel⟩
abbrev N_read_numbers : List Str := ["text", "at", "many", "numbers", "number"]
theorem sc_read_numbers : FnScope N_read_numbers ["text", "at", "many"] (defScope (topS 28)) := ⟨rfl, rfl, rfl, by decide +kernel, rfl, by decide +kernel, by decide +kernel⟩
abbrev N_is_word : List Str := ["thing", "sign"]
theorem sc_is_word : FnScope N_is_word ["thing"] (defScope (topS 32)) := ⟨rfl, rfl, rfl, by decide +kernel, rfl, by decide +kernel, by decide +kernel⟩
abbrev N_check_word : List Str := ["word"]
theorem sc_check_word : FnScope N_check_word ["word"] (defScope (topS 33)) := ⟨rfl, rfl, rfl, by decide +kernel, rfl, by decide +kernel, by decide +kernel⟩
abbrev N_check_lengths : List Str := ["lengths", "length"]
theorem sc_check_lengths : FnScope N_check_lengths ["lengths"] (defScope (topS 40)) := ⟨rfl, rfl, rfl, by decide +kernel, rfl, by decide +kernel, by decide +kernel⟩
abbrev N_check_size : List Str := ["size"]
theorem sc_check_size : FnScope N_check_size ["size"] (defScope (topS 41)) := ⟨rfl, rfl, rfl, by decide +kernel, rfl, by decide +kernel, by decide +kernel⟩
abbrev N_check_fit : List Str := ["entries", "lengths", "at", "slot", "places"]
theorem sc_check_fit : FnScope N_check_fit ["entries", "lengths"] (defScope (topS 42)) := ⟨rfl, rfl, rfl, by decide +kernel, rfl, by decide +kernel, by decide +kernel⟩
abbrev N_l_pool : List Str := ["_law_script", "_law_at", "_law_cell", "_law_far"]
theorem sc_l_pool : FnScope N_l_pool ["_law_script", "_law_at"] (defScope (topS 44)) := ⟨rfl, rfl, rfl, by decide +kernel, rfl, by decide +kernel, by decide +kernel⟩
abbrev N_l_take : List Str := ["_law_pool_here", "_law_many", "_law_digit", "_law_turn", "_law_one", "_law_other"]
theorem sc_l_take : FnScope N_l_take ["_law_pool_here", "_law_many"] (defScope (topS 45)) := ⟨rfl, rfl, rfl, by decide +kernel, rfl, by decide +kernel, by decide +kernel⟩
abbrev N_l_kinds : List Str := ["_law_pool_here", "_law_some", "_law_start"]
theorem sc_l_kinds : FnScope N_l_kinds ["_law_pool_here"] (defScope (topS 46)) := ⟨rfl, rfl, rfl, by decide +kernel, rfl, by decide +kernel, by decide +kernel⟩
abbrev N_l_row_entries : List Str := ["_law_pool_here", "_law_many", "_law_most", "_law_told", "_law_slot", "_law_k", "_law_spots", "_law_last", "_law_j"]
theorem sc_l_row_entries : FnScope N_l_row_entries ["_law_pool_here", "_law_many", "_law_most"] (defScope (topS 47)) := ⟨rfl, rfl, rfl, by decide +kernel, rfl, by decide +kernel, by decide +kernel⟩
abbrev N_l_lengths : List Str := ["_law_pool_here", "_law_entries", "_law_told", "_law_slot", "_law_need", "_law_spots", "_law_other"]
theorem sc_l_lengths : FnScope N_l_lengths ["_law_pool_here", "_law_entries"] (defScope (topS 48)) := ⟨rfl, rfl, rfl, by decide +kernel, rfl, by decide +kernel, by decide +kernel⟩
abbrev N_l_heads : List Str := ["_law_entries", "_law_lengths_here", "_law_wide", "_law_told", "_law_at", "_law_some", "_law_most", "_law_least", "_law_slot", "_law_spots"]
theorem sc_l_heads : FnScope N_l_heads ["_law_entries", "_law_lengths_here", "_law_wide"] (defScope (topS 49)) := ⟨rfl, rfl, rfl, by decide +kernel, rfl, by decide +kernel, by decide +kernel⟩
abbrev N_l_are : List Str := ["_law_one", "_law_other", "_law_due", "_law_told", "_law_answer"]
theorem sc_l_are : FnScope N_l_are ["_law_one", "_law_other", "_law_due"] (defScope (topS 50)) := ⟨rfl, rfl, rfl, by decide +kernel, rfl, by decide +kernel, by decide +kernel⟩
abbrev N_l_changed : List Str := ["_law_pool_here", "_law_word", "_law_entries", "_law_lengths_here", "_law_wide", "_law_sort", "_law_at", "_law_spot", "_law_slot", "_law_spots"]
theorem sc_l_changed : FnScope N_l_changed ["_law_pool_here", "_law_word", "_law_entries", "_law_lengths_here", "_law_wide"] (defScope (topS 51)) := ⟨rfl, rfl, rfl, by decide +kernel, rfl, by decide +kernel, by decide +kernel⟩
abbrev N_law : List Str := ["_law_script", "_law_k", "_law_pool_here", "_law_entries", "_law_lengths_here", "_law_one", "_law_two", "_law_row", "_law_other", "_law_heads_here", "_law_at", "_law_block", "_law_mine", "_law_place", "_law_further", "_law_yours", "_law_thing"]
theorem sc_law : FnScope N_law ["_law_script"] (defScope (topS 52)) := ⟨rfl, rfl, rfl, by decide +kernel, rfl, by decide +kernel, by decide +kernel⟩
abbrev N_Block_init : List Str := ["self", "entries", "lengths", "slot", "places"]
theorem sc_Block_init : FnScope N_Block_init ["self", "entries", "lengths"] (defScope (inClass (topS 38) 0)) := ⟨rfl, rfl, rfl, by decide +kernel, rfl, by decide +kernel, by decide +kernel⟩
abbrev N_Block_eq : List Str := ["self", "other"]
theorem sc_Block_eq : FnScope N_Block_eq ["self", "other"] (defScope (inClass (topS 38) 1)) := ⟨rfl, rfl, rfl, by decide +kernel, rfl, by decide +kernel, by decide +kernel⟩
abbrev N_Block_head : List Str := ["self"]
theorem sc_Block_head : FnScope N_Block_head ["self"] (defScope (inClass (topS 38) 3)) := ⟨rfl, rfl, rfl, by decide +kernel, rfl, by decide +kernel, by decide +kernel⟩
abbrev N_Row_init : List Str := ["self", "word", "entries", "lengths", "size", "at"]
theorem sc_Row_init : FnScope N_Row_init ["self", "word", "entries", "lengths", "size"] (defScope (inClass (topS 39) 0)) := ⟨rfl, rfl, rfl, by decide +kernel, rfl, by decide +kernel, by decide +kernel⟩
abbrev N_Row_eq : List Str := ["self", "other"]
theorem sc_Row_eq : FnScope N_Row_eq ["self", "other"] (defScope (inClass (topS 39) 1)) := ⟨rfl, rfl, rfl, by decide +kernel, rfl, by decide +kernel, by decide +kernel⟩
abbrev N_Row_blocks : List Str := ["self"]
theorem sc_Row_blocks : FnScope N_Row_blocks ["self"] (defScope (inClass (topS 39) 3)) := ⟨rfl, rfl, rfl, by decide +kernel, rfl, by decide +kernel, by decide +kernel⟩
/-- what the top has left: A the defs' places, FD their data, TK the constants' tokens -/
structure TX (K : PySem.W.Frag) (mg : Str → Option Value) (A : Nat → Addr) (FD : Nat → FuncData) (TK : Nat → Tok) : Prop where
  f_is_whole : Fun K "is_whole" "is_whole" (topS 10) (A 10) (FD 10)
  b_is_whole : Binds K (FD 10) ["thing"] []
  g_is_whole : mg "is_whole" = some (.ref (A 10))
  f_is_within : Fun K "is_within" "is_within" (topS 11) (A 11) (FD 11)
  b_is_within : Binds K (FD 11) ["thing", "least", "most"] []
  g_is_within : mg "is_within" = some (.ref (A 11))
  f_is_count : Fun K "is_count" "is_count" (topS 15) (A 15) (FD 15)
  b_is_count : Binds K (FD 15) ["thing"] []
  g_is_count : mg "is_count" = some (.ref (A 15))
  f_code : Fun K "code" "code" (topS 16) (A 16) (FD 16)
  b_code : Binds K (FD 16) ["number"] []
  g_code : mg "code" = some (.ref (A 16))
  f_code_all : Fun K "code_all" "code_all" (topS 17) (A 17) (FD 17)
  b_code_all : Binds K (FD 17) ["numbers"] []
  g_code_all : mg "code_all" = some (.ref (A 17))
  f_code_entries : Fun K "code_entries" "code_entries" (topS 18) (A 18) (FD 18)
  b_code_entries : Binds K (FD 18) ["entries"] []
  g_code_entries : mg "code_entries" = some (.ref (A 18))
  f_decode_entries : Fun K "decode_entries" "decode_entries" (topS 19) (A 19) (FD 19)
  b_decode_entries : Binds K (FD 19) ["text"] []
  g_decode_entries : mg "decode_entries" = some (.ref (A 19))
  f_check_entries : Fun K "check_entries" "check_entries" (topS 20) (A 20) (FD 20)
  b_check_entries : Binds K (FD 20) ["entries"] []
  g_check_entries : mg "check_entries" = some (.ref (A 20))
  f_is_entry : Fun K "is_entry" "is_entry" (topS 21) (A 21) (FD 21)
  b_is_entry : Binds K (FD 21) ["thing"] []
  g_is_entry : mg "is_entry" = some (.ref (A 21))
  f_are_places : Fun K "are_places" "are_places" (topS 22) (A 22) (FD 22)
  b_are_places : Binds K (FD 22) ["thing"] []
  g_are_places : mg "are_places" = some (.ref (A 22))
  f_first_fall : Fun K "first_fall" "first_fall" (topS 23) (A 23) (FD 23)
  b_first_fall : Binds K (FD 23) ["things"] []
  g_first_fall : mg "first_fall" = some (.ref (A 23))
  f_gaps_of : Fun K "gaps_of" "gaps_of" (topS 24) (A 24) (FD 24)
  b_gaps_of : Binds K (FD 24) ["numbers"] []
  g_gaps_of : mg "gaps_of" = some (.ref (A 24))
  f_risen : Fun K "risen" "risen" (topS 25) (A 25) (FD 25)
  b_risen : Binds K (FD 25) ["gaps"] []
  g_risen : mg "risen" = some (.ref (A 25))
  f_check_text : Fun K "check_text" "check_text" (topS 26) (A 26) (FD 26)
  b_check_text : Binds K (FD 26) ["text"] []
  g_check_text : mg "check_text" = some (.ref (A 26))
  f_read_number : Fun K "read_number" "read_number" (topS 27) (A 27) (FD 27)
  b_read_number : Binds K (FD 27) ["text", "start"] []
  g_read_number : mg "read_number" = some (.ref (A 27))
  f_read_numbers : Fun K "read_numbers" "read_numbers" (topS 28) (A 28) (FD 28)
  b_read_numbers : Binds K (FD 28) ["text", "at", "many"] []
  g_read_numbers : mg "read_numbers" = some (.ref (A 28))
  f_is_word : Fun K "is_word" "is_word" (topS 32) (A 32) (FD 32)
  b_is_word : Binds K (FD 32) ["thing"] []
  g_is_word : mg "is_word" = some (.ref (A 32))
  f_check_word : Fun K "check_word" "check_word" (topS 33) (A 33) (FD 33)
  b_check_word : Binds K (FD 33) ["word"] []
  g_check_word : mg "check_word" = some (.ref (A 33))
  f_check_lengths : Fun K "check_lengths" "check_lengths" (topS 40) (A 40) (FD 40)
  b_check_lengths : Binds K (FD 40) ["lengths"] []
  g_check_lengths : mg "check_lengths" = some (.ref (A 40))
  f_check_size : Fun K "check_size" "check_size" (topS 41) (A 41) (FD 41)
  b_check_size : Binds K (FD 41) ["size"] []
  g_check_size : mg "check_size" = some (.ref (A 41))
  f_check_fit : Fun K "check_fit" "check_fit" (topS 42) (A 42) (FD 42)
  b_check_fit : Binds K (FD 42) ["entries", "lengths"] []
  g_check_fit : mg "check_fit" = some (.ref (A 42))
  f_l_pool : Fun K "_law_pool" "_law_pool" (topS 44) (A 44) (FD 44)
  b_l_pool : Binds K (FD 44) ["_law_script", "_law_at"] []
  g_l_pool : mg "_law_pool" = some (.ref (A 44))
  f_l_take : Fun K "_law_take" "_law_take" (topS 45) (A 45) (FD 45)
  b_l_take : Binds K (FD 45) ["_law_pool_here", "_law_many"] []
  g_l_take : mg "_law_take" = some (.ref (A 45))
  f_l_kinds : Fun K "_law_kinds" "_law_kinds" (topS 46) (A 46) (FD 46)
  b_l_kinds : Binds K (FD 46) ["_law_pool_here"] []
  g_l_kinds : mg "_law_kinds" = some (.ref (A 46))
  f_l_row_entries : Fun K "_law_row_entries" "_law_row_entries" (topS 47) (A 47) (FD 47)
  b_l_row_entries : Binds K (FD 47) ["_law_pool_here", "_law_many", "_law_most"] []
  g_l_row_entries : mg "_law_row_entries" = some (.ref (A 47))
  f_l_lengths : Fun K "_law_lengths" "_law_lengths" (topS 48) (A 48) (FD 48)
  b_l_lengths : Binds K (FD 48) ["_law_pool_here", "_law_entries"] []
  g_l_lengths : mg "_law_lengths" = some (.ref (A 48))
  f_l_heads : Fun K "_law_heads" "_law_heads" (topS 49) (A 49) (FD 49)
  b_l_heads : Binds K (FD 49) ["_law_entries", "_law_lengths_here", "_law_wide"] []
  g_l_heads : mg "_law_heads" = some (.ref (A 49))
  f_l_are : Fun K "_law_are" "_law_are" (topS 50) (A 50) (FD 50)
  b_l_are : Binds K (FD 50) ["_law_one", "_law_other", "_law_due"] []
  g_l_are : mg "_law_are" = some (.ref (A 50))
  f_l_changed : Fun K "_law_changed" "_law_changed" (topS 51) (A 51) (FD 51)
  b_l_changed : Binds K (FD 51) ["_law_pool_here", "_law_word", "_law_entries", "_law_lengths_here", "_law_wide"] []
  g_l_changed : mg "_law_changed" = some (.ref (A 51))
  f_law : Fun K "law" "law" (topS 52) (A 52) (FD 52)
  b_law : Binds K (FD 52) ["_law_script"] []
  g_law : mg "law" = some (.ref (A 52))
  m_abs : mg "abs" = none
  m_all : mg "all" = none
  m_bool : mg "bool" = none
  m_divmod : mg "divmod" = none
  m_enumerate : mg "enumerate" = none
  m_int : mg "int" = none
  m_isinstance : mg "isinstance" = none
  m_len : mg "len" = none
  m_list : mg "list" = none
  m_max : mg "max" = none
  m_min : mg "min" = none
  m_range : mg "range" = none
  m_str : mg "str" = none
  m_tuple : mg "tuple" = none
  c_DIGITS_AHEAD : mg "DIGITS_AHEAD" = some (.str "ABCDEFGHIJKLMNOP" (TK 13))
  c_LAST_DIGITS : mg "LAST_DIGITS" = some (.str "abcdefghijklmnop" (TK 14))
  c_MOST_LETTERS : mg "MOST_LETTERS" = some (.int 12 (TK 30))
  c_MOST_WORDS : mg "MOST_WORDS" = some (.int 120 (TK 31))
  c_SIZE : mg "SIZE" = some (.int 4 (TK 35))
  c_MOST_SIZE : mg "MOST_SIZE" = some (.int 8 (TK 36))
  c_MOST_LENGTHS : mg "MOST_LENGTHS" = some (.int 60 (TK 37))
  k_Wrong : mg "Wrong" = some (.ref (A 1))
  k_NoWord : mg "NoWord" = some (.ref (A 2))
  k_NoNumber : mg "NoNumber" = some (.ref (A 3))
  k_NoSize : mg "NoSize" = some (.ref (A 4))
  k_NoLengths : mg "NoLengths" = some (.ref (A 5))
  k_NoCode : mg "NoCode" = some (.ref (A 6))
  k_NoRow : mg "NoRow" = some (.ref (A 7))
  k_NoEntries : mg "NoEntries" = some (.ref (A 8))
  k_Block : mg "Block" = some (.ref (A 38))
  k_Row : mg "Row" = some (.ref (A 39))
  cl_Block : Cls K (A 38)
  n_Block_first : NoAttr K (A 38) "first"
  n_Block_last : NoAttr K (A 38) "last"
  n_Block_many : NoAttr K (A 38) "many"
  n_Block_most : NoAttr K (A 38) "most"
  n_Block_least : NoAttr K (A 38) "least"
  n_Block_coded : NoAttr K (A 38) "coded"
  cl_Row : Cls K (A 39)
  n_Row_word : NoAttr K (A 39) "word"
  n_Row_size : NoAttr K (A 39) "size"
  n_Row_cut : NoAttr K (A 39) "cut"
  f_Block_init : Fun K "__init__" "Block.__init__" (inClass (topS 38) 0) (A 53) (FD 53)
  b_Block_init : Binds K (FD 53) ["self", "entries", "lengths"] []
  M_Block : Mk K (A 38) (A 53)
  f_Block_eq : Fun K "__eq__" "Block.__eq__" (inClass (topS 38) 1) (A 54) (FD 54)
  b_Block_eq : Binds K (FD 54) ["self", "other"] []
  M_Block_eq : Meth K (A 38) "__eq__" (A 54)
  f_Block_head : Fun K "head" "Block.head" (inClass (topS 38) 3) (A 55) (FD 55)
  b_Block_head : Binds K (FD 55) ["self"] []
  M_Block_head : Meth K (A 38) "head" (A 55)
  f_Row_init : FunD K "__init__" "Row.__init__" (defArgs (inClass (topS 39) 0)) (defBody (inClass (topS 39) 0)) (defScope (inClass (topS 39) 0)) [] [("size", .int 4)] (A 56) (FD 56)
  M_Row : Mk K (A 39) (A 56)
  f_Row_eq : Fun K "__eq__" "Row.__eq__" (inClass (topS 39) 1) (A 57) (FD 57)
  b_Row_eq : Binds K (FD 57) ["self", "other"] []
  M_Row_eq : Meth K (A 39) "__eq__" (A 57)
  f_Row_blocks : Fun K "blocks" "Row.blocks" (inClass (topS 39) 3) (A 58) (FD 58)
  b_Row_blocks : Binds K (FD 58) ["self"] []
  M_Row_blocks : Meth K (A 39) "blocks" (A 58)
  cs : PySem.W.specialIn K (.builtin "object.__class__") "__get__" = some (some (.builtin "getset_descriptor.__get__"))
  ct : PySem.W.takesIn K (.builtin "object.__class__") = some true
  ciB : PySem.W.findIn K (.ref (A 38)) "__class__" = some (some (.builtin "object.__class__"))
  moB : PySem.W.mroIn K (A 38) (.type "object") = some true
  neB : PySem.W.findIn K (.ref (A 38)) "__ne__" = some (some (.builtin "object.__ne__"))
  kB : PySem.W.kitOne K (.ref (A 38)) (.ref (A 38)) = some true
  ciR : PySem.W.findIn K (.ref (A 39)) "__class__" = some (some (.builtin "object.__class__"))
  moR : PySem.W.mroIn K (A 39) (.type "object") = some true
  neR : PySem.W.findIn K (.ref (A 39)) "__ne__" = some (some (.builtin "object.__ne__"))
  kR : PySem.W.kitOne K (.ref (A 39)) (.ref (A 39)) = some true
  kRB : PySem.W.kitOne K (.ref (A 39)) (.ref (A 38)) = some false
  ktB : PySem.W.kitOne K (.type "tuple") (.ref (A 38)) = some false
  nfRB : PySem.W.notFirst K (A 38) (.ref (A 39)) = true
  kNoneType : PySem.W.kitOne K (.type "NoneType") (.ref (A 39)) = some false
  kint : PySem.W.kitOne K (.type "int") (.ref (A 39)) = some false
  kstr : PySem.W.kitOne K (.type "str") (.ref (A 39)) = some false
  ktuple : PySem.W.kitOne K (.type "tuple") (.ref (A 39)) = some false
  klist : PySem.W.kitOne K (.type "list") (.ref (A 39)) = some false
  kbool : PySem.W.kitOne K (.type "bool") (.ref (A 39)) = some false
section
variable {P : Program} {w : World} {K : PySem.W.Frag} {mg : Str → Option Value} {base : Heap} {A : Nat → Addr} {FD : Nat → FuncData} {TK : Nat → Tok}
/-! ### _law_take -/
def spTake : Sp := fun vs H Q _ => ∃ (p : Addr) (m : Int) (c : Nat), vs = [.ref p, .int m] ∧ Pl H p c ∧ 0 < m ∧ m < 1073741824 ∧ c < 1000000 ∧
  ∀ (d : Int) (H' : Hp), 0 ≤ d → d < m → Pl H' p (c + 1) → Fx p H H' → Q (.int d) H'
set_option maxHeartbeats 4000000 in
theorem ok_l_take (T : TX K mg A FD TK) : FnOk P w K mg base CX0 1 (A 45) (FD 45) ["_law_pool_here", "_law_many"] spTake := by
  refine T.f_l_take.ok sc_l_take (fun vs H Q E h => ?_) (fun cdv A' outer s H vs Q E hr h => ?_)
  · obtain ⟨p, m, c, rfl, _⟩ := h
    rfl
  · obtain ⟨p, m, c, rfl, ⟨g, b, k, hp, hg, hb, hb2, hk⟩, hm, hm2, hc, q⟩ := h
    refine ⟨_, (pss_cons (ps_if (pt_cmpR op_gt (pe_ix (ixLK (K := K) rfl) (pv 0) pe_int (fun _ _ => rfl)) pe_int (nomark _))
      (pss_cons (ps_set (i := 2) sc_l_take.nd rfl (.inl rfl) (pe_op op_mod (pe_ix (ixLK (K := K) rfl) (pv 0) pe_int (fun _ _ => rfl)) (pv 1)))
      (pss_cons (ps_asg (pe_op op_fdiv (pe_ix (ixLK (K := K) rfl) (pv 0) pe_int (fun _ _ => rfl)) (pv 1)) (pg_sub (pv 0) pe_int set_list))
      (pss_one (ps_ret (pv 2)))))
      pss_nil)
      (pss_cons (ps_asg (pe_op op_add (pe_ix (ixLK (K := K) rfl) (pv 0) pe_int (fun _ _ => rfl)) pe_int) (pg_sub (pv 0) pe_int set_list))
      (pss_cons (ps_set (i := 3) sc_l_take.nd rfl (.inl rfl) (pe_ix (ixLK (K := K) rfl) (pv 0) pe_int (fun _ _ => rfl)))
      (pss_cons (ps_set (i := 4) sc_l_take.nd rfl (.inl rfl) (pe_op op_mod (pe_op op_pow (pe_op op_add (pe_op op_add (pe_ix (ixLK (K := K) rfl) (pv 0) pe_int (fun _ _ => rfl)) (pe_op op_mul (pe_op op_mul pe_int (pv 3)) (pv 3))) pe_int) pe_int) pe_int))
      (pss_cons (ps_set (i := 5) sc_l_take.nd rfl (.inl rfl) (pe_op op_mod (pe_op op_add (pe_op op_pow (pv 4) pe_int) (pe_op op_mul pe_int (pv 3))) pe_int))
      (pss_one (ps_ret (pe_op op_mod (pe_op op_fdiv (pe_op op_add (pe_op op_mul (pv 4) pe_int) (pe_op op_mul (pv 5) (pv 5))) pe_int) (pv 1))))))))), ?_⟩
    refine ⟨.ref p, rfl, p, _, 0, .int g, rfl, rfl, SqL.of hp, atI_nat (j := 0) rfl, g, 0, rfl, rfl, _, rfl, ite2 (fun e => ?_) (fun e => ?_)⟩
    · refine ⟨.ref p, rfl, p, _, 0, .int g, rfl, rfl, SqL.of hp, atI_nat (j := 0) rfl, .int m, rfl, g, m, rfl, rfl, hm, ?_⟩
      refine ⟨.ref p, rfl, p, _, 0, .int g, rfl, rfl, SqL.of hp, atI_nat (j := 0) rfl, .int m, rfl, g, m, rfl, rfl, ⟨hm, hm2⟩, .ref p, rfl, p, _, 0, 0, rfl, rfl, hp, rfl, ?_⟩
      refine ⟨.int (g % m), rfl, ?_⟩
      exact q _ _ (Int.emod_nonneg _ (by omega)) (Int.emod_lt_of_pos _ hm) ⟨g / m, b, k, upd_same, Int.ediv_nonneg hg (by omega), hb, hb2, by omega⟩ Fx.upd
    · have hp1 : (upd H p (.lst [.int g, .int b, .int ((k : Int) + 1)])) p = some (.lst [.int g, .int b, .int ((k : Int) + 1)]) := upd_same
      refine ⟨.ref p, rfl, p, _, 2, .int k, rfl, rfl, SqL.of hp, atI_nat (j := 2) rfl, k, 1, rfl, rfl, .ref p, rfl, p, _, 2, 2, rfl, rfl, hp, rfl, ?_⟩
      refine ⟨.ref p, rfl, p, _, 2, .int ((k : Int) + 1), rfl, rfl, SqL.of hp1, atI_nat (j := 2) rfl, ?_⟩
      have t0 : (0 : Int) ≤ (k : Int) + 1 := by omega
      have t1 : (k : Int) + 1 ≤ 1000000 := by omega
      have s1 : 0 ≤ 69621 * ((k : Int) + 1) ∧ 69621 * ((k : Int) + 1) ≤ 69621000000 := by omega
      have s2 : 0 ≤ 69621 * ((k : Int) + 1) * ((k : Int) + 1) := mul_nn s1.1 t0
      have s3 : 69621 * ((k : Int) + 1) * ((k : Int) + 1) ≤ 69621000000 * 1000000 := mul_le s1.1 s1.2 t0 t1
      refine ⟨.ref p, rfl, p, _, 1, .int b, rfl, rfl, SqL.of hp1, atI_nat (j := 1) rfl, .int ((k : Int) + 1), rfl, 69621, (k : Int) + 1, rfl, rfl, .inl ⟨by decide, by decide⟩, .int ((k : Int) + 1), rfl, 69621 * ((k : Int) + 1), (k : Int) + 1, rfl, rfl, .inl ⟨by omega, by omega⟩,
        b, 69621 * ((k : Int) + 1) * ((k : Int) + 1), rfl, rfl, b + 69621 * ((k : Int) + 1) * ((k : Int) + 1), 3, rfl, rfl, b + 69621 * ((k : Int) + 1) * ((k : Int) + 1) + 3, 3, rfl, rfl, ⟨by decide, by decide, natAbs_lt (by omega) (by omega)⟩,
        _, 2147483629, rfl, rfl, (show (0 : Int) < 2147483629 by decide), ?_⟩
      have o0 : 0 ≤ (b + 69621 * ((k : Int) + 1) * ((k : Int) + 1) + 3) ^ Int.toNat 3 % 2147483629 := Int.emod_nonneg _ (by decide)
      have o1 : (b + 69621 * ((k : Int) + 1) * ((k : Int) + 1) + 3) ^ Int.toNat 3 % 2147483629 < 2147483629 := Int.emod_lt_of_pos _ (by decide)
      dsimp only
      generalize (b + 69621 * ((k : Int) + 1) * ((k : Int) + 1) + 3) ^ Int.toNat 3 % 2147483629 = one at o0 o1 ⊢
      refine ⟨.int one, rfl, one, 3, rfl, rfl, ⟨by decide, by decide, natAbs_lt o0 (by omega)⟩, .int ((k : Int) + 1), rfl, 30011, (k : Int) + 1, rfl, rfl, .inl ⟨by decide, by decide⟩, _, _, rfl, rfl, _, 998244353, rfl, rfl, (show (0 : Int) < 998244353 by decide), ?_⟩
      have r0 : 0 ≤ (one ^ Int.toNat 3 + 30011 * ((k : Int) + 1)) % 998244353 := Int.emod_nonneg _ (by decide)
      have r1 : (one ^ Int.toNat 3 + 30011 * ((k : Int) + 1)) % 998244353 < 998244353 := Int.emod_lt_of_pos _ (by decide)
      dsimp only
      generalize (one ^ Int.toNat 3 + 30011 * ((k : Int) + 1)) % 998244353 = other at r0 r1 ⊢
      refine ⟨.int one, rfl, one, 998244353, rfl, rfl, .inl ⟨by omega, by omega⟩, .int other, rfl, .int other, rfl, other, other, rfl, rfl, .inl ⟨by omega, by omega⟩, _, _, rfl, rfl, _, 1013, rfl, rfl, (show (0 : Int) < 1013 ∧ (1013 : Int) < 1073741824 by decide), .int m, rfl, _, m, rfl, rfl, hm, ?_⟩
      exact q _ _ (Int.emod_nonneg _ (by omega)) (Int.emod_lt_of_pos _ hm) ⟨g, b, k + 1, upd_same, hg, hb, hb2, by omega⟩ Fx.upd

/-! ### _law_pool -/
def spPool (K : PySem.W.Frag) : Sp := fun vs H Q _ => ∃ (a : Addr) (ns : List Int) (j : Nat), vs = [.ref a, .int (j : Int)] ∧ SqL K H a (ns.map V.int) ∧ ns.length ≤ 63 ∧ j ≤ 1000 ∧
  ∀ (p : Addr) (H' : Hp), H p = none → Ex H H' → Pl H' p 0 → Q (.ref p) H'
set_option maxHeartbeats 4000000 in
theorem ok_l_pool (T : TX K mg A FD TK) : FnOk P w K mg base CX0 1 (A 44) (FD 44) ["_law_script", "_law_at"] (spPool K) := by
  refine T.f_l_pool.ok sc_l_pool (fun vs H Q E h => ?_) (fun cdv A' outer s H vs Q E hr h => ?_)
  · obtain ⟨a, ns, j, rfl, _⟩ := h
    rfl
  · obtain ⟨a, ns, j, rfl, hS, hn, hj, q⟩ := h
    refine ⟨_, (pss_cons (ps_set (i := 2) sc_l_pool.nd rfl (.inl rfl) pe_int)
      (pss_cut (ps_if (pt_cmpR op_lt (pv 1) (pe_callB (lenK (K := K) rfl) (by rfl) T.m_len (by decide +kernel) (pa_cons (pv 0) pa_nil)) (nomark _))
      (pss_one (ps_set (i := 2) sc_l_pool.nd rfl (.inl rfl) (pe_ix (ixLK (K := K) rfl) (pv 0) (pv 1) (fun _ _ => rfl))))
      pss_nil)
      (pss_cons (ps_set (i := 3) sc_l_pool.nd rfl (.inl rfl) (pe_callB call_abs (by rfl) T.m_abs (by decide +kernel) (pa_cons (pv 2) pa_nil)))
      (pss_one (ps_ret (pe_lst (pa_cons (pe_op op_mul (pv 3) (pe_callTy call_int1 (by rfl) T.m_int (by decide +kernel) (pa_cons (pe_cmpR op_ge (pv 3) (pe_op op_pow pe_int pe_int) (nomark _)) pa_nil))) (pa_cons (pe_op op_add (pe_op op_add (pe_op op_mul (pe_op op_mod (pv 2) pe_int) pe_int) (pe_op op_mul pe_int (pv 1))) pe_int) (pa_cons pe_int pa_nil))))))))), ?_⟩
    refine ⟨fun σ' H' => H' = H ∧ ∃ z : Int, σ' = [some (.ref a), some (.int (j : Int)), some (.int z), none], ?_, ?_⟩
    · refine ⟨.int (j : Int), rfl, .ref a, rfl, a, _, rfl, .inl hS, _, _, rfl, rfl, _, rfl, ite2 (fun e => ?_) (fun e => ?_)⟩
      · have e0 : (j : Int) < ((ns.map V.int).length : Int) := of_decide_eq_true e
        have e1 : j < ns.length := by
          rw [List.length_map] at e0
          omega
        refine ⟨.ref a, rfl, .int (j : Int), rfl, a, _, _, .int ns[j], rfl, rfl, hS, atI_nat (j := j) ?_, rfl, ns[j], rfl⟩
        rw [List.getElem?_map, List.getElem?_eq_getElem e1]
        rfl
      · exact ⟨rfl, 0, rfl⟩
    · rintro σ' H' ⟨rfl, z, rfl⟩
      refine ⟨.int z, rfl, z, rfl, ?_⟩
      have f0 : 0 ≤ (if z < 0 then -z else z) := by split <;> omega
      generalize (if z < 0 then -z else z) = far at f0 ⊢
      refine ⟨.int far, rfl, .int far, rfl, 10, 18, rfl, rfl, ⟨by decide, by decide, by decide⟩, far, _, rfl, rfl, .inr ⟨_, rfl, ?_⟩⟩
      generalize hd : decide ((10 : Int) ^ Int.toNat 18 ≤ far) = big
      have m0 : 0 ≤ z % 2147483647 := Int.emod_nonneg _ (by decide)
      have m1 : z % 2147483647 < 2147483647 := Int.emod_lt_of_pos _ (by decide)
      refine ⟨far, _, rfl, rfl, .inr ⟨?_, ?_⟩, ?_⟩
      · cases big <;> decide
      · cases big <;> decide
      refine ⟨.int z, rfl, z, 2147483647, rfl, rfl, (show (0 : Int) < 2147483647 by decide), ?_⟩
      dsimp only
      generalize z % 2147483647 = y at m0 m1 ⊢
      refine ⟨y, 48271, rfl, rfl, .inl ⟨by omega, by omega⟩, .int (j : Int), rfl, 7919, (j : Int), rfl, rfl, .inl ⟨by decide, by decide⟩, _, _, rfl, rfl, _, 31, rfl, rfl, (by show 3 ≤ sizeLine; decide), fun p np => ?_⟩
      refine q p _ np (ex_upd np) ⟨_, _, 0, upd_same, ?_, ?_, ?_, Nat.le_refl _⟩
      · cases big
        · show (0 : Int) ≤ far * 0
          omega
        · show (0 : Int) ≤ far * 1
          omega
      · omega
      · omega

theorem pool_ne {H : Hp} {p a : Addr} {c : Nat} (h : Pl H p c) (n : H a = none) : a ≠ p := by
  obtain ⟨xs, hx⟩ := h.some
  exact (ne_of_none hx n).symm
theorem pl_upd {H : Hp} {p a : Addr} {c : Nat} {o : HO} (h : Pl H p c) (n : a ≠ p) : Pl (upd H a o) p c := by
  obtain ⟨g, b, k, x1, x2⟩ := h
  exact ⟨g, b, k, by rw [upd_ne n.symm]; exact x1, x2⟩

/-! ### texts: words, pieces between blanks -/
/-- a word: one to twelve letters a to z -/
def isW (z : Str) : Bool := decide (1 ≤ z.cps.size) && decide (z.cps.size ≤ 12) && z.cps.toList.all fun c => decide (97 ≤ c) && decide (c ≤ 122)
def wordV : V → Bool
  | .str z => isW z
  | _ => false
/-- the things that are asked of -/
inductive Th (H : Hp) : V → Prop
  | str (z : Str) (h : z.length ≤ 100000) : Th H (.str z)
  | non : Th H .non
  | bl (b : Bool) : Th H (.bl b)
  | int (i : Int) : Th H (.int i)
  | lst {a : Addr} {xs : List V} (h : H a = some (.lst xs)) : Th H (.ref a)
  | tup {a : Addr} {xs : List V} (h : H a = some (.tup xs)) : Th H (.ref a)
theorem Th.ex {H H' : Hp} {v : V} (t : Th H v) (e : Ex H H') : Th H' v := by
  cases t with
  | str z h => exact .str z h
  | non => exact .non
  | bl b => exact .bl b
  | int i => exact .int i
  | lst h => exact .lst (e _ _ h)
  | tup h => exact .tup (e _ _ h)
theorem Th.exN {H H' : Hp} {v : V} (t : Th H v) (e : LamX.ExtN H H') : Th H' v := by
  cases t with
  | str z h => exact .str z h
  | non => exact .non
  | bl b => exact .bl b
  | int i => exact .int i
  | lst h => exact .lst (e _ _ h (by intro ps z; cases z))
  | tup h => exact .tup (e _ _ h (by intro ps z; cases z))
/-- a text, or a thing of another kind -/
theorem Th.kinds (K : PySem.W.Frag) {H : Hp} {v : V} (t : Th H v) : (∃ z, v = .str z ∧ z.length ≤ 100000) ∨ (∃ ty, TyX K H v (.type ty) ∧ kitB ty "str" = some false ∧ wordV v = false ∧ ∀ z, v ≠ .str z) := by
  cases t with
  | str z h => exact .inl ⟨z, rfl, h⟩
  | non => exact .inr ⟨_, .base .non, by decide +kernel, rfl, fun z e => by cases e⟩
  | bl b => exact .inr ⟨_, .base (.bl b), by decide +kernel, rfl, fun z e => by cases e⟩
  | int i => exact .inr ⟨_, .base (.int i), by decide +kernel, rfl, fun z e => by cases e⟩
  | lst h => exact .inr ⟨_, .base (.lst h), by decide +kernel, rfl, fun z e => by cases e⟩
  | tup h => exact .inr ⟨_, .base (.tup h), by decide +kernel, rfl, fun z e => by cases e⟩
theorem lt_one (a b : Nat) : decide (([a] : List Nat) < [b]) = decide (a < b) := by
  by_cases h : a < b
  · rw [decide_eq_true h]
    exact decide_eq_true (List.Lex.rel h)
  · rw [decide_eq_false h]
    refine decide_eq_false fun z => ?_
    cases z with
    | rel h' => exact h h'
    | cons h' => cases h'
theorem isW_len {z : Str} (h : isW z = true) : z.length ≤ 12 := by
  unfold isW at h
  rw [Bool.and_eq_true, Bool.and_eq_true, decide_eq_true_eq, decide_eq_true_eq] at h
  exact h.1.2
/-! ### split by a blank, joined again -/
theorem spl_len : ∀ (xs acc : List Nat), (spl [32] 0 acc xs).length ≤ xs.length + 1
  | [], acc => Nat.le_refl _
  | c :: r, acc => by
    rw [spl]
    split
    · have := spl_len r []
      show (spl [32] 0 [] r).length + 1 ≤ (c :: r).length + 1
      rw [List.length_cons]
      omega
    · have := spl_len r (acc ++ [c])
      rw [List.length_cons]
      omega
theorem spl_short : ∀ (xs acc : List Nat), ∀ p ∈ spl [32] 0 acc xs, p.length ≤ acc.length + xs.length
  | [], acc, p, h => by
    rw [spl, List.mem_singleton] at h
    rw [h]
    exact Nat.le_refl _
  | c :: r, acc, p, h => by
    rw [spl] at h
    split at h
    · rcases List.mem_cons.mp h with rfl | h
      · omega
      · have := spl_short r [] p h
        rw [List.length_nil] at this
        rw [List.length_cons]
        omega
    · have := spl_short r (acc ++ [c]) p h
      rw [List.length_append, List.length_cons, List.length_nil] at this
      rw [List.length_cons]
      omega
theorem spl_ne (xs acc : List Nat) : spl [32] 0 acc xs ≠ [] := by
  cases xs with
  | nil => rw [spl]; simp
  | cons c r =>
    rw [spl]
    split
    · simp
    · exact spl_ne r (acc ++ [c])
theorem joinL_cons {S p : List Nat} {q : List (List Nat)} (h : q ≠ []) : joinL S (p :: q) = p ++ (S ++ joinL S q) := by
  cases q with
  | nil => exact absurd rfl h
  | cons x r => rw [joinL]
theorem join_spl : ∀ (xs acc : List Nat), joinL [32] (spl [32] 0 acc xs) = acc ++ xs
  | [], acc => by
    rw [spl, joinL, List.append_nil]
  | c :: r, acc => by
    rw [spl]
    split
    · rename_i h
      have hc : c = 32 := by simpa [pre] using h
      show joinL [32] (acc :: spl [32] 0 [] r) = _
      rw [joinL_cons (spl_ne r []), join_spl r [], hc]
      simp
    · rw [join_spl r (acc ++ [c])]
      simp
theorem split_tl (z : Str) : (Txt.split z " ").map tl = spl [32] 0 [] (tl z) := split_spl z " " (by decide) (kind_ok (by decide +kernel))
theorem join_split (z : Str) : Txt.join " " (Txt.split z " ") = z := by
  refine ext_tl ?_
  rw [join_eq, tl_join, split_tl]
  exact (join_spl (tl z) []).trans (List.nil_append _)
theorem tl_len (z : Str) : (tl z).length = z.length := by
  show z.cps.toList.length = z.cps.size
  simp
theorem split_len (z : Str) : (Txt.split z " ").length ≤ z.length + 1 := by
  have h := spl_len (tl z) []
  rw [← split_tl, List.length_map, tl_len] at h
  exact h
theorem split_short {z p : Str} (h : p ∈ Txt.split z " ") : p.length ≤ z.length := by
  have h2 : tl p ∈ spl [32] 0 [] (tl z) := by
    rw [← split_tl]
    exact List.mem_map_of_mem h
  have h3 := spl_short _ _ _ h2
  rw [tl_len, tl_len, List.length_nil] at h3
  omega
/-- the words of a text, if it were one -/
def piecesOf (z : Str) : List Str := if z.length = 0 then [] else Txt.split z " "
def okP (ps : List Str) : Bool := decide (ps.length ≤ 120) && ps.all isW
theorem pieces_len (z : Str) : (piecesOf z).length ≤ z.length + 1 := by
  unfold piecesOf
  split
  · exact Nat.zero_le _
  · exact split_len z
theorem pieces_short {z p : Str} (h : p ∈ piecesOf z) : p.length ≤ z.length := by
  unfold piecesOf at h
  split at h
  · cases h
  · exact split_short h
theorem join_pieces (z : Str) : Txt.join " " (piecesOf z) = z := by
  unfold piecesOf
  split
  · rename_i h
    refine ext_tl ?_
    rw [join_eq, tl_join]
    have : tl z = [] := List.length_eq_zero_iff.mp (by rw [tl_len]; exact h)
    rw [this]
    rfl
  · exact join_split z
/-! ### lists of texts, compared -/
theorem isW_ok {z : Str} (h : isW z = true) : PyData.canLay0 (.str z) = true := by
  unfold isW at h
  rw [Bool.and_eq_true, List.all_eq_true] at h
  show z.cps.all (fun c => decide (c < 0x110000)) = true
  rw [← Array.all_toList, List.all_eq_true]
  intro c hc
  have := h.2 c hc
  rw [Bool.and_eq_true, decide_eq_true_eq, decide_eq_true_eq] at this
  exact decide_eq_true (by omega)
theorem dpS {K : PySem.W.Frag} {H : Hp} : ∀ zs : List Str, DpAll K H (zs.map V.str) (zs.map PyData.str)
  | [] => .nil
  | z :: r => .cons (.str z) (dpS r)
theorem shapeS {zs : List Str} (h : zs.all isW = true) : SeqAt.shaped (.list (zs.map PyData.str)) = true := by
  have h1 : ∀ zs : List Str, zs.all isW = true → PyData.canLayAll0 (zs.map PyData.str) = true := by
    intro zs
    induction zs with
    | nil => intro _; rfl
    | cons z r ih =>
      intro h
      rw [List.all_cons, Bool.and_eq_true] at h
      rw [List.map_cons, PyData.canLayAll0, isW_ok h.1, ih h.2]
      rfl
  have h2 : ∀ zs : List Str, PyData.depthAll (zs.map PyData.str) = 0 := by
    intro zs
    induction zs with
    | nil => rfl
    | cons z r ih =>
      rw [List.map_cons, PyData.depthAll, ih, PyData.depth]
      rfl
  unfold SeqAt.shaped
  rw [PyData.canLay0, PyData.depth, h1 zs h, h2 zs]
  rfl
theorem eqvS {zs : List Str} (h : zs.all isW = true) : PyData.eqv (.list (zs.map PyData.str)) (.list (zs.map PyData.str)) = true := by
  refine SeqAt.eqv_refl _ ?_
  have := shapeS h
  unfold SeqAt.shaped at this
  rw [Bool.and_eq_true] at this
  exact this.1
theorem no_str {x y : Str} {A B : Prop} (h : x ≠ y) (b : B) : if decide (V.str x = V.str y) = true then A else B := by
  rw [decide_eq_false fun z => h (V.str.inj z)]
  exact b
theorem yes_str {x : Str} {A B : Prop} (a : A) : if decide (V.str x = V.str x) = true then A else B := by
  rw [decide_eq_true rfl]
  exact a
theorem yes_le {c A B : Prop} [Decidable c] (h : c) (a : A) : if decide c = true then A else B := by
  rw [decide_eq_true h]
  exact a
theorem no_le {c A B : Prop} [Decidable c] (h : ¬ c) (b : B) : if decide c = true then A else B := by
  rw [decide_eq_false h]
  exact b
theorem joinL_len (S : List Nat) : ∀ ps : List (List Nat), (joinL S ps).length ≤ (ps.map List.length).sum + ps.length * S.length
  | [] => Nat.zero_le _
  | [p] => by
    rw [joinL, List.map_cons, List.sum_cons, List.map_nil, List.sum_nil]
    omega
  | p :: q :: r => by
    have ih := joinL_len S (q :: r)
    rw [joinL, List.length_append, List.length_append, List.map_cons, List.sum_cons, List.length_cons, Nat.add_mul, Nat.one_mul]
    omega
theorem join_len (y : Str) (ps : List Str) : (Txt.join y ps).length ≤ (ps.map (·.length)).sum + ps.length * y.length := by
  have h := joinL_len (tl y) (ps.map tl)
  rw [← tl_join, ← join_eq, tl_len, tl_len, List.length_map, List.map_map] at h
  rw [show (ps.map (·.length)) = ps.map (List.length ∘ tl) from List.map_congr_left fun p _ => (tl_len p).symm]
  exact h
theorem sum_le {ps : List Str} {n : Nat} (h : ∀ p ∈ ps, p.length ≤ n) : (ps.map (·.length)).sum ≤ ps.length * n := by
  induction ps with
  | nil => simp
  | cons p r ih =>
    have h1 := h p (List.mem_cons_self ..)
    have h2 := ih fun x hx => h x (List.mem_cons_of_mem _ hx)
    rw [List.map_cons, List.sum_cons, List.length_cons, Nat.add_mul, Nat.one_mul]
    omega

/-! ### is_whole, is_within, is_word, are_words -/
/-- a word: one to twelve letters a to z -/
def spWholeI : Sp := fun vs H Q _ => ∃ i : Int, vs = [.int i] ∧ RetV (.bl true) H Q
theorem ok_is_whole (T : TX K mg A FD TK) : FnOk P w K mg base CX0 1 (A 10) (FD 10) ["thing"] spWholeI := by
  refine T.f_is_whole.ok sc_is_whole (fun vs H Q E h => ?_) (fun cdv A' outer s H vs Q E hr h => ?_)
  · obtain ⟨i, rfl, _⟩ := h
    rfl
  · obtain ⟨i, rfl, q⟩ := h
    refine ⟨_, (pss_one (ps_ret (pe_and (pe_callB (isiK (K := K) rfl) (by rfl) T.m_isinstance (by decide +kernel) (pa_cons (pv 0) (pa_cons (pe_bltn (v := .ty "int") (by rfl) T.m_int (by decide +kernel) rfl) pa_nil))) (pe_one (pe_not (pe_callB (isiK (K := K) rfl) (by rfl) T.m_isinstance (by decide +kernel) (pa_cons (pv 0) (pa_cons (pe_bltn (v := .ty "bool") (by rfl) T.m_bool (by decide +kernel) rfl) pa_nil)))))))), ?_⟩
    refine ⟨.int i, rfl, .int i, .ty "int", .type "int", .type "int", true, rfl, .ty _, .base (.int i), kit_ty (by decide +kernel), true, rfl, iteT ?_⟩
    exact ⟨.int i, rfl, .int i, .ty "bool", .type "int", .type "bool", false, rfl, .ty _, .base (.int i), kit_ty (by decide +kernel), false, rfl, ret_v q⟩
def spWithinI : Sp := fun vs H Q _ => ∃ i lo hi : Int, vs = [.int i, .int lo, .int hi] ∧ RetV (.bl (decide (lo ≤ i) && decide (i ≤ hi))) H Q
theorem ok_is_within (T : TX K mg A FD TK) : FnOk P w K mg base CX0 2 (A 11) (FD 11) ["thing", "least", "most"] spWithinI := by
  have G_is_whole := ok_is_whole (P := P) (w := w) (base := base) T
  refine T.f_is_within.ok sc_is_within (fun vs H Q E h => ?_) (fun cdv A' outer s H vs Q E hr h => ?_)
  · obtain ⟨i, lo, hi, rfl, _⟩ := h
    rfl
  · obtain ⟨i, lo, hi, rfl, q⟩ := h
    refine ⟨_, (pss_one (ps_ret (pe_and (pe_call G_is_whole hr (by rfl) T.g_is_whole T.f_is_whole.kp T.b_is_whole .nil pass0 (pa_cons (pv 0) pa_nil)) (pe_one (pe_chain op_le op_le (pv 1) (pv 0) (pv 2)))))), ?_⟩
    refine ⟨.int i, rfl, i, rfl, fun H1 e1 => ⟨true, rfl, iteT ?_⟩⟩
    refine ⟨.int lo, rfl, .int i, rfl, lo, i, rfl, rfl, _, rfl, ite2 (fun c => ?_) (fun c => ?_)⟩
    · refine ⟨.int hi, rfl, i, hi, rfl, rfl, ?_⟩
      have z := q.go e1
      rw [c, Bool.true_and] at z
      exact z
    · have z := q.go e1
      rw [Bool.eq_false_iff.mpr c, Bool.false_and] at z
      exact z
def spWordS : Sp := fun vs H Q _ => ∃ z : Str, vs = [.str z] ∧ z.length ≤ 100000 ∧ RetV (.bl (isW z)) H Q
set_option maxHeartbeats 4000000 in
theorem ok_is_word (T : TX K mg A FD TK) : FnOk P w K mg base CX0 1 (A 32) (FD 32) ["thing"] spWordS := by
  refine T.f_is_word.ok sc_is_word (fun vs H Q E h => ?_) (fun cdv A' outer s H vs Q E hr h => ?_)
  · obtain ⟨z, rfl, _⟩ := h
    rfl
  · obtain ⟨z, rfl, hz, q⟩ := h
    refine ⟨_, (pss_cons (ps_if (PW.pt (pw_or (pt_not (pt_val (pe_callB (isiK (K := K) rfl) (by rfl) T.m_isinstance (by decide +kernel) (pa_cons (pv 0) (pa_cons (pe_bltn (v := .ty "str") (by rfl) T.m_str (by decide +kernel) rfl) pa_nil))))) (pw_or1 (pt_not (pt_chain op_le op_le pe_int (pe_callB call_len_str (by rfl) T.m_len (by decide +kernel) (pa_cons (pv 0) pa_nil)) (pe_glob (v := .int 12) (by rfl) T.c_MOST_LETTERS ⟨_, rfl⟩))))))
      (pss_one (ps_ret pe_bl))
      pss_nil)
      (pss_one (ps_ret (pe_callB (allK (K := K) rfl rfl) (by rfl) T.m_all (by decide +kernel) (pa_cons (pe_lc (own := [("sign", 1)])  rfl sc_is_word.nd (pi_str (pv 0)) (blkOk_by (own := [("sign", 1)]) (N := N_is_word) (sc := defScope (topS 32)) (by decide +kernel)) (fun _ _ _ _ _ => (pg_name (i := 1) sc_is_word.nd rfl (Or.inl rfl))) (fun _ _ _ _ _ => pts_nil) (fun _ _ _ _ _ => (pe_chain op_le_str op_le_str pe_str (pv 1) pe_str))) pa_nil))))), ?_⟩
    refine ⟨.str z, rfl, .str z, .ty "str", .type "str", .type "str", true, rfl, .ty _, .base (.str z), kit_ty (by decide +kernel), true, rfl, iteF ?_⟩
    have no : ¬ (decide ((1 : Int) ≤ (z.length : Int)) = true ∧ decide ((z.length : Int) ≤ 12) = true) → isW z = false := fun h => by
      unfold isW
      have e : z.length = z.cps.size := rfl
      by_cases h1 : 1 ≤ z.cps.size
      · by_cases h2 : z.cps.size ≤ 12
        · exact absurd ⟨decide_eq_true (by omega), decide_eq_true (by omega)⟩ h
        · rw [decide_eq_false h2, Bool.and_false, Bool.false_and]
      · rw [decide_eq_false h1, Bool.false_and, Bool.false_and]
    refine ⟨.str z, rfl, z, rfl, sz hz, 1, (z.length : Int), rfl, rfl, _, rfl, ite2 (fun c1 => ?_) (fun c1 => ?_)⟩
    · refine ⟨(z.length : Int), 12, rfl, rfl, _, rfl, ?_⟩
      by_cases c2 : (z.length : Int) ≤ 12
      · rw [decide_eq_true c2]
        refine iteF ?_
        have e : z.length = z.cps.size := rfl
        have c1' : (1 : Int) ≤ (z.length : Int) := of_decide_eq_true c1
        refine ⟨.str z, rfl, z, rfl, fun D hD => ?_⟩
        refine lc_it (walk_str (z := z)) (fun i H' => Ex H H' ∧ H' D = some (.lst ((z.cps.toList.take i).map fun c => .bl (decide (97 ≤ c) && decide (c ≤ 122))))) ⟨Ex.new hD, upd_same⟩ (fun _ _ _ _ => True.intro) (fun i x H1 H2 hi p y => ?_) (fun H1 p => ?_)
        · obtain ⟨p1, p2⟩ := p
          obtain ⟨rfl, c, hc, rfl⟩ := y
          have g : z.cps.toList[i]? = some c := by
            rw [Array.getElem?_toList]
            exact hc
          have stepE : (z.cps.toList.take (i + 1)).map (fun c => V.bl (decide (97 ≤ c) && decide (c ≤ 122))) = (z.cps.toList.take i).map (fun c => V.bl (decide (97 ≤ c) && decide (c ≤ 122))) ++ [V.bl (decide (97 ≤ c) && decide (c ≤ 122))] := by
            rw [List.take_add_one, g, List.map_append]
            rfl
          have lenE : ((z.cps.toList.take i).map (fun c => V.bl (decide (97 ≤ c) && decide (c ≤ 122)))).length < sizeLine := by
            rw [List.length_map, List.length_take]
            refine sz_lt ?_
            have : z.cps.toList.length = z.cps.size := by simp
            omega
          refine ⟨rfl, .str ⟨#[c]⟩, rfl, _, _, rfl, rfl, _, rfl, ?_⟩
          have e1 : (!decide (((⟨#[c]⟩ : Str).cps.toList) < (Str.ofString "a").cps.toList)) = decide (97 ≤ c) := by
            show (!decide ([c] < [97])) = _
            rw [lt_one]
            by_cases h : 97 ≤ c
            · rw [decide_eq_true h, decide_eq_false (by omega)]
              rfl
            · rw [decide_eq_false h, decide_eq_true (by omega)]
              rfl
          have e2 : (!decide ((Str.ofString "z").cps.toList < (⟨#[c]⟩ : Str).cps.toList)) = decide (c ≤ 122) := by
            show (!decide ([122] < [c])) = _
            rw [lt_one]
            by_cases h : c ≤ 122
            · rw [decide_eq_true h, decide_eq_false (by omega)]
              rfl
            · rw [decide_eq_false h, decide_eq_true (by omega)]
              rfl
          refine ite2 (fun b1 => ?_) (fun b1 => ?_)
          · refine ⟨_, _, rfl, rfl, _, p2, lenE, Ex.mut p1 hD, ?_⟩
            rw [upd_same, stepE, ← e1, ← e2, b1, Bool.true_and]
          · refine ⟨_, p2, lenE, Ex.mut p1 hD, ?_⟩
            rw [upd_same, stepE, ← e1, Bool.eq_false_iff.mpr b1, Bool.false_and]
        · obtain ⟨p1, p2⟩ := p
          refine ⟨D, (z.cps.toList.map fun c => (decide (97 ≤ c) && decide (c ≤ 122))), rfl, SqL.of ?_, ?_⟩
          · rw [p2, List.take_of_length_le (by simp), List.map_map]
            rfl
          · have v := q.go p1
            have ev : isW z = ((z.cps.toList.map fun c => (decide (97 ≤ c) && decide (c ≤ 122))).all id) := by
              unfold isW
              rw [decide_eq_true (by omega), decide_eq_true (by omega), List.all_map]
              rfl
            rw [ev] at v
            exact v
      · rw [decide_eq_false c2]
        refine iteT ?_
        have v := ret_v q
        rw [no (fun h => c2 (of_decide_eq_true h.2))] at v
        exact v
    · have v := ret_v q
      rw [no (fun h => c1 h.1)] at v
      exact ⟨false, rfl, v⟩

/-! ### _law_kinds -/
def nine : List Str := ["a", "b", "ab", "ba", "aa", "bab", "abcdefghijkl", "z", "aab"]
theorem nineW : (nine ++ nine).all isW = true := by decide +kernel
theorem nine_cut (j k : Nat) (hj : j < 9) (hk : k < 5) : ∃ zs : List Str, cutV (nine.map V.str ++ nine.map V.str) (some (j : Int)) (some ((j : Int) + 1 + (k : Int))) = zs.map V.str ∧ 1 ≤ zs.length ∧ zs.length ≤ 5 ∧ zs.all isW = true := by
  refine ⟨((nine ++ nine).drop j).take (1 + k), ?_, ?_, ?_, ?_⟩
  · unfold cutV
    rw [show ((j : Int) + 1 + (k : Int)) = ((j + 1 + k : Nat) : Int) by omega, HT.sIx_nat, HT.sIx_nat, ← List.map_append, List.length_map]
    rw [show (nine ++ nine).length = 18 from rfl, show min j 18 = j by omega, show min (j + 1 + k) 18 - j = 1 + k by omega, List.map_take, List.map_drop]
  · rw [List.length_take, List.length_drop, show (nine ++ nine).length = 18 from rfl]
    omega
  · rw [List.length_take, List.length_drop, show (nine ++ nine).length = 18 from rfl]
    omega
  · rw [List.all_eq_true]
    intro x hx
    exact List.all_eq_true.mp nineW x (List.mem_of_mem_drop (List.mem_of_mem_take hx))
/-- a list of one to five words at a -/
def Kn (H : Hp) (a : Addr) (zs : List Str) : Prop := H a = some (.lst (zs.map V.str)) ∧ 1 ≤ zs.length ∧ zs.length ≤ 5 ∧ zs.all isW = true
theorem Kn.ne {H : Hp} {a p : Addr} {zs : List Str} {c : Nat} (h : Kn H a zs) (hp : Pl H p c) : a ≠ p := by
  obtain ⟨g, b, k, h1, _⟩ := hp
  obtain ⟨h2, h3, _⟩ := h
  refine ne_of h2 h1 fun z => ?_
  cases zs with
  | nil => simp at h3
  | cons x r =>
    injection z with z
    rw [List.map_cons] at z
    injection z with z _
    cases z
theorem Kn.fx {H H' : Hp} {a p : Addr} {zs : List Str} {c : Nat} (h : Kn H a zs) (hp : Pl H p c) (f : Fx p H H') : Kn H' a zs := ⟨f a _ (h.ne hp) h.1, h.2⟩
theorem Kn.ex {H H' : Hp} {a : Addr} {zs : List Str} (h : Kn H a zs) (e : Ex H H') : Kn H' a zs := ⟨e _ _ h.1, h.2⟩
def spKinds : Sp := fun vs H Q _ => ∃ (p : Addr) (c : Nat), vs = [.ref p] ∧ Pl H p c ∧ c < 900000 ∧ ∀ (l : Addr) (zs : List Str) (H' : Hp), H l = none → Kn H' l zs → Pl H' p (c + 2) → Fx p H H' → Q (.ref l) H'
set_option maxHeartbeats 8000000 in
theorem ok_l_kinds (T : TX K mg A FD TK) : FnOk P w K mg base CX0 2 (A 46) (FD 46) ["_law_pool_here"] spKinds := by
  have G_l_take := ok_l_take (P := P) (w := w) (base := base) T
  refine T.f_l_kinds.ok (k := 1) sc_l_kinds (fun vs H Q E h => ?_) (fun cdv A' outer s H vs Q E hr h => ?_)
  · obtain ⟨p, c, rfl, _⟩ := h
    rfl
  · obtain ⟨p, c, rfl, hp, hc, q⟩ := h
    refine ⟨_, (pss_cons (ps_set (i := 1) sc_l_kinds.nd rfl (.inl rfl) (pe_lst (pa_cons pe_str (pa_cons pe_str (pa_cons pe_str (pa_cons pe_str (pa_cons pe_str (pa_cons pe_str (pa_cons pe_str (pa_cons pe_str (pa_cons pe_str pa_nil)))))))))))
      (pss_cons (ps_set (i := 2) sc_l_kinds.nd rfl (.inl rfl) (pe_call G_l_take hr (by rfl) T.g_l_take T.f_l_take.kp T.b_l_take .nil pass0 (pa_cons (pv 0) (pa_cons pe_int pa_nil))))
      (pss_one (ps_ret (pe_slice (slLK (K := K) rfl) (pe_op op_cat (pv 1) (pv 1)) (po_some (pv 2)) (po_some (pe_op op_add (pe_op op_add (pv 2) pe_int) (pe_call G_l_take hr (by rfl) T.g_l_take T.f_l_take.kp T.b_l_take .nil pass0 (pa_cons (pv 0) (pa_cons pe_int pa_nil)))))))))), ?_⟩
    refine ⟨by show 9 ≤ sizeLine; decide, fun s0 n0 => ?_⟩
    have e1 : Ex H (upd H s0 (.lst (nine.map V.str))) := Ex.new n0
    have hs1 : (upd H s0 (.lst (nine.map V.str))) s0 = some (.lst (nine.map V.str)) := upd_same
    have nsp : s0 ≠ p := by
      obtain ⟨xs, hx⟩ := hp.some
      exact (ne_of_none hx n0).symm
    refine ⟨.ref p, rfl, p, 9, c, rfl, hp.ex e1, by decide, by decide, by omega, fun d H2 d0 d1 hp2 f2 => ?_⟩
    have hs2 : H2 s0 = some (.lst (nine.map V.str)) := f2 _ _ nsp hs1
    refine ⟨.ref s0, rfl, .ref s0, rfl, s0, s0, _, _, rfl, rfl, hs2, hs2, by show 18 ≤ sizeLine; decide, fun r nr => ?_⟩
    have e3 : Ex H2 (upd H2 r (.lst (nine.map V.str ++ nine.map V.str))) := Ex.new nr
    have hr3 : (upd H2 r (.lst (nine.map V.str ++ nine.map V.str))) r = some (.lst (nine.map V.str ++ nine.map V.str)) := upd_same
    have nrp : r ≠ p := by
      obtain ⟨xs, hx⟩ := hp2.some
      exact (ne_of_none hx nr).symm
    refine ⟨.int d, rfl, d, rfl, .int d, rfl, d, 1, rfl, rfl, .ref p, rfl, p, 5, c + 1, rfl, hp2.ex e3, by decide, by decide, by omega, fun k H4 k0 k1 hp4 f4 => ?_⟩
    refine ⟨d + 1, k, rfl, rfl, d + 1 + k, rfl, r, _, rfl, SqL.of (f4 _ _ nrp hr3), fun l nl => ?_⟩
    obtain ⟨j, rfl⟩ := Int.eq_ofNat_of_zero_le d0
    obtain ⟨i, rfl⟩ := Int.eq_ofNat_of_zero_le k0
    obtain ⟨zs, ez, l1, l5, hw⟩ := nine_cut j i (by omega) (by omega)
    have fr : Fx p H H4 := ((Fx.ex e1).trans f2).trans ((Fx.ex e3).trans f4)
    refine q l zs _ (fx_free fr hp4 nl) ⟨?_, l1, l5, hw⟩ (hp4.ex (Ex.new nl)) (fr.trans (Fx.ex (Ex.new nl)))
    rw [upd_same, ez]

/-! ### codes of numbers: the mathematics -/
theorem ip_mulI {X : Cx} : PIp X .Mult (fun x y H Q => ∃ i j, x = .int i ∧ y = .int j ∧ CMul i j ∧ Q (.int (i * j)) H) := by
  intro pins s σ H x y v u Q I r1 r2 h
  obtain ⟨i, j, e1, e2, hc, q⟩ := h
  subst e1; subst e2
  obtain ⟨t, rfl⟩ := r1
  obtain ⟨t', rfl⟩ := r2
  exact imul_int ⟨.int _, H, I.tok _, ⟨_, rfl⟩, q⟩ hc.ok
theorem tlen (z : Str) : (tl z).length = z.length := by
  simp [tl, Str.length]
def one (c : Nat) : Str := ⟨#[c]⟩
def txt (l : List Nat) : Str := ⟨l.toArray⟩
theorem tl_txt (l : List Nat) : tl (txt l) = l := rfl
theorem txt_len (l : List Nat) : (txt l).length = l.length := List.size_toArray
theorem txt_tl (z : Str) : txt (tl z) = z := ext_tl rfl
theorem joinL_no : ∀ ps : List (List Nat), joinL [] ps = ps.flatten
  | [] => rfl
  | [p] => by simp [joinL]
  | p :: q :: r => by
    rw [joinL, joinL_no (q :: r)]
    rfl
theorem join_txts (ls : List (List Nat)) : Txt.join "" (ls.map txt) = txt ls.flatten := by
  refine ext_tl ?_
  rw [join_eq, tl_join, List.map_map]
  refine (joinL_no _).trans ?_
  rw [show (tl ∘ txt) = id from rfl, List.map_id]
  rfl
theorem flat_ones : ∀ cs : List Nat, (cs.map fun c => [c]).flatten = cs
  | [] => rfl
  | c :: r => by rw [List.map_cons, List.flatten_cons, flat_ones r]; rfl
theorem join_ones (cs : List Nat) : Txt.join "" (cs.map one) = txt cs := by
  have := join_txts (cs.map fun c => [c])
  rw [List.map_map, flat_ones] at this
  exact this
theorem sum_txts (ls : List (List Nat)) : ((ls.map txt).map (·.length)).sum = ls.flatten.length := by
  induction ls with
  | nil => rfl
  | cons l r ih =>
    rw [List.map_cons, List.map_cons, List.sum_cons, ih, List.flatten_cons, List.length_append]
    rfl
theorem sum_ones (cs : List Nat) : ((cs.map one).map (·.length)).sum = cs.length := by
  induction cs with
  | nil => rfl
  | cons c r ih =>
    rw [List.map_cons, List.map_cons, List.sum_cons, ih, List.length_cons]
    show 1 + r.length = r.length + 1
    omega
/-- the code of a number -/
def codeN (n : Nat) : List Nat := if n < 16 then [97 + n] else (65 + n % 16) :: codeN (n / 16)
termination_by n
decreasing_by omega
theorem codeN_low {n : Nat} (h : n < 16) : codeN n = [97 + n] := by rw [codeN, if_pos h]
theorem codeN_up {n : Nat} (h : ¬ n < 16) : codeN n = (65 + n % 16) :: codeN (n / 16) := by rw [codeN, if_neg h]
theorem codeN_len : ∀ (k n : Nat), n < 16 ^ (k + 1) → (codeN n).length ≤ k + 1
  | 0, n, h => by
    rw [codeN_low (by simpa using h)]
    exact Nat.le_refl _
  | k + 1, n, h => by
    by_cases l : n < 16
    · rw [codeN_low l]
      simp
    · rw [codeN_up l, List.length_cons]
      have := codeN_len k (n / 16) (Nat.div_lt_of_lt_mul (by rw [Nat.mul_comm, ← Nat.pow_succ]; exact h))
      omega
theorem codeN_pos (n : Nat) : 1 ≤ (codeN n).length := by
  by_cases l : n < 16
  · rw [codeN_low l]
    exact Nat.le_refl _
  · rw [codeN_up l]
    simp
def upS : Str := "ABCDEFGHIJKLMNOP"
def loS : Str := "abcdefghijklmnop"
theorem up_at (d : Nat) (h : d < 16) : atI upS.cps.toList (d : Int) = some (65 + d) := by
  refine atI_nat ?_
  have k : ∀ d, d < 16 → upS.cps.toList[d]? = some (65 + d) := by decide +kernel
  exact k d h
theorem lo_at (d : Nat) (h : d < 16) : atI loS.cps.toList (d : Int) = some (97 + d) := by
  refine atI_nat ?_
  have k : ∀ d, d < 16 → loS.cps.toList[d]? = some (97 + d) := by decide +kernel
  exact k d h
theorem lo_find (d : Nat) (h : d < 16) : Txt.find loS (one (97 + d)) = (d : Int) := by
  have k : ∀ d, d < 16 → Txt.find loS (one (97 + d)) = (d : Int) := by decide +kernel
  exact k d h
theorem lo_none (d : Nat) (h : d < 16) : Txt.find loS (one (65 + d)) = -1 := by
  have k : ∀ d, d < 16 → Txt.find loS (one (65 + d)) = -1 := by decide +kernel
  exact k d h
theorem up_find (d : Nat) (h : d < 16) : Txt.find upS (one (65 + d)) = (d : Int) := by
  have k : ∀ d, d < 16 → Txt.find upS (one (65 + d)) = (d : Int) := by decide +kernel
  exact k d h

/-! ### code, code_all -/
def spWhl : Sp := fun vs H Q _ => ∃ z : Int, vs = [.int z] ∧ Q (.bl true) H
set_option maxHeartbeats 4000000 in
theorem ok_whl (T : TX K mg A FD TK) : FnOk P w K mg base CX0 1 (A 10) (FD 10) ["thing"] spWhl := by
  refine T.f_is_whole.ok sc_is_whole (fun vs H Q E h => ?_) (fun cdv A' outer s H vs Q E hr h => ?_)
  · obtain ⟨z, rfl, _⟩ := h
    rfl
  · obtain ⟨i, rfl, q⟩ := h
    refine ⟨_, (pss_one (ps_ret (pe_and (pe_callB (isiK (K := K) rfl) (by rfl) T.m_isinstance (by decide +kernel) (pa_cons (pv 0) (pa_cons (pe_bltn (v := .ty "int") (by rfl) T.m_int (by decide +kernel) rfl) pa_nil))) (pe_one (pe_not (pe_callB (isiK (K := K) rfl) (by rfl) T.m_isinstance (by decide +kernel) (pa_cons (pv 0) (pa_cons (pe_bltn (v := .ty "bool") (by rfl) T.m_bool (by decide +kernel) rfl) pa_nil)))))))), ?_⟩
    refine ⟨.int i, rfl, .int i, .ty "int", .type "int", .type "int", true, rfl, .ty _, .base (.int i), kit_ty (by decide +kernel), true, rfl, ?_⟩
    exact ⟨.int i, rfl, .int i, .ty "bool", .type "int", .type "bool", false, rfl, .ty _, .base (.int i), kit_ty (by decide +kernel), false, rfl, q⟩
def spCnt : Sp := fun vs H Q _ => ∃ n : Nat, vs = [.int (n : Int)] ∧ Q (.bl true) H
set_option maxHeartbeats 4000000 in
theorem ok_cnt (T : TX K mg A FD TK) : FnOk P w K mg base CX0 2 (A 15) (FD 15) ["thing"] spCnt := by
  have G_is_whole := ok_whl (P := P) (w := w) (base := base) T
  refine T.f_is_count.ok (k := 1) sc_is_count (fun vs H Q E h => ?_) (fun cdv A' outer s H vs Q E hr h => ?_)
  · obtain ⟨n, rfl, _⟩ := h
    rfl
  · obtain ⟨n, rfl, q⟩ := h
    refine ⟨_, (pss_one (ps_ret (pe_and (pe_call G_is_whole hr (by rfl) T.g_is_whole T.f_is_whole.kp T.b_is_whole .nil pass0 (pa_cons (pv 0) pa_nil)) (pe_one (pe_cmpR op_ge (pv 0) pe_int (nomark _)))))), ?_⟩
    refine ⟨.int n, rfl, n, rfl, true, rfl, .int n, rfl, n, 0, rfl, rfl, ?_⟩
    show Q (.bl (decide ((0 : Int) ≤ (n : Int)))) H
    rw [decide_eq_true (show (0 : Int) ≤ (n : Int) by omega)]
    exact q
def muN : L2.St → Hp → Nat := fun σ _ => match σ with
  | some (.int r) :: _ => r.toNat
  | _ => 0
def spCode : Sp := fun vs H Q _ => ∃ n : Nat, vs = [.int (n : Int)] ∧ n < 16 ^ 100 ∧ ∀ H', Ex H H' → Q (.str (txt (codeN n))) H'
set_option maxHeartbeats 4000000 in
theorem ok_code (T : TX K mg A FD TK) : FnOk P w K mg base CX0 3 (A 16) (FD 16) ["number"] spCode := by
  have G_is_count := ok_cnt (P := P) (w := w) (base := base) T
  refine T.f_code.ok (k := 2) sc_code (fun vs H Q E h => ?_) (fun cdv A' outer s H vs Q E hr h => ?_)
  · obtain ⟨n, rfl, _⟩ := h
    rfl
  · obtain ⟨n, rfl, hn, q⟩ := h
    have hl := codeN_len 99 n hn
    refine ⟨_, (pss_cons (ps_if (pt_not (pt_val (pe_call G_is_count hr (by rfl) T.g_is_count T.f_is_count.kp T.b_is_count .nil pass0 (pa_cons (pv 0) pa_nil))))
      (pss_one ps_never)
      pss_nil)
      (pss_cons (ps_set (i := 1) sc_code.nd rfl (.inl rfl) (pe_lst pa_nil))
      (pss_cons (ps_while PassesOwn.never (pt_cmpR op_ge (pv 0) pe_int (nomark _))
      (pss_cons (ps_asg (pe_callB call_divmod (by rfl) T.m_divmod (by decide +kernel) (pa_cons (pv 0) (pa_cons pe_int pa_nil))) (pg_tup rfl (pgs_cons (pg_name (i := 0) sc_code.nd rfl (.inl rfl)) (pgs_cons (pg_name (i := 2) sc_code.nd rfl (.inl rfl)) pgs_nil))))
      (pss_one (ps_expr (pe_bm PySem.F.plainAttrs_list PySem.F.slot_list_append PySem.F.type_list_append mt_append (pv 1) (pa_cons (pe_ix ix_str (pe_glob (v := .str "ABCDEFGHIJKLMNOP") (by rfl) T.c_DIGITS_AHEAD ⟨_, rfl⟩) (pv 2) (fun _ _ => rfl)) pa_nil))))))
      (pss_cons (ps_expr (pe_bm PySem.F.plainAttrs_list PySem.F.slot_list_append PySem.F.type_list_append mt_append (pv 1) (pa_cons (pe_ix ix_str (pe_glob (v := .str "abcdefghijklmnop") (by rfl) T.c_LAST_DIGITS ⟨_, rfl⟩) (pv 0) (fun _ _ => rfl)) pa_nil)))
      (pss_one (ps_ret (pe_join pe_str (pv 1)))))))), ?_⟩
    refine ⟨.int n, rfl, n, rfl, _, rfl, ite2 (fun c => absurd c (by decide)) (fun _ => ?_)⟩
    refine ⟨Nat.zero_le _, fun D nD => ?_⟩
    refine while_by (fun σ' H' => ∃ (m : Nat) (cs : List Nat) (o : Option V), σ' = [some (.int (m : Int)), some (.ref D), o] ∧ H' D = some (.lst ((cs.map one).map V.str)) ∧ cs ++ codeN m = codeN n ∧ Ex H H') muN ⟨n, [], none, rfl, upd_same, rfl, Ex.new nD⟩ (fun σ' H' p => ?_) (fun σ' H' Q Q' m h => ?_)
    · obtain ⟨m, cs, o, rfl, hD, hc, x⟩ := p
      have lc : cs.length ≤ 100 := by
        have := congrArg List.length hc
        rw [List.length_append] at this
        omega
      refine ⟨.int m, rfl, m, 16, rfl, rfl, _, rfl, ite2 (fun e => ?_) (fun e => ?_)⟩
      · have e0 : (16 : Int) ≤ (m : Int) := of_decide_eq_true e
        refine ⟨.int m, rfl, m, 16, rfl, ⟨by decide, by decide⟩, fun t nt => ?_⟩
        have x2 := x.trans (Ex.new (o := .tup [.int ((m : Int) / 16), .int ((m : Int) % 16)]) nt)
        have hD2 := (Ex.new (o := .tup [.int ((m : Int) / 16), .int ((m : Int) % 16)]) nt) _ _ hD
        have ht := upd_same (H := H') (a := t) (o := .tup [.int ((m : Int) / 16), .int ((m : Int) % 16)])
        generalize upd H' t (.tup [.int ((m : Int) / 16), .int ((m : Int) % 16)]) = H2 at x2 hD2 ht ⊢
        have em : (m : Int) % 16 = ((m % 16 : Nat) : Int) := by omega
        have ed : (m : Int) / 16 = ((m / 16 : Nat) : Int) := by omega
        rw [em, ed] at ht
        have m16 : m % 16 < 16 := Nat.mod_lt _ (by decide)
        have ul : upS.length = 16 := by decide +kernel
        refine ⟨t, _, rfl, SqT.of ht, rfl, _, _, rfl, _, _, rfl, rfl, .ref D, rfl, .inl ⟨rfl, _, SqL.of hD2⟩, .int ((m % 16 : Nat) : Int), rfl, upS, _, _, rfl, rfl, sz (by omega), up_at _ m16, D, _, _, rfl, rfl, hD2, ?_, ?_, ?_⟩
        · rw [List.length_map, List.length_map]
          exact sz_lt (by omega)
        · refine ⟨m / 16, cs ++ [65 + m % 16], _, rfl, ?_, ?_, Ex.mut x2 nD⟩
          · rw [upd_same, List.map_append, List.map_append]
            rfl
          · rw [List.append_assoc, ← hc, codeN_up (n := m) (by omega)]
            rfl
        · show (((m / 16 : Nat) : Int)).toNat < (m : Int).toNat
          omega
      · have e0 : ¬ (16 : Int) ≤ (m : Int) := fun z => e (decide_eq_true z)
        have m16 : m < 16 := by omega
        have ll : loS.length = 16 := by decide +kernel
        refine ⟨.ref D, rfl, .inl ⟨rfl, _, SqL.of hD⟩, .int (m : Int), rfl, loS, _, _, rfl, rfl, sz (by omega), lo_at _ m16, D, _, _, rfl, rfl, hD, ?_, ?_⟩
        · rw [List.length_map, List.length_map]
          exact sz_lt (by omega)
        have hf : cs ++ [97 + m] = codeN n := by rw [← hc, codeN_low m16]
        have hD2 : (upd H' D (.lst ((cs.map one).map V.str ++ [.str ⟨#[97 + m]⟩]))) D = some (.lst (((codeN n).map one).map V.str)) := by
          rw [upd_same, ← hf, List.map_append, List.map_append]
          rfl
        refine ⟨⟨_, rfl⟩, .ref D, rfl, "", D, (codeN n).map one, rfl, rfl, .inl (SqL.of hD2), ?_, ?_⟩
        · rw [sum_ones]
          show _ + _ * 0 ≤ 16777216
          omega
        · rw [join_ones]
          exact q _ (Ex.mut x nD)
    · obtain ⟨v, hv, i, j, e1, e2, k, hk, hq⟩ := h
      exact ⟨v, hv, i, j, e1, e2, k, hk, m _ _ hq⟩

/-! ### code_all; rising numbers and their gaps -/
def nvs (ns : List Nat) : List V := ns.map fun (n : Nat) => V.int (n : Int)
theorem nvs_len (ns : List Nat) : (nvs ns).length = ns.length := List.length_map ..
theorem nvs_at {ns : List Nat} {i : Nat} {x : V} (g : (nvs ns)[i]? = some x) : ∃ n, ns[i]? = some n ∧ x = .int (n : Int) ∧ i < ns.length := by
  unfold nvs at g
  rw [List.getElem?_map] at g
  cases e : ns[i]? with
  | none => rw [e] at g; cases g
  | some n =>
    rw [e] at g
    cases g
    exact ⟨n, rfl, rfl, (List.getElem?_eq_some_iff.mp e).1⟩
theorem nvs_snoc (ns : List Nat) (n : Nat) : nvs (ns ++ [n]) = nvs ns ++ [.int (n : Int)] := by
  unfold nvs
  rw [List.map_append]
  rfl
theorem take_up {α : Type} {l : List α} {i : Nat} {x : α} (g : l[i]? = some x) : l.take (i + 1) = l.take i ++ [x] := by
  rw [List.take_add_one, g]
  rfl
def codeL (ns : List Nat) : List Nat := (ns.map codeN).flatten
theorem codeL_len {ns : List Nat} (h : ∀ n ∈ ns, n < 16 ^ 100) : (codeL ns).length ≤ ns.length * 100 := by
  induction ns with
  | nil => exact Nat.zero_le _
  | cons n r ih =>
    have a := codeN_len 99 n (h n (List.mem_cons_self ..))
    have b := ih fun m hm => h m (List.mem_cons_of_mem _ hm)
    unfold codeL at b ⊢
    rw [List.map_cons, List.flatten_cons, List.length_append, List.length_cons, Nat.add_mul]
    omega
def spCodeAll (K : PySem.W.Frag) : Sp := fun vs H Q _ => ∃ (a : Addr) (ns : List Nat), vs = [.ref a] ∧ H a = some (.lst (nvs ns)) ∧ ns.length ≤ 900 ∧ (∀ n ∈ ns, n < 16 ^ 100) ∧ ∀ H', Ex H H' → Q (.str (txt (codeL ns))) H'
set_option maxHeartbeats 4000000 in
theorem ok_code_all (T : TX K mg A FD TK) : FnOk P w K mg base CX0 4 (A 17) (FD 17) ["numbers"] (spCodeAll K) := by
  have G_is_count := (ok_cnt (P := P) (w := w) (base := base) T).mono (show 2 ≤ 3 by decide)
  have G_code := ok_code (P := P) (w := w) (base := base) T
  refine T.f_code_all.ok (k := 3) sc_code_all (fun vs H Q E h => ?_) (fun cdv A' outer s H vs Q E hr h => ?_)
  · obtain ⟨a, ns, rfl, _⟩ := h
    rfl
  · obtain ⟨a, ns, rfl, hS0, hn, hb, q⟩ := h
    have hS : SqL K H a (nvs ns) := SqL.of hS0
    refine ⟨_, (pss_cons (ps_if (pt_not (pt_val (pe_callB (isiK (K := K) rfl) (by rfl) T.m_isinstance (by decide +kernel) (pa_cons (pv 0) (pa_cons (pe_bltn (v := .ty "list") (by rfl) T.m_list (by decide +kernel) rfl) pa_nil)))))
      (pss_one ps_never)
      pss_nil)
      (pss_cons (ps_for PassesOwn.never rfl (pi_enum (by rfl) T.m_enumerate (pa_cons (pv 0) pa_nil)) (pg_tup rfl (pgs_cons (pg_name (i := 1) sc_code_all.nd rfl (.inl rfl)) (pgs_cons (pg_name (i := 2) sc_code_all.nd rfl (.inl rfl)) pgs_nil)))
      (pss_one (ps_if (pt_not (pt_val (pe_call G_is_count hr (by rfl) T.g_is_count T.f_is_count.kp T.b_is_count .nil pass0 (pa_cons (pv 2) pa_nil))))
      (pss_one ps_never)
      pss_nil)))
      (pss_one (ps_ret (pe_join pe_str (pe_lc (own := [("number", 2)])  rfl sc_code_all.nd (piLK (K := K) rfl (pv 0)) (blkOk_by (own := [("number", 2)]) (N := N_code_all) (sc := defScope (topS 17)) (by decide +kernel)) (fun _ _ _ _ _ => (pg_name (i := 2) sc_code_all.nd rfl (Or.inl rfl))) (fun _ _ _ _ _ => pts_nil) (fun _ _ _ _ _ => (pe_call G_code hr (by rfl) T.g_code T.f_code.kp T.b_code .nil pass0 (pa_cons (pv 2) pa_nil))))))))), ?_⟩
    refine ⟨.ref a, rfl, .ref a, .ty "list", .type "list", .type "list", true, rfl, .ty _, .base (.lst hS0), kit_ty (by decide +kernel), _, rfl, ite2 (fun c => absurd c (by decide)) (fun _ => ?_)⟩
    refine ⟨.ref a, rfl, a, _, rfl, hS, ?_⟩
    refine for_it (walk_enum (K := K) (a := a) (xs := nvs ns)) (fun i σ' H' => (∃ o1 o2, σ' = [some (.ref a), o1, o2]) ∧ Ex H H') ⟨⟨none, none, rfl⟩, Ex.refl H⟩ (fun i σ' H' _ p => ex_l p.2 hS) (fun i x σ' H1 H2 hi p y => ?_) (fun σ' H1 p => ?_)
    · obtain ⟨⟨o1, o2, rfl⟩, x1⟩ := p
      obtain ⟨Tt, u1, u2, rfl, nT, rfl, g1, g2⟩ := y
      cases g1
      obtain ⟨n, gn, rfl, _⟩ := nvs_at g2
      refine ⟨Tt, _, rfl, SqT.of upd_same, rfl, _, _, rfl, _, _, rfl, rfl, .int (n : Int), rfl, n, rfl, _, rfl, ite2 (fun c => absurd c (by decide)) (fun _ => ⟨⟨_, _, rfl⟩, x1.trans (Ex.new nT)⟩)⟩
    · obtain ⟨⟨o1, o2, rfl⟩, x1⟩ := p
      refine ⟨⟨_, rfl⟩, .ref a, rfl, a, rfl, ⟨_, ex_l x1 hS⟩, fun D hD => ?_⟩
      refine lc_list (K := K) (xs := nvs ns) (fun i H' => Ex H1 H' ∧ H' D = some (.lst ((((ns.take i).map codeN).map txt).map V.str))) ⟨Ex.new hD, upd_same⟩ (fun i H' _ p => ex_l p.1 (ex_l x1 hS)) (fun i x H2 hx p => ?_) (fun H2 p => ?_)
      · obtain ⟨p1, p2⟩ := p
        obtain ⟨n, gn, rfl, il⟩ := nvs_at hx
        refine ⟨rfl, .int (n : Int), rfl, n, rfl, hb n (List.mem_of_getElem? gn), fun H3 e3 => ⟨_, e3 _ _ p2, ?_, Ex.mut (p1.trans e3) hD, ?_⟩⟩
        · rw [List.length_map, List.length_map, List.length_map, List.length_take]
          exact sz_lt (by omega)
        · rw [upd_same, take_up gn, List.map_append, List.map_append, List.map_append]
          rfl
      · obtain ⟨p1, p2⟩ := p
        rw [nvs_len, List.take_length] at p2
        refine ⟨"", D, (ns.map codeN).map txt, rfl, rfl, .inl (SqL.of p2), ?_, ?_⟩
        · rw [sum_txts]
          have : (ns.map codeN).flatten.length ≤ ns.length * 100 := codeL_len hb
          show _ + _ * 0 ≤ 16777216
          omega
        · rw [join_txts]
          exact q _ (x1.trans p1)
/-- the number ahead of the i-th -/
def ah (xs : List Nat) : Nat → Int
  | 0 => -1
  | i + 1 => ((xs.getD i 0 : Nat) : Int)
def Ris (xs : List Nat) : Prop := ∀ (i x : Nat), xs[i]? = some x → ah xs i < (x : Int)
def gapI (xs : List Nat) (j : Nat) : Nat := (((xs.getD j 0 : Nat) : Int) - ah xs j - 1).toNat
def gapsL (xs : List Nat) : List Nat := (List.range xs.length).map (gapI xs)
theorem getD_at {xs : List Nat} {i x : Nat} (g : xs[i]? = some x) : xs.getD i 0 = x := by
  rw [List.getD_eq_getElem?_getD, g]
  rfl
theorem gap_is {xs : List Nat} (h : Ris xs) {i x : Nat} (g : xs[i]? = some x) : (x : Int) - ah xs i - 1 = ((gapI xs i : Nat) : Int) := by
  have := h i x g
  unfold gapI
  rw [getD_at g]
  omega
def spGaps (K : PySem.W.Frag) : Sp := fun vs H Q _ => ∃ (a : Addr) (xs : List Nat), vs = [.ref a] ∧ (SqL K H a (nvs xs) ∨ SqT K H a (nvs xs)) ∧ Ris xs ∧ xs.length ≤ 900 ∧ ∀ (l : Addr) (H' : Hp), H l = none → Ex H H' → H' l = some (.lst (nvs (gapsL xs))) → Q (.ref l) H'
set_option maxHeartbeats 4000000 in
theorem ok_gaps_of (T : TX K mg A FD TK) : FnOk P w K mg base CX0 1 (A 24) (FD 24) ["numbers"] (spGaps K) := by
  refine T.f_gaps_of.ok sc_gaps_of (fun vs H Q E h => ?_) (fun cdv A' outer s H vs Q E hr h => ?_)
  · obtain ⟨a, xs, rfl, _⟩ := h
    rfl
  · obtain ⟨a, xs, rfl, hS, hR, hn, q⟩ := h
    refine ⟨_, (pss_cons (ps_set (i := 1) sc_gaps_of.nd rfl (.inl rfl) (pe_lst pa_nil))
      (pss_cons (ps_set (i := 2) sc_gaps_of.nd rfl (.inl rfl) (pe_un un_neg pe_int))
      (pss_cons (ps_for PassesOwn.never rfl (piOr (piLK (K := K) rfl (pv 0)) (piTK (K := K) rfl (pv 0))) (pg_name (i := 3) sc_gaps_of.nd rfl (.inl rfl))
      (pss_cons (ps_expr (pe_bm PySem.F.plainAttrs_list PySem.F.slot_list_append PySem.F.type_list_append mt_append (pv 1) (pa_cons (pe_op op_sub (pe_op op_sub (pv 3) (pv 2)) pe_int) pa_nil)))
      (pss_one (ps_set (i := 2) sc_gaps_of.nd rfl (.inl rfl) (pv 3)))))
      (pss_one (ps_ret (pv 1)))))), ?_⟩
    refine ⟨Nat.zero_le _, fun D nD => ⟨1, rfl, ?_⟩⟩
    have e1 : Ex H (upd H D (.lst [])) := Ex.new nD
    rcases hS with hS | hS
    · refine .inl ⟨.ref a, rfl, a, rfl, ⟨_, ex_l e1 hS⟩, ?_⟩
      refine for_list (K := K) (xs := nvs xs) (fun i σ' H' => (∃ o, σ' = [some (.ref a), some (.ref D), some (.int (ah xs i)), o]) ∧ H' D = some (.lst (nvs ((List.range i).map (gapI xs)))) ∧ Ex H H') ⟨⟨none, rfl⟩, upd_same, e1⟩ (fun i σ' H' _ p => ex_l p.2.2 hS) (fun i x σ' H1 g p => ?_) (fun σ' H1 p => ?_)
      · obtain ⟨⟨o, rfl⟩, hD, x1⟩ := p
        obtain ⟨n, gn, rfl, il⟩ := nvs_at g
        refine ⟨.ref D, rfl, .inl ⟨rfl, _, SqL.of hD⟩, .int (n : Int), rfl, .int (ah xs i), rfl, _, _, rfl, rfl, _, 1, rfl, rfl, D, _, _, rfl, rfl, hD, ?_, .int (n : Int), rfl, ⟨some (.int (n : Int)), ?_⟩, ?_, Ex.mut x1 nD⟩
        · rw [nvs_len, List.length_map, List.length_range]
          exact sz_lt (by omega)
        · show [some (V.ref a), some (V.ref D), some (V.int (n : Int)), some (V.int (n : Int))] = [some (V.ref a), some (V.ref D), some (V.int (ah xs (i + 1))), some (V.int (n : Int))]
          rw [ah, getD_at gn]
        · rw [upd_same, List.range_succ, List.map_append]
          show some (HO.lst (nvs ((List.range i).map (gapI xs)) ++ [V.int ((n : Int) - ah xs i - 1)])) = some (HO.lst (nvs ((List.range i).map (gapI xs) ++ [gapI xs i])))
          rw [nvs_snoc, gap_is hR gn]
      · obtain ⟨⟨o, rfl⟩, hD, x1⟩ := p
        rw [nvs_len] at hD
        exact ⟨.ref D, rfl, q D H1 nD x1 hD⟩
    · refine .inr ⟨.ref a, rfl, a, rfl, ⟨_, ex_t e1 hS⟩, ?_⟩
      refine for_tup (K := K) (xs := nvs xs) (fun i σ' H' => (∃ o, σ' = [some (.ref a), some (.ref D), some (.int (ah xs i)), o]) ∧ H' D = some (.lst (nvs ((List.range i).map (gapI xs)))) ∧ Ex H H') ⟨⟨none, rfl⟩, upd_same, e1⟩ (fun i σ' H' _ p => ex_t p.2.2 hS) (fun i x σ' H1 g p => ?_) (fun σ' H1 p => ?_)
      · obtain ⟨⟨o, rfl⟩, hD, x1⟩ := p
        obtain ⟨n, gn, rfl, il⟩ := nvs_at g
        refine ⟨.ref D, rfl, .inl ⟨rfl, _, SqL.of hD⟩, .int (n : Int), rfl, .int (ah xs i), rfl, _, _, rfl, rfl, _, 1, rfl, rfl, D, _, _, rfl, rfl, hD, ?_, .int (n : Int), rfl, ⟨some (.int (n : Int)), ?_⟩, ?_, Ex.mut x1 nD⟩
        · rw [nvs_len, List.length_map, List.length_range]
          exact sz_lt (by omega)
        · show [some (V.ref a), some (V.ref D), some (V.int (n : Int)), some (V.int (n : Int))] = [some (V.ref a), some (V.ref D), some (V.int (ah xs (i + 1))), some (V.int (n : Int))]
          rw [ah, getD_at gn]
        · rw [upd_same, List.range_succ, List.map_append]
          show some (HO.lst (nvs ((List.range i).map (gapI xs)) ++ [V.int ((n : Int) - ah xs i - 1)])) = some (HO.lst (nvs ((List.range i).map (gapI xs) ++ [gapI xs i])))
          rw [nvs_snoc, gap_is hR gn]
      · obtain ⟨⟨o, rfl⟩, hD, x1⟩ := p
        rw [nvs_len] at hD
        exact ⟨.ref D, rfl, q D H1 nD x1 hD⟩
/-! ### entries -/
def spFall (K : PySem.W.Frag) : Sp := fun vs H Q _ => ∃ (a : Addr) (xs : List Nat), vs = [.ref a] ∧ SqT K H a (nvs xs) ∧ Ris xs ∧ ∀ H', Ex H H' → Q .non H'
set_option maxHeartbeats 4000000 in
theorem ok_first_fall (T : TX K mg A FD TK) : FnOk P w K mg base CX0 2 (A 23) (FD 23) ["things"] (spFall K) := by
  have G_is_whole := ok_whl (P := P) (w := w) (base := base) T
  refine T.f_first_fall.ok (k := 1) sc_first_fall (fun vs H Q E h => ?_) (fun cdv A' outer s H vs Q E hr h => ?_)
  · obtain ⟨a, xs, rfl, _⟩ := h
    rfl
  · obtain ⟨a, xs, rfl, hS, hR, q⟩ := h
    refine ⟨_, (pss_cons (ps_set (i := 1) sc_first_fall.nd rfl (.inl rfl) (pe_un un_neg pe_int))
      (pss_cons (ps_for PassesOwn.never rfl (EnT.pi_enumT (K := K) rfl (by rfl) T.m_enumerate (pa_cons (pv 0) pa_nil)) (pg_tup rfl (pgs_cons (pg_name (i := 2) sc_first_fall.nd rfl (.inl rfl)) (pgs_cons (pg_name (i := 3) sc_first_fall.nd rfl (.inl rfl)) pgs_nil)))
      (pss_cons (ps_if (PW.pt (pw_or (pt_not (pt_val (pe_call G_is_whole hr (by rfl) T.g_is_whole T.f_is_whole.kp T.b_is_whole .nil pass0 (pa_cons (pv 3) pa_nil)))) (pw_or1 (pt_cmpR op_le (pv 3) (pv 1) (nomark _)))))
      (pss_one (ps_ret (pv 2)))
      pss_nil)
      (pss_one (ps_set (i := 1) sc_first_fall.nd rfl (.inl rfl) (pv 3)))))
      (pss_one (ps_ret pe_non)))), ?_⟩
    refine ⟨1, rfl, .ref a, rfl, a, _, rfl, hS, ?_⟩
    refine for_it (EnT.walkT (K := K) (a := a) (xs := nvs xs)) (fun i σ' H' => (∃ o1 o2, σ' = [some (.ref a), some (.int (ah xs i)), o1, o2]) ∧ Ex H H') ⟨⟨none, none, rfl⟩, Ex.refl H⟩ (fun i σ' H' _ p => ex_t p.2 hS) (fun i x σ' H1 H2 hi p y => ?_) (fun σ' H1 p => ?_)
    · obtain ⟨⟨o1, o2, rfl⟩, x1⟩ := p
      obtain ⟨Tt, u1, u2, rfl, nT, rfl, g1, g2⟩ := y
      cases g1
      obtain ⟨n, gn, rfl, _⟩ := nvs_at g2
      have lt := hR i n gn
      refine ⟨Tt, _, rfl, SqT.of upd_same, rfl, _, _, rfl, _, _, rfl, rfl, .int (n : Int), rfl, n, rfl, _, rfl, ite2 (fun c => absurd c (by decide)) (fun _ => ?_)⟩
      refine ⟨.int (n : Int), rfl, .int (ah xs i), rfl, _, _, rfl, rfl, _, rfl, ite2 (fun c => ?_) (fun _ => ?_)⟩
      · have : (n : Int) ≤ ah xs i := of_decide_eq_true c
        omega
      · refine ⟨.int (n : Int), rfl, ⟨some (.int (i : Nat)), some (.int (n : Int)), ?_⟩, x1.trans (Ex.new nT)⟩
        show [some (V.ref a), some (V.int (n : Int)), some (V.int (i : Nat)), some (V.int (n : Int))] = [some (V.ref a), some (V.int (ah xs (i + 1))), some (V.int (i : Nat)), some (V.int (n : Int))]
        rw [ah, getD_at gn]
    · obtain ⟨⟨o1, o2, rfl⟩, x1⟩ := p
      exact q _ x1
def spArePl (K : PySem.W.Frag) : Sp := fun vs H Q _ => ∃ (a : Addr) (xs : List Nat), vs = [.ref a] ∧ H a = some (.tup (nvs xs)) ∧ Ris xs ∧ 0 < xs.length ∧ ∀ H', Ex H H' → Q (.bl true) H'
set_option maxHeartbeats 4000000 in
theorem ok_are_places (T : TX K mg A FD TK) : FnOk P w K mg base CX0 3 (A 22) (FD 22) ["thing"] (spArePl K) := by
  have G_first_fall := ok_first_fall (P := P) (w := w) (base := base) T
  refine T.f_are_places.ok (k := 2) sc_are_places (fun vs H Q E h => ?_) (fun cdv A' outer s H vs Q E hr h => ?_)
  · obtain ⟨a, xs, rfl, _⟩ := h
    rfl
  · obtain ⟨a, xs, rfl, hS, hR, h0, q⟩ := h
    refine ⟨_, (pss_one (ps_ret (pe_and (pe_callB (isiK (K := K) rfl) (by rfl) T.m_isinstance (by decide +kernel) (pa_cons (pv 0) (pa_cons (pe_bltn (v := .ty "tuple") (by rfl) T.m_tuple (by decide +kernel) rfl) pa_nil))) (pe_and (pe_cmpR op_gt (pe_callB (lenK (K := K) rfl) (by rfl) T.m_len (by decide +kernel) (pa_cons (pv 0) pa_nil)) pe_int (nomark _)) (pe_one (pe_cmpR op_isN (pe_call G_first_fall hr (by rfl) T.g_first_fall T.f_first_fall.kp T.b_first_fall .nil pass0 (pa_cons (pv 0) pa_nil)) pe_non (nomark _))))))), ?_⟩
    refine ⟨.ref a, rfl, .ref a, .ty "tuple", .type "tuple", .type "tuple", true, rfl, .ty _, .base (.tup hS), kit_ty (by decide +kernel), true, rfl, ?_⟩
    refine ⟨.ref a, rfl, a, _, rfl, .inr (SqT.of hS), _, 0, rfl, rfl, _, rfl, ite2 (fun _ => ?_) (fun c => ?_)⟩
    · refine ⟨.ref a, rfl, a, xs, rfl, SqT.of hS, hR, fun H1 e1 => ?_⟩
      refine ⟨rfl, ?_⟩
      exact q _ e1
    · refine absurd (decide_eq_true ?_) c
      rw [nvs_len]
      omega
/-- an entry at a: a slot and rising places -/
def EnA (H : Hp) (a : Addr) (e : Nat × List Nat) : Prop := ∃ t, H a = some (.tup [.int (e.1 : Int), .ref t]) ∧ H t = some (.tup (nvs e.2))
structure EnOk (e : Nat × List Nat) : Prop where
  ris : Ris e.2
  some : 0 < e.2.length
  few : e.2.length ≤ 120
  slot : e.1 < 16 ^ 100
  small : ∀ n ∈ e.2, n < 16 ^ 100
def EnsA (H : Hp) (xs : List V) (es : List (Nat × List Nat)) : Prop := xs.length = es.length ∧ ∀ (i : Nat) (e : Nat × List Nat), es[i]? = some e → ∃ a, xs[i]? = some (.ref a) ∧ EnA H a e
theorem EnA.ex {H H' : Hp} {a : Addr} {e : Nat × List Nat} (h : EnA H a e) (x : Ex H H') : EnA H' a e := by
  obtain ⟨t, h1, h2⟩ := h
  exact ⟨t, x _ _ h1, x _ _ h2⟩
theorem EnsA.ex {H H' : Hp} {xs : List V} {es : List (Nat × List Nat)} (h : EnsA H xs es) (x : Ex H H') : EnsA H' xs es := ⟨h.1, fun i e g => let ⟨a, h1, h2⟩ := h.2 i e g; ⟨a, h1, h2.ex x⟩⟩
theorem EnsA.at {H : Hp} {xs : List V} {es : List (Nat × List Nat)} (h : EnsA H xs es) {i : Nat} {v : V} (g : xs[i]? = .some v) : ∃ e a, es[i]? = .some e ∧ v = .ref a ∧ EnA H a e := by
  have hi : i < es.length := by rw [← h.1]; exact (List.getElem?_eq_some_iff.mp g).1
  obtain ⟨a, g1, g2⟩ := h.2 i es[i] (List.getElem?_eq_getElem hi)
  rw [g] at g1
  exact ⟨es[i], a, List.getElem?_eq_getElem hi, Option.some.inj g1, g2⟩
def spIsEn (K : PySem.W.Frag) : Sp := fun vs H Q _ => ∃ (a : Addr) (e : Nat × List Nat), vs = [.ref a] ∧ EnA H a e ∧ EnOk e ∧ ∀ H', Ex H H' → Q (.bl true) H'
set_option maxHeartbeats 4000000 in
theorem ok_is_entry (T : TX K mg A FD TK) : FnOk P w K mg base CX0 4 (A 21) (FD 21) ["thing"] (spIsEn K) := by
  have G_is_count := (ok_cnt (P := P) (w := w) (base := base) T).mono (show 2 ≤ 3 by decide)
  have G_are_places := ok_are_places (P := P) (w := w) (base := base) T
  refine T.f_is_entry.ok (k := 3) sc_is_entry (fun vs H Q E h => ?_) (fun cdv A' outer s H vs Q E hr h => ?_)
  · obtain ⟨a, e, rfl, _⟩ := h
    rfl
  · obtain ⟨a, e, rfl, ⟨t, ha, ht⟩, he, q⟩ := h
    refine ⟨_, (pss_one (ps_ret (pe_and (pe_callB (isiK (K := K) rfl) (by rfl) T.m_isinstance (by decide +kernel) (pa_cons (pv 0) (pa_cons (pe_bltn (v := .ty "tuple") (by rfl) T.m_tuple (by decide +kernel) rfl) pa_nil))) (pe_and (pe_cmpR op_eq (pe_callB (lenK (K := K) rfl) (by rfl) T.m_len (by decide +kernel) (pa_cons (pv 0) pa_nil)) pe_int (nomark _)) (pe_and (pe_call G_is_count hr (by rfl) T.g_is_count T.f_is_count.kp T.b_is_count .nil pass0 (pa_cons (pe_ix (ixTK (K := K) rfl) (pv 0) pe_int (fun _ _ => rfl)) pa_nil)) (pe_one (pe_call G_are_places hr (by rfl) T.g_are_places T.f_are_places.kp T.b_are_places .nil pass0 (pa_cons (pe_ix (ixTK (K := K) rfl) (pv 0) pe_int (fun _ _ => rfl)) pa_nil)))))))), ?_⟩
    refine ⟨.ref a, rfl, .ref a, .ty "tuple", .type "tuple", .type "tuple", true, rfl, .ty _, .base (.tup ha), kit_ty (by decide +kernel), true, rfl, ?_⟩
    refine ⟨.ref a, rfl, a, _, rfl, .inr (SqT.of ha), rfl, _, rfl, ite2 (fun _ => ?_) (fun c => absurd (decide_eq_true rfl) c)⟩
    refine ⟨.ref a, rfl, a, _, 0, _, rfl, rfl, SqT.of ha, atI_nat (j := 0) rfl, e.1, rfl, true, rfl, ?_⟩
    exact ⟨.ref a, rfl, a, _, 1, _, rfl, rfl, SqT.of ha, atI_nat (j := 1) rfl, t, e.2, rfl, ht, he.ris, he.some, q⟩
def slots (es : List (Nat × List Nat)) : List Nat := es.map (·.1)
def spChkEn (K : PySem.W.Frag) : Sp := fun vs H Q _ => ∃ (l : Addr) (xs : List V) (es : List (Nat × List Nat)), vs = [.ref l] ∧ H l = some (.lst xs) ∧ EnsA H xs es ∧ (∀ e ∈ es, EnOk e) ∧ Ris (slots es) ∧ ∀ H', Ex H H' → Q .non H'
theorem slots_at {es : List (Nat × List Nat)} {i : Nat} {e : Nat × List Nat} (g : es[i]? = some e) : (slots es)[i]? = some e.1 := by
  unfold slots
  rw [List.getElem?_map, g]
  rfl
set_option maxHeartbeats 4000000 in
theorem ok_check_entries (T : TX K mg A FD TK) : FnOk P w K mg base CX0 5 (A 20) (FD 20) ["entries"] (spChkEn K) := by
  have G_is_entry := ok_is_entry (P := P) (w := w) (base := base) T
  refine T.f_check_entries.ok (k := 4) sc_check_entries (fun vs H Q E h => ?_) (fun cdv A' outer s H vs Q E hr h => ?_)
  · obtain ⟨l, xs, es, rfl, _⟩ := h
    rfl
  · obtain ⟨l, xs, es, rfl, hl, hE, ho, hR, q⟩ := h
    refine ⟨_, (pss_cons (ps_if (pt_not (pt_val (pe_callB (isiK (K := K) rfl) (by rfl) T.m_isinstance (by decide +kernel) (pa_cons (pv 0) (pa_cons (pe_bltn (v := .ty "list") (by rfl) T.m_list (by decide +kernel) rfl) pa_nil)))))
      (pss_one ps_never)
      pss_nil)
      (pss_cons (ps_set (i := 1) sc_check_entries.nd rfl (.inl rfl) (pe_un un_neg pe_int))
      (pss_one (ps_for PassesOwn.never rfl (pi_enum (by rfl) T.m_enumerate (pa_cons (pv 0) pa_nil)) (pg_tup rfl (pgs_cons (pg_name (i := 2) sc_check_entries.nd rfl (.inl rfl)) (pgs_cons (pg_name (i := 3) sc_check_entries.nd rfl (.inl rfl)) pgs_nil)))
      (pss_cons (ps_if (PW.pt (pw_or (pt_not (pt_val (pe_call G_is_entry hr (by rfl) T.g_is_entry T.f_is_entry.kp T.b_is_entry .nil pass0 (pa_cons (pv 3) pa_nil)))) (pw_or1 (pt_cmpR op_le (pe_ix (ixTK (K := K) rfl) (pv 3) pe_int (fun _ _ => rfl)) (pv 1) (nomark _)))))
      (pss_one ps_never)
      pss_nil)
      (pss_one (ps_set (i := 1) sc_check_entries.nd rfl (.inl rfl) (pe_ix (ixTK (K := K) rfl) (pv 3) pe_int (fun _ _ => rfl))))))))), ?_⟩
    refine ⟨.ref l, rfl, .ref l, .ty "list", .type "list", .type "list", true, rfl, .ty _, .base (.lst hl), kit_ty (by decide +kernel), _, rfl, ite2 (fun c => absurd c (by decide)) (fun _ => ?_)⟩
    refine ⟨1, rfl, .ref l, rfl, l, _, rfl, SqL.of hl, ?_⟩
    refine for_it (walk_enum (K := K) (a := l) (xs := xs)) (fun i σ' H' => (∃ o1 o2, σ' = [some (.ref l), some (.int (ah (slots es) i)), o1, o2]) ∧ Ex H H') ⟨⟨none, none, rfl⟩, Ex.refl H⟩ (fun i σ' H' _ p => SqL.of (p.2 _ _ hl)) (fun i x σ' H1 H2 hi p y => ?_) (fun σ' H1 p => ?_)
    · obtain ⟨⟨o1, o2, rfl⟩, x1⟩ := p
      obtain ⟨Tt, u1, u2, rfl, nT, rfl, g1, g2⟩ := y
      cases g1
      obtain ⟨e, a, ge, rfl, hA⟩ := hE.at g2
      have eT := Ex.new (o := .tup [V.int (i : Nat), .ref a]) nT
      have hA2 := hA.ex (x1.trans eT)
      have lt := hR i e.1 (slots_at ge)
      obtain ⟨t, ha, ht⟩ := id hA2
      refine ⟨Tt, _, rfl, SqT.of upd_same, rfl, _, _, rfl, _, _, rfl, rfl, .ref a, rfl, a, e, rfl, hA2, ho e (List.mem_of_getElem? ge), fun H3 e3 => ⟨_, rfl, ite2 (fun c => absurd c (by decide)) (fun _ => ?_)⟩⟩
      refine ⟨.ref a, rfl, a, _, 0, _, rfl, rfl, SqT.of (e3 _ _ ha), atI_nat (j := 0) rfl, .int (ah (slots es) i), rfl, _, _, rfl, rfl, _, rfl, ite2 (fun c => ?_) (fun _ => ?_)⟩
      · have : (e.1 : Int) ≤ ah (slots es) i := of_decide_eq_true c
        omega
      · refine ⟨.ref a, rfl, a, _, 0, _, rfl, rfl, SqT.of (e3 _ _ ha), atI_nat (j := 0) rfl, ⟨some (.int (i : Nat)), some (.ref a), ?_⟩, (x1.trans eT).trans e3⟩
        show [some (V.ref l), some (V.int (e.1 : Int)), some (V.int (i : Nat)), some (V.ref a)] = [some (V.ref l), some (V.int (ah (slots es) (i + 1))), some (V.int (i : Nat)), some (V.ref a)]
        rw [ah, getD_at (slots_at ge)]
    · obtain ⟨⟨o1, o2, rfl⟩, x1⟩ := p
      exact q _ x1

/-! ### code_entries -/
theorem gaps_small {xs : List Nat} (h : ∀ n ∈ xs, n < 16 ^ 100) : ∀ g ∈ gapsL xs, g < 16 ^ 100 := fun g hg => by
  obtain ⟨j, hj, rfl⟩ := List.mem_map.mp hg
  have jl : j < xs.length := List.mem_range.mp hj
  have hx := h xs[j] (List.getElem_mem jl)
  have e : xs.getD j 0 = xs[j] := getD_at (List.getElem?_eq_getElem jl)
  have a1 : -1 ≤ ah xs j := by
    cases j with
    | zero => exact Int.le_refl _
    | succ i =>
      show (-1 : Int) ≤ ((xs.getD i 0 : Nat) : Int)
      omega
  unfold gapI
  rw [e]
  omega
theorem gapsL_len (xs : List Nat) : (gapsL xs).length = xs.length := by
  unfold gapsL
  rw [List.length_map, List.length_range]
/-- the code of an entry's places -/
def codeP (e : Nat × List Nat) : List (List Nat) := [codeN (e.2.length - 1), codeL (gapsL e.2)]
def codeE (es : List (Nat × List Nat)) : List (List Nat) := [codeN es.length, codeL (gapsL (slots es))] ++ (es.map codeP).flatten
structure Ens (es : List (Nat × List Nat)) : Prop where
  ok : ∀ e ∈ es, EnOk e
  ris : Ris (slots es)
  few : es.length ≤ 60
theorem slots_small {es : List (Nat × List Nat)} (h : ∀ e ∈ es, EnOk e) : ∀ n ∈ slots es, n < 16 ^ 100 := fun n hn => by
  obtain ⟨e, he, rfl⟩ := List.mem_map.mp hn
  exact (h e he).slot
theorem small_nat {n : Nat} (h : n ≤ 1000) : n < 16 ^ 100 := Nat.lt_of_le_of_lt h (by decide +kernel)
theorem codeP_flat_len {es : List (Nat × List Nat)} (h : ∀ e ∈ es, EnOk e) : ((es.map codeP).flatten).flatten.length ≤ es.length * 13000 := by
  induction es with
  | nil => exact Nat.zero_le _
  | cons e r ih =>
    have he := h e (List.mem_cons_self ..)
    have i := ih fun f hf => h f (List.mem_cons_of_mem _ hf)
    have a := codeN_len 99 (e.2.length - 1) (small_nat (by have := he.few; omega))
    have b := codeL_len (gaps_small he.small)
    rw [gapsL_len] at b
    have c := he.few
    have d : e.2.length * 100 ≤ 12000 := by omega
    rw [List.map_cons, List.flatten_cons, List.flatten_append, List.length_append, List.length_cons, Nat.add_mul]
    have k : (codeP e).flatten.length = (codeN (e.2.length - 1)).length + (codeL (gapsL e.2)).length := by
      unfold codeP
      simp
    omega
def spCodeE (K : PySem.W.Frag) : Sp := fun vs H Q _ => ∃ (l : Addr) (xs : List V) (es : List (Nat × List Nat)), vs = [.ref l] ∧ H l = some (.lst xs) ∧ EnsA H xs es ∧ Ens es ∧ ∀ H', Ex H H' → Q (.str (txt (codeE es).flatten)) H'
set_option maxHeartbeats 8000000 in
theorem ok_code_entries (T : TX K mg A FD TK) : FnOk P w K mg base CX0 6 (A 18) (FD 18) ["entries"] (spCodeE K) := by
  have G_check_entries := ok_check_entries (P := P) (w := w) (base := base) T
  have G_code := (ok_code (P := P) (w := w) (base := base) T).mono (show 3 ≤ 5 by decide)
  have G_code_all := (ok_code_all (P := P) (w := w) (base := base) T).mono (show 4 ≤ 5 by decide)
  have G_gaps_of := (ok_gaps_of (P := P) (w := w) (base := base) T).mono (show 1 ≤ 5 by decide)
  refine T.f_code_entries.ok (k := 5) sc_code_entries (fun vs H Q E h => ?_) (fun cdv A' outer s H vs Q E hr h => ?_)
  · obtain ⟨l, xs, es, rfl, _⟩ := h
    rfl
  · obtain ⟨l, xs, es, rfl, hl, hE, hs, q⟩ := h
    have few := hs.few
    refine ⟨_, (pss_cons (ps_expr (pe_call G_check_entries hr (by rfl) T.g_check_entries T.f_check_entries.kp T.b_check_entries .nil pass0 (pa_cons (pv 0) pa_nil)))
      (pss_cons (ps_set (i := 1) sc_code_entries.nd rfl (.inl rfl) (pe_lst (pa_cons (pe_call G_code hr (by rfl) T.g_code T.f_code.kp T.b_code .nil pass0 (pa_cons (pe_callB (lenK (K := K) rfl) (by rfl) T.m_len (by decide +kernel) (pa_cons (pv 0) pa_nil)) pa_nil)) (pa_cons (pe_call G_code_all hr (by rfl) T.g_code_all T.f_code_all.kp T.b_code_all .nil pass0 (pa_cons (pe_call G_gaps_of hr (by rfl) T.g_gaps_of T.f_gaps_of.kp T.b_gaps_of .nil pass0 (pa_cons (pe_lc (own := [("slot", 2), ("places", 3)])  rfl sc_code_entries.nd (piLK (K := K) rfl (pv 0)) (blkOk_by (own := [("slot", 2), ("places", 3)]) (N := N_code_entries) (sc := defScope (topS 18)) (by decide +kernel)) (fun _ _ _ _ _ => (tupGK (K := K) (n := 2) rfl rfl (pgs_cons (pg_name (i := 2) sc_code_entries.nd rfl (Or.inl rfl)) (pgs_cons (pg_name (i := 3) sc_code_entries.nd rfl (Or.inl rfl)) pgs_nil)))) (fun _ _ _ _ _ => pts_nil) (fun _ _ _ _ _ => (pv 2))) pa_nil)) pa_nil)) pa_nil))))
      (pss_cons (ps_for PassesOwn.never rfl (piLK (K := K) rfl (pv 0)) (pg_tup rfl (pgs_cons (pg_name (i := 2) sc_code_entries.nd rfl (.inl rfl)) (pgs_cons (pg_name (i := 3) sc_code_entries.nd rfl (.inl rfl)) pgs_nil)))
      (pss_cons (ps_expr (pe_bm PySem.F.plainAttrs_list PySem.F.slot_list_append PySem.F.type_list_append mt_append (pv 1) (pa_cons (pe_call G_code hr (by rfl) T.g_code T.f_code.kp T.b_code .nil pass0 (pa_cons (pe_op op_sub (pe_callB (lenK (K := K) rfl) (by rfl) T.m_len (by decide +kernel) (pa_cons (pv 3) pa_nil)) pe_int) pa_nil)) pa_nil)))
      (pss_one (ps_expr (pe_bm PySem.F.plainAttrs_list PySem.F.slot_list_append PySem.F.type_list_append mt_append (pv 1) (pa_cons (pe_call G_code_all hr (by rfl) T.g_code_all T.f_code_all.kp T.b_code_all .nil pass0 (pa_cons (pe_call G_gaps_of hr (by rfl) T.g_gaps_of T.f_gaps_of.kp T.b_gaps_of .nil pass0 (pa_cons (pv 3) pa_nil)) pa_nil)) pa_nil))))))
      (pss_one (ps_ret (pe_join pe_str (pv 1))))))), ?_⟩
    refine ⟨.ref l, rfl, l, xs, es, rfl, hl, hE, hs.ok, hs.ris, fun H1 e1 => ?_⟩
    have hl1 := e1 _ _ hl
    have hE1 := hE.ex e1
    refine ⟨.ref l, rfl, l, _, rfl, .inl (SqL.of hl1), es.length, ?_, small_nat (by omega), fun H2 e2 => ?_⟩
    · rw [hE.1]
      rfl
    have hl2 := e2 _ _ hl1
    have hE2 := hE1.ex e2
    refine ⟨.ref l, rfl, l, rfl, ⟨_, SqL.of hl2⟩, fun D nD => ?_⟩
    refine lc_list (K := K) (xs := xs) (fun i H' => Ex H2 H' ∧ H' D = some (.lst (nvs (slots (es.take i))))) ⟨Ex.new nD, upd_same⟩ (fun i H' _ z => SqL.of (z.1 _ _ hl2)) (fun i v H' gv z => ?_) (fun H3 z => ?_)
    · obtain ⟨z1, z2⟩ := z
      obtain ⟨e, a, ge, rfl, hA⟩ := hE2.at gv
      obtain ⟨t, ha, ht⟩ := hA.ex z1
      have il : i < es.length := (List.getElem?_eq_some_iff.mp ge).1
      refine ⟨a, _, rfl, SqT.of ha, rfl, _, _, rfl, _, _, rfl, rfl, rfl, .int (e.1 : Int), rfl, _, z2, ?_, Ex.mut z1 nD, ?_⟩
      · rw [nvs_len]
        unfold slots
        rw [List.length_map, List.length_take]
        exact sz_lt (by omega)
      · rw [upd_same, take_up ge]
        unfold slots nvs
        rw [List.map_append, List.map_append]
        rfl
    · obtain ⟨e3, hD⟩ := z
      rw [hE.1, List.take_length] at hD
      have sl : (slots es).length = es.length := List.length_map ..
      refine ⟨D, slots es, rfl, .inl (SqL.of hD), hs.ris, by omega, fun g H4 ng e4 hg => ?_⟩
      refine ⟨g, gapsL (slots es), rfl, hg, ?_, gaps_small (slots_small hs.ok), fun H5 e5 => ⟨by show 2 ≤ sizeLine; decide, fun TX nTX => ?_⟩⟩
      · rw [gapsL_len]
        omega
      have x5 : Ex H H5 := ((((e1.trans e2).trans e3).trans e4).trans e5)
      have nTX0 : H TX = none := fresh_back x5 nTX
      refine ⟨.ref l, rfl, l, rfl, ⟨_, SqL.of ((x5.trans (Ex.new nTX)) _ _ hl)⟩, ?_⟩
      refine for_list (K := K) (xs := xs) (fun i σ' H' => (∃ o1 o2, σ' = [some (.ref l), some (.ref TX), o1, o2]) ∧ H' TX = some (.lst ((([codeN es.length, codeL (gapsL (slots es))] ++ ((es.take i).map codeP).flatten).map txt).map V.str)) ∧ Ex H H') ⟨⟨none, none, rfl⟩, upd_same, x5.trans (Ex.new nTX)⟩ (fun i σ' H' _ p => SqL.of (p.2.2 _ _ hl)) (fun i v σ' H6 gv p => ?_) (fun σ' H6 p => ?_)
      · obtain ⟨⟨o1, o2, rfl⟩, hX, x6⟩ := p
        obtain ⟨e, a, ge, rfl, hA⟩ := hE.at gv
        obtain ⟨t, ha, ht⟩ := hA.ex x6
        have il : i < es.length := (List.getElem?_eq_some_iff.mp ge).1
        have he := hs.ok e (List.mem_of_getElem? ge)
        have hfew := he.few
        have hsome := he.some
        have lX : ((([codeN es.length, codeL (gapsL (slots es))] ++ ((es.take i).map codeP).flatten).map txt).map V.str).length ≤ 2 + 2 * i := by
          rw [List.length_map, List.length_map, List.length_append]
          have : ∀ fs : List (Nat × List Nat), ((fs.map codeP).flatten).length = 2 * fs.length := by
            intro fs
            induction fs with
            | nil => rfl
            | cons f r ih =>
              rw [List.map_cons, List.flatten_cons, List.length_append, ih, List.length_cons]
              show 2 + 2 * r.length = _
              omega
          rw [this, List.length_take]
          show 2 + _ ≤ _
          omega
        refine ⟨a, _, rfl, SqT.of ha, rfl, _, _, rfl, _, _, rfl, rfl, .ref TX, rfl, .inl ⟨rfl, _, SqL.of hX⟩, .ref t, rfl, t, _, rfl, .inr (SqT.of ht), _, 1, rfl, rfl, e.2.length - 1, ?_, small_nat (by omega), fun H7 e7 => ⟨TX, _, _, rfl, rfl, e7 _ _ hX, sz_lt (by omega), ?_⟩⟩
        · rw [nvs_len]
          show [V.int ((e.2.length : Int) - 1)] = [V.int ((e.2.length - 1 : Nat) : Int)]
          rw [show (e.2.length : Int) - 1 = ((e.2.length - 1 : Nat) : Int) by omega]
        have x8 := Ex.mut (o := .lst ((([codeN es.length, codeL (gapsL (slots es))] ++ ((es.take i).map codeP).flatten).map txt).map V.str ++ [.str (txt (codeN (e.2.length - 1)))])) (x6.trans e7) nTX0
        have h8 := upd_same (H := H7) (a := TX) (o := .lst ((([codeN es.length, codeL (gapsL (slots es))] ++ ((es.take i).map codeP).flatten).map txt).map V.str ++ [.str (txt (codeN (e.2.length - 1)))]))
        have ht8 : (upd H7 TX (.lst ((([codeN es.length, codeL (gapsL (slots es))] ++ ((es.take i).map codeP).flatten).map txt).map V.str ++ [.str (txt (codeN (e.2.length - 1)))]))) t = some (.tup (nvs e.2)) := by
          rw [upd_ne (ne_of ht hX (by intro z; cases z))]
          exact e7 _ _ ht
        generalize upd H7 TX (.lst ((([codeN es.length, codeL (gapsL (slots es))] ++ ((es.take i).map codeP).flatten).map txt).map V.str ++ [.str (txt (codeN (e.2.length - 1)))])) = H8 at x8 h8 ht8 ⊢
        refine ⟨.ref TX, rfl, .inl ⟨rfl, _, SqL.of h8⟩, .ref t, rfl, t, e.2, rfl, .inr (SqT.of ht8), he.ris, by omega, fun g2 H9 ng2 e9 hg2 => ⟨g2, gapsL e.2, rfl, hg2, ?_, gaps_small he.small, fun HA eA => ⟨TX, _, _, rfl, rfl, eA _ _ (e9 _ _ h8), ?_, ⟨_, _, rfl⟩, ?_, Ex.mut ((x8.trans e9).trans eA) nTX0⟩⟩⟩
        · rw [gapsL_len]
          omega
        · rw [List.length_append]
          exact sz_lt (by show _ + 1 < 100000; omega)
        · have ee : [codeN es.length, codeL (gapsL (slots es))] ++ ((es.take i ++ [e]).map codeP).flatten = ([codeN es.length, codeL (gapsL (slots es))] ++ ((es.take i).map codeP).flatten) ++ [codeN (e.2.length - 1), codeL (gapsL e.2)] := by simp [codeP]
          rw [upd_same, take_up ge, ee]
          generalize [codeN es.length, codeL (gapsL (slots es))] ++ ((es.take i).map codeP).flatten = bs
          rw [List.map_append, List.map_append, List.append_assoc]
          rfl
      · obtain ⟨⟨o1, o2, rfl⟩, hX, x6⟩ := p
        rw [hE.1, List.take_length] at hX
        refine ⟨⟨_, rfl⟩, .ref TX, rfl, "", TX, (codeE es).map txt, rfl, rfl, .inl (SqL.of hX), ?_, ?_⟩
        · rw [sum_txts]
          have a := codeP_flat_len hs.ok
          have b := codeN_len 99 es.length (small_nat (by omega))
          have c := codeL_len (gaps_small (slots_small hs.ok))
          rw [gapsL_len] at c
          have k : (codeE es).flatten.length = (codeN es.length).length + (codeL (gapsL (slots es))).length + ((es.map codeP).flatten).flatten.length := by
            unfold codeE
            rw [List.flatten_append, List.length_append]
            simp
          show _ + _ * 0 ≤ 16777216
          have d : es.length * 13000 ≤ 60 * 13000 := Nat.mul_le_mul few (Nat.le_refl _)
          omega
        · rw [join_txts]
          exact q _ x6

/-! ### the rest of a code of entries -/
def restE (es : List (Nat × List Nat)) : List Nat := ((es.map codeP).flatten).flatten
theorem codeE_flat (es : List (Nat × List Nat)) : (codeE es).flatten = codeN es.length ++ (codeL (gapsL (slots es)) ++ restE es) := by
  unfold codeE restE
  simp
theorem restE_app (a b : List (Nat × List Nat)) : restE (a ++ b) = restE a ++ restE b := by
  unfold restE
  rw [List.map_append, List.flatten_append, List.flatten_append]
theorem restE_one (e : Nat × List Nat) : restE [e] = codeN (e.2.length - 1) ++ codeL (gapsL e.2) := by
  unfold restE codeP
  simp
theorem restE_cons (e : Nat × List Nat) (r : List (Nat × List Nat)) : restE (e :: r) = codeN (e.2.length - 1) ++ (codeL (gapsL e.2) ++ restE r) := by
  have := restE_app [e] r
  rw [restE_one, List.append_assoc] at this
  exact this
theorem EnsA.mono {H H' : Hp} {xs : List V} {es : List (Nat × List Nat)} (h : EnsA H xs es) (k : ∀ b zs, H b = some (.tup zs) → H' b = some (.tup zs)) : EnsA H' xs es := ⟨h.1, fun i e g => by
  obtain ⟨a, h1, t, h2, h3⟩ := h.2 i e g
  exact ⟨a, h1, t, k _ _ h2, k _ _ h3⟩⟩
theorem EnsA.snoc {H : Hp} {xs : List V} {es : List (Nat × List Nat)} {a : Addr} {e : Nat × List Nat} (h : EnsA H xs es) (g : EnA H a e) : EnsA H (xs ++ [.ref a]) (es ++ [e]) := by
  refine ⟨by rw [List.length_append, List.length_append, h.1]; rfl, fun i f q => ?_⟩
  by_cases l : i < es.length
  · rw [List.getElem?_append_left l] at q
    obtain ⟨b, h1, h2⟩ := h.2 i f q
    exact ⟨b, by rw [List.getElem?_append_left (by rw [h.1]; exact l)]; exact h1, h2⟩
  · rw [List.getElem?_append_right (by omega)] at q
    have i0 : i - es.length = 0 := by
      have := (List.getElem?_eq_some_iff.mp q).1
      simp at this
      omega
    rw [i0] at q
    cases q
    exact ⟨a, by rw [List.getElem?_append_right (by rw [h.1]; omega), h.1, i0]; rfl, g⟩

/-! ### blocks: the mathematics -/
abbrev En := Nat × List Nat
def zsI (ns : List Nat) : List Int := ns.map fun (n : Nat) => (n : Int)
theorem nvs_zs (ns : List Nat) : nvs ns = (zsI ns).map V.int := by
  unfold nvs zsI
  rw [List.map_map]
  rfl
theorem zsI_len (ns : List Nat) : (zsI ns).length = ns.length := List.length_map ..
def mxL : List Nat → Nat
  | [] => 0
  | x :: r => max x (mxL r)
def mnL : List Nat → Nat
  | [] => 0
  | [x] => x
  | x :: y :: r => min x (mnL (y :: r))
theorem mxL_ge : ∀ {ns : List Nat} {n : Nat}, n ∈ ns → n ≤ mxL ns
  | x :: r, n, h => by
    rcases List.mem_cons.mp h with rfl | h
    · exact Nat.le_max_left ..
    · exact Nat.le_trans (mxL_ge h) (Nat.le_max_right ..)
theorem mxL_mem : ∀ {ns : List Nat}, ns ≠ [] → mxL ns ∈ ns
  | [x], _ => by simp [mxL]
  | x :: y :: r, _ => by
    have i := mxL_mem (ns := y :: r) (by simp)
    show max x (mxL (y :: r)) ∈ _
    rcases Nat.le_total x (mxL (y :: r)) with h | h
    · rw [Nat.max_eq_right h]
      exact List.mem_cons_of_mem _ i
    · rw [Nat.max_eq_left h]
      exact List.mem_cons_self ..
theorem mnL_le : ∀ {ns : List Nat} {n : Nat}, n ∈ ns → mnL ns ≤ n
  | [x], n, h => by
    rw [List.mem_singleton.mp h]
    exact Nat.le_refl _
  | x :: y :: r, n, h => by
    show min x (mnL (y :: r)) ≤ n
    rcases List.mem_cons.mp h with rfl | h
    · exact Nat.min_le_left ..
    · exact Nat.le_trans (Nat.min_le_right ..) (mnL_le h)
theorem mnL_mem : ∀ {ns : List Nat}, ns ≠ [] → mnL ns ∈ ns
  | [x], _ => by simp [mnL]
  | x :: y :: r, _ => by
    have i := mnL_mem (ns := y :: r) (by simp)
    show min x (mnL (y :: r)) ∈ _
    rcases Nat.le_total x (mnL (y :: r)) with h | h
    · rw [Nat.min_eq_left h]
      exact List.mem_cons_self ..
    · rw [Nat.min_eq_right h]
      exact List.mem_cons_of_mem _ i
theorem zs_mem {ns : List Nat} {m : Int} (h : m ∈ zsI ns) : ∃ n : Nat, n ∈ ns ∧ m = (n : Int) := by
  obtain ⟨n, hn, e⟩ := List.mem_map.mp h
  exact ⟨n, hn, e.symm⟩
theorem mem_zs {ns : List Nat} {n : Nat} (h : n ∈ ns) : (n : Int) ∈ zsI ns := List.mem_map.mpr ⟨n, h, rfl⟩
theorem ne_nil {α : Type} {l : List α} (h : 0 < l.length) : l ≠ [] := fun z => by
  rw [z] at h
  exact absurd h (by simp)
theorem mx_is {ns : List Nat} {m : Int} (hm : m ∈ zsI ns) (hx : ∀ y, y ∈ zsI ns → y ≤ m) : m = ((mxL ns : Nat) : Int) := by
  obtain ⟨n, hn, rfl⟩ := zs_mem hm
  have a := mxL_ge hn
  have b := hx _ (mem_zs (mxL_mem (fun z => by rw [z] at hn; cases hn)))
  omega
theorem mn_is {ns : List Nat} {m : Int} (hm : m ∈ zsI ns) (hx : ∀ y, y ∈ zsI ns → m ≤ y) : m = ((mnL ns : Nat) : Int) := by
  obtain ⟨n, hn, rfl⟩ := zs_mem hm
  have a := mnL_le hn
  have b := hx _ (mem_zs (mnL_mem (fun z => by rw [z] at hn; cases hn)))
  omega
/-- the i-th block of s entries -/
def cutE (es : List En) (s i : Nat) : List En := (es.drop (i * s)).take s
def nb (n s : Nat) : Nat := (n + s - 1) / s
theorem nb_lt {n s i : Nat} (hs : 0 < s) : i < nb n s ↔ i * s < n := by
  unfold nb
  rw [Nat.lt_div_iff_mul_lt hs]
  omega
theorem nb_mul {n s : Nat} (hs : 0 < s) : n ≤ nb n s * s := by
  rcases Nat.lt_or_ge (nb n s * s) n with h | h
  · exact absurd ((nb_lt hs).mpr h) (Nat.lt_irrefl _)
  · exact h
theorem nb_le {n s : Nat} (hs : 0 < s) : nb n s ≤ n := by
  rcases Nat.lt_or_ge n (nb n s) with h | h
  · have := (nb_lt hs).mp h
    have : n ≤ n * s := Nat.le_mul_of_pos_right _ hs
    omega
  · exact h
theorem cutE_len (es : List En) (s i : Nat) : (cutE es s i).length = min s (es.length - i * s) := by
  unfold cutE
  rw [List.length_take, List.length_drop]
theorem cutE_pos {es : List En} {s i : Nat} (hs : 0 < s) (hi : i < nb es.length s) : 0 < (cutE es s i).length := by
  have := (nb_lt hs).mp hi
  rw [cutE_len]
  omega
theorem cutE_mem {es : List En} {s i : Nat} {e : En} (h : e ∈ cutE es s i) : e ∈ es := List.mem_of_mem_drop (List.mem_of_mem_take h)
theorem cutE_at {es : List En} {s i j : Nat} {e : En} (h : (cutE es s i)[j]? = some e) : es[i * s + j]? = some e ∧ j < s := by
  unfold cutE at h
  rw [List.getElem?_take] at h
  by_cases hj : j < s
  · rw [if_pos hj, List.getElem?_drop] at h
    exact ⟨h, hj⟩
  · rw [if_neg hj] at h
    cases h
theorem ah_ge (xs : List Nat) (i : Nat) : -1 ≤ ah xs i := by
  cases i with
  | zero => exact Int.le_refl _
  | succ i =>
    show (-1 : Int) ≤ ((xs.getD i 0 : Nat) : Int)
    omega
theorem ris_drop {xs : List Nat} (h : Ris xs) (k : Nat) : Ris (xs.drop k) := fun i x g => by
  rw [List.getElem?_drop] at g
  cases i with
  | zero =>
    show (-1 : Int) < (x : Int)
    omega
  | succ i =>
    have := h _ _ g
    rw [show k + (i + 1) = (k + i) + 1 by omega] at this
    show ((((xs.drop k).getD i 0 : Nat)) : Int) < (x : Int)
    have e : (xs.drop k).getD i 0 = xs.getD (k + i) 0 := by
      rw [List.getD_eq_getElem?_getD, List.getElem?_drop, List.getD_eq_getElem?_getD]
    rw [e]
    exact this
theorem ris_take {xs : List Nat} (h : Ris xs) (k : Nat) : Ris (xs.take k) := fun i x g => by
  rw [List.getElem?_take] at g
  by_cases hi : i < k
  · rw [if_pos hi] at g
    have := h _ _ g
    cases i with
    | zero => exact this
    | succ i =>
      show ((((xs.take k).getD i 0 : Nat)) : Int) < (x : Int)
      have e : (xs.take k).getD i 0 = xs.getD i 0 := by
        rw [List.getD_eq_getElem?_getD, List.getElem?_take, if_pos (by omega), List.getD_eq_getElem?_getD]
      rw [e]
      exact this
  · rw [if_neg hi] at g
    cases g
theorem cutE_slots (es : List En) (s i : Nat) : slots (cutE es s i) = ((slots es).drop (i * s)).take s := by
  unfold slots cutE
  rw [List.map_take, List.map_drop]
theorem Ens.cut {es : List En} (h : Ens es) (s i : Nat) : Ens (cutE es s i) := ⟨fun e he => h.ok e (cutE_mem he), by rw [cutE_slots]; exact ris_take (ris_drop h.ris _) _, by
  have := h.few
  rw [cutE_len]
  omega⟩
/-- small entries: the code stays short -/
def Sml (es : List En) : Prop := ∀ e ∈ es, e.1 < 256 ∧ ∀ n ∈ e.2, n < 256
theorem Sml.cut {es : List En} (h : Sml es) (s i : Nat) : Sml (cutE es s i) := fun e he => h e (cutE_mem he)
theorem codeL_len2 {ns : List Nat} (h : ∀ n ∈ ns, n < 256) : (codeL ns).length ≤ ns.length * 2 := by
  induction ns with
  | nil => exact Nat.zero_le _
  | cons n r ih =>
    have a := codeN_len 1 n (h n (List.mem_cons_self ..))
    have b := ih fun m hm => h m (List.mem_cons_of_mem _ hm)
    unfold codeL at b ⊢
    rw [List.map_cons, List.flatten_cons, List.length_append, List.length_cons, Nat.add_mul]
    omega
theorem gaps_lt {xs : List Nat} {B : Nat} (h : ∀ n ∈ xs, n < B) : ∀ g ∈ gapsL xs, g < B := fun g hg => by
  obtain ⟨j, hj, rfl⟩ := List.mem_map.mp hg
  have jl : j < xs.length := List.mem_range.mp hj
  have hx := h xs[j] (List.getElem_mem jl)
  have e : xs.getD j 0 = xs[j] := getD_at (List.getElem?_eq_getElem jl)
  have a1 := ah_ge xs j
  unfold gapI
  rw [e]
  omega
theorem codeP_len2 {es : List En} (h : Ens es) (k : Sml es) : (restE es).length ≤ es.length * 242 := by
  have ok := h.ok
  clear h
  induction es with
  | nil => exact Nat.zero_le _
  | cons e r ih =>
    have he := ok e (List.mem_cons_self ..)
    have ke := k e (List.mem_cons_self ..)
    have i := ih (fun f hf => k f (List.mem_cons_of_mem _ hf)) (fun f hf => ok f (List.mem_cons_of_mem _ hf))
    have c := he.few
    have a := codeN_len 1 (e.2.length - 1) (show e.2.length - 1 < 256 by omega)
    have b := codeL_len2 (gaps_lt ke.2)
    rw [gapsL_len] at b
    rw [restE_cons, List.length_append, List.length_append, List.length_cons, Nat.add_mul]
    omega
theorem codeE_len2 {es : List En} (h : Ens es) (k : Sml es) : (codeE es).flatten.length ≤ 2 + es.length * 244 := by
  have f := h.few
  have a := codeN_len 1 es.length (show es.length < 256 by omega)
  have b := codeL_len2 (gaps_lt (xs := slots es) (B := 256) fun n hn => by
    obtain ⟨e, he, rfl⟩ := List.mem_map.mp hn
    exact (k e he).1)
  rw [gapsL_len] at b
  have l : (slots es).length = es.length := List.length_map ..
  have c := codeP_len2 h k
  rw [codeE_flat, List.length_append, List.length_append]
  omega
/-- the entries of the first i blocks -/
theorem take_more (es : List En) (s i : Nat) : es.take ((i + 1) * s) = es.take (i * s) ++ cutE es s i := by
  unfold cutE
  rw [Nat.add_mul, Nat.one_mul, List.take_add]
theorem EnsA.cut {H : Hp} {xs : List V} {es : List En} (h : EnsA H xs es) (s i : Nat) : EnsA H ((xs.drop (i * s)).take s) (cutE es s i) := by
  refine ⟨?_, fun j e g => ?_⟩
  · rw [cutE_len, List.length_take, List.length_drop, h.1]
  · obtain ⟨g1, hj⟩ := cutE_at g
    obtain ⟨a, h1, h2⟩ := h.2 _ _ g1
    exact ⟨a, by rw [List.getElem?_take, if_pos hj, List.getElem?_drop]; exact h1, h2⟩
theorem EnsA.app {H : Hp} {xs ys : List V} {es fs : List En} (h : EnsA H xs es) (k : EnsA H ys fs) : EnsA H (xs ++ ys) (es ++ fs) := by
  refine ⟨by rw [List.length_append, List.length_append, h.1, k.1], fun i e g => ?_⟩
  by_cases hi : i < es.length
  · rw [List.getElem?_append_left hi] at g
    obtain ⟨a, h1, h2⟩ := h.2 i e g
    exact ⟨a, by rw [List.getElem?_append_left (by rw [h.1]; exact hi)]; exact h1, h2⟩
  · rw [List.getElem?_append_right (by omega)] at g
    obtain ⟨a, h1, h2⟩ := k.2 _ e g
    exact ⟨a, by rw [List.getElem?_append_right (by rw [h.1]; omega), h.1]; exact h1, h2⟩
def fstE (es : List En) : Nat := (slots es).headD 0
def lstE (es : List En) : Nat := (slots es).getLastD 0
def mostE (es : List En) : Nat := mxL (es.map fun e => e.2.length)
def leastE (es : List En) (ls : List Nat) : Nat := mnL (es.map fun e => ls.getD e.1 0)
def headE (es : List En) (ls : List Nat) : List Nat := [fstE es, lstE es, es.length, mostE es, leastE es ls]
def blkF (es : List En) (ls : List Nat) : List (Str × V) := [("first", .int (fstE es : Nat)), ("last", .int (lstE es : Nat)), ("many", .int (es.length : Nat)), ("most", .int (mostE es : Nat)), ("least", .int (leastE es ls : Nat)), ("coded", .str (txt (codeE es).flatten))]
def BlkAt (C : Addr) (H : Hp) (b : Addr) (es : List En) (ls : List Nat) : Prop := ∃ dx, H b = some (.ins C dx (blkF es ls))
theorem BlkAt.ex {C : Addr} {H H' : Hp} {b : Addr} {es : List En} {ls : List Nat} (h : BlkAt C H b es ls) (x : Ex H H') : BlkAt C H' b es ls := by
  obtain ⟨dx, h⟩ := h
  exact ⟨dx, x _ _ h⟩
theorem fst_at {es : List En} {e : En} (g : es[0]? = some e) : fstE es = e.1 := by
  cases es with
  | nil => cases g
  | cons a r =>
    cases g
    rfl
theorem lst_at {es : List En} {e : En} (g : es[es.length - 1]? = some e) : lstE es = e.1 := by
  unfold lstE
  rw [List.getLastD_eq_getLast?, List.getLast?_eq_getElem?]
  have l : (slots es).length = es.length := List.length_map ..
  rw [l, slots_at g]
  rfl
theorem atI_end {α : Type} {xs : List α} {x : α} (g : xs[xs.length - 1]? = some x) : atI xs (-1) = some x := by
  have hl := (List.getElem?_eq_some_iff.mp g).1
  have e : ixN xs.length (-1) = some (xs.length - 1) := by
    unfold ixN
    rw [if_neg (by decide), if_pos (by omega)]
    congr 1
    omega
  unfold atI
  rw [e]
  exact g
/-- entries and the lengths of pages that fit -/
structure Fit (es : List En) (ls : List Nat) : Prop where
  few : ls.length ≤ 60
  most : ∀ n ∈ ls, n ≤ 120
  fit : ∀ e ∈ es, e.1 < ls.length ∧ ∀ n ∈ e.2, n < ls.getD e.1 0
theorem getD_mem {ls : List Nat} {i : Nat} (h : i < ls.length) : ls.getD i 0 ∈ ls := by
  rw [getD_at (List.getElem?_eq_getElem h)]
  exact List.getElem_mem h
theorem Fit.sml {es : List En} {ls : List Nat} (h : Fit es ls) : Sml es := fun e he => by
  obtain ⟨a, b⟩ := h.fit e he
  have := h.few
  refine ⟨by omega, fun n hn => ?_⟩
  have c := b n hn
  have d := h.most _ (getD_mem a)
  omega
theorem Fit.cut {es : List En} {ls : List Nat} (h : Fit es ls) (s i : Nat) : Fit (cutE es s i) ls := ⟨h.few, h.most, fun e he => h.fit e (cutE_mem he)⟩

/-! ### check_word, check_lengths, check_size, check_fit -/
def spCkWd : Sp := fun vs H Q _ => ∃ z : Str, vs = [.str z] ∧ isW z = true ∧ ∀ H', Ex H H' → Q .non H'
set_option maxHeartbeats 4000000 in
theorem ok_check_word (T : TX K mg A FD TK) : FnOk P w K mg base CX0 2 (A 33) (FD 33) ["word"] spCkWd := by
  have G_is_word := ok_is_word (P := P) (w := w) (base := base) T
  refine T.f_check_word.ok sc_check_word (fun vs H Q E h => ?_) (fun cdv A' outer s H vs Q E hr h => ?_)
  · obtain ⟨z, rfl, _⟩ := h
    rfl
  · obtain ⟨z, rfl, hz, q⟩ := h
    refine ⟨_, (pss_one (ps_if (pt_not (pt_val (pe_call G_is_word hr (by rfl) T.g_is_word T.f_is_word.kp T.b_is_word .nil pass0 (pa_cons (pv 0) pa_nil))))
      (pss_one ps_never)
      pss_nil)), ?_⟩
    refine ⟨.str z, rfl, z, rfl, by have := isW_len hz; omega, fun H1 e1 => ⟨_, rfl, ?_⟩⟩
    rw [hz]
    exact iteF (q _ e1)
def spCkSz : Sp := fun vs H Q _ => ∃ n : Nat, vs = [.int (n : Int)] ∧ 1 ≤ n ∧ n ≤ 8 ∧ ∀ H', Ex H H' → Q .non H'
set_option maxHeartbeats 4000000 in
theorem ok_check_size (T : TX K mg A FD TK) : FnOk P w K mg base CX0 3 (A 41) (FD 41) ["size"] spCkSz := by
  have G_is_within := ok_is_within (P := P) (w := w) (base := base) T
  refine T.f_check_size.ok sc_check_size (fun vs H Q E h => ?_) (fun cdv A' outer s H vs Q E hr h => ?_)
  · obtain ⟨n, rfl, _⟩ := h
    rfl
  · obtain ⟨n, rfl, h1, h2, q⟩ := h
    refine ⟨_, (pss_one (ps_if (pt_not (pt_val (pe_call G_is_within hr (by rfl) T.g_is_within T.f_is_within.kp T.b_is_within .nil pass0 (pa_cons (pv 0) (pa_cons pe_int (pa_cons (pe_glob (v := .int 8) (by rfl) T.c_MOST_SIZE ⟨_, rfl⟩) pa_nil))))))
      (pss_one ps_never)
      pss_nil)), ?_⟩
    refine ⟨.int (n : Int), rfl, n, 1, 8, rfl, fun H1 e1 => ⟨_, rfl, ?_⟩⟩
    rw [decide_eq_true (show (1 : Int) ≤ n by omega), decide_eq_true (show (n : Int) ≤ 8 by omega)]
    exact q _ e1
def spCkLn : Sp := fun vs H Q _ => ∃ (m : Addr) (ls : List Nat), vs = [.ref m] ∧ H m = some (.lst (nvs ls)) ∧ ls.length ≤ 60 ∧ (∀ n ∈ ls, n ≤ 120) ∧ ∀ H', Ex H H' → Q .non H'
set_option maxHeartbeats 4000000 in
theorem ok_check_lengths (T : TX K mg A FD TK) : FnOk P w K mg base CX0 3 (A 40) (FD 40) ["lengths"] spCkLn := by
  have G_is_within := ok_is_within (P := P) (w := w) (base := base) T
  refine T.f_check_lengths.ok sc_check_lengths (fun vs H Q E h => ?_) (fun cdv A' outer s H vs Q E hr h => ?_)
  · obtain ⟨m, ls, rfl, _⟩ := h
    rfl
  · obtain ⟨m, ls, rfl, hm, hl, hb, q⟩ := h
    refine ⟨_, (pss_cons (ps_if (PW.pt (pw_or (pt_not (pt_val (pe_callB (isiK (K := K) rfl) (by rfl) T.m_isinstance (by decide +kernel) (pa_cons (pv 0) (pa_cons (pe_bltn (v := .ty "list") (by rfl) T.m_list (by decide +kernel) rfl) pa_nil))))) (pw_or1 (pt_cmpR op_gt (pe_callB (lenK (K := K) rfl) (by rfl) T.m_len (by decide +kernel) (pa_cons (pv 0) pa_nil)) (pe_glob (v := .int 60) (by rfl) T.c_MOST_LENGTHS ⟨_, rfl⟩) (nomark _)))))
      (pss_one ps_never)
      pss_nil)
      (pss_one (ps_if (pt_not (pt_val (pe_callB (allK (K := K) rfl rfl) (by rfl) T.m_all (by decide +kernel) (pa_cons (pe_lc (own := [("length", 1)])  rfl sc_check_lengths.nd (piLK (K := K) rfl (pv 0)) (blkOk_by (own := [("length", 1)]) (N := N_check_lengths) (sc := defScope (topS 40)) (by decide +kernel)) (fun _ _ _ _ _ => (pg_name (i := 1) sc_check_lengths.nd rfl (Or.inl rfl))) (fun _ _ _ _ _ => pts_nil) (fun _ _ _ _ _ => (pe_call G_is_within hr (by rfl) T.g_is_within T.f_is_within.kp T.b_is_within .nil pass0 (pa_cons (pv 1) (pa_cons pe_int (pa_cons (pe_glob (v := .int 120) (by rfl) T.c_MOST_WORDS ⟨_, rfl⟩) pa_nil)))))) pa_nil))))
      (pss_one ps_never)
      pss_nil))), ?_⟩
    refine ⟨.ref m, rfl, .ref m, .ty "list", .type "list", .type "list", true, rfl, .ty _, .base (.lst hm), kit_ty (by decide +kernel), true, rfl, ?_⟩
    refine ⟨.ref m, rfl, m, _, rfl, .inl (SqL.of hm), _, 60, rfl, rfl, _, rfl, ite2 (fun c => ?_) (fun _ => ?_)⟩
    · have c : (60 : Int) < ((nvs ls).length : Int) := of_decide_eq_true c
      rw [nvs_len] at c
      omega
    refine ⟨.ref m, rfl, m, rfl, ⟨_, SqL.of hm⟩, fun D hD => ?_⟩
    refine lc_list (K := K) (xs := nvs ls) (fun i H' => Ex H H' ∧ H' D = some (.lst ((List.replicate i true).map V.bl))) ⟨Ex.new hD, upd_same⟩ (fun i H' _ p => ex_l p.1 (SqL.of hm)) (fun i x H2 hx p => ?_) (fun H2 p => ?_)
    · obtain ⟨p1, p2⟩ := p
      obtain ⟨n, gn, rfl, il⟩ := nvs_at hx
      have bn := hb n (List.mem_of_getElem? gn)
      refine ⟨rfl, .int (n : Int), rfl, n, 0, 120, rfl, fun H3 e3 => ⟨_, e3 _ _ p2, ?_, Ex.mut (p1.trans e3) hD, ?_⟩⟩
      · rw [List.length_map, List.length_replicate]
        exact sz_lt (by omega)
      · rw [upd_same, List.replicate_succ', List.map_append, decide_eq_true (show (0 : Int) ≤ n by omega), decide_eq_true (show (n : Int) ≤ 120 by omega)]
        rfl
    · obtain ⟨p1, p2⟩ := p
      refine ⟨D, _, rfl, SqL.of p2, _, rfl, ?_⟩
      rw [show (List.replicate (nvs ls).length true).all id = true by simp]
      exact q _ p1
def spCkFt (K : PySem.W.Frag) : Sp := fun vs H Q _ => ∃ (l m : Addr) (xs : List V) (es : List En) (ls : List Nat), vs = [.ref l, .ref m] ∧ H l = some (.lst xs) ∧ EnsA H xs es ∧ Ens es ∧ H m = some (.lst (nvs ls)) ∧ Fit es ls ∧ ∀ H', Ex H H' → Q .non H'
set_option maxHeartbeats 4000000 in
theorem ok_check_fit (T : TX K mg A FD TK) : FnOk P w K mg base CX0 1 (A 42) (FD 42) ["entries", "lengths"] (spCkFt K) := by
  refine T.f_check_fit.ok sc_check_fit (fun vs H Q E h => ?_) (fun cdv A' outer s H vs Q E hr h => ?_)
  · obtain ⟨l, m, xs, es, ls, rfl, _⟩ := h
    rfl
  · obtain ⟨l, m, xs, es, ls, rfl, hl, hE, hN, hm, hF, q⟩ := h
    refine ⟨_, (pss_one (ps_for PassesOwn.never rfl (pi_enum (by rfl) T.m_enumerate (pa_cons (pv 0) pa_nil)) (pg_tup rfl (pgs_cons (pg_name (i := 2) sc_check_fit.nd rfl (.inl rfl)) (pgs_cons (pg_tup rfl (pgs_cons (pg_name (i := 3) sc_check_fit.nd rfl (.inl rfl)) (pgs_cons (pg_name (i := 4) sc_check_fit.nd rfl (.inl rfl)) pgs_nil))) pgs_nil)))
      (pss_one (ps_if (PW.pt (pw_or (pt_cmpR op_ge (pv 3) (pe_callB (lenK (K := K) rfl) (by rfl) T.m_len (by decide +kernel) (pa_cons (pv 1) pa_nil)) (nomark _)) (pw_or1 (pt_cmpR op_ge (pe_ix (ixTK (K := K) rfl) (pv 4) (pe_un un_neg pe_int) (fun _ _ => rfl)) (pe_ix (ixLK (K := K) rfl) (pv 1) (pv 3) (fun _ _ => rfl)) (nomark _)))))
      (pss_one ps_never)
      pss_nil)))), ?_⟩
    refine ⟨.ref l, rfl, l, _, rfl, SqL.of hl, ?_⟩
    refine for_it (walk_enum (K := K) (a := l) (xs := xs)) (fun i σ' H' => (∃ o1 o2 o3, σ' = [some (.ref l), some (.ref m), o1, o2, o3]) ∧ Ex H H') ⟨⟨none, none, none, rfl⟩, Ex.refl H⟩ (fun i σ' H' _ p => SqL.of (p.2 _ _ hl)) (fun i x σ' H1 H2 hi p y => ?_) (fun σ' H1 p => ?_)
    · obtain ⟨⟨o1, o2, o3, rfl⟩, x1⟩ := p
      obtain ⟨Tt, u1, u2, rfl, nT, rfl, g1, g2⟩ := y
      cases g1
      obtain ⟨e, a, ge, rfl, hA⟩ := hE.at g2
      have eT := Ex.new (o := .tup [V.int (i : Nat), .ref a]) nT
      have em := List.mem_of_getElem? ge
      obtain ⟨t, ha, ht⟩ := hA.ex (x1.trans eT)
      obtain ⟨f1, f2⟩ := hF.fit e em
      have hm2 := (x1.trans eT) _ _ hm
      have h0 := (hN.ok e em).some
      have last := f2 (e.2[e.2.length - 1]'(by omega)) (List.getElem_mem _)
      have gl : e.2[e.2.length - 1]? = some (e.2[e.2.length - 1]'(by omega)) := List.getElem?_eq_getElem _
      generalize e.2[e.2.length - 1]'(by omega) = y at last gl
      have gls : (nvs ls)[e.1]? = some (.int ((ls.getD e.1 0 : Nat) : Int)) := by
        unfold nvs
        rw [List.getElem?_map, List.getElem?_eq_getElem f1, getD_at (List.getElem?_eq_getElem f1)]
        rfl
      have gy : (nvs e.2)[(nvs e.2).length - 1]? = some (.int (y : Int)) := by
        rw [nvs_len]
        unfold nvs
        rw [List.getElem?_map, gl]
        rfl
      refine ⟨Tt, _, rfl, SqT.of upd_same, rfl, _, _, rfl, _, _, rfl, a, _, rfl, SqT.of ha, rfl, _, _, rfl, _, _, rfl, rfl, rfl, ?_⟩
      refine ⟨.int (e.1 : Int), rfl, .ref m, rfl, m, _, rfl, .inl (SqL.of hm2), _, _, rfl, rfl, _, rfl, ite2 (fun c => ?_) (fun _ => ?_)⟩
      · have c : ((nvs ls).length : Int) ≤ (e.1 : Int) := of_decide_eq_true c
        rw [nvs_len] at c
        omega
      refine ⟨.ref t, rfl, 1, rfl, t, _, -1, _, rfl, rfl, SqT.of ht, atI_end gy, .ref m, rfl, .int (e.1 : Int), rfl, m, _, _, _, rfl, rfl, SqL.of hm2, atI_nat gls, _, _, rfl, rfl, _, rfl, ite2 (fun c => ?_) (fun _ => ?_)⟩
      · have c : ((ls.getD e.1 0 : Nat) : Int) ≤ (y : Int) := of_decide_eq_true c
        omega
      · exact ⟨⟨_, _, _, rfl⟩, x1.trans eT⟩
    · obtain ⟨⟨o1, o2, o3, rfl⟩, x1⟩ := p
      exact q _ x1

/-! ### Block -/
/-- all but x stays -/
def ExI (x : Addr) (H H' : Hp) : Prop := ∀ b o, b ≠ x → H b = some o → H' b = some o
theorem ExI.new {H H' : Hp} {x dx : Addr} {o u : HO} (nx : H x = none) (nd : H dx = none) (i : ExI x (upd (upd H dx o) x u) H') : Ex H H' := fun c q h => by
  refine i c q (ne_of_none h nx) ?_
  rw [upd_ne (ne_of_none h nx), upd_ne (ne_of_none h nd)]
  exact h
theorem EnsA.keep {H H' : Hp} {xs : List V} {es : List En} {C x dx : Addr} {fs : List (Str × V)} (h : EnsA H xs es) (hx : H x = some (.ins C dx fs)) (i : ExI x H H') : EnsA H' xs es := h.mono fun b zs hb => i b _ (ne_of hb hx (by intro z; cases z)) hb
theorem lst_keep {H H' : Hp} {C x dx l : Addr} {fs : List (Str × V)} {xs : List V} (h : H l = some (.lst xs)) (hx : H x = some (.ins C dx fs)) (i : ExI x H H') : H' l = some (.lst xs) := i l _ (ne_of h hx (by intro z; cases z)) h
def spBIn (C : Addr) : Sp := fun vs H Q _ => ∃ (x dx l m : Addr) (xs : List V) (es : List En) (ls : List Nat), vs = [.ref x, .ref l, .ref m] ∧ H x = some (.ins C dx []) ∧ H l = some (.lst xs) ∧ EnsA H xs es ∧ Ens es ∧ 0 < es.length ∧ H m = some (.lst (nvs ls)) ∧ Fit es ls ∧
  ∀ H', ExI x H H' → H' x = some (.ins C dx (blkF es ls)) → Q .non H'
theorem fld_step {H0 : Hp} {H H1 : Hp} {C x dx : Addr} {fs : List (Str × V)} {f : Str} {v : V} (i : ExI x H0 H) (e : Ex H H1) (hx : H x = some (.ins C dx fs)) : ExI x H0 (upd H1 x (.ins C dx (putF f v fs))) ∧ (upd H1 x (.ins C dx (putF f v fs))) x = some (.ins C dx (putF f v fs)) :=
  ⟨fun b o nb h => by rw [upd_ne nb]; exact e _ _ (i _ _ nb h), upd_same⟩
set_option maxHeartbeats 8000000 in
theorem ok_binit (T : TX K mg A FD TK) : FnOk P w K mg base CX0 7 (A 53) (FD 53) ["self", "entries", "lengths"] (spBIn (A 38)) := by
  have G_code_entries := ok_code_entries (P := P) (w := w) (base := base) T
  refine T.f_Block_init.ok (k := 6) sc_Block_init (fun vs H Q E h => ?_) (fun cdv A' outer s H vs Q E hr h => ?_)
  · obtain ⟨x, dx, l, m, xs, es, ls, rfl, _⟩ := h
    rfl
  · obtain ⟨x, dx, l, m, xs, es, ls, rfl, hx, hl, hE, hN, h0, hm, hF, q⟩ := h
    refine ⟨_, (pss_cons (ps_fld (pv 0) (pe_ix (ixTK (K := K) rfl) (pe_ix (ixLK (K := K) rfl) (pv 1) pe_int (fun _ _ => rfl)) pe_int (fun _ _ => rfl)) rfl)
      (pss_cons (ps_fld (pv 0) (pe_ix (ixTK (K := K) rfl) (pe_ix (ixLK (K := K) rfl) (pv 1) (pe_un un_neg pe_int) (fun _ _ => rfl)) pe_int (fun _ _ => rfl)) rfl)
      (pss_cons (ps_fld (pv 0) (pe_callB (lenK (K := K) rfl) (by rfl) T.m_len (by decide +kernel) (pa_cons (pv 1) pa_nil)) rfl)
      (pss_cons (ps_fld (pv 0) (pe_callB (maxK (K := K) rfl rfl) (by rfl) T.m_max (by decide +kernel) (pa_cons (pe_lc (own := [("slot", 3), ("places", 4)])  rfl sc_Block_init.nd (piLK (K := K) rfl (pv 1)) (blkOk_by (own := [("slot", 3), ("places", 4)]) (N := N_Block_init) (sc := defScope (inClass (topS 38) 0)) (by decide +kernel)) (fun _ _ _ _ _ => (tupGK (K := K) (n := 2) rfl rfl (pgs_cons (pg_name (i := 3) sc_Block_init.nd rfl (Or.inl rfl)) (pgs_cons (pg_name (i := 4) sc_Block_init.nd rfl (Or.inl rfl)) pgs_nil)))) (fun _ _ _ _ _ => pts_nil) (fun _ _ _ _ _ => (pe_callB (lenK (K := K) rfl) (by rfl) T.m_len (by decide +kernel) (pa_cons (pv 4) pa_nil)))) pa_nil)) rfl)
      (pss_cons (ps_fld (pv 0) (pe_callB (minK (K := K) rfl rfl) (by rfl) T.m_min (by decide +kernel) (pa_cons (pe_lc (own := [("slot", 3), ("places", 4)])  rfl sc_Block_init.nd (piLK (K := K) rfl (pv 1)) (blkOk_by (own := [("slot", 3), ("places", 4)]) (N := N_Block_init) (sc := defScope (inClass (topS 38) 0)) (by decide +kernel)) (fun _ _ _ _ _ => (tupGK (K := K) (n := 2) rfl rfl (pgs_cons (pg_name (i := 3) sc_Block_init.nd rfl (Or.inl rfl)) (pgs_cons (pg_name (i := 4) sc_Block_init.nd rfl (Or.inl rfl)) pgs_nil)))) (fun _ _ _ _ _ => pts_nil) (fun _ _ _ _ _ => (pe_ix (ixLK (K := K) rfl) (pv 2) (pv 3) (fun _ _ => rfl)))) pa_nil)) rfl)
      (pss_one (ps_fld (pv 0) (pe_call G_code_entries hr (by rfl) T.g_code_entries T.f_code_entries.kp T.b_code_entries .nil pass0 (pa_cons (pv 1) pa_nil)) rfl))))))), ?_⟩
    have few := hN.few
    have ge0 : es[0]? = some es[0] := List.getElem?_eq_getElem h0
    have geL : es[es.length - 1]? = some (es[es.length - 1]'(by omega)) := List.getElem?_eq_getElem _
    obtain ⟨a0, g0, hA0⟩ := hE.2 _ _ ge0
    obtain ⟨aL, gL, hAL⟩ := hE.2 _ _ geL
    obtain ⟨t0, ha0, _⟩ := id hA0
    -- first
    refine ⟨.ref l, rfl, l, _, 0, _, rfl, rfl, SqL.of hl, atI_nat (j := 0) g0, a0, _, 0, _, rfl, rfl, SqT.of ha0, atI_nat (j := 0) rfl, .ref x, rfl, x, A 38, dx, [], rfl, hx, T.cl_Block, T.n_Block_first, (by show 0 < 1000; decide), ?_⟩
    obtain ⟨i1, hx1⟩ := fld_step (f := "first") (v := .int (es[0].1 : Nat)) (fun b o _ h => h) (Ex.refl H) hx
    generalize (upd H x (.ins (A 38) dx (putF "first" (.int (es[0].1 : Nat)) []))) = H1 at i1 hx1 ⊢
    -- last
    obtain ⟨tL, haL, _⟩ := id (show EnA H1 aL _ from ((hE.keep hx i1).2 _ _ geL).elim fun a h => by rw [gL] at h; cases h.1; exact h.2)
    refine ⟨.ref l, rfl, 1, rfl, l, _, -1, _, rfl, rfl, SqL.of (lst_keep hl hx i1), atI_end (by rw [hE.1]; exact gL), aL, _, 0, _, rfl, rfl, SqT.of haL, atI_nat (j := 0) rfl, .ref x, rfl, x, A 38, dx, _, rfl, hx1, T.cl_Block, T.n_Block_last, (by show 1 < 1000; decide), ?_⟩
    obtain ⟨i2, hx2⟩ := fld_step (f := "last") (v := .int ((es[es.length - 1]'(by omega)).1 : Nat)) i1 (Ex.refl H1) hx1
    generalize (upd H1 x (.ins (A 38) dx (putF "last" (.int ((es[es.length - 1]'(by omega)).1 : Nat)) (putF "first" (.int (es[0].1 : Nat)) [])))) = H2 at i2 hx2 ⊢
    -- many
    have hl2 := lst_keep hl hx i2
    refine ⟨.ref l, rfl, l, _, rfl, .inl (SqL.of hl2), .ref x, rfl, x, A 38, dx, _, rfl, hx2, T.cl_Block, T.n_Block_many, (by show 2 < 1000; decide), ?_⟩
    rw [hE.1]
    obtain ⟨i3, hx3⟩ := fld_step (f := "many") (v := .int (es.length : Nat)) i2 (Ex.refl H2) hx2
    generalize (upd H2 x (.ins (A 38) dx (putF "many" (.int (es.length : Nat)) _))) = H3 at i3 hx3 ⊢
    -- most
    have hl3 := lst_keep hl hx i3
    have hE3 := hE.keep hx i3
    refine ⟨.ref l, rfl, l, rfl, ⟨_, SqL.of hl3⟩, fun D nD => ?_⟩
    refine lc_list (K := K) (xs := xs) (fun i H' => Ex H3 H' ∧ H' D = some (.lst (nvs ((es.take i).map fun e => e.2.length)))) ⟨Ex.new nD, upd_same⟩ (fun i H' _ p => ex_l p.1 (SqL.of hl3)) (fun i v H4 hv p => ?_) (fun H4 p => ?_)
    · obtain ⟨p1, p2⟩ := p
      obtain ⟨e, a, ge, rfl, hA⟩ := hE3.at hv
      obtain ⟨t, ha, ht⟩ := hA.ex p1
      refine ⟨a, _, rfl, SqT.of ha, rfl, _, _, rfl, _, _, rfl, rfl, rfl, .ref t, rfl, t, _, rfl, .inr (SqT.of ht), _, p2, ?_, Ex.mut p1 nD, ?_⟩
      · rw [nvs_len, List.length_map, List.length_take]
        exact sz_lt (by omega)
      · rw [upd_same, take_up ge, List.map_append, nvs_len]
        exact congrArg (fun z => some (HO.lst z)) (nvs_snoc _ _).symm
    obtain ⟨e4, p2⟩ := p
    rw [hE.1, List.take_length, nvs_zs] at p2
    refine ⟨D, _, rfl, SqL.of p2, by rw [zsI_len, List.length_map]; exact h0, fun mm hmm hmx => ?_⟩
    rw [show mm = ((mostE es : Nat) : Int) from mx_is hmm hmx]
    have hx4 := e4 _ _ hx3
    refine ⟨.ref x, rfl, x, A 38, dx, _, rfl, hx4, T.cl_Block, T.n_Block_most, (by show 3 < 1000; decide), ?_⟩
    obtain ⟨i5, hx5⟩ := fld_step (f := "most") (v := .int (mostE es : Nat)) i3 e4 hx3
    generalize (upd H4 x (.ins (A 38) dx (putF "most" (.int (mostE es : Nat)) _))) = H5 at i5 hx5 ⊢
    -- least
    have hl5 := lst_keep hl hx i5
    have hE5 := hE.keep hx i5
    have hm5 := lst_keep hm hx i5
    refine ⟨.ref l, rfl, l, rfl, ⟨_, SqL.of hl5⟩, fun D2 nD2 => ?_⟩
    refine lc_list (K := K) (xs := xs) (fun i H' => Ex H5 H' ∧ H' D2 = some (.lst (nvs ((es.take i).map fun e => ls.getD e.1 0)))) ⟨Ex.new nD2, upd_same⟩ (fun i H' _ p => ex_l p.1 (SqL.of hl5)) (fun i v H6 hv p => ?_) (fun H6 p => ?_)
    · obtain ⟨p1, p2⟩ := p
      obtain ⟨e, a, ge, rfl, hA⟩ := hE5.at hv
      obtain ⟨t, ha, ht⟩ := hA.ex p1
      have f1 := (hF.fit e (List.mem_of_getElem? ge)).1
      have gls : (nvs ls)[e.1]? = some (.int ((ls.getD e.1 0 : Nat) : Int)) := by
        unfold nvs
        rw [List.getElem?_map, List.getElem?_eq_getElem f1, getD_at (List.getElem?_eq_getElem f1)]
        rfl
      refine ⟨a, _, rfl, SqT.of ha, rfl, _, _, rfl, _, _, rfl, rfl, rfl, .ref m, rfl, .int (e.1 : Int), rfl, m, _, _, _, rfl, rfl, SqL.of (p1 _ _ hm5), atI_nat gls, _, p2, ?_, Ex.mut p1 nD2, ?_⟩
      · rw [nvs_len, List.length_map, List.length_take]
        exact sz_lt (by omega)
      · rw [upd_same, take_up ge, List.map_append]
        exact congrArg (fun z => some (HO.lst z)) (nvs_snoc _ _).symm
    obtain ⟨e6, p2⟩ := p
    rw [hE.1, List.take_length, nvs_zs] at p2
    refine ⟨D2, _, rfl, SqL.of p2, by rw [zsI_len, List.length_map]; exact h0, fun mm hmm hmx => ?_⟩
    rw [show mm = ((leastE es ls : Nat) : Int) from mn_is hmm hmx]
    have hx6 := e6 _ _ hx5
    refine ⟨.ref x, rfl, x, A 38, dx, _, rfl, hx6, T.cl_Block, T.n_Block_least, (by show 4 < 1000; decide), ?_⟩
    obtain ⟨i7, hx7⟩ := fld_step (f := "least") (v := .int (leastE es ls : Nat)) i5 e6 hx5
    generalize (upd H6 x (.ins (A 38) dx (putF "least" (.int (leastE es ls : Nat)) _))) = H7 at i7 hx7 ⊢
    -- coded
    refine ⟨.ref l, rfl, l, xs, es, rfl, lst_keep hl hx i7, hE.keep hx i7, hN, fun H8 e8 => ?_⟩
    have hx8 := e8 _ _ hx7
    refine ⟨.ref x, rfl, x, A 38, dx, _, rfl, hx8, T.cl_Block, T.n_Block_coded, (by show 5 < 1000; decide), ?_⟩
    obtain ⟨i9, hx9⟩ := fld_step (f := "coded") (v := .str (txt (codeE es).flatten)) i7 e8 hx7
    refine q _ i9 (hx9.trans ?_)
    unfold blkF
    rw [fst_at ge0, lst_at geL]
    rfl

/-! ### Row -/
theorem rgc_of {n s : Nat} (h1 : 1 ≤ s) (h2 : s ≤ 1000) (h3 : n ≤ 100000) : RgC 0 (n : Int) (s : Int) (nb n s) := by
  have e : Builtin.Range.rangeSize 0 (n : Int) (s : Int) = ((nb n s : Nat) : Int) := by
    rw [rangeSize_pos (by omega) (by omega)]
    unfold nb
    rw [Int.natCast_ediv]
    congr 1
    omega
  have l := nb_le (n := n) (s := s) h1
  refine ⟨by omega, by omega, ?_, e⟩
  unfold Builtin.Range.small
  rw [e]
  simp only [Builtin.Range.rangeFitsLong, Bool.and_eq_true, Bool.or_eq_true, decide_eq_true_eq, beq_iff_eq]
  rw [if_pos (by omega)]
  refine ⟨⟨⟨⟨⟨by decide, by decide⟩, by omega, by omega⟩, by omega, by omega⟩, by omega, by omega⟩, .inr ?_⟩
  simp only [Bool.and_eq_true, decide_eq_true_eq]
  omega
theorem cutV_at {xs : List V} {i s : Nat} : cutV xs (some ((0 : Int) + (i : Nat) * (s : Int))) (some ((0 : Int) + (i : Nat) * (s : Int) + (s : Int))) = (xs.drop (i * s)).take s := by
  unfold cutV
  have e1 : (0 : Int) + (i : Nat) * (s : Int) = ((i * s : Nat) : Int) := by
    rw [Int.natCast_mul]
    omega
  rw [e1, show ((i * s : Nat) : Int) + (s : Int) = ((i * s + s : Nat) : Int) by omega, HT.sIx_nat, HT.sIx_nat]
  rcases Nat.le_total xs.length (i * s) with h | h
  · rw [Nat.min_eq_right h, Nat.min_eq_right (by omega), List.drop_of_length_le h, List.drop_of_length_le (Nat.le_refl _), List.take_nil, List.take_nil]
  · rw [Nat.min_eq_left h]
    rcases Nat.le_total xs.length (i * s + s) with k | k
    · rw [Nat.min_eq_right k, List.take_of_length_le (by rw [List.length_drop]; omega), List.take_of_length_le (by rw [List.length_drop]; omega)]
    · rw [Nat.min_eq_left k, show i * s + s - i * s = s by omega]
/-- the blocks at bs are those of es -/
def BlksAt (CB : Addr) (H : Hp) (bs : List Addr) (s : Nat) (es : List En) (ls : List Nat) : Prop := bs.length = nb es.length s ∧ ∀ (i : Nat) (b : Addr), bs[i]? = some b → BlkAt CB H b (cutE es s i) ls
structure RowIs (z : Str) (s : Nat) (es : List En) (ls : List Nat) : Prop where
  word : isW z = true
  lo : 1 ≤ s
  hi : s ≤ 8
  ens : Ens es
  fit : Fit es ls
def rowF (z : Str) (s : Nat) (t : Addr) : List (Str × V) := [("word", .str z), ("size", .int (s : Nat)), ("cut", .ref t)]
def RowAt (CR CB : Addr) (H : Hp) (r : Addr) (z : Str) (s : Nat) (es : List En) (ls : List Nat) : Prop := ∃ (dx t : Addr) (bs : List Addr), H r = some (.ins CR dx (rowF z s t)) ∧ H t = some (.tup (bs.map V.ref)) ∧ BlksAt CB H bs s es ls
theorem BlksAt.ex {CB : Addr} {H H' : Hp} {bs : List Addr} {s : Nat} {es : List En} {ls : List Nat} (h : BlksAt CB H bs s es ls) (x : Ex H H') : BlksAt CB H' bs s es ls := ⟨h.1, fun i b g => (h.2 i b g).ex x⟩
theorem RowAt.ex {CR CB : Addr} {H H' : Hp} {r : Addr} {z : Str} {s : Nat} {es : List En} {ls : List Nat} (h : RowAt CR CB H r z s es ls) (x : Ex H H') : RowAt CR CB H' r z s es ls := by
  obtain ⟨dx, t, bs, h1, h2, h3⟩ := h
  exact ⟨dx, t, bs, x _ _ h1, x _ _ h2, h3.ex x⟩
theorem refs_at {bs : List Addr} {i : Nat} {v : V} (g : (bs.map V.ref)[i]? = some v) : ∃ b, bs[i]? = some b ∧ v = .ref b ∧ i < bs.length := by
  rw [List.getElem?_map] at g
  cases e : bs[i]? with
  | none => rw [e] at g; cases g
  | some b =>
    rw [e] at g
    cases g
    exact ⟨b, rfl, rfl, (List.getElem?_eq_some_iff.mp e).1⟩
theorem ex2 {H : Hp} {x dx : Addr} {o u : HO} (nx : H x = none) (nd : H dx = none) : Ex H (upd (upd H dx o) x u) := fun c q h => by
  rw [upd_ne (ne_of_none h nx), upd_ne (ne_of_none h nd)]
  exact h
theorem BlkAt.updL {C D : Addr} {H : Hp} {b : Addr} {es : List En} {ls : List Nat} {xs : List V} {o : HO} (h : BlkAt C H b es ls) (hD : H D = some (.lst xs)) : BlkAt C (upd H D o) b es ls := by
  obtain ⟨dx, h⟩ := h
  exact ⟨dx, by rw [upd_ne (ne_of h hD (by intro z; cases z))]; exact h⟩
theorem snoc_at {α : Type} {l : List α} {x y : α} {j : Nat} (g : (l ++ [x])[j]? = some y) : (l[j]? = some y) ∨ (j = l.length ∧ y = x) := by
  by_cases h : j < l.length
  · rw [List.getElem?_append_left h] at g
    exact .inl g
  · rw [List.getElem?_append_right (by omega)] at g
    have : j - l.length = 0 := by
      have := (List.getElem?_eq_some_iff.mp g).1
      rw [List.length_singleton] at this
      omega
    rw [this] at g
    cases g
    exact .inr ⟨by omega, rfl⟩
def spRIn (CR CB : Addr) : Sp := fun vs H Q _ => ∃ (x dx l m : Addr) (xs : List V) (z : Str) (s : Nat) (es : List En) (ls : List Nat), vs = [.ref x, .str z, .ref l, .ref m, .int (s : Nat)] ∧ H x = some (.ins CR dx []) ∧ H l = some (.lst xs) ∧ EnsA H xs es ∧ H m = some (.lst (nvs ls)) ∧ RowIs z s es ls ∧
  ∀ (H' : Hp) (t : Addr) (bs : List Addr), ExI x H H' → H' x = some (.ins CR dx (rowF z s t)) → H' t = some (.tup (bs.map V.ref)) → BlksAt CB H' bs s es ls → Q .non H'
set_option maxHeartbeats 8000000 in
theorem ok_rinit (T : TX K mg A FD TK) : FnOk P w K mg base CX0 9 (A 56) (FD 56) ["self", "word", "entries", "lengths", "size"] (spRIn (A 39) (A 38)) := by
  have G_check_word := (ok_check_word (P := P) (w := w) (base := base) T).mono (show 2 ≤ 8 by decide)
  have G_check_entries := (ok_check_entries (P := P) (w := w) (base := base) T).mono (show 5 ≤ 8 by decide)
  have G_check_lengths := (ok_check_lengths (P := P) (w := w) (base := base) T).mono (show 3 ≤ 8 by decide)
  have G_check_size := (ok_check_size (P := P) (w := w) (base := base) T).mono (show 3 ≤ 8 by decide)
  have G_check_fit := (ok_check_fit (P := P) (w := w) (base := base) T).mono (show 1 ≤ 8 by decide)
  have G_Block := ok_binit (P := P) (w := w) (base := base) T
  have B2_Block := T.b_Block_init
  have R2_Block : Vals [] [] := .nil
  refine T.f_Row_init.ok (k := 8) sc_Row_init (fun vs H Q E h => ?_) (fun cdv A' outer s H vs Q E hr h => ?_)
  · obtain ⟨x, dx, l, m, xs, z, s, es, ls, rfl, _⟩ := h
    rfl
  · obtain ⟨x, dx, l, m, xs, z, s, es, ls, rfl, hx, hl, hE, hm, hR, q⟩ := h
    refine ⟨_, PSs.nox (pss_cons (ps_expr (pe_call G_check_word hr (by rfl) T.g_check_word T.f_check_word.kp T.b_check_word .nil pass0 (pa_cons (pv 1) pa_nil)))
      (pss_cons (ps_expr (pe_call G_check_entries hr (by rfl) T.g_check_entries T.f_check_entries.kp T.b_check_entries .nil pass0 (pa_cons (pv 2) pa_nil)))
      (pss_cons (ps_expr (pe_call G_check_lengths hr (by rfl) T.g_check_lengths T.f_check_lengths.kp T.b_check_lengths .nil pass0 (pa_cons (pv 3) pa_nil)))
      (pss_cons (ps_expr (pe_call G_check_size hr (by rfl) T.g_check_size T.f_check_size.kp T.b_check_size .nil pass0 (pa_cons (pv 4) pa_nil)))
      (pss_cons (ps_expr (pe_call G_check_fit hr (by rfl) T.g_check_fit T.f_check_fit.kp T.b_check_fit .nil pass0 (pa_cons (pv 2) (pa_cons (pv 3) pa_nil))))
      (pss_cons (ps_fld (pv 0) (pv 1) rfl)
      (pss_cons (ps_fld (pv 0) (pv 4) rfl)
      (pss_one (ps_fld (pv 0) (pe_callTy (tupK (K := K) rfl) (by rfl) T.m_tuple (by decide +kernel) (pa_cons (pe_lc (own := [("at", 5)])  rfl sc_Row_init.nd (pi_range3 (by rfl) T.m_range (pa_cons pe_int (pa_cons (pe_callB (lenK (K := K) rfl) (by rfl) T.m_len (by decide +kernel) (pa_cons (pv 2) pa_nil)) (pa_cons (pv 4) pa_nil)))) (blkOk_by (own := [("at", 5)]) (N := N_Row_init) (sc := defScope (inClass (topS 39) 0)) (by decide +kernel)) (fun _ _ _ _ _ => (pg_name (i := 5) sc_Row_init.nd rfl (Or.inl rfl))) (fun _ _ _ _ _ => pts_nil) (fun _ _ _ _ _ => (pe_make T.M_Block G_Block hr (by rfl) T.k_Block B2_Block R2_Block pass0 (pa_cons (pe_slice (slLK (K := K) rfl) (pv 2) (po_some (pv 5)) (po_some (pe_op op_add (pv 5) (pv 4)))) (pa_cons (pv 3) pa_nil))))) pa_nil)) rfl))))))))), ?_⟩
    have few := hR.ens.few
    have s1 := hR.lo
    have s8 := hR.hi
    refine ⟨.str z, rfl, z, rfl, hR.word, fun H1 e1 => ?_⟩
    refine ⟨.ref l, rfl, l, xs, es, rfl, e1 _ _ hl, hE.ex e1, hR.ens.ok, hR.ens.ris, fun H2 e2 => ?_⟩
    have x2 := e1.trans e2
    refine ⟨.ref m, rfl, m, ls, rfl, x2 _ _ hm, hR.fit.few, hR.fit.most, fun H3 e3 => ?_⟩
    have x3 := x2.trans e3
    refine ⟨.int (s : Nat), rfl, s, rfl, s1, s8, fun H4 e4 => ?_⟩
    have x4 := x3.trans e4
    refine ⟨.ref l, rfl, .ref m, rfl, l, m, xs, es, ls, rfl, x4 _ _ hl, hE.ex x4, hR.ens, x4 _ _ hm, hR.fit, fun H5 e5 => ?_⟩
    have x5 := x4.trans e5
    clear e1 e2 e3 e4 e5 x2 x3 x4 H1 H2 H3 H4
    refine ⟨.str z, rfl, .ref x, rfl, x, A 39, dx, [], rfl, x5 _ _ hx, T.cl_Row, T.n_Row_word, (by show 0 < 1000; decide), ?_⟩
    obtain ⟨i6, hx6⟩ := fld_step (f := "word") (v := .str z) (fun b o _ h => x5 _ _ h) (Ex.refl H5) (x5 _ _ hx)
    generalize (upd H5 x (.ins (A 39) dx (putF "word" (.str z) []))) = H6 at i6 hx6 ⊢
    refine ⟨.int (s : Nat), rfl, .ref x, rfl, x, A 39, dx, _, rfl, hx6, T.cl_Row, T.n_Row_size, (by show 1 < 1000; decide), ?_⟩
    obtain ⟨i7, hx7⟩ := fld_step (f := "size") (v := .int (s : Nat)) i6 (Ex.refl H6) hx6
    generalize (upd H6 x (.ins (A 39) dx (putF "size" (.int (s : Nat)) _))) = H7 at i7 hx7 ⊢
    have hl7 := lst_keep hl hx i7
    have hm7 := lst_keep hm hx i7
    have hE7 := hE.keep hx i7
    refine ⟨.ref l, rfl, l, _, rfl, .inl (SqL.of hl7), .int (s : Nat), rfl, 0, _, _, _, rfl, (by rw [hE.1]; exact rgc_of s1 (by omega) (by omega)), fun D nD => ?_⟩
    refine lc_it (walk_rangeC (lo := 0) (c := (s : Int)) (n := nb es.length s)) (fun i H' => Ex H7 H' ∧ ∃ bs : List Addr, bs.length = i ∧ H' D = some (.lst (bs.map V.ref)) ∧ ∀ (j : Nat) (b : Addr), bs[j]? = some b → BlkAt (A 38) H' b (cutE es s j) ls) ⟨Ex.new nD, [], rfl, upd_same, fun j b g => nomatch g⟩ (fun _ _ _ _ => True.intro) (fun i v H8 H9 hi p y => ?_) (fun H8 p => ?_)
    · obtain ⟨p1, bs, bl, p2, p3⟩ := p
      obtain ⟨rfl, rfl⟩ := y
      refine ⟨rfl, .ref l, rfl, _, rfl, _, rfl, _, rfl, .int (s : Nat), rfl, _, _, rfl, rfl, _, rfl, l, _, rfl, SqL.of (p1 _ _ hl7), fun c nc => ?_⟩
      rw [cutV_at]
      have eC := Ex.new (o := .lst ((xs.drop (i * s)).take s)) nc
      have hc := upd_same (H := H9) (a := c) (o := .lst ((xs.drop (i * s)).take s))
      generalize (upd H9 c (.lst ((xs.drop (i * s)).take s))) = Hc at eC hc ⊢
      have p1c := p1.trans eC
      refine ⟨.ref m, rfl, fun b d2 nb nd _ => ?_⟩
      have e2 := ex2 (o := .own b) (u := .ins (A 38) d2 []) nb nd
      refine ⟨b, d2, c, m, _, cutE es s i, ls, rfl, upd_same, e2 _ _ hc, ((hE7.ex (p1c.trans e2)).cut s i), hR.ens.cut s i, cutE_pos s1 hi, (p1c.trans e2) _ _ hm7, hR.fit.cut s i, fun H' iE hb => ⟨rfl, ?_⟩⟩
      have eH := ExI.new nb nd iE
      have hD := eH _ _ (eC _ _ p2)
      refine ⟨_, hD, ?_, Ex.mut (p1c.trans eH) nD, bs ++ [b], ?_, ?_, fun j b' g => ?_⟩
      · rw [List.length_map]
        exact sz_lt (by have := nb_le (n := es.length) (s := s) s1; omega)
      · rw [List.length_append, bl]
        rfl
      · rw [upd_same, List.map_append]
        rfl
      · rcases snoc_at g with g | ⟨rfl, rfl⟩
        · exact ((p3 j b' g).ex (eC.trans eH)).updL hD
        · rw [bl]
          exact BlkAt.updL ⟨d2, hb⟩ hD
    · obtain ⟨p1, bs, bl, p2, p3⟩ := p
      refine ⟨D, _, rfl, .inl ⟨SqL.of p2, fun t nt => ?_⟩⟩
      have eT := Ex.new (o := .tup (bs.map V.ref)) nt
      have ht := upd_same (H := H8) (a := t) (o := .tup (bs.map V.ref))
      generalize (upd H8 t (.tup (bs.map V.ref))) = H9 at eT ht ⊢
      have hx9 := eT _ _ (p1 _ _ hx7)
      refine ⟨.ref x, rfl, x, A 39, dx, _, rfl, hx9, T.cl_Row, T.n_Row_cut, (by show 2 < 1000; decide), ?_⟩
      obtain ⟨iF, hxF⟩ := fld_step (f := "cut") (v := .ref t) i7 (p1.trans eT) hx7
      refine q _ t bs iF hxF ?_ ⟨bl, fun j b g => ?_⟩
      · rw [upd_ne (ne_of ht hx9 (by intro z; cases z))]
        exact ht
      · obtain ⟨db, hb⟩ := (p3 j b g).ex eT
        refine ⟨db, ?_⟩
        by_cases hbx : b = x
        · subst hbx
          rw [hx9] at hb
          exact absurd (Option.some.inj hb) (fun z => by
            have := congrArg (fun o => match o with | HO.ins _ _ fs => fs.length | _ => 0) z
            exact absurd (show (2 : Nat) = 6 from this) (by decide))
        · rw [upd_ne hbx]
          exact hb
theorem sum_cut (es : List En) (s : Nat) : ∀ i, (zsI ((List.range i).map fun j => (cutE es s j).length)).sum = (((es.take (i * s)).length : Nat) : Int)
  | 0 => by simp [zsI]
  | i + 1 => by
    have h := sum_cut es s i
    rw [List.range_succ, List.map_append, take_more, List.length_append]
    unfold zsI at h ⊢
    rw [List.map_append, List.sum_append, h]
    simp
theorem all_cut {es : List En} {s : Nat} (hs : 0 < s) : es.take (nb es.length s * s) = es := List.take_of_length_le (nb_mul hs)
def spRBlk (CR CB : Addr) : Sp := fun vs H Q _ => ∃ (r : Addr) (z : Str) (s : Nat) (es : List En) (ls : List Nat), vs = [.ref r] ∧ RowAt CR CB H r z s es ls ∧ ∀ (l : Addr) (bs : List Addr) (H' : Hp), H l = none → Ex H H' → H' l = some (.lst (bs.map V.ref)) → BlksAt CB H' bs s es ls → Q (.ref l) H'
set_option maxHeartbeats 4000000 in
theorem ok_rblocks (T : TX K mg A FD TK) : FnOk P w K mg base CX0 1 (A 58) (FD 58) ["self"] (spRBlk (A 39) (A 38)) := by
  refine T.f_Row_blocks.ok sc_Row_blocks (fun vs H Q E h => ?_) (fun cdv A' outer s H vs Q E hr h => ?_)
  · obtain ⟨r, z, s, es, ls, rfl, _⟩ := h
    rfl
  · obtain ⟨r, z, s, es, ls, rfl, ⟨dx, t, bs, h1, h2, h3⟩, q⟩ := h
    refine ⟨_, (pss_one (ps_ret (pe_callTy (listK (K := K) rfl) (by rfl) T.m_list (by decide +kernel) (pa_cons (fldK (K := K) rfl (pv 0) rfl) pa_nil)))), ?_⟩
    exact ⟨.ref r, rfl, r, A 39, dx, _, _, rfl, h1, T.cl_Row, T.n_Row_cut, rfl, t, _, rfl, .inr (SqT.of h2), fun l nl => q l bs _ nl (Ex.new nl) upd_same (h3.ex (Ex.new nl))⟩

/-! ### _law_row_entries -/
theorem ris_snoc {xs : List Nat} {n : Nat} (h : Ris xs) (hn : ah xs xs.length < (n : Int)) : Ris (xs ++ [n]) := fun i x g => by
  have hd : ∀ j, j < xs.length → (xs ++ [n]).getD j 0 = xs.getD j 0 := fun j hj => by
    rw [List.getD_eq_getElem?_getD, List.getElem?_append_left hj, List.getD_eq_getElem?_getD]
  have ha : ∀ j, j ≤ xs.length → ah (xs ++ [n]) j = ah xs j := fun j hj => by
    cases j with
    | zero => rfl
    | succ j =>
      show (((xs ++ [n]).getD j 0 : Nat) : Int) = ((xs.getD j 0 : Nat) : Int)
      rw [hd j (by omega)]
  rcases snoc_at g with g | ⟨rfl, rfl⟩
  · rw [ha i (Nat.le_of_lt (List.getElem?_eq_some_iff.mp g).1)]
    exact h i x g
  · rw [ha _ (Nat.le_refl _)]
    exact hn
theorem ah_snoc (xs : List Nat) (n : Nat) : ah (xs ++ [n]) (xs.length + 1) = (n : Int) := by
  show (((xs ++ [n]).getD xs.length 0 : Nat) : Int) = (n : Int)
  rw [List.getD_eq_getElem?_getD, List.getElem?_append_right (Nat.le_refl _)]
  simp
theorem pick4 {a b c e d : Int} (h0 : 0 ≤ d) (h1 : d < 4) {B : Int} (ka : 0 ≤ a ∧ a ≤ B) (kb : 0 ≤ b ∧ b ≤ B) (kc : 0 ≤ c ∧ c ≤ B) (ke : 0 ≤ e ∧ e ≤ B) : ∃ v : Int, atI [V.int a, .int b, .int c, .int e] d = some (.int v) ∧ 0 ≤ v ∧ v ≤ B := by
  obtain ⟨j, rfl⟩ := Int.eq_ofNat_of_zero_le h0
  match j, h1 with
  | 0, _ => exact ⟨a, atI_nat rfl, ka⟩
  | 1, _ => exact ⟨b, atI_nat rfl, kb⟩
  | 2, _ => exact ⟨c, atI_nat rfl, kc⟩
  | 3, _ => exact ⟨e, atI_nat rfl, ke⟩
  | j + 4, h => omega
/-- drawn entries: few, small ones -/
structure EnsL (es : List En) : Prop where
  ens : Ens es
  few : es.length ≤ 20
  slot : ∀ e ∈ es, e.1 < 60
  place : ∀ e ∈ es, ∀ n ∈ e.2, n < 68
def spRowEn : Sp := fun vs H Q _ => ∃ (p : Addr) (c many most : Nat), vs = [.ref p, .int (many : Nat), .int (most : Nat)] ∧ many ≤ 20 ∧ 1 ≤ most ∧ most ≤ 4 ∧ Pl H p c ∧ c < 900000 ∧
  ∀ (l : Addr) (xs : List V) (es : List En) (H' : Hp), l ≠ p → H l = none → H' l = some (.lst xs) → EnsA H' xs es → EnsL es → es.length ≤ many → Pl H' p (c + 300) → Fx p H H' → Q (.ref l) H'
theorem EnsA.fx {p : Addr} {H H' : Hp} {xs : List V} {es : List En} {c : Nat} (h : EnsA H xs es) (hp : Pl H p c) (f : Fx p H H') : EnsA H' xs es := h.mono fun b zs hb => f.tup hp hb
theorem EnsA.updL {H : Hp} {D : Addr} {o : HO} {xs ys : List V} {es : List En} (h : EnsA H xs es) (hD : H D = some (.lst ys)) : EnsA (upd H D o) xs es := h.mono fun b zs hb => by
  rw [upd_ne (ne_of hb hD (by intro z; cases z))]
  exact hb
theorem fx_mut {p D : Addr} {H H' : Hp} {o : HO} (f : Fx p H H') (n : H D = none) : Fx p H (upd H' D o) := fun a u na h => by
  rw [upd_ne (ne_of_none h n)]
  exact f a u na h
set_option maxHeartbeats 8000000 in
theorem ok_l_row_entries (T : TX K mg A FD TK) : FnOk P w K mg base CX0 2 (A 47) (FD 47) ["_law_pool_here", "_law_many", "_law_most"] spRowEn := by
  have G_l_take := ok_l_take (P := P) (w := w) (base := base) T
  refine T.f_l_row_entries.ok (k := 1) sc_l_row_entries (fun vs H Q E h => ?_) (fun cdv A' outer s H vs Q E hr h => ?_)
  · obtain ⟨p, c, many, most, rfl, _⟩ := h
    rfl
  · obtain ⟨p, c, many, most, rfl, hmy, hm1, hm4, hp, hc, q⟩ := h
    refine ⟨_, (pss_cons (ps_set (i := 3) sc_l_row_entries.nd rfl (.inl rfl) (pe_lst pa_nil))
      (pss_cons (ps_set (i := 4) sc_l_row_entries.nd rfl (.inl rfl) (pe_un un_neg pe_int))
      (pss_cons (ps_for PassesOwn.never rfl (pi_range1 (by rfl) T.m_range (pa_cons (pe_call G_l_take hr (by rfl) T.g_l_take T.f_l_take.kp T.b_l_take .nil pass0 (pa_cons (pv 0) (pa_cons (pe_op op_add (pv 1) pe_int) pa_nil))) pa_nil)) (pg_name (i := 5) sc_l_row_entries.nd rfl (.inl rfl))
      (pss_cons (ps_set (i := 4) sc_l_row_entries.nd rfl (.inl rfl) (pe_op op_add (pe_op op_add (pv 4) pe_int) (pe_ix (ixLK (K := K) rfl) (pe_lst (pa_cons pe_int (pa_cons pe_int (pa_cons pe_int (pa_cons pe_int pa_nil))))) (pe_call G_l_take hr (by rfl) T.g_l_take T.f_l_take.kp T.b_l_take .nil pass0 (pa_cons (pv 0) (pa_cons pe_int pa_nil))) (fun _ _ => rfl))))
      (pss_cons (ps_set (i := 6) sc_l_row_entries.nd rfl (.inl rfl) (pe_lst pa_nil))
      (pss_cons (ps_set (i := 7) sc_l_row_entries.nd rfl (.inl rfl) (pe_un un_neg pe_int))
      (pss_cons (ps_for PassesOwn.never rfl (pi_range1 (by rfl) T.m_range (pa_cons (pe_op op_add pe_int (pe_call G_l_take hr (by rfl) T.g_l_take T.f_l_take.kp T.b_l_take .nil pass0 (pa_cons (pv 0) (pa_cons (pv 2) pa_nil)))) pa_nil)) (pg_name (i := 8) sc_l_row_entries.nd rfl (.inl rfl))
      (pss_cons (ps_set (i := 7) sc_l_row_entries.nd rfl (.inl rfl) (pe_op op_add (pe_op op_add (pv 7) pe_int) (pe_ix (ixLK (K := K) rfl) (pe_lst (pa_cons pe_int (pa_cons pe_int (pa_cons (pe_call G_l_take hr (by rfl) T.g_l_take T.f_l_take.kp T.b_l_take .nil pass0 (pa_cons (pv 0) (pa_cons pe_int pa_nil))) (pa_cons (pe_op op_add pe_int (pe_call G_l_take hr (by rfl) T.g_l_take T.f_l_take.kp T.b_l_take .nil pass0 (pa_cons (pv 0) (pa_cons pe_int pa_nil)))) pa_nil))))) (pe_call G_l_take hr (by rfl) T.g_l_take T.f_l_take.kp T.b_l_take .nil pass0 (pa_cons (pv 0) (pa_cons pe_int pa_nil))) (fun _ _ => rfl))))
      (pss_one (ps_expr (pe_bm PySem.F.plainAttrs_list PySem.F.slot_list_append PySem.F.type_list_append mt_append (pv 6) (pa_cons (pv 7) pa_nil))))))
      (pss_one (ps_expr (pe_bm PySem.F.plainAttrs_list PySem.F.slot_list_append PySem.F.type_list_append mt_append (pv 3) (pa_cons (pe_tup (pa_cons (pv 4) (pa_cons (pe_callTy (tupK (K := K) rfl) (by rfl) T.m_tuple (by decide +kernel) (pa_cons (pv 6) pa_nil)) pa_nil))) pa_nil)))))))))
      (pss_one (ps_ret (pv 3)))))), ?_⟩
    refine ⟨Nat.zero_le _, fun D nD => ⟨1, rfl, ?_⟩⟩
    have nDp := pool_ne hp nD
    refine ⟨.ref p, rfl, .int (many : Nat), rfl, _, 1, rfl, rfl, p, (many : Int) + 1, c, rfl, hp.ex (Ex.new nD), by omega, by omega, by omega, fun n H1 n0 n1 hp1 f1 => ?_⟩
    refine ⟨n, rfl, by omega, by omega, ?_⟩
    have fH1 : Fx p H H1 := (Fx.ex (Ex.new nD)).trans f1
    refine for_range (lo := 0) (n := n.toNat) (fun i σ' H' => ∃ (es : List En) (xs : List V) (o5 o6 o7 o8 : Option V), σ' = [some (.ref p), some (.int (many : Nat)), some (.int (most : Nat)), some (.ref D), some (.int (ah (slots es) i)), o5, o6, o7, o8] ∧
        H' D = some (.lst xs) ∧ EnsA H' xs es ∧ (∀ e ∈ es, EnOk e) ∧ Ris (slots es) ∧ es.length = i ∧ ah (slots es) i < 3 * (i : Int) ∧ (∀ e ∈ es, e.1 < 60) ∧ (∀ e ∈ es, ∀ n ∈ e.2, n < 68) ∧ Pl H' p (c + 1 + i * 14) ∧ Fx p H H')
      ⟨[], [], none, none, none, none, rfl, f1 _ _ nDp upd_same, ⟨rfl, fun i e g => nomatch g⟩, (fun e he => nomatch he), (fun i x g => nomatch g), rfl, by show (-1 : Int) < _; omega, (fun e he => nomatch he), (fun e he => nomatch he), hp1, fH1⟩ (fun i σ' H2 hi pv => ?_) (fun σ' H2 pv => ?_)
    · obtain ⟨es, xs, o5, o6, o7, o8, rfl, hD2, hE2, hok, hris, hlen, hah, hsl, hpl, hp2, f2⟩ := pv
      have ag := ah_ge (slots es) i
      -- the slot
      refine ⟨_, rfl, _, 1, rfl, rfl, by show 4 ≤ sizeLine; decide, fun L1 nL1 => ?_⟩
      have e3 := Ex.new (o := .lst [V.int 0, .int 0, .int 1, .int 2]) nL1
      have g3 := upd_same (H := H2) (a := L1) (o := .lst [V.int 0, .int 0, .int 1, .int 2])
      generalize (upd H2 L1 (.lst [V.int 0, .int 0, .int 1, .int 2])) = H3 at e3 g3 ⊢
      have nL1p := pool_ne hp2 nL1
      refine ⟨.ref p, rfl, p, 4, c + 1 + i * 14, rfl, hp2.ex e3, by decide, by decide, by omega, fun d H4 d0 d1 hp4 f4 => ?_⟩
      obtain ⟨v, av, v0, v2⟩ := pick4 d0 d1 (B := 2) (a := 0) (b := 0) (c := 1) (e := 2) (by omega) (by omega) (by omega) (by omega)
      refine ⟨L1, _, d, _, rfl, rfl, SqL.of (f4 _ _ nL1p g3), av, _, v, rfl, rfl, ?_⟩
      have hD4 := f4 _ _ nDp (e3 _ _ hD2)
      have hE4 := (hE2.ex e3).fx (hp2.ex e3) f4
      have fH4 : Fx p H H4 := f2.trans ((Fx.ex e3).trans f4)
      have sl0 : 0 ≤ ah (slots es) i + 1 + v := by omega
      have sl3 : ah (slots es) i + 1 + v < 3 * (((i + 1 : Nat)) : Int) := by omega
      have slg : ah (slots es) i < ah (slots es) i + 1 + v := by omega
      generalize hsl' : ah (slots es) i + 1 + v = sl at sl0 sl3 slg
      obtain ⟨sn, rfl⟩ := Int.eq_ofNat_of_zero_le sl0
      -- the places
      refine ⟨Nat.zero_le _, fun S nS => ⟨1, rfl, ?_⟩⟩
      have nSp := pool_ne hp4 nS
      have nDS : D ≠ S := ne_of_none hD4 nS
      refine ⟨.ref p, rfl, .int (most : Nat), rfl, p, (most : Int), c + 1 + i * 14 + 1, rfl, hp4.ex (Ex.new nS), by omega, by omega, by omega, fun k H5 k0 k1 hp5 f5 => ?_⟩
      refine ⟨1, k, rfl, rfl, 1 + k, rfl, by omega, by omega, ?_⟩
      have fH5 : Fx p H H5 := fH4.trans ((Fx.ex (Ex.new nS)).trans f5)
      have nSH : H S = none := fx_free fH4 hp4 nS
      refine for_range (lo := 0) (n := (1 + k).toNat) (fun j σ' H' => ∃ (ns : List Nat) (o8 : Option V), σ' = [some (.ref p), some (.int (many : Nat)), some (.int (most : Nat)), some (.ref D), some (.int (sn : Nat)), some (.int ((0 : Int) + i)), some (.ref S), some (.int (ah ns j)), o8] ∧
          H' S = some (.lst (nvs ns)) ∧ Ris ns ∧ ns.length = j ∧ ah ns j < 17 * (j : Int) ∧ (∀ n ∈ ns, n < 68) ∧ H' D = some (.lst xs) ∧ EnsA H' xs es ∧ Pl H' p (c + 1 + i * 14 + 2 + j * 3) ∧ Fx p H H')
        ⟨[], _, by rw [← hsl']; rfl, f5 _ _ nSp upd_same, (fun i x g => nomatch g), rfl, by show (-1 : Int) < _; omega, (fun n hn => nomatch hn), f5 _ _ nDp ((Ex.new nS) _ _ hD4), (hE4.ex (Ex.new nS)).fx (hp4.ex (Ex.new nS)) f5, hp5, fH5⟩ (fun j σ' H6 hj pv => ?_) (fun σ' H6 pv => ?_)
      · obtain ⟨ns, o8', rfl, hS6, hris6, hlen6, hah6, hpl6, hD6, hE6, hp6, f6⟩ := pv
        have ag6 := ah_ge ns j
        have jm : j < 4 := by omega
        refine ⟨_, rfl, _, 1, rfl, rfl, .ref p, rfl, p, 3, c + 1 + i * 14 + 2 + j * 3, rfl, hp6, by decide, by decide, by omega, fun a H7 a0 a1 hp7 f7 => ?_⟩
        refine ⟨.ref p, rfl, p, 4, c + 1 + i * 14 + 2 + j * 3 + 1, rfl, hp7, by decide, by decide, by omega, fun b H8 b0 b1 hp8 f8 => ?_⟩
        refine ⟨13, b, rfl, rfl, by show 4 ≤ sizeLine; decide, fun L2 nL2 => ?_⟩
        have e9 := Ex.new (o := .lst [V.int 0, .int 0, .int a, .int (13 + b)]) nL2
        have g9 := upd_same (H := H8) (a := L2) (o := .lst [V.int 0, .int 0, .int a, .int (13 + b)])
        generalize (upd H8 L2 (.lst [V.int 0, .int 0, .int a, .int (13 + b)])) = H9 at e9 g9 ⊢
        have nL2p := pool_ne hp8 nL2
        refine ⟨.ref p, rfl, p, 4, c + 1 + i * 14 + 2 + j * 3 + 2, rfl, hp8.ex e9, by decide, by decide, by omega, fun d' HA d0' d1' hpA fA => ?_⟩
        obtain ⟨u, au, u0, u16⟩ := pick4 d0' d1' (B := 16) (a := 0) (b := 0) (c := a) (e := 13 + b) (by omega) (by omega) (by omega) (by omega)
        refine ⟨L2, _, d', _, rfl, rfl, SqL.of (fA _ _ nL2p g9), au, _, u, rfl, rfl, ?_⟩
        have f7A : Fx p H6 HA := f7.trans (f8.trans ((Fx.ex e9).trans fA))
        have hSA := f7A _ _ nSp hS6
        have hDA := f7A _ _ nDp hD6
        have l0 : 0 ≤ ah ns j + 1 + u := by omega
        have l1 : ah ns j + 1 + u < 17 * (((j + 1 : Nat)) : Int) := by omega
        have lg : ah ns j < ah ns j + 1 + u := by omega
        generalize hla : ah ns j + 1 + u = la at l0 l1 lg
        obtain ⟨ln, rfl⟩ := Int.eq_ofNat_of_zero_le l0
        refine ⟨.ref S, rfl, .inl ⟨rfl, _, SqL.of hSA⟩, _, rfl, S, _, _, rfl, rfl, hSA, ?_, ns ++ [ln], some (.int ((0 : Int) + j)), ?_, ?_, ?_, ?_, ?_, ?_, ?_, ?_, ?_, ?_⟩
        · rw [nvs_len]
          exact sz_lt (by omega)
        · have e1 : ah (ns ++ [ln]) (j + 1) = (ln : Int) := by rw [← hlen6]; exact ah_snoc _ _
          rw [e1, ← hla]
          rfl
        · rw [upd_same, nvs_snoc, ← hla]
        · exact ris_snoc hris6 (by rw [hlen6]; exact lg)
        · rw [List.length_append, hlen6]
          rfl
        · rw [← hlen6, ah_snoc]
          rw [← hlen6] at l1
          exact l1
        · intro n hn
          rcases List.mem_append.mp hn with hn | hn
          · exact hpl6 n hn
          · rw [List.mem_singleton.mp hn]
            omega
        · rw [upd_ne nDS]
          exact hDA
        · exact (hE6.fx hp6 f7A).updL hSA
        · exact (pl_upd hpA nSp).mono (by omega)
        · exact fx_mut (f6.trans f7A) nSH
      · obtain ⟨ns, o8', rfl, hS6, hris6, hlen6, hah6, hpl6, hD6, hE6, hp6, f6⟩ := pv
        have lk : ns.length ≤ 4 := by omega
        have l1 : 0 < ns.length := by omega
        refine ⟨.ref D, rfl, .inl ⟨rfl, _, SqL.of hD6⟩, .int (sn : Nat), rfl, .ref S, rfl, S, _, rfl, .inl ⟨SqL.of hS6, fun t nt => ?_⟩⟩
        have e7 := Ex.new (o := .tup (nvs ns)) nt
        have g7 := upd_same (H := H6) (a := t) (o := .tup (nvs ns))
        generalize (upd H6 t (.tup (nvs ns))) = H7 at e7 g7 ⊢
        refine ⟨by show 2 ≤ sizeLine; decide, fun y ny => ?_⟩
        have e8 := Ex.new (o := .tup [V.int (sn : Nat), .ref t]) ny
        have g8 := upd_same (H := H7) (a := y) (o := .tup [V.int (sn : Nat), .ref t])
        generalize (upd H7 y (.tup [V.int (sn : Nat), .ref t])) = H8 at e8 g8 ⊢
        have x68 := e7.trans e8
        have hD8 := x68 _ _ hD6
        have eo : EnOk (sn, ns) := ⟨hris6, l1, by show ns.length ≤ 120; omega, small_nat (by show sn ≤ 1000; omega), fun n hn => small_nat (by have := hpl6 n hn; omega)⟩
        have sle : slots (es ++ [(sn, ns)]) = slots es ++ [sn] := List.map_append ..
        have sll : (slots es).length = i := by rw [← hlen]; exact List.length_map ..
        have aho : ah (slots es ++ [sn]) (i + 1) = (sn : Int) := by rw [← sll]; exact ah_snoc _ _
        refine ⟨D, _, _, rfl, rfl, hD8, ?_, es ++ [(sn, ns)], _, some (.int ((0 : Int) + i)), some (.ref S), some (.int (ah ns (1 + k).toNat)), o8', ?_, upd_same, ?_, ?_, ?_, ?_, ?_, ?_, ?_, ?_, ?_⟩
        · rw [hE6.1]
          exact sz_lt (by omega)
        · rw [sle, aho]
        · exact EnsA.snoc ((hE6.ex x68).updL hD8) ⟨t, by rw [upd_ne (ne_of g8 hD8 (by intro z; cases z))]; exact g8, by rw [upd_ne (ne_of (e8 _ _ g7) hD8 (by intro z; cases z))]; exact e8 _ _ g7⟩
        · intro e he
          rcases List.mem_append.mp he with he | he
          · exact hok e he
          · rw [List.mem_singleton.mp he]
            exact eo
        · rw [sle]
          exact ris_snoc hris (by rw [sll]; exact slg)
        · rw [List.length_append, hlen]
          rfl
        · rw [sle, aho]
          exact sl3
        · intro e he
          rcases List.mem_append.mp he with he | he
          · exact hsl e he
          · rw [List.mem_singleton.mp he]
            show sn < 60
            omega
        · intro e he
          rcases List.mem_append.mp he with he | he
          · exact hpl e he
          · rw [List.mem_singleton.mp he]
            exact hpl6
        · exact (pl_upd (hp6.ex x68) nDp).mono (by omega)
        · exact fx_mut (f6.trans (Fx.ex x68)) nD
    · obtain ⟨es, xs, o5, o6, o7, o8, rfl, hD2, hE2, hok, hris, hlen, hah, hsl, hpl, hp2, f2⟩ := pv
      exact ⟨.ref D, rfl, q D xs es H2 nDp nD hD2 hE2 ⟨⟨hok, hris, by omega⟩, by omega, hsl, hpl⟩ (by omega) (hp2.mono (by omega)) f2⟩

/-! ### _law_lengths -/
theorem ris_le {xs : List Nat} (h : Ris xs) : ∀ (k i : Nat) {a b : Nat}, xs[i]? = some a → xs[i + k]? = some b → a ≤ b
  | 0, i, a, b, g1, g2 => by
    rw [Nat.add_zero, g1] at g2
    cases g2
    exact Nat.le_refl _
  | k + 1, i, a, b, g1, g2 => by
    have hi : i + k < xs.length := by
      have := (List.getElem?_eq_some_iff.mp g2).1
      omega
    have g3 := List.getElem?_eq_getElem hi
    have i1 := ris_le h k i g1 g3
    have i2 := h (i + k + 1) b g2
    have i3 : ah xs (i + k + 1) = ((xs[i + k] : Nat) : Int) := by
      show ((xs.getD (i + k) 0 : Nat) : Int) = _
      rw [getD_at g3]
    omega
theorem ris_last {xs : List Nat} (h : Ris xs) {n y : Nat} (hn : n ∈ xs) (g : xs[xs.length - 1]? = some y) : n ≤ y := by
  obtain ⟨i, hi, e⟩ := List.getElem_of_mem hn
  have g1 : xs[i]? = some n := by rw [List.getElem?_eq_getElem hi, e]
  exact ris_le h (xs.length - 1 - i) i g1 (by rw [show i + (xs.length - 1 - i) = xs.length - 1 by omega]; exact g)
theorem ah_last (xs : List Nat) : ((0 :: xs.map (· + 1))[xs.length]?) = some ((ah xs xs.length + 1).toNat) := by
  cases xs with
  | nil => rfl
  | cons a r =>
    have hi : r.length < (a :: r).length := by simp
    show ((a :: r).map (· + 1))[r.length]? = some ((((a :: r).getD r.length 0 : Nat) : Int) + 1).toNat
    rw [List.getElem?_map, List.getElem?_eq_getElem hi, getD_at (List.getElem?_eq_getElem hi)]
    show some ((a :: r)[r.length] + 1) = _
    congr 1
/-- the entries' slots lie below n -/
theorem slot_lt {es : List En} (h : Ris (slots es)) {e : En} (he : e ∈ es) : (e.1 : Int) < ah (slots es) es.length + 1 := by
  have hm : e.1 ∈ slots es := List.mem_map.mpr ⟨e, he, rfl⟩
  have l : (slots es).length = es.length := List.length_map ..
  have hp : 0 < es.length := List.length_pos_of_mem he
  have hi : (slots es).length - 1 < (slots es).length := by omega
  have g := List.getElem?_eq_getElem hi
  have := ris_last h hm g
  have e1 : ah (slots es) es.length = (((slots es)[(slots es).length - 1]'(by omega) : Nat) : Int) := by
    obtain ⟨k, hk⟩ : ∃ k, es.length = k + 1 := ⟨es.length - 1, by omega⟩
    rw [hk]
    show (((slots es).getD k 0 : Nat) : Int) = _
    rw [show k = (slots es).length - 1 by omega, getD_at g]
  omega
theorem fit_more {es : List En} {ls : List Nat} {v : Nat} (h : ∀ e ∈ es, e.1 < ls.length → ∀ n ∈ e.2, n < ls.getD e.1 0) (k : ∀ e ∈ es, e.1 = ls.length → ∀ n ∈ e.2, n < v) : ∀ e ∈ es, e.1 < ls.length + 1 → ∀ n ∈ e.2, n < (ls ++ [v]).getD e.1 0 := fun e he hs n hn => by
  rcases Nat.lt_or_ge e.1 ls.length with lt | ge
  · have e1 : (ls ++ [v]).getD e.1 0 = ls.getD e.1 0 := by
      rw [List.getD_eq_getElem?_getD, List.getElem?_append_left lt, List.getD_eq_getElem?_getD]
    rw [e1]
    exact h e he lt n hn
  · have e0 : e.1 = ls.length := by omega
    have e1 : (ls ++ [v]).getD e.1 0 = v := by
      rw [List.getD_eq_getElem?_getD, e0, List.getElem?_append_right (Nat.le_refl _)]
      simp
    rw [e1]
    exact k e he e0 n hn
theorem pick3 {a b c d : Int} (h0 : 0 ≤ d) (h1 : d < 3) {B : Int} (ka : 0 ≤ a ∧ a ≤ B) (kb : 0 ≤ b ∧ b ≤ B) (kc : 0 ≤ c ∧ c ≤ B) : ∃ v : Int, atI [V.int a, .int b, .int c] d = some (.int v) ∧ 0 ≤ v ∧ v ≤ B := by
  obtain ⟨j, rfl⟩ := Int.eq_ofNat_of_zero_le h0
  match j, h1 with
  | 0, _ => exact ⟨a, atI_nat rfl, ka⟩
  | 1, _ => exact ⟨b, atI_nat rfl, kb⟩
  | 2, _ => exact ⟨c, atI_nat rfl, kc⟩
  | j + 3, h => omega
def spLens : Sp := fun vs H Q _ => ∃ (p l : Addr) (c : Nat) (xs : List V) (es : List En), vs = [.ref p, .ref l] ∧ Pl H p c ∧ c < 900000 ∧ l ≠ p ∧ H l = some (.lst xs) ∧ EnsA H xs es ∧ EnsL es ∧
  ∀ (m : Addr) (ls : List Nat) (H' : Hp), m ≠ p → H m = none → H' m = some (.lst (nvs ls)) → Fit es ls → Pl H' p (c + 200) → Fx p H H' → Q (.ref m) H'
set_option maxHeartbeats 8000000 in
theorem ok_l_lengths (T : TX K mg A FD TK) : FnOk P w K mg base CX0 2 (A 48) (FD 48) ["_law_pool_here", "_law_entries"] spLens := by
  have G_l_take := ok_l_take (P := P) (w := w) (base := base) T
  refine T.f_l_lengths.ok (k := 1) sc_l_lengths (fun vs H Q E h => ?_) (fun cdv A' outer s H vs Q E hr h => ?_)
  · obtain ⟨p, l, c, xs, es, rfl, _⟩ := h
    rfl
  · obtain ⟨p, l, c, xs, es, rfl, hp, hc, nlp, hl, hE, hL, q⟩ := h
    refine ⟨_, (pss_cons (ps_set (i := 2) sc_l_lengths.nd rfl (.inl rfl) (pe_lst pa_nil))
      (pss_cons (ps_for PassesOwn.never rfl (pi_range1 (by rfl) T.m_range (pa_cons (pe_callB (call_min2 rfl) (by rfl) T.m_min (by decide +kernel) (pa_cons pe_int (pa_cons (pe_op op_add (pe_ix (ixLK (K := K) rfl) (pe_lc (own := [("_law_slot", 3), ("_law_spots", 5)])  rfl sc_l_lengths.nd (piLK (K := K) rfl (pe_op op_cat (pe_lst (pa_cons (pe_tup (pa_cons (pe_un un_neg pe_int) (pa_cons (pe_tup pa_nil) pa_nil))) pa_nil)) (pv 1))) (blkOk_by (own := [("_law_slot", 3), ("_law_spots", 5)]) (N := N_l_lengths) (sc := defScope (topS 48)) (by decide +kernel)) (fun _ _ _ _ _ => (tupGK (K := K) (n := 2) rfl rfl (pgs_cons (pg_name (i := 3) sc_l_lengths.nd rfl (Or.inl rfl)) (pgs_cons (pg_name (i := 5) sc_l_lengths.nd rfl (Or.inl rfl)) pgs_nil)))) (fun _ _ _ _ _ => pts_nil) (fun _ _ _ _ _ => (pe_op op_add (pv 3) pe_int))) (pe_un un_neg pe_int) (fun _ _ => rfl)) (pe_call G_l_take hr (by rfl) T.g_l_take T.f_l_take.kp T.b_l_take .nil pass0 (pa_cons (pv 0) (pa_cons pe_int pa_nil)))) pa_nil))) pa_nil)) (pg_name (i := 3) sc_l_lengths.nd rfl (.inr rfl))
      (pss_cons (ps_setLc (i := 4) (own := [("_law_other", 6), ("_law_spots", 5)])  rfl sc_l_lengths.nd rfl rfl (sw_true rfl rfl rfl (by decide +kernel)) (piLK (K := K) rfl (pv 1)) (blkOk_by (own := [("_law_other", 6), ("_law_spots", 5)]) (N := N_l_lengths) (sc := defScope (topS 48)) (by decide +kernel)) (fun _ _ _ _ _ => (tupGK (K := K) (n := 2) rfl rfl (pgs_cons (pg_name (i := 6) sc_l_lengths.nd rfl (Or.inl rfl)) (pgs_cons (pg_name (i := 5) sc_l_lengths.nd rfl (Or.inl rfl)) pgs_nil)))) (fun _ _ _ _ _ => (pts_one (pt_cmpR op_eq (pv 6) (pv 3) (nomark _)))) (fun _ _ _ _ _ => (pe_op op_add (pe_ix (ixTK (K := K) rfl) (pv 5) (pe_un un_neg pe_int) (fun _ _ => rfl)) pe_int)))
      (pss_one (ps_expr (pe_bm PySem.F.plainAttrs_list PySem.F.slot_list_append PySem.F.type_list_append mt_append (pv 2) (pa_cons (pe_callB (call_min2 rfl) (by rfl) T.m_min (by decide +kernel) (pa_cons pe_int (pa_cons (pe_op op_add (pe_callB (maxK (K := K) rfl rfl) (by rfl) T.m_max (by decide +kernel) (pa_cons (pe_op op_cat (pe_lst (pa_cons pe_int pa_nil)) (pv 4)) pa_nil)) (pe_ix (ixLK (K := K) rfl) (pe_lst (pa_cons pe_int (pa_cons (pe_call G_l_take hr (by rfl) T.g_l_take T.f_l_take.kp T.b_l_take .nil pass0 (pa_cons (pv 0) (pa_cons pe_int pa_nil))) (pa_cons (pe_call G_l_take hr (by rfl) T.g_l_take T.f_l_take.kp T.b_l_take .nil pass0 (pa_cons (pv 0) (pa_cons pe_int pa_nil))) pa_nil)))) (pe_call G_l_take hr (by rfl) T.g_l_take T.f_l_take.kp T.b_l_take .nil pass0 (pa_cons (pv 0) (pa_cons pe_int pa_nil))) (fun _ _ => rfl))) pa_nil))) pa_nil))))))
      (pss_one (ps_ret (pv 2))))), ?_⟩
    refine ⟨Nat.zero_le _, fun D nD => ?_⟩
    have nDp := pool_ne hp nD
    have few := hL.few
    have e1 := Ex.new (o := .lst []) nD
    have hD1 := upd_same (H := H) (a := D) (o := .lst [])
    generalize (upd H D (.lst [])) = H1 at e1 hD1 ⊢
    refine ⟨1, rfl, Nat.zero_le _, fun u0 nu0 => ?_⟩
    have e2 := Ex.new (o := .tup []) nu0
    generalize (upd H1 u0 (.tup [])) = H2 at e2 ⊢
    refine ⟨by show 2 ≤ sizeLine; decide, fun t0 nt0 => ?_⟩
    have e3 := Ex.new (o := .tup [V.int (-1), .ref u0]) nt0
    have g3 := upd_same (H := H2) (a := t0) (o := .tup [V.int (-1), .ref u0])
    generalize hH3 : (upd H2 t0 (.tup [V.int (-1), .ref u0])) = H3 at e3 g3 ⊢
    refine ⟨by show 1 ≤ sizeLine; decide, fun L0 nL0 => ?_⟩
    have e4 := Ex.new (o := .lst [V.ref t0]) nL0
    have g4 := upd_same (H := H3) (a := L0) (o := .lst [V.ref t0])
    generalize (upd H3 L0 (.lst [V.ref t0])) = H4 at e4 g4 ⊢
    have x4 := ((e1.trans e2).trans e3).trans e4
    have xl := hE.1
    refine ⟨.ref l, rfl, L0, l, _, _, rfl, rfl, g4, x4 _ _ hl, by show 1 + xs.length ≤ sizeLine; exact sz (by omega), fun R nR => ?_⟩
    have e5 := Ex.new (o := .lst ([V.ref t0] ++ xs)) nR
    have g5 := upd_same (H := H4) (a := R) (o := .lst ([V.ref t0] ++ xs))
    generalize (upd H4 R (.lst ([V.ref t0] ++ xs))) = H5 at e5 g5 ⊢
    have x5 := x4.trans e5
    have ht0 := e5 _ _ (e4 _ _ g3)
    refine ⟨R, rfl, ⟨_, SqL.of g5⟩, fun D2 nD2 => ?_⟩
    refine lc_list (K := K) (xs := [V.ref t0] ++ xs) (fun i H' => Ex H5 H' ∧ H' D2 = some (.lst (nvs ((0 :: (slots es).map (· + 1)).take i)))) ⟨Ex.new nD2, upd_same⟩ (fun i H' _ p => ex_l p.1 (SqL.of g5)) (fun i v H6 hv p => ?_) (fun H6 p => ?_)
    · obtain ⟨p1, p2⟩ := p
      have hlt : i < 1 + xs.length := by
        have := (List.getElem?_eq_some_iff.mp hv).1
        rw [List.length_append, List.length_singleton] at this
        exact this
      have lenc : (nvs ((0 :: (slots es).map (· + 1)).take i)).length < sizeLine := by
        rw [nvs_len, List.length_take]
        exact sz_lt (by omega)
      cases i with
      | zero =>
        cases hv
        exact ⟨t0, _, rfl, SqT.of (p1 _ _ ht0), rfl, _, _, rfl, _, _, rfl, rfl, rfl, _, rfl, -1, 1, rfl, rfl, _, p2, lenc, Ex.mut p1 nD2, upd_same⟩
      | succ i =>
        have hv' : xs[i]? = some v := hv
        obtain ⟨e, a, ge, rfl, hA⟩ := (hE.ex x5).at hv'
        obtain ⟨t, ha, ht⟩ := hA.ex p1
        refine ⟨a, _, rfl, SqT.of ha, rfl, _, _, rfl, _, _, rfl, rfl, rfl, _, rfl, (e.1 : Int), 1, rfl, rfl, _, p2, lenc, Ex.mut p1 nD2, ?_⟩
        have gs : ((slots es).map (· + 1))[i]? = some (e.1 + 1) := by
          rw [List.getElem?_map, slots_at ge]
          rfl
        rw [upd_same, List.take_succ_cons, List.take_succ_cons, take_up gs, ← List.cons_append, nvs_snoc]
        rfl
    obtain ⟨p1, p2⟩ := p
    rw [List.take_of_length_le (by simp [slots, xl])] at p2
    have x6 := x5.trans p1
    have sl : (slots es).length = es.length := List.length_map ..
    have la := ah_last (slots es)
    rw [sl] at la
    have lav : (nvs (0 :: (slots es).map (· + 1)))[(nvs (0 :: (slots es).map (· + 1))).length - 1]? = some (.int (ah (slots es) es.length + 1)) := by
      rw [nvs_len]
      unfold nvs
      rw [List.getElem?_map, List.length_cons, List.length_map, sl, Nat.add_sub_cancel, la]
      have := ah_ge (slots es) es.length
      show some (V.int (((ah (slots es) es.length + 1).toNat : Nat) : Int)) = _
      rw [Int.toNat_of_nonneg (by omega)]
    refine ⟨1, rfl, D2, _, _, _, rfl, rfl, SqL.of p2, atI_end lav, ?_⟩
    refine ⟨.ref p, rfl, p, 3, c, rfl, hp.ex x6, by decide, by decide, by omega, fun d H7 d0 d1 hp7 f7 => ?_⟩
    refine ⟨_, d, rfl, rfl, 60, _, rfl, ?_⟩
    have a60 : ah (slots es) es.length + 1 ≤ 60 := by
      cases hk : es.length with
      | zero => show (-1 : Int) + 1 ≤ 60; omega
      | succ k =>
        have hi : k < es.length := by omega
        have := hL.slot es[k] (List.getElem_mem hi)
        show (((slots es).getD k 0 : Nat) : Int) + 1 ≤ 60
        rw [getD_at (slots_at (List.getElem?_eq_getElem hi))]
        omega
    have ag := ah_ge (slots es) es.length
    have nb0 : 0 ≤ (if ah (slots es) es.length + 1 + d < 60 then ah (slots es) es.length + 1 + d else 60) := by split <;> omega
    have nb1 : (if ah (slots es) es.length + 1 + d < 60 then ah (slots es) es.length + 1 + d else 60) ≤ 60 := by split <;> omega
    have nb2 : ah (slots es) es.length + 1 ≤ (if ah (slots es) es.length + 1 + d < 60 then ah (slots es) es.length + 1 + d else 60) := by split <;> omega
    refine ⟨if ah (slots es) es.length + 1 + d < 60 then ah (slots es) es.length + 1 + d else 60, rfl, by omega, by omega, ?_⟩
    generalize (if ah (slots es) es.length + 1 + d < 60 then ah (slots es) es.length + 1 + d else 60) = nn at nb0 nb1 nb2 ⊢
    have fH7 : Fx p H H7 := (Fx.ex x6).trans f7
    refine for_range (lo := 0) (n := nn.toNat) (fun i σ' H' => ∃ (ls : List Nat) (o3 o4 o5 o6 : Option V), σ' = [some (.ref p), some (.ref l), some (.ref D), o3, o4, o5, o6] ∧ ls.length = i ∧ (∀ n ∈ ls, n ≤ 120) ∧ (∀ e ∈ es, e.1 < ls.length → ∀ n ∈ e.2, n < ls.getD e.1 0) ∧
        H' D = some (.lst (nvs ls)) ∧ EnsA H' xs es ∧ Pl H' p (c + 1 + i * 3) ∧ Fx p H H')
      ⟨[], none, none, none, none, rfl, rfl, (fun n hn => nomatch hn), (fun e he hs => absurd hs (Nat.not_lt_zero _)), f7 _ _ nDp (((((e2.trans e3).trans e4).trans e5).trans p1) _ _ hD1), (hE.ex x6).fx (hp.ex x6) f7, hp7, fH7⟩ (fun i σ' H8 hi pv => ?_) (fun σ' H8 pv => ?_)
    · obtain ⟨ls, o3, o4, o5, o6, rfl, hlen, h120, hfit, hD8, hE8, hp8, f8⟩ := pv
      have hl8 := f8 _ _ nlp hl
      refine ⟨.ref l, rfl, l, rfl, ⟨_, SqL.of hl8⟩, fun D3 nD3 => ?_⟩
      refine lc_list (K := K) (xs := xs) (fun k H' => Ex H8 H' ∧ ∃ zs : List Nat, H' D3 = some (.lst (nvs zs)) ∧ zs.length ≤ k ∧ (∀ z ∈ zs, z ≤ 68) ∧ ∀ e ∈ es.take k, e.1 = i → ∀ n ∈ e.2, ∃ z ∈ zs, n < z) ⟨Ex.new nD3, [], upd_same, Nat.le_refl _, (fun z hz => nomatch hz), fun e he => by simp at he⟩ (fun k H' _ p => ex_l p.1 (SqL.of hl8)) (fun k v H9 hv p => ?_) (fun H9 p => ?_)
      · obtain ⟨p1, zs, p2, p3, p4, p5⟩ := p
        obtain ⟨e, a, ge, rfl, hA⟩ := hE8.at hv
        obtain ⟨t, ha, ht⟩ := hA.ex p1
        have em := List.mem_of_getElem? ge
        have eo := hL.ens.ok e em
        have h0 := eo.some
        have hk : k < xs.length := (List.getElem?_eq_some_iff.mp hv).1
        have gl : e.2[e.2.length - 1]? = some (e.2[e.2.length - 1]'(by omega)) := List.getElem?_eq_getElem _
        have lm : e.2[e.2.length - 1]'(by omega) ∈ e.2 := List.getElem_mem _
        generalize e.2[e.2.length - 1]'(by omega) = y at gl lm
        have gy : (nvs e.2)[(nvs e.2).length - 1]? = some (.int (y : Int)) := by
          rw [nvs_len]
          unfold nvs
          rw [List.getElem?_map, gl]
          rfl
        refine ⟨a, _, rfl, SqT.of ha, rfl, _, _, rfl, _, _, rfl, rfl, rfl, .int (e.1 : Int), rfl, .int ((0 : Int) + i), rfl, rfl, _, rfl, ite2 (fun cc => ?_) (fun cc => ?_)⟩
        · refine ⟨.ref t, rfl, 1, rfl, t, _, _, _, rfl, rfl, SqT.of ht, atI_end gy, _, 1, rfl, rfl, _, p2, ?_, Ex.mut p1 nD3, zs ++ [y + 1], ?_, ?_, ?_, ?_⟩
          · rw [nvs_len]
            exact sz_lt (by omega)
          · rw [upd_same, nvs_snoc]
            rfl
          · rw [List.length_append]
            show zs.length + 1 ≤ k + 1
            omega
          · intro z hz
            rcases List.mem_append.mp hz with hz | hz
            · exact p4 z hz
            · rw [List.mem_singleton.mp hz]
              have := hL.place e em y lm
              omega
          · intro f hf hfi n hn
            rw [take_up ge] at hf
            rcases List.mem_append.mp hf with hf | hf
            · obtain ⟨z, hz, lz⟩ := p5 f hf hfi n hn
              exact ⟨z, List.mem_append_left _ hz, lz⟩
            · rw [List.mem_singleton.mp hf] at hn
              exact ⟨y + 1, List.mem_append_right _ (List.mem_singleton.mpr rfl), by have := ris_last eo.ris hn gl; omega⟩
        · refine ⟨p1, zs, p2, by omega, p4, fun f hf hfi n hn => ?_⟩
          rw [take_up ge] at hf
          rcases List.mem_append.mp hf with hf | hf
          · exact p5 f hf hfi n hn
          · rw [List.mem_singleton.mp hf] at hfi
            exact absurd (decide_eq_true (congrArg V.int (show (e.1 : Int) = 0 + (i : Int) by omega))) cc
      obtain ⟨p1, zs, p2, p3, p4, p5⟩ := p
      rw [xl, List.take_length] at p5
      have hD9 := p1 _ _ hD8
      have hp9 := hp8.ex p1
      refine ⟨.ref D, rfl, .inl ⟨rfl, _, SqL.of hD9⟩, by show 1 ≤ sizeLine; decide, fun L1 nL1 => ?_⟩
      have eA := Ex.new (o := .lst [V.int 0]) nL1
      have gA := upd_same (H := H9) (a := L1) (o := .lst [V.int 0])
      generalize (upd H9 L1 (.lst [V.int 0])) = HA at eA gA ⊢
      refine ⟨.ref D3, rfl, L1, D3, _, _, rfl, rfl, gA, eA _ _ p2, by show 1 + (nvs zs).length ≤ sizeLine; rw [nvs_len]; exact sz (by omega), fun R1 nR1 => ?_⟩
      have eB := Ex.new (o := .lst ([V.int 0] ++ nvs zs)) nR1
      have gB := upd_same (H := HA) (a := R1) (o := .lst ([V.int 0] ++ nvs zs))
      generalize (upd HA R1 (.lst ([V.int 0] ++ nvs zs))) = HB at eB gB ⊢
      have gB' : HB R1 = some (.lst ((zsI (0 :: zs)).map V.int)) := by
        rw [gB, ← nvs_zs]
        rfl
      refine ⟨R1, _, rfl, SqL.of gB', by simp [zsI], fun mm hmm hmx => ?_⟩
      rw [mx_is hmm hmx]
      have x9B := eA.trans eB
      have hpB := hp9.ex x9B
      have mz : mxL (0 :: zs) ≤ 68 := by
        rcases List.mem_cons.mp (mxL_mem (ns := 0 :: zs) (by simp)) with h | h
        · omega
        · exact p4 _ h
      have mge : ∀ z ∈ zs, z ≤ mxL (0 :: zs) := fun z hz => mxL_ge (List.mem_cons_of_mem _ hz)
      generalize mxL (0 :: zs) = mv at mz mge
      refine ⟨.ref p, rfl, p, 4, c + 1 + i * 3, rfl, hpB, by decide, by decide, by omega, fun a HC a0 a1 hpC fC => ?_⟩
      refine ⟨.ref p, rfl, p, 90, c + 1 + i * 3 + 1, rfl, hpC, by decide, by decide, by omega, fun b HD b0 b1 hpD fD => ?_⟩
      refine ⟨by show 3 ≤ sizeLine; decide, fun L2 nL2 => ?_⟩
      have eE := Ex.new (o := .lst [V.int 0, .int a, .int b]) nL2
      have gE := upd_same (H := HD) (a := L2) (o := .lst [V.int 0, .int a, .int b])
      generalize (upd HD L2 (.lst [V.int 0, .int a, .int b])) = HE at eE gE ⊢
      have nL2p := pool_ne hpD nL2
      refine ⟨.ref p, rfl, p, 3, c + 1 + i * 3 + 1 + 1, rfl, hpD.ex eE, by decide, by decide, by omega, fun d' HF d0' d1' hpF fF => ?_⟩
      obtain ⟨u, au, u0, u90⟩ := pick3 d0' d1' (B := 90) (a := 0) (b := a) (c := b) (by omega) (by omega) (by omega)
      have fall : Fx p H8 HF := (Fx.ex (p1.trans x9B)).trans (fC.trans (fD.trans ((Fx.ex eE).trans fF)))
      have hDF := fall _ _ nDp hD8
      refine ⟨L2, _, d', _, rfl, rfl, SqL.of (fF _ _ nL2p gE), au, _, u, rfl, rfl, 120, _, rfl, D, _, _, rfl, rfl, hDF, ?_, ?_⟩
      · rw [nvs_len]
        exact sz_lt (by omega)
      · have w0 : 0 ≤ (if ((mv : Nat) : Int) + u < 120 then ((mv : Nat) : Int) + u else 120) := by split <;> omega
        have w1 : (if ((mv : Nat) : Int) + u < 120 then ((mv : Nat) : Int) + u else 120) ≤ 120 := by split <;> omega
        have w2 : ((mv : Nat) : Int) ≤ (if ((mv : Nat) : Int) + u < 120 then ((mv : Nat) : Int) + u else 120) := by split <;> omega
        show ∃ (ls2 : List Nat) (o3 o4 o5 o6 : Option V), _ ∧ ls2.length = i + 1 ∧ _ ∧ _ ∧ (upd HF D (.lst (nvs ls ++ [V.int (if ((mv : Nat) : Int) + u < 120 then ((mv : Nat) : Int) + u else 120)]))) D = _ ∧ _
        generalize (if ((mv : Nat) : Int) + u < 120 then ((mv : Nat) : Int) + u else 120) = w at w0 w1 w2 ⊢
        obtain ⟨wn, rfl⟩ := Int.eq_ofNat_of_zero_le w0
        refine ⟨ls ++ [wn], some (.int ((0 : Int) + i)), some (.ref D3), o5, o6, rfl, ?_, ?_, ?_, ?_, ?_, ?_, ?_⟩
        · rw [List.length_append, hlen]
          rfl
        · intro n hn
          rcases List.mem_append.mp hn with hn | hn
          · exact h120 n hn
          · rw [List.mem_singleton.mp hn]
            omega
        · intro e he hs
          rw [List.length_append] at hs
          refine fit_more hfit (fun f hf hfi n hn => ?_) e he hs
          obtain ⟨z, hz, lz⟩ := p5 f hf (by omega) n hn
          have := mge z hz
          omega
        · rw [upd_same, nvs_snoc]
        · exact (hE8.fx hp8 fall).updL hDF
        · exact (pl_upd hpF nDp).mono (by omega)
        · exact fx_mut (f8.trans fall) nD
    · obtain ⟨ls, o3, o4, o5, o6, rfl, hlen, h120, hfit, hD8, hE8, hp8, f8⟩ := pv
      refine ⟨.ref D, rfl, q D ls H8 nDp nD hD8 ⟨by omega, h120, fun e he => ?_⟩ (hp8.mono (by omega)) f8⟩
      have := slot_lt hL.ens.ris he
      have lt : e.1 < ls.length := by omega
      exact ⟨lt, hfit e he lt⟩

/-! ### numbers, entries, tuples of numbers as data -/
def dV (ns : List Nat) : List PyData := ns.map fun (n : Nat) => .int (n : Int)
def dE (e : En) : PyData := .tuple [.int (e.1 : Int), .tuple (dV e.2)]
def dEs (es : List En) : List PyData := es.map dE
def dTs (nss : List (List Nat)) : List PyData := nss.map fun ns => .tuple (dV ns)
theorem dpV {K : PySem.W.Frag} {H : Hp} : ∀ ns : List Nat, DpAll K H (nvs ns) (dV ns)
  | [] => .nil
  | n :: r => .cons (.int _) (dpV r)
theorem dp_all {K : PySem.W.Frag} {H : Hp} {α : Type} {f : α → PyData} : ∀ {xs : List V} {as : List α}, xs.length = as.length → (∀ (i : Nat) (a : α), as[i]? = some a → ∃ v, xs[i]? = some v ∧ Dp K H v (f a)) → DpAll K H xs (as.map f)
  | [], [], _, _ => .nil
  | v :: xs, a :: as, hl, h => by
    obtain ⟨u, e, d⟩ := h 0 a rfl
    cases e
    exact .cons d (dp_all (by simpa using hl) fun i a g => h (i + 1) a g)
  | [], _ :: _, hl, _ => by simp at hl
  | _ :: _, [], hl, _ => by simp at hl
theorem dpE {K : PySem.W.Frag} {H : Hp} {a : Addr} {e : En} (h : EnA H a e) : Dp K H (.ref a) (dE e) := by
  obtain ⟨t, h1, h2⟩ := h
  exact .tup (SqT.of h1) (.cons (.int _) (.cons (.tup (SqT.of h2) (dpV _)) .nil))
theorem dpEs {K : PySem.W.Frag} {H : Hp} {xs : List V} {es : List En} (h : EnsA H xs es) : DpAll K H xs (dEs es) := dp_all h.1 fun i e g => let ⟨a, h1, h2⟩ := h.2 i e g; ⟨_, h1, dpE h2⟩
/-- tuples of numbers at hs -/
def TupsA (H : Hp) (hs : List Addr) (nss : List (List Nat)) : Prop := hs.length = nss.length ∧ ∀ (i : Nat) (ns : List Nat), nss[i]? = some ns → ∃ b, hs[i]? = some b ∧ H b = some (.tup (nvs ns))
theorem TupsA.ex {H H' : Hp} {hs : List Addr} {nss : List (List Nat)} (h : TupsA H hs nss) (x : Ex H H') : TupsA H' hs nss := ⟨h.1, fun i ns g => let ⟨b, h1, h2⟩ := h.2 i ns g; ⟨b, h1, x _ _ h2⟩⟩
theorem TupsA.updL {H : Hp} {D : Addr} {o : HO} {hs : List Addr} {ys : List V} {nss : List (List Nat)} (h : TupsA H hs nss) (hD : H D = some (.lst ys)) : TupsA (upd H D o) hs nss := ⟨h.1, fun i ns g => let ⟨b, h1, h2⟩ := h.2 i ns g; ⟨b, h1, by rw [upd_ne (ne_of h2 hD (by intro z; cases z))]; exact h2⟩⟩
theorem TupsA.snoc {H : Hp} {hs : List Addr} {nss : List (List Nat)} {b : Addr} {ns : List Nat} (h : TupsA H hs nss) (hb : H b = some (.tup (nvs ns))) : TupsA H (hs ++ [b]) (nss ++ [ns]) := by
  refine ⟨by rw [List.length_append, List.length_append, h.1]; rfl, fun i ms g => ?_⟩
  rcases snoc_at g with g | ⟨rfl, rfl⟩
  · obtain ⟨c, h1, h2⟩ := h.2 i ms g
    exact ⟨c, by rw [List.getElem?_append_left (List.getElem?_eq_some_iff.mp h1).1]; exact h1, h2⟩
  · exact ⟨b, by rw [← h.1, List.getElem?_append_right (Nat.le_refl _)]; simp, hb⟩
theorem dpTs {K : PySem.W.Frag} {H : Hp} {hs : List Addr} {nss : List (List Nat)} (h : TupsA H hs nss) : DpAll K H (hs.map V.ref) (dTs nss) := dp_all (by rw [List.length_map]; exact h.1) fun i ns g => by
  obtain ⟨b, h1, h2⟩ := h.2 i ns g
  exact ⟨.ref b, by rw [List.getElem?_map, h1]; rfl, .tup (SqT.of h2) (dpV _)⟩
theorem shV (ns : List Nat) : PyData.canLayAll0 (dV ns) = true ∧ PyData.depthAll (dV ns) = 0 := by
  unfold dV
  induction ns with
  | nil => exact ⟨rfl, rfl⟩
  | cons n r ih => exact ⟨by rw [List.map_cons, PyData.canLayAll0, ih.1]; rfl, by rw [List.map_cons, PyData.depthAll, ih.2, PyData.depth]; rfl⟩
theorem sh_all {α : Type} {f : α → PyData} {k : Nat} (h : ∀ a, PyData.canLay0 (f a) = true ∧ PyData.depth (f a) ≤ k) : ∀ as : List α, PyData.canLayAll0 (as.map f) = true ∧ PyData.depthAll (as.map f) ≤ k
  | [] => ⟨rfl, Nat.zero_le _⟩
  | a :: r => by
    have i := sh_all h r
    exact ⟨by rw [List.map_cons, PyData.canLayAll0, (h a).1, i.1]; rfl, by rw [List.map_cons, PyData.depthAll]; exact Nat.max_le.mpr ⟨(h a).2, i.2⟩⟩
theorem sh_list {ds : List PyData} {k : Nat} (hk : k ≤ 60) (h : PyData.canLayAll0 ds = true ∧ PyData.depthAll ds ≤ k) : SeqAt.shaped (.list ds) = true := by
  unfold SeqAt.shaped
  rw [PyData.canLay0, PyData.depth, h.1, Bool.true_and]
  have := h.2
  exact decide_eq_true (by omega)
theorem shT (ns : List Nat) : PyData.canLay0 (.tuple (dV ns)) = true ∧ PyData.depth (.tuple (dV ns)) ≤ 1 := ⟨by rw [PyData.canLay0]; exact (shV ns).1, by rw [PyData.depth, (shV ns).2]; exact Nat.le_refl _⟩
theorem shE (e : En) : PyData.canLay0 (dE e) = true ∧ PyData.depth (dE e) ≤ 2 := by
  unfold dE
  refine ⟨?_, ?_⟩
  · rw [PyData.canLay0, PyData.canLayAll0, PyData.canLayAll0, (shT e.2).1]
    rfl
  · rw [PyData.depth, PyData.depthAll, PyData.depthAll]
    have := (shT e.2).2
    simp only [PyData.depthAll, PyData.depth] at this ⊢
    omega
theorem shTs (nss : List (List Nat)) : SeqAt.shaped (.list (dTs nss)) = true := sh_list (k := 1) (by decide) (sh_all shT nss)
theorem shEs (es : List En) : SeqAt.shaped (.list (dEs es)) = true := sh_list (k := 2) (by decide) (sh_all shE es)
theorem eqv_self {d : PyData} (h : SeqAt.shaped d = true) : PyData.eqv d d = true := SeqAt.eqv_refl _ (SeqAt.canLay_of_shaped h)

/-! ### _law_heads -/
def headsE (es : List En) (s : Nat) (ls : List Nat) (n : Nat) : List (List Nat) := (List.range n).map fun i => headE (cutE es s i) ls
def spHeads : Sp := fun vs H Q _ => ∃ (l m : Addr) (xs : List V) (s : Nat) (es : List En) (ls : List Nat), vs = [.ref l, .ref m, .int (s : Nat)] ∧ 1 ≤ s ∧ s ≤ 8 ∧ H l = some (.lst xs) ∧ EnsA H xs es ∧ Ens es ∧ H m = some (.lst (nvs ls)) ∧ Fit es ls ∧
  ∀ (h : Addr) (hs : List Addr) (H' : Hp), H h = none → Ex H H' → H' h = some (.lst (hs.map V.ref)) → TupsA H' hs (headsE es s ls (nb es.length s)) → Q (.ref h) H'
set_option maxHeartbeats 8000000 in
theorem ok_l_heads (T : TX K mg A FD TK) : FnOk P w K mg base CX0 1 (A 49) (FD 49) ["_law_entries", "_law_lengths_here", "_law_wide"] spHeads := by
  refine T.f_l_heads.ok sc_l_heads (fun vs H Q E h => ?_) (fun cdv A' outer s H vs Q E hr h => ?_)
  · obtain ⟨l, m, xs, s, es, ls, rfl, _⟩ := h
    rfl
  · obtain ⟨l, m, xs, s, es, ls, rfl, s1, s8, hl, hE, hN, hm, hF, q⟩ := h
    refine ⟨_, (pss_cons (ps_set (i := 3) sc_l_heads.nd rfl (.inl rfl) (pe_lst pa_nil))
      (pss_cons (ps_for PassesOwn.never rfl (pi_range3 (by rfl) T.m_range (pa_cons pe_int (pa_cons (pe_callB (lenK (K := K) rfl) (by rfl) T.m_len (by decide +kernel) (pa_cons (pv 0) pa_nil)) (pa_cons (pv 2) pa_nil)))) (pg_name (i := 4) sc_l_heads.nd rfl (.inl rfl))
      (pss_cons (ps_set (i := 5) sc_l_heads.nd rfl (.inl rfl) (pe_slice (slLK (K := K) rfl) (pv 0) (po_some (pv 4)) (po_some (pe_op op_add (pv 4) (pv 2)))))
      (pss_cons (ps_set (i := 6) sc_l_heads.nd rfl (.inl rfl) (pe_callB (maxK (K := K) rfl rfl) (by rfl) T.m_max (by decide +kernel) (pa_cons (pe_lc (own := [("_law_slot", 8), ("_law_spots", 9)])  rfl sc_l_heads.nd (piLK (K := K) rfl (pv 5)) (blkOk_by (own := [("_law_slot", 8), ("_law_spots", 9)]) (N := N_l_heads) (sc := defScope (topS 49)) (by decide +kernel)) (fun _ _ _ _ _ => (tupGK (K := K) (n := 2) rfl rfl (pgs_cons (pg_name (i := 8) sc_l_heads.nd rfl (Or.inl rfl)) (pgs_cons (pg_name (i := 9) sc_l_heads.nd rfl (Or.inl rfl)) pgs_nil)))) (fun _ _ _ _ _ => pts_nil) (fun _ _ _ _ _ => (pe_callB (lenK (K := K) rfl) (by rfl) T.m_len (by decide +kernel) (pa_cons (pv 9) pa_nil)))) pa_nil)))
      (pss_cons (ps_set (i := 7) sc_l_heads.nd rfl (.inl rfl) (pe_callB (minK (K := K) rfl rfl) (by rfl) T.m_min (by decide +kernel) (pa_cons (pe_lc (own := [("_law_slot", 8), ("_law_spots", 9)])  rfl sc_l_heads.nd (piLK (K := K) rfl (pv 5)) (blkOk_by (own := [("_law_slot", 8), ("_law_spots", 9)]) (N := N_l_heads) (sc := defScope (topS 49)) (by decide +kernel)) (fun _ _ _ _ _ => (tupGK (K := K) (n := 2) rfl rfl (pgs_cons (pg_name (i := 8) sc_l_heads.nd rfl (Or.inl rfl)) (pgs_cons (pg_name (i := 9) sc_l_heads.nd rfl (Or.inl rfl)) pgs_nil)))) (fun _ _ _ _ _ => pts_nil) (fun _ _ _ _ _ => (pe_ix (ixLK (K := K) rfl) (pv 1) (pv 8) (fun _ _ => rfl)))) pa_nil)))
      (pss_one (ps_expr (pe_bm PySem.F.plainAttrs_list PySem.F.slot_list_append PySem.F.type_list_append mt_append (pv 3) (pa_cons (pe_tup (pa_cons (pe_ix (ixTK (K := K) rfl) (pe_ix (ixLK (K := K) rfl) (pv 5) pe_int (fun _ _ => rfl)) pe_int (fun _ _ => rfl)) (pa_cons (pe_ix (ixTK (K := K) rfl) (pe_ix (ixLK (K := K) rfl) (pv 5) (pe_un un_neg pe_int) (fun _ _ => rfl)) pe_int (fun _ _ => rfl)) (pa_cons (pe_callB (lenK (K := K) rfl) (by rfl) T.m_len (by decide +kernel) (pa_cons (pv 5) pa_nil)) (pa_cons (pv 6) (pa_cons (pv 7) pa_nil)))))) pa_nil))))))))
      (pss_one (ps_ret (pv 3))))), ?_⟩
    have few := hN.few
    have nbl := nb_le (n := es.length) (s := s) s1
    refine ⟨Nat.zero_le _, fun D nD => ?_⟩
    have e1 := Ex.new (o := .lst []) nD
    have hD1 := upd_same (H := H) (a := D) (o := .lst [])
    generalize (upd H D (.lst [])) = H1 at e1 hD1 ⊢
    refine ⟨.ref l, rfl, l, _, rfl, .inl (SqL.of (e1 _ _ hl)), .int (s : Nat), rfl, 0, _, _, _, rfl, (by rw [hE.1]; exact rgc_of s1 (by omega) (by omega)), ?_⟩
    refine for_rangeC (lo := 0) (c := (s : Int)) (n := nb es.length s) (fun i σ' H' => ∃ (hs : List Addr) (o4 o5 o6 o7 o8 o9 : Option V), σ' = [some (.ref l), some (.ref m), some (.int (s : Nat)), some (.ref D), o4, o5, o6, o7, o8, o9] ∧ H' D = some (.lst (hs.map V.ref)) ∧ TupsA H' hs (headsE es s ls i) ∧ Ex H H')
      ⟨[], none, none, none, none, none, none, rfl, hD1, ⟨rfl, fun i ns g => nomatch g⟩, e1⟩ (fun i σ' H2 hi pv => ?_) (fun σ' H2 pv => ?_)
    · obtain ⟨hs, o4, o5, o6, o7, o8, o9, rfl, hD2, hT2, x2⟩ := pv
      refine ⟨.ref l, rfl, _, rfl, _, rfl, _, rfl, .int (s : Nat), rfl, _, _, rfl, rfl, _, rfl, l, _, rfl, SqL.of (x2 _ _ hl), fun c nc => ?_⟩
      rw [cutV_at]
      have eC := Ex.new (o := .lst ((xs.drop (i * s)).take s)) nc
      have hc := upd_same (H := H2) (a := c) (o := .lst ((xs.drop (i * s)).take s))
      generalize (upd H2 c (.lst ((xs.drop (i * s)).take s))) = H3 at eC hc ⊢
      have x3 := x2.trans eC
      have hE3 := (hE.ex x3).cut s i
      have hF3 := hF.cut s i
      have h0 := cutE_pos s1 hi
      have cl := cutE_len es s i
      have hD3 := eC _ _ hD2
      have hT3 := hT2.ex eC
      have hcx : cutE es s i = cutE es s i := rfl
      generalize hcs : (xs.drop (i * s)).take s = cs at hc hE3
      generalize hce : cutE es s i = ce at hE3 hF3 h0 cl
      have c8 : ce.length ≤ 8 := by omega
      -- most
      refine ⟨.ref c, rfl, c, rfl, ⟨_, SqL.of hc⟩, fun D1 nD1 => ?_⟩
      refine lc_list (K := K) (xs := cs) (fun k H' => Ex H3 H' ∧ H' D1 = some (.lst (nvs ((ce.take k).map fun e => e.2.length)))) ⟨Ex.new nD1, upd_same⟩ (fun k H' _ p => ex_l p.1 (SqL.of hc)) (fun k v H4 hv p => ?_) (fun H4 p => ?_)
      · obtain ⟨p1, p2⟩ := p
        obtain ⟨e, a, ge, rfl, hA⟩ := hE3.at hv
        obtain ⟨t, ha, ht⟩ := hA.ex p1
        refine ⟨a, _, rfl, SqT.of ha, rfl, _, _, rfl, _, _, rfl, rfl, rfl, .ref t, rfl, t, _, rfl, .inr (SqT.of ht), _, p2, ?_, Ex.mut p1 nD1, ?_⟩
        · rw [nvs_len, List.length_map, List.length_take]
          exact sz_lt (by omega)
        · rw [upd_same, take_up ge, List.map_append, nvs_len]
          exact congrArg (fun z => some (HO.lst z)) (nvs_snoc _ _).symm
      obtain ⟨e4, p2⟩ := p
      rw [hE3.1, List.take_length, nvs_zs] at p2
      refine ⟨D1, _, rfl, SqL.of p2, by rw [zsI_len, List.length_map]; exact h0, fun mm hmm hmx => ?_⟩
      rw [show mm = ((mostE ce : Nat) : Int) from mx_is hmm hmx]
      -- least
      have hc4 := e4 _ _ hc
      have x4 := x3.trans e4
      refine ⟨.ref c, rfl, c, rfl, ⟨_, SqL.of hc4⟩, fun D2 nD2 => ?_⟩
      refine lc_list (K := K) (xs := cs) (fun k H' => Ex H4 H' ∧ H' D2 = some (.lst (nvs ((ce.take k).map fun e => ls.getD e.1 0)))) ⟨Ex.new nD2, upd_same⟩ (fun k H' _ p => ex_l p.1 (SqL.of hc4)) (fun k v H5 hv p => ?_) (fun H5 p => ?_)
      · obtain ⟨p1, p2⟩ := p
        obtain ⟨e, a, ge, rfl, hA⟩ := hE3.at hv
        obtain ⟨t, ha, ht⟩ := hA.ex (e4.trans p1)
        have f1 := (hF3.fit e (List.mem_of_getElem? ge)).1
        have gls : (nvs ls)[e.1]? = some (.int ((ls.getD e.1 0 : Nat) : Int)) := by
          unfold nvs
          rw [List.getElem?_map, List.getElem?_eq_getElem f1, getD_at (List.getElem?_eq_getElem f1)]
          rfl
        refine ⟨a, _, rfl, SqT.of ha, rfl, _, _, rfl, _, _, rfl, rfl, rfl, .ref m, rfl, .int (e.1 : Int), rfl, m, _, _, _, rfl, rfl, SqL.of ((x4.trans p1) _ _ hm), atI_nat gls, _, p2, ?_, Ex.mut p1 nD2, ?_⟩
        · rw [nvs_len, List.length_map, List.length_take]
          exact sz_lt (by omega)
        · rw [upd_same, take_up ge, List.map_append]
          exact congrArg (fun z => some (HO.lst z)) (nvs_snoc _ _).symm
      obtain ⟨e5, p2⟩ := p
      rw [hE3.1, List.take_length, nvs_zs] at p2
      refine ⟨D2, _, rfl, SqL.of p2, by rw [zsI_len, List.length_map]; exact h0, fun mm hmm hmx => ?_⟩
      rw [show mm = ((leastE ce ls : Nat) : Int) from mn_is hmm hmx]
      -- the tuple
      have x35 := e4.trans e5
      have hc5 := x35 _ _ hc
      have hD5 := x35 _ _ hD3
      have ge0 : ce[0]? = some ce[0] := List.getElem?_eq_getElem h0
      have geL : ce[ce.length - 1]? = some (ce[ce.length - 1]'(by omega)) := List.getElem?_eq_getElem _
      obtain ⟨a0, g0, t0, ha0, _⟩ := (hE3.ex x35).2 _ _ ge0
      obtain ⟨aL, gL, tL, haL, _⟩ := (hE3.ex x35).2 _ _ geL
      refine ⟨.ref D, rfl, .inl ⟨rfl, _, SqL.of hD5⟩, .ref c, rfl, c, _, _, _, rfl, rfl, SqL.of hc5, atI_nat (j := 0) g0, a0, _, _, _, rfl, rfl, SqT.of ha0, atI_nat (j := 0) rfl, ?_⟩
      refine ⟨.ref c, rfl, 1, rfl, c, _, _, _, rfl, rfl, SqL.of hc5, atI_end (by rw [hE3.1]; exact gL), aL, _, _, _, rfl, rfl, SqT.of haL, atI_nat (j := 0) rfl, ?_⟩
      refine ⟨.ref c, rfl, c, _, rfl, .inl (SqL.of hc5), _, rfl, _, rfl, by show 5 ≤ sizeLine; decide, fun y ny => ?_⟩
      have hh : (.tup [V.int (ce[0].1 : Nat), .int ((ce[ce.length - 1]'(by omega)).1 : Nat), .int (cs.length : Nat), .int (mostE ce : Nat), .int (leastE ce ls : Nat)] : HO) = .tup (nvs (headE ce ls)) := by
        unfold headE
        rw [fst_at ge0, lst_at geL, hE3.1]
        rfl
      rw [hh]
      have e6 := Ex.new (o := .tup (nvs (headE ce ls))) ny
      have g6 := upd_same (H := H5) (a := y) (o := .tup (nvs (headE ce ls)))
      generalize (upd H5 y (.tup (nvs (headE ce ls)))) = H6 at e6 g6 ⊢
      have hD6 := e6 _ _ hD5
      refine ⟨D, _, _, rfl, rfl, hD6, ?_, hs ++ [y], _, _, _, _, o8, o9, rfl, ?_, ?_, Ex.mut ((x4.trans e5).trans e6) nD⟩
      · rw [List.length_map, hT2.1]
        unfold headsE
        rw [List.length_map, List.length_range]
        exact sz_lt (by omega)
      · rw [upd_same, List.map_append]
        rfl
      · have e7 : headsE es s ls (i + 1) = headsE es s ls i ++ [headE ce ls] := by
          unfold headsE
          rw [List.range_succ, List.map_append, ← hce]
          rfl
        rw [e7]
        exact ((hT3.ex (x35.trans e6)).updL hD6).snoc (by rw [upd_ne (ne_of g6 hD6 (by intro z; cases z))]; exact g6)
    · obtain ⟨hs, o4, o5, o6, o7, o8, o9, rfl, hD2, hT2, x2⟩ := pv
      exact ⟨.ref D, rfl, q D hs H2 nD x2 hD2 hT2⟩

/-! ### Row(..) -/
theorem kb_row (T : TX K mg A FD TK) : KBn K (FD 56) ["self", "word", "entries", "lengths", "size"] 4 ["size"] (fun us ws => us ++ ws) (fun vs zs => vs ++ zs) := by
  obtain ⟨oc, od, dV, kV, doc, pm, an, cdv, ct, osl, e, lk, hcd, hD, hK⟩ := T.f_Row_init.ex
  rcases hD with ⟨_, rfl⟩ | ⟨e', _⟩
  · rw [e]
    rcases hK with e' | ⟨D, rfl, _⟩
    · cases e'
    · exact ⟨fun s us ws _ l1 l2 => match us, ws, l1, l2 with | [_, _, _, _], [_], _, _ => .of_eq rfl, fun r1 r2 => r1.append r2⟩
  · exact absurd rfl e'
theorem bd_row (T : TX K mg A FD TK) : ∃ ds, Vals [V.int 4] ds ∧ Binds K (FD 56) ["self", "word", "entries", "lengths", "size"] ds :=
  T.f_Row_init.binds0 4 (by simp) rfl fun D doc pm an cdv ct us ks l1 l2 => match us, ks, l1, l2 with
    | [_, _, _, _], [_], _, _ => ⟨_, _, _, _, _, _, rfl, rfl, rfl⟩
/-- the row is made -/
theorem mk_row {CR CB : Addr} {H : Hp} {x dx l m : Addr} {xs : List V} {z : Str} {s : Nat} {es : List En} {ls : List Nat} {R : Hp → Prop} {E : XK} (nx : H x = none) (nd : H dx = none) (hl : H l = some (.lst xs)) (hE : EnsA H xs es) (hm : H m = some (.lst (nvs ls))) (hR : RowIs z s es ls) (q : ∀ H', Ex H H' → RowAt CR CB H' x z s es ls → R H') :
    spRIn CR CB [.ref x, .str z, .ref l, .ref m, .int (s : Nat)] (upd (upd H dx (.own x)) x (.ins CR dx [])) (fun v H2 => v = .non ∧ R H2) E := by
  have e := ex2 (o := .own x) (u := .ins CR dx []) nx nd
  exact ⟨x, dx, l, m, xs, z, s, es, ls, rfl, upd_same, e _ _ hl, hE.ex e, e _ _ hm, hR, fun H' t bs i h1 h2 h3 => ⟨rfl, q H' (ExI.new nx nd i) ⟨dx, t, bs, h1, h2, h3⟩⟩⟩
theorem BlksAt.updL {CB D : Addr} {H : Hp} {bs : List Addr} {s : Nat} {es : List En} {ls : List Nat} {xs : List V} {o : HO} (h : BlksAt CB H bs s es ls) (hD : H D = some (.lst xs)) : BlksAt CB (upd H D o) bs s es ls := ⟨h.1, fun i b g => (h.2 i b g).updL hD⟩
theorem RowAt.updL {CR CB D : Addr} {H : Hp} {r : Addr} {z : Str} {s : Nat} {es : List En} {ls : List Nat} {xs : List V} {o : HO} (h : RowAt CR CB H r z s es ls) (hD : H D = some (.lst xs)) : RowAt CR CB (upd H D o) r z s es ls := by
  obtain ⟨dx, t, bs, h1, h2, h3⟩ := h
  exact ⟨dx, t, bs, by rw [upd_ne (ne_of h1 hD (by intro z; cases z))]; exact h1, by rw [upd_ne (ne_of h2 hD (by intro z; cases z))]; exact h2, h3.updL hD⟩
theorem EnsL.row {es : List En} {ls : List Nat} {z : Str} {s : Nat} (h : EnsL es) (f : Fit es ls) (hz : isW z = true) (h1 : 1 ≤ s) (h8 : s ≤ 8) : RowIs z s es ls := ⟨hz, h1, h8, h.ens, f⟩

/-! ### codes of unlike entries are unlike; equality of data -/
theorem codeN_inj : ∀ (n m : Nat) (r q : List Nat), codeN n ++ r = codeN m ++ q → n = m ∧ r = q := by
  intro n
  induction n using Nat.strongRecOn with
  | ind n ih =>
    intro m r q h
    by_cases hn : n < 16
    · by_cases hm : m < 16
      · rw [codeN_low hn, codeN_low hm] at h
        obtain ⟨a, b⟩ := List.cons.inj h
        exact ⟨by omega, b⟩
      · rw [codeN_low hn, codeN_up hm] at h
        have := (List.cons.inj h).1
        omega
    · by_cases hm : m < 16
      · rw [codeN_up hn, codeN_low hm] at h
        have := (List.cons.inj h).1
        omega
      · rw [codeN_up hn, codeN_up hm] at h
        obtain ⟨a, b⟩ := List.cons.inj h
        obtain ⟨c, d⟩ := ih (n / 16) (by omega) (m / 16) r q b
        exact ⟨by omega, d⟩
theorem codeL_inj : ∀ (xs ys : List Nat) (r q : List Nat), xs.length = ys.length → codeL xs ++ r = codeL ys ++ q → xs = ys ∧ r = q
  | [], [], r, q, _, h => ⟨rfl, h⟩
  | x :: xs, y :: ys, r, q, hl, h => by
    have h' : codeN x ++ (codeL xs ++ r) = codeN y ++ (codeL ys ++ q) := by
      have e : ∀ (z : Nat) (zs t : List Nat), codeL (z :: zs) ++ t = codeN z ++ (codeL zs ++ t) := fun z zs t => by
        unfold codeL
        rw [List.map_cons, List.flatten_cons, List.append_assoc]
      rw [← e, ← e]
      exact h
    obtain ⟨a, b⟩ := codeN_inj x y _ _ h'
    obtain ⟨c, d⟩ := codeL_inj xs ys r q (by simpa using hl) b
    exact ⟨by rw [a, c], d⟩
  | [], _ :: _, _, _, hl, _ => by simp at hl
  | _ :: _, [], _, _, hl, _ => by simp at hl
theorem gapsL_inj {xs ys : List Nat} (hx : Ris xs) (hy : Ris ys) (hl : xs.length = ys.length) (h : gapsL xs = gapsL ys) : xs = ys := by
  have g : ∀ i, i < xs.length → gapI xs i = gapI ys i := fun i hi => by
    have e : (gapsL xs)[i]? = (gapsL ys)[i]? := by rw [h]
    unfold gapsL at e
    rw [List.getElem?_map, List.getElem?_map, List.getElem?_range hi, List.getElem?_range (by omega)] at e
    exact Option.some.inj e
  have key : ∀ i, i ≤ xs.length → ah xs i = ah ys i := by
    intro i
    induction i with
    | zero => intro _; rfl
    | succ i ih =>
      intro hi
      have hxi : xs[i]? = some (xs[i]'(by omega)) := List.getElem?_eq_getElem _
      have hyi : ys[i]? = some (ys[i]'(by omega)) := List.getElem?_eq_getElem _
      have a := gap_is hx hxi
      have b := gap_is hy hyi
      have c := g i (by omega)
      have d := ih (by omega)
      show ((xs.getD i 0 : Nat) : Int) = ((ys.getD i 0 : Nat) : Int)
      rw [getD_at hxi, getD_at hyi]
      omega
  apply List.ext_getElem hl
  intro i h1 h2
  have := key (i + 1) h1
  have e : ((xs.getD i 0 : Nat) : Int) = ((ys.getD i 0 : Nat) : Int) := this
  rw [getD_at (List.getElem?_eq_getElem h1), getD_at (List.getElem?_eq_getElem h2)] at e
  omega
theorem restE_inj : ∀ (es fs : List En) (r q : List Nat), es.length = fs.length → (∀ e ∈ es, EnOk e) → (∀ e ∈ fs, EnOk e) → restE es ++ r = restE fs ++ q → es.map (·.2) = fs.map (·.2) ∧ r = q
  | [], [], r, q, _, _, _, h => ⟨rfl, h⟩
  | e :: es, f :: fs, r, q, hl, he, hf, h => by
    rw [restE_cons, restE_cons, List.append_assoc, List.append_assoc, List.append_assoc, List.append_assoc] at h
    obtain ⟨a, b⟩ := codeN_inj _ _ _ _ h
    have e0 := he e List.mem_cons_self
    have f0 := hf f List.mem_cons_self
    have p1 := e0.some
    have p2 := f0.some
    have l2 : e.2.length = f.2.length := by omega
    obtain ⟨c, d⟩ := codeL_inj _ _ _ _ (by rw [gapsL_len, gapsL_len]; exact l2) b
    have k := gapsL_inj e0.ris f0.ris l2 c
    obtain ⟨u, v⟩ := restE_inj es fs r q (by simpa using hl) (fun x hx => he x (List.mem_cons_of_mem _ hx)) (fun x hx => hf x (List.mem_cons_of_mem _ hx)) d
    exact ⟨by rw [List.map_cons, List.map_cons, k, u], v⟩
  | [], _ :: _, _, _, hl, _, _, _ => by simp at hl
  | _ :: _, [], _, _, hl, _, _, _ => by simp at hl
theorem pairs_eq : ∀ {es fs : List En}, es.map (·.1) = fs.map (·.1) → es.map (·.2) = fs.map (·.2) → es = fs
  | [], [], _, _ => rfl
  | e :: es, f :: fs, h, k => by
    rw [List.map_cons, List.map_cons] at h k
    obtain ⟨a, b⟩ := List.cons.inj h
    obtain ⟨c, d⟩ := List.cons.inj k
    rw [show e = f from Prod.ext a c, pairs_eq b d]
  | [], _ :: _, h, _ => by simp at h
  | _ :: _, [], h, _ => by simp at h
theorem codeE_inj {es fs : List En} (he : Ens es) (hf : Ens fs) (h : (codeE es).flatten = (codeE fs).flatten) : es = fs := by
  rw [codeE_flat, codeE_flat] at h
  obtain ⟨a, b⟩ := codeN_inj _ _ _ _ h
  have ls : (slots es).length = (slots fs).length := by
    unfold slots
    rw [List.length_map, List.length_map]
    exact a
  obtain ⟨c, d⟩ := codeL_inj _ _ _ _ (by rw [gapsL_len, gapsL_len]; exact ls) b
  have k := gapsL_inj he.ris hf.ris ls c
  rw [← List.append_nil (restE es), ← List.append_nil (restE fs)] at d
  exact pairs_eq k (restE_inj es fs [] [] a he.ok hf.ok d).1
/-! ### data of numbers, texts, lists and tuples: equal only where alike -/
mutual
def plnD : PyData → Bool
  | .int _ => true
  | .str _ => true
  | .list xs => plnL xs
  | .tuple xs => plnL xs
  | .none => false
  | .bool _ => false
  | .dict _ => false
def plnL : List PyData → Bool
  | [] => true
  | x :: xs => plnD x && plnL xs
end
mutual
theorem eqv_pln : ∀ d e : PyData, plnD d = true → plnD e = true → PyData.eqv d e = true → d = e
  | .int i, e, _, he, h => by
    cases e with
    | int j =>
      rw [PyData.eqv] at h
      rw [beq_iff_eq.mp h]
    | bool _ => rw [plnD] at he; cases he
    | none => rw [plnD] at he; cases he
    | str _ => rw [PyData.eqv] at h; cases h
    | list _ => rw [PyData.eqv] at h; cases h
    | tuple _ => rw [PyData.eqv] at h; cases h
    | dict _ => rw [PyData.eqv] at h; cases h
  | .str x, e, _, he, h => by
    cases e with
    | str y =>
      rw [PyData.eqv] at h
      rw [beq_iff_eq.mp h]
    | bool _ => rw [plnD] at he; cases he
    | none => rw [plnD] at he; cases he
    | int _ => rw [PyData.eqv] at h; cases h
    | list _ => rw [PyData.eqv] at h; cases h
    | tuple _ => rw [PyData.eqv] at h; cases h
    | dict _ => rw [PyData.eqv] at h; cases h
  | .list xs, e, hd, he, h => by
    cases e with
    | list ys =>
      rw [PyData.eqv] at h
      rw [plnD] at hd he
      rw [eqv_plnL xs ys hd he h]
    | bool _ => rw [plnD] at he; cases he
    | none => rw [plnD] at he; cases he
    | int _ => rw [PyData.eqv] at h; cases h
    | str _ => rw [PyData.eqv] at h; cases h
    | tuple _ => rw [PyData.eqv] at h; cases h
    | dict _ => rw [PyData.eqv] at h; cases h
  | .tuple xs, e, hd, he, h => by
    cases e with
    | tuple ys =>
      rw [PyData.eqv] at h
      rw [plnD] at hd he
      rw [eqv_plnL xs ys hd he h]
    | bool _ => rw [plnD] at he; cases he
    | none => rw [plnD] at he; cases he
    | int _ => rw [PyData.eqv] at h; cases h
    | str _ => rw [PyData.eqv] at h; cases h
    | list _ => rw [PyData.eqv] at h; cases h
    | dict _ => rw [PyData.eqv] at h; cases h
  | .none, _, hd, _, _ => by rw [plnD] at hd; cases hd
  | .bool _, _, hd, _, _ => by rw [plnD] at hd; cases hd
  | .dict _, _, hd, _, _ => by rw [plnD] at hd; cases hd
theorem eqv_plnL : ∀ xs ys : List PyData, plnL xs = true → plnL ys = true → PyData.eqvAll xs ys = true → xs = ys
  | [], [], _, _, _ => rfl
  | x :: xs, y :: ys, hx, hy, h => by
    rw [PyData.eqvAll, Bool.and_eq_true] at h
    rw [plnL, Bool.and_eq_true] at hx hy
    rw [eqv_pln x y hx.1 hy.1 h.1, eqv_plnL xs ys hx.2 hy.2 h.2]
  | [], _ :: _, _, _, h => by rw [PyData.eqvAll] at h; cases h
  | _ :: _, [], _, _, h => by rw [PyData.eqvAll] at h; cases h
end
theorem plnL_map {α : Type} {f : α → PyData} (h : ∀ a, plnD (f a) = true) : ∀ as : List α, plnL (as.map f) = true
  | [] => rfl
  | a :: as => by rw [List.map_cons, plnL, h a, plnL_map h as]; rfl
theorem pln_dV (ns : List Nat) : plnL (dV ns) = true := plnL_map (fun _ => rfl) ns
theorem pln_dE (e : En) : plnD (dE e) = true := by
  unfold dE
  rw [plnD, plnL, plnL, plnL, plnD, plnD, pln_dV]
  rfl
theorem pln_dEs (es : List En) : plnL (dEs es) = true := plnL_map pln_dE es
theorem pln_dTs (nss : List (List Nat)) : plnL (dTs nss) = true := plnL_map (fun ns => by rw [plnD]; exact pln_dV ns) nss
theorem map_inj {α β : Type} {f : α → β} (h : ∀ a b, f a = f b → a = b) : ∀ {as bs : List α}, as.map f = bs.map f → as = bs
  | [], [], _ => rfl
  | a :: as, b :: bs, e => by
    rw [List.map_cons, List.map_cons] at e
    obtain ⟨p, q⟩ := List.cons.inj e
    rw [h a b p, map_inj h q]
  | [], _ :: _, e => by simp at e
  | _ :: _, [], e => by simp at e
theorem dV_inj {ns ms : List Nat} (h : dV ns = dV ms) : ns = ms := map_inj (fun a b e => by have := PyData.int.inj e; omega) h
theorem dE_inj {e f : En} (h : dE e = dE f) : e = f := by
  unfold dE at h
  have h1 := PyData.tuple.inj h
  obtain ⟨a, b⟩ := List.cons.inj h1
  obtain ⟨c, _⟩ := List.cons.inj b
  have := PyData.int.inj a
  exact Prod.ext (by omega) (dV_inj (PyData.tuple.inj c))
theorem dEs_inj {es fs : List En} (h : dEs es = dEs fs) : es = fs := map_inj (fun _ _ => dE_inj) h
theorem dTs_inj {a b : List (List Nat)} (h : dTs a = dTs b) : a = b := map_inj (fun x y e => dV_inj (PyData.tuple.inj e)) h

/-! ### Block.head, Block ==, Row == -/
theorem shTd (ns : List Nat) : SeqAt.shaped (.tuple (dV ns)) = true := by
  unfold SeqAt.shaped
  rw [(shT ns).1, Bool.true_and]
  have := (shT ns).2
  exact decide_eq_true (by omega)
def spHd (CB : Addr) : Sp := fun vs H Q _ => ∃ (b : Addr) (es : List En) (ls : List Nat), vs = [.ref b] ∧ BlkAt CB H b es ls ∧ ∀ (t : Addr) (H' : Hp), H t = none → Ex H H' → H' t = some (.tup (nvs (headE es ls))) → Q (.ref t) H'
set_option maxHeartbeats 4000000 in
theorem ok_bhead (T : TX K mg A FD TK) : FnOk P w K mg base CX0 1 (A 55) (FD 55) ["self"] (spHd (A 38)) := by
  refine T.f_Block_head.ok sc_Block_head (fun vs H Q E h => ?_) (fun cdv A' outer s H vs Q E hr h => ?_)
  · obtain ⟨b, es, ls, rfl, _⟩ := h
    rfl
  · obtain ⟨b, es, ls, rfl, ⟨dx, hb⟩, q⟩ := h
    refine ⟨_, (pss_one (ps_ret (pe_tup (pa_cons (fldK (K := K) rfl (pv 0) rfl) (pa_cons (fldK (K := K) rfl (pv 0) rfl) (pa_cons (fldK (K := K) rfl (pv 0) rfl) (pa_cons (fldK (K := K) rfl (pv 0) rfl) (pa_cons (fldK (K := K) rfl (pv 0) rfl) pa_nil)))))))), ?_⟩
    refine ⟨.ref b, rfl, b, _, dx, _, _, rfl, hb, T.cl_Block, T.n_Block_first, rfl, .ref b, rfl, b, _, dx, _, _, rfl, hb, T.cl_Block, T.n_Block_last, rfl, .ref b, rfl, b, _, dx, _, _, rfl, hb, T.cl_Block, T.n_Block_many, rfl, .ref b, rfl, b, _, dx, _, _, rfl, hb, T.cl_Block, T.n_Block_most, rfl, .ref b, rfl, b, _, dx, _, _, rfl, hb, T.cl_Block, T.n_Block_least, rfl, by show 5 ≤ sizeLine; decide, fun t nt => ?_⟩
    exact q t _ nt (Ex.new nt) upd_same
/-- the answer of a block's == -/
def blkEq (es : List En) (ls : List Nat) (fs : List En) (ks : List Nat) : Bool := PyData.eqv (.tuple (dV (headE es ls))) (.tuple (dV (headE fs ks))) && decide (V.str (txt (codeE es).flatten) = V.str (txt (codeE fs).flatten))
def BEqR (CB : Addr) (a b : Addr) (r : Bool) (H : Hp) : Prop := ∃ es ls fs ks, BlkAt CB H a es ls ∧ BlkAt CB H b fs ks ∧ r = blkEq es ls fs ks
/-- a thing of another class -/
def Else (K : PySem.W.Frag) (C : Addr) (H : Hp) (y : V) : Prop := ∃ τ, TyX K H y τ ∧ PySem.W.kitOne K τ (.ref C) = some false
def spBEq (K : PySem.W.Frag) (CB : Addr) : Sp := fun vs H Q _ => ∃ (a : Addr) (es : List En) (ls : List Nat) (y : V), vs = [.ref a, y] ∧ BlkAt CB H a es ls ∧ ((∃ b fs ks, y = .ref b ∧ BlkAt CB H b fs ks ∧ ∀ H', Ex H H' → Q (.bl (blkEq es ls fs ks)) H') ∨ (Else K CB H y ∧ Q (.bl false) H))
theorem blkSays {K : PySem.W.Frag} {CB : Addr} : OwnT.Says (BEqR CB) (spBEq K CB) := fun H a b r Q E h q => by
  obtain ⟨es, ls, fs, ks, h1, h2, rfl⟩ := h
  exact ⟨a, es, ls, .ref b, rfl, h1, .inl ⟨b, fs, ks, rfl, h2, q⟩⟩
theorem blkKeeps {CB : Addr} : OwnT.Keeps (BEqR CB) := fun H H' a b r e h => by
  obtain ⟨es, ls, fs, ks, h1, h2, rfl⟩ := h
  exact ⟨es, ls, fs, ks, h1.ex e, h2.ex e, rfl⟩
set_option maxHeartbeats 8000000 in
theorem ok_beq (T : TX K mg A FD TK) : FnOk P w K mg base CX0 2 (A 54) (FD 54) ["self", "other"] (spBEq K (A 38)) := by
  have G_Block_head := ok_bhead (P := P) (w := w) (base := base) T
  refine T.f_Block_eq.ok (k := 1) sc_Block_eq (fun vs H Q E h => ?_) (fun cdv A' outer s H vs Q E hr h => ?_)
  · obtain ⟨a, es, ls, y, rfl, _⟩ := h
    rfl
  · obtain ⟨a, es, ls, y, rfl, hA, hy⟩ := h
    obtain ⟨da, ha⟩ := id hA
    refine ⟨_, (pss_one (ps_ret (pe_and (pe_callB (isiK (K := K) rfl) (by rfl) T.m_isinstance (by decide +kernel) (pa_cons (pv 1) (pa_cons (pe_glob (v := .ref (A 38)) (by rfl) T.k_Block rfl) pa_nil))) (pe_and (pe_cmpR (eqDK (K := K) rfl hr.units) (pe_meth0 (pv 0) T.cl_Block T.M_Block_head G_Block_head hr T.b_Block_head .nil pass0) (pe_meth0 (pv 1) T.cl_Block T.M_Block_head G_Block_head hr T.b_Block_head .nil pass0) (nomark _)) (pe_one (pe_cmpR op_eq (fldK (K := K) rfl (pv 0) rfl) (fldK (K := K) rfl (pv 1) rfl) (nomark _))))))), ?_⟩
    rcases hy with ⟨b, fs, ks, rfl, hB, q⟩ | ⟨⟨τ, ht, hk⟩, q⟩
    · obtain ⟨db, hb⟩ := id hB
      refine ⟨.ref b, rfl, .ref b, .ref (A 38), _, .ref (A 38), true, rfl, .own _, .base (.ins hb T.cl_Block T.ciB T.cs T.ct T.moB), T.kB, true, rfl, ?_⟩
      refine ⟨.ref a, rfl, a, da, _, rfl, ha, rfl, a, es, ls, rfl, hA, fun t H1 nt e1 gt => ?_⟩
      refine ⟨.ref b, rfl, b, db, _, rfl, e1 _ _ hb, rfl, b, fs, ks, rfl, hB.ex e1, fun u H2 nu e2 gu => ?_⟩
      have e12 := e1.trans e2
      have q2 := q H2 e12
      unfold blkEq at q2
      refine ⟨.tuple (dV (headE es ls)), .tuple (dV (headE fs ks)), .tup (SqT.of (e2 _ _ gt)) (dpV _), .tup (SqT.of gu) (dpV _), shTd _, shTd _, _, rfl, ite2 (fun c => ?_) (fun c => ?_)⟩
      · rw [c, Bool.true_and] at q2
        exact ⟨.ref a, rfl, a, _, da, _, _, rfl, e12 _ _ ha, T.cl_Block, T.n_Block_coded, rfl, .ref b, rfl, b, _, db, _, _, rfl, e12 _ _ hb, T.cl_Block, T.n_Block_coded, rfl, rfl, q2⟩
      · have c' : PyData.eqv (.tuple (dV (headE es ls))) (.tuple (dV (headE fs ks))) = false := by
          cases h : PyData.eqv (.tuple (dV (headE es ls))) (.tuple (dV (headE fs ks))) with
          | true => exact absurd h c
          | false => rfl
        rw [c', Bool.false_and] at q2
        exact q2
    · exact ⟨y, rfl, y, .ref (A 38), _, .ref (A 38), false, rfl, .own _, ht, hk, false, rfl, q⟩
/-- the answer of a row's == -/
def rowEq (z : Str) (s : Nat) (es : List En) (ls : List Nat) (z' : Str) (s' : Nat) (es' : List En) (ls' : List Nat) : Bool := decide (V.str z = V.str z') && (decide (V.int (s : Int) = V.int (s' : Int)) && OwnT.ans (fun i => blkEq (cutE es s i) ls (cutE es' s' i) ls') (nb es.length s) (nb es'.length s'))
def REqR (CR CB : Addr) (a b : Addr) (r : Bool) (H : Hp) : Prop := ∃ z s es ls z' s' es' ls', RowAt CR CB H a z s es ls ∧ RowAt CR CB H b z' s' es' ls' ∧ r = rowEq z s es ls z' s' es' ls'
def spREq (K : PySem.W.Frag) (CR CB : Addr) : Sp := fun vs H Q _ => ∃ (a : Addr) (z : Str) (s : Nat) (es : List En) (ls : List Nat) (y : V), vs = [.ref a, y] ∧ RowAt CR CB H a z s es ls ∧ ((∃ b z' s' es' ls', y = .ref b ∧ RowAt CR CB H b z' s' es' ls' ∧ ∀ H', Ex H H' → Q (.bl (rowEq z s es ls z' s' es' ls')) H') ∨ (Else K CR H y ∧ Q (.bl false) H))
theorem rowSays {K : PySem.W.Frag} {CR CB : Addr} : OwnT.Says (REqR CR CB) (spREq K CR CB) := fun H a b r Q E h q => by
  obtain ⟨z, s, es, ls, z', s', es', ls', h1, h2, rfl⟩ := h
  exact ⟨a, z, s, es, ls, .ref b, rfl, h1, .inl ⟨b, z', s', es', ls', rfl, h2, q⟩⟩
theorem rowKeeps {CR CB : Addr} : OwnT.Keeps (REqR CR CB) := fun H H' a b r e h => by
  obtain ⟨z, s, es, ls, z', s', es', ls', h1, h2, rfl⟩ := h
  exact ⟨z, s, es, ls, z', s', es', ls', h1.ex e, h2.ex e, rfl⟩
theorem blkF_same {es fs : List En} {ls ks : List Nat} (h : blkF es ls = blkF fs ks) : blkEq es ls fs ks = true := by
  unfold blkF at h
  simp only [List.cons.injEq, Prod.mk.injEq, true_and, and_true] at h
  obtain ⟨h1, h2, h3, h4, h5, h6⟩ := h
  have f1 := V.int.inj h1
  have f2 := V.int.inj h2
  have f3 := V.int.inj h3
  have f4 := V.int.inj h4
  have f5 := V.int.inj h5
  have e : headE es ls = headE fs ks := by
    unfold headE
    rw [show fstE es = fstE fs by omega, show lstE es = lstE fs by omega, show es.length = fs.length by omega, show mostE es = mostE fs by omega, show leastE es ls = leastE fs ks by omega]
  unfold blkEq
  rw [e, eqv_self (shTd _), h6, decide_eq_true rfl]
  rfl
theorem BlkAt.same {CB : Addr} {H : Hp} {a : Addr} {es fs : List En} {ls ks : List Nat} (h : BlkAt CB H a es ls) (k : BlkAt CB H a fs ks) : blkEq es ls fs ks = true := by
  obtain ⟨d, h⟩ := h
  obtain ⟨e, k⟩ := k
  rw [h] at k
  exact blkF_same (HO.ins.inj (Option.some.inj k)).2.2
theorem blk_db {CB : Addr} {H : Hp} {a b : Addr} {es fs : List En} {ls ks : List Nat} (h : BlkAt CB H a es ls) (k : BlkAt CB H b fs ks) : OwnS.DB CB (BEqR CB) H (.ref a) (.ref b) (blkEq es ls fs ks) := by
  obtain ⟨d, h1⟩ := id h
  obtain ⟨e, k1⟩ := id k
  exact ⟨a, b, d, e, _, _, rfl, rfl, h1, k1, ⟨es, ls, fs, ks, h, k, rfl⟩, fun z => by subst z; exact h.same k⟩
theorem blks_db {CB : Addr} {H : Hp} {bs cs : List Addr} {s s' : Nat} {es es' : List En} {ls ls' : List Nat} (h : BlksAt CB H bs s es ls) (k : BlksAt CB H cs s' es' ls') (i : Nat) (p q : V) (gp : (bs.map V.ref)[i]? = some p) (gq : (cs.map V.ref)[i]? = some q) :
    OwnS.DB CB (BEqR CB) H p q (blkEq (cutE es s i) ls (cutE es' s' i) ls') := by
  obtain ⟨b, gb, rfl, _⟩ := refs_at gp
  obtain ⟨c, gc, rfl, _⟩ := refs_at gq
  exact blk_db (h.2 i b gb) (k.2 i c gc)
set_option maxHeartbeats 8000000 in
theorem ok_req (T : TX K mg A FD TK) : FnOk P w K mg base CX0 4 (A 57) (FD 57) ["self", "other"] (spREq K (A 39) (A 38)) := by
  have G_Block_eq := ok_beq (P := P) (w := w) (base := base) T
  refine T.f_Row_eq.ok (k := 3) sc_Row_eq (fun vs H Q E h => ?_) (fun cdv A' outer s H vs Q E hr h => ?_)
  · obtain ⟨a, z, s, es, ls, y, rfl, _⟩ := h
    rfl
  · obtain ⟨a, z, s, es, ls, y, rfl, hA, hy⟩ := h
    obtain ⟨da, ta, bs, ha, hta, hbs⟩ := id hA
    refine ⟨_, (pss_cons (ps_if (pt_not (pt_val (pe_callB (isiK (K := K) rfl) (by rfl) T.m_isinstance (by decide +kernel) (pa_cons (pv 1) (pa_cons (pe_glob (v := .ref (A 39)) (by rfl) T.k_Row rfl) pa_nil)))))
      (pss_one (ps_ret pe_bl))
      pss_nil)
      (pss_one (ps_ret (pe_and (pe_cmpR op_eq (fldK (K := K) rfl (pv 0) rfl) (fldK (K := K) rfl (pv 1) rfl) (nomark _)) (pe_and (pe_cmpR op_eq (fldK (K := K) rfl (pv 0) rfl) (fldK (K := K) rfl (pv 1) rfl) (nomark _)) (pe_one (pe_cmpR (OwnT.op_eqT (R := BEqR (A 38)) blkSays blkKeeps G_Block_eq T.M_Block_eq T.b_Block_eq pass0 hr) (fldK (K := K) rfl (pv 0) rfl) (fldK (K := K) rfl (pv 1) rfl) (nomark _)))))))), ?_⟩
    rcases hy with ⟨b, z', s', es', ls', rfl, hB, q⟩ | ⟨⟨τ, ht, hk⟩, q⟩
    · obtain ⟨db, tb, cs, hb, htb, hcs⟩ := id hB
      refine ⟨.ref b, rfl, .ref b, .ref (A 39), _, .ref (A 39), true, rfl, .own _, .base (.ins hb T.cl_Row T.ciR T.cs T.ct T.moR), T.kR, true, rfl, ite2 (fun c => absurd c (by decide)) (fun _ => ?_)⟩
      have q0 := q H (Ex.refl H)
      unfold rowEq at q q0
      refine ⟨.ref a, rfl, a, _, da, _, _, rfl, ha, T.cl_Row, T.n_Row_word, rfl, .ref b, rfl, b, _, db, _, _, rfl, hb, T.cl_Row, T.n_Row_word, rfl, rfl, _, rfl, ite2 (fun c => ?_) (fun c => ?_)⟩
      · rw [c] at q q0
        refine ⟨.ref a, rfl, a, _, da, _, _, rfl, ha, T.cl_Row, T.n_Row_size, rfl, .ref b, rfl, b, _, db, _, _, rfl, hb, T.cl_Row, T.n_Row_size, rfl, rfl, _, rfl, ite2 (fun c => ?_) (fun c => ?_)⟩
        · rw [c] at q
          refine ⟨.ref a, rfl, a, _, da, _, _, rfl, ha, T.cl_Row, T.n_Row_cut, rfl, .ref b, rfl, b, _, db, _, _, rfl, hb, T.cl_Row, T.n_Row_cut, rfl, ta, tb, bs.map V.ref, cs.map V.ref, fun i => blkEq (cutE es s i) ls (cutE es' s' i) ls', rfl, rfl, hta, htb, fun i p q gp gq => blks_db hbs hcs i p q gp gq, fun H' e => ?_⟩
          rw [List.length_map, List.length_map, hbs.1, hcs.1]
          exact q H' e
        · have c' := Bool.eq_false_iff.mpr c
          rw [c'] at q0
          exact q0
      · have c' := Bool.eq_false_iff.mpr c
        rw [c'] at q0
        exact q0
    · exact ⟨y, rfl, y, .ref (A 39), _, .ref (A 39), false, rfl, .own _, ht, hk, false, rfl, ite2 (fun _ => q) (fun c => absurd rfl c)⟩

/-! ### _law_are -/
def spAre (CR CB : Addr) : Sp := fun vs H Q _ => ∃ (a b : Addr) (due : Bool), vs = [.ref a, .ref b, .bl due] ∧ ((OwnS.DB CR (REqR CR CB) H (.ref a) (.ref b) due ∧ OwnS.DB CR (REqR CR CB) H (.ref b) (.ref a) due) ∨ (OwnS.DB CB (BEqR CB) H (.ref a) (.ref b) due ∧ OwnS.DB CB (BEqR CB) H (.ref b) (.ref a) due)) ∧ ∀ H', Ex H H' → Q (.bl true) H'
theorem one_get {v q : V} {i : Nat} (h : [v][i]? = some q) : q = v := by
  cases i with
  | zero => cases h; rfl
  | succ i => simp at h
set_option maxHeartbeats 16000000 in
theorem ok_l_are (T : TX K mg A FD TK) : FnOk P w K mg base CX0 9 (A 50) (FD 50) ["_law_one", "_law_other", "_law_due"] (spAre (A 39) (A 38)) := by
  have G_Row_eq := (ok_req (P := P) (w := w) (base := base) T).mono (show 4 ≤ 8 by decide)
  have G_Block_eq := (ok_beq (P := P) (w := w) (base := base) T).mono (show 2 ≤ 8 by decide)
  have G_Row_eq7 := (ok_req (P := P) (w := w) (base := base) T).mono (show 4 ≤ 7 by decide)
  have G_Block_eq7 := (ok_beq (P := P) (w := w) (base := base) T).mono (show 2 ≤ 7 by decide)
  refine T.f_l_are.ok (k := 8) sc_l_are (fun vs H Q E h => ?_) (fun cdv A' outer s H vs Q E hr h => ?_)
  · obtain ⟨a, b, due, rfl, _⟩ := h
    rfl
  · obtain ⟨a, b, due, rfl, D, q⟩ := h
    refine ⟨_, (pss_cut (ps_set (i := 3) sc_l_are.nd rfl (.inl rfl) (pe_lst (pa_cons (pe_cmpR (OwnT.op_or (Own.op_eqO G_Row_eq T.M_Row_eq T.b_Row_eq pass0 hr (K := K) rfl) (Own.op_eqO G_Block_eq T.M_Block_eq T.b_Block_eq pass0 hr (K := K) rfl)) (pv 0) (pv 1) (nomark _)) (pa_cons (pe_cmpR (OwnT.op_or (Own.op_eqO G_Row_eq T.M_Row_eq T.b_Row_eq pass0 hr (K := K) rfl) (Own.op_eqO G_Block_eq T.M_Block_eq T.b_Block_eq pass0 hr (K := K) rfl)) (pv 1) (pv 0) (nomark _)) (pa_cons (pe_not (pe_cmpR (OwnT.op_or (Own.op_neO G_Row_eq7 T.M_Row_eq T.b_Row_eq pass0 hr T.neR T.moR (K := K) rfl) (Own.op_neO G_Block_eq7 T.M_Block_eq T.b_Block_eq pass0 hr T.neB T.moB (K := K) rfl)) (pv 0) (pv 1) (nomark _))) (pa_cons (pe_cmpR (OwnT.op_or (OwnT.op_eqL (R := REqR (A 39) (A 38)) rowSays rowKeeps G_Row_eq7 T.M_Row_eq T.b_Row_eq pass0 hr) (OwnT.op_eqL (R := BEqR (A 38)) blkSays blkKeeps G_Block_eq7 T.M_Block_eq T.b_Block_eq pass0 hr)) (pe_lst (pa_cons (pv 0) pa_nil)) (pe_lst (pa_cons (pv 1) pa_nil)) (nomark _)) (pa_cons (pe_cmpR (OwnT.op_or (OwnT.op_inL (R := REqR (A 39) (A 38)) rowSays rowKeeps G_Row_eq7 T.M_Row_eq T.b_Row_eq pass0 hr) (OwnT.op_inL (R := BEqR (A 38)) blkSays blkKeeps G_Block_eq7 T.M_Block_eq T.b_Block_eq pass0 hr)) (pv 1) (pe_lst (pa_cons (pv 0) pa_nil)) (by rfl)) pa_nil)))))))
      (pss_one (ps_ret (pe_and (pe_cmpR (eqDK (K := K) rfl hr.units) (pv 3) (pe_op op_rep (pe_lst (pa_cons (pv 2) pa_nil)) pe_int) (nomark _)) (pe_one (pe_callB (allK (K := K) rfl rfl) (by rfl) T.m_all (by decide +kernel) (pa_cons (pe_lc (own := [("_law_answer", 4)])  rfl sc_l_are.nd (piLK (K := K) rfl (pv 3)) (blkOk_by (own := [("_law_answer", 4)]) (N := N_l_are) (sc := defScope (topS 50)) (by decide +kernel)) (fun _ _ _ _ _ => (pg_name (i := 4) sc_l_are.nd rfl (Or.inl rfl))) (fun _ _ _ _ _ => pts_nil) (fun _ _ _ _ _ => (pe_callB (isiK (K := K) rfl) (by rfl) T.m_isinstance (by decide +kernel) (pa_cons (pv 4) (pa_cons (pe_bltn (v := .ty "bool") (by rfl) T.m_bool (by decide +kernel) rfl) pa_nil))))) pa_nil))))))), ?_⟩
    refine ⟨fun σ' H' => ∃ L, σ' = [some (.ref a), some (.ref b), some (.bl due), some (.ref L), none] ∧ H' L = some (.lst [.bl due, .bl due, .bl due, .bl due, .bl due]) ∧ Ex H H', ?_, fun σ' H' ph => ?_⟩
    · rcases D with D | D
      · obtain ⟨D12, D21⟩ := D
        obtain ⟨a', b', d1, d2, fs, gs, e1, e2, ha, hb, R12, s12⟩ := id D12
        cases e1
        cases e2
        obtain ⟨a', b', d2', d1', gs', fs', e1, e2, hb', ha', R21, s21⟩ := id D21
        cases e1
        cases e2
        refine ⟨.ref a, rfl, .ref b, rfl, .inl ⟨a, d1, fs, rfl, ha, .inl ⟨b, d2, gs, rfl, hb⟩, rowSays _ _ _ due _ _ R12 fun H1 x1 => ⟨due, rfl, ?_⟩⟩⟩
        refine ⟨.ref b, rfl, .ref a, rfl, .inl ⟨b, d2, gs, rfl, x1 _ _ hb, .inl ⟨a, d1, fs, rfl, x1 _ _ ha⟩, rowSays _ _ _ due _ _ (rowKeeps _ _ _ _ _ x1 R21) fun H2 x2 => ⟨due, rfl, ?_⟩⟩⟩
        have y2 := x1.trans x2
        refine ⟨.ref a, rfl, .ref b, rfl, .inl ⟨a, d1, fs, rfl, y2 _ _ ha, .inl ⟨b, d2, gs, rfl, y2 _ _ hb⟩, rowSays _ _ _ due _ _ (rowKeeps _ _ _ _ _ y2 R12) fun H3 x3 => ⟨due, rfl, _, rfl, ?_⟩⟩⟩
        rw [Bool.not_not]
        have y3 := y2.trans x3
        refine ⟨.ref a, rfl, by show 1 ≤ sizeLine; decide, fun l1 nl1 => ?_⟩
        have x4 := Ex.new (o := .lst [V.ref a]) nl1
        have g1 := upd_same (H := H3) (a := l1) (o := .lst [V.ref a])
        generalize (upd H3 l1 (.lst [V.ref a])) = H4 at x4 g1 ⊢
        refine ⟨.ref b, rfl, by show 1 ≤ sizeLine; decide, fun l2 nl2 => ?_⟩
        have x5 := Ex.new (o := .lst [V.ref b]) nl2
        have g2 := upd_same (H := H4) (a := l2) (o := .lst [V.ref b])
        generalize (upd H4 l2 (.lst [V.ref b])) = H5 at x5 g2 ⊢
        have y5 := (y3.trans x4).trans x5
        refine .inl ⟨l1, l2, [.ref a], [.ref b], fun _ => due, rfl, rfl, x5 _ _ g1, g2, rfl, fun i p q hp hq => ?_, fun H6 x6 => ?_⟩
        · rw [one_get hp, one_get hq]
          exact OwnT.db_up rowKeeps y5 D12
        rw [show OwnS.al (fun _ => due) 0 [V.ref a].length = due from Bool.and_true due]
        have y6 := y5.trans x6
        refine ⟨.ref b, rfl, .ref a, rfl, by show 1 ≤ sizeLine; decide, fun l3 nl3 => ?_⟩
        have x7 := Ex.new (o := .lst [V.ref a]) nl3
        have g3 := upd_same (H := H6) (a := l3) (o := .lst [V.ref a])
        generalize (upd H6 l3 (.lst [V.ref a])) = H7 at x7 g3 ⊢
        have y7 := y6.trans x7
        refine .inl ⟨l3, [.ref a], fun _ => due, rfl, g3, fun i p hp => ?_, fun H8 x8 => ?_⟩
        · rw [one_get hp]
          exact OwnT.db_up rowKeeps y7 D12
        rw [show OwnS.an (fun _ => due) 0 [V.ref a].length = due from Bool.or_false due]
        refine ⟨by show 5 ≤ sizeLine; decide, fun L nL => ?_⟩
        exact ⟨L, rfl, upd_same, (y7.trans x8).trans (Ex.new nL)⟩
      · obtain ⟨D12, D21⟩ := D
        obtain ⟨a', b', d1, d2, fs, gs, e1, e2, ha, hb, R12, s12⟩ := id D12
        cases e1
        cases e2
        obtain ⟨a', b', d2', d1', gs', fs', e1, e2, hb', ha', R21, s21⟩ := id D21
        cases e1
        cases e2
        refine ⟨.ref a, rfl, .ref b, rfl, .inr ⟨a, d1, fs, rfl, ha, .inl ⟨b, d2, gs, rfl, hb⟩, blkSays _ _ _ due _ _ R12 fun H1 x1 => ⟨due, rfl, ?_⟩⟩⟩
        refine ⟨.ref b, rfl, .ref a, rfl, .inr ⟨b, d2, gs, rfl, x1 _ _ hb, .inl ⟨a, d1, fs, rfl, x1 _ _ ha⟩, blkSays _ _ _ due _ _ (blkKeeps _ _ _ _ _ x1 R21) fun H2 x2 => ⟨due, rfl, ?_⟩⟩⟩
        have y2 := x1.trans x2
        refine ⟨.ref a, rfl, .ref b, rfl, .inr ⟨a, d1, fs, rfl, y2 _ _ ha, .inl ⟨b, d2, gs, rfl, y2 _ _ hb⟩, blkSays _ _ _ due _ _ (blkKeeps _ _ _ _ _ y2 R12) fun H3 x3 => ⟨due, rfl, _, rfl, ?_⟩⟩⟩
        rw [Bool.not_not]
        have y3 := y2.trans x3
        refine ⟨.ref a, rfl, by show 1 ≤ sizeLine; decide, fun l1 nl1 => ?_⟩
        have x4 := Ex.new (o := .lst [V.ref a]) nl1
        have g1 := upd_same (H := H3) (a := l1) (o := .lst [V.ref a])
        generalize (upd H3 l1 (.lst [V.ref a])) = H4 at x4 g1 ⊢
        refine ⟨.ref b, rfl, by show 1 ≤ sizeLine; decide, fun l2 nl2 => ?_⟩
        have x5 := Ex.new (o := .lst [V.ref b]) nl2
        have g2 := upd_same (H := H4) (a := l2) (o := .lst [V.ref b])
        generalize (upd H4 l2 (.lst [V.ref b])) = H5 at x5 g2 ⊢
        have y5 := (y3.trans x4).trans x5
        refine .inr ⟨l1, l2, [.ref a], [.ref b], fun _ => due, rfl, rfl, x5 _ _ g1, g2, rfl, fun i p q hp hq => ?_, fun H6 x6 => ?_⟩
        · rw [one_get hp, one_get hq]
          exact OwnT.db_up blkKeeps y5 D12
        rw [show OwnS.al (fun _ => due) 0 [V.ref a].length = due from Bool.and_true due]
        have y6 := y5.trans x6
        refine ⟨.ref b, rfl, .ref a, rfl, by show 1 ≤ sizeLine; decide, fun l3 nl3 => ?_⟩
        have x7 := Ex.new (o := .lst [V.ref a]) nl3
        have g3 := upd_same (H := H6) (a := l3) (o := .lst [V.ref a])
        generalize (upd H6 l3 (.lst [V.ref a])) = H7 at x7 g3 ⊢
        have y7 := y6.trans x7
        refine .inr ⟨l3, [.ref a], fun _ => due, rfl, g3, fun i p hp => ?_, fun H8 x8 => ?_⟩
        · rw [one_get hp]
          exact OwnT.db_up blkKeeps y7 D12
        rw [show OwnS.an (fun _ => due) 0 [V.ref a].length = due from Bool.or_false due]
        refine ⟨by show 5 ≤ sizeLine; decide, fun L nL => ?_⟩
        exact ⟨L, rfl, upd_same, (y7.trans x8).trans (Ex.new nL)⟩
    obtain ⟨L, rfl, gL, xL⟩ := ph
    refine ⟨.ref L, rfl, .bl due, rfl, by show 1 ≤ sizeLine; decide, fun l4 nl4 => ?_⟩
    have xF := Ex.new (o := .lst [V.bl due]) nl4
    have g4 := upd_same (H := H') (a := l4) (o := .lst [V.bl due])
    generalize (upd H' l4 (.lst [V.bl due])) = HF at xF g4 ⊢
    refine ⟨l4, 5, _, rfl, rfl, g4, by decide, by decide, by show 5 ≤ sizeLine; decide, fun l5 nl5 => ?_⟩
    have xG := Ex.new (o := .lst (List.replicate (5 : Int).toNat [V.bl due]).flatten) nl5
    have g5 : (upd HF l5 (.lst (List.replicate (5 : Int).toNat [V.bl due]).flatten)) l5 = some (.lst [.bl due, .bl due, .bl due, .bl due, .bl due]) := upd_same
    generalize (upd HF l5 (.lst (List.replicate (5 : Int).toNat [V.bl due]).flatten)) = HG at xG g5 ⊢
    have gLG := xG _ _ (xF _ _ gL)
    have x9 := (xL.trans xF).trans xG
    have five : DpAll K HG [.bl due, .bl due, .bl due, .bl due, .bl due] [.bool due, .bool due, .bool due, .bool due, .bool due] := .cons (.bl _) (.cons (.bl _) (.cons (.bl _) (.cons (.bl _) (.cons (.bl _) .nil))))
    have sh5 : SeqAt.shaped (.list [.bool due, .bool due, .bool due, .bool due, .bool due]) = true := by cases due <;> decide +kernel
    refine ⟨_, _, .lst (SqL.of gLG) five, .lst (SqL.of g5) five, sh5, sh5, _, rfl, ite2 (fun _ => ?_) (fun c => absurd (eqv_self sh5) c)⟩
    refine ⟨.ref L, rfl, L, rfl, ⟨_, SqL.of gLG⟩, fun D nD => ?_⟩
    refine lc_list (K := K) (xs := [.bl due, .bl due, .bl due, .bl due, .bl due]) (fun k Hk => Ex HG Hk ∧ Hk D = some (.lst (([true, true, true, true, true].take k).map V.bl))) ⟨Ex.new nD, upd_same⟩ (fun k Hk _ p => ex_l p.1 (SqL.of gLG)) (fun k v Hk hv p => ?_) (fun Hk p => ?_)
    · obtain ⟨p1, p2⟩ := p
      have hk : k < 5 := (List.getElem?_eq_some_iff.mp hv).1
      obtain rfl : v = .bl due := by
        match k, hk, hv with
        | 0, _, hv => cases hv; rfl
        | 1, _, hv => cases hv; rfl
        | 2, _, hv => cases hv; rfl
        | 3, _, hv => cases hv; rfl
        | 4, _, hv => cases hv; rfl
      refine ⟨rfl, .bl due, rfl, .bl due, .ty "bool", .type "bool", .type "bool", true, rfl, .ty _, .base (.bl due), kit_ty (by decide +kernel), _, p2, ?_, Ex.mut p1 nD, ?_⟩
      · rw [List.length_map, List.length_take]
        exact sz_lt (by show min k 5 < _; omega)
      · rw [upd_same]
        match k, hk with
        | 0, _ => rfl
        | 1, _ => rfl
        | 2, _ => rfl
        | 3, _ => rfl
        | 4, _ => rfl
    obtain ⟨p1, p2⟩ := p
    exact ⟨D, [true, true, true, true, true], rfl, SqL.of p2, q Hk (x9.trans p1)⟩

/-! ### _law_changed -/
theorem isW_eq (l : List Nat) : isW (txt l) = (decide (1 ≤ l.length) && decide (l.length ≤ 12) && l.all fun c => decide (97 ≤ c) && decide (c ≤ 122)) := rfl
theorem isW_cut {z : Str} (h : isW z = true) : isW (cutS z none (some 8)) = true ∧ (cutS z none (some 8)).length ≤ 8 := by
  obtain ⟨l, rfl⟩ : ∃ l, z = txt l := ⟨tl z, (txt_tl z).symm⟩
  have e : cutS (txt l) none (some 8) = txt (l.take 8) := by
    have k : HT.sIx l.length l.length (some ((8 : Nat) : Int)) = min 8 l.length := HT.sIx_nat _ _ _
    have m : l.take (min 8 l.length) = l.take 8 := by
      by_cases c : 8 ≤ l.length
      · rw [Nat.min_eq_left c]
      · rw [Nat.min_eq_right (by omega), List.take_length, List.take_of_length_le (by omega)]
    show txt ((l.drop (HT.sIx l.length 0 none)).take (HT.sIx l.length l.length (some ((8 : Nat) : Int)) - HT.sIx l.length 0 none)) = _
    rw [k, HT.sIx_none, Nat.sub_zero, List.drop_zero, m]
  rw [e]
  rw [isW_eq, Bool.and_eq_true, Bool.and_eq_true, decide_eq_true_eq, decide_eq_true_eq, List.all_eq_true] at h
  obtain ⟨⟨h1, h2⟩, h3⟩ := h
  refine ⟨?_, ?_⟩
  · rw [isW_eq, Bool.and_eq_true, Bool.and_eq_true, decide_eq_true_eq, decide_eq_true_eq, List.all_eq_true, List.length_take]
    exact ⟨⟨by omega, by omega⟩, fun c hc => h3 c (List.mem_of_mem_take hc)⟩
  · rw [txt_len, List.length_take]
    omega
theorem tl_add (x y : Str) : tl (x ++ y) = tl x ++ tl y := by
  show (x.cps ++ y.cps).toList = x.cps.toList ++ y.cps.toList
  simp
theorem isW_more {z : Str} (h : isW z = true) (l : z.length ≤ 8) : isW (z ++ "a") = true := by
  have e : z ++ "a" = txt (tl z ++ [97]) := by
    rw [← txt_tl (z ++ "a"), tl_add]
    rfl
  rw [e, isW_eq]
  obtain ⟨zl, rfl⟩ : ∃ l, z = txt l := ⟨tl z, (txt_tl z).symm⟩
  rw [isW_eq, Bool.and_eq_true, Bool.and_eq_true, decide_eq_true_eq, decide_eq_true_eq, List.all_eq_true] at h
  obtain ⟨⟨h1, h2⟩, h3⟩ := h
  rw [txt_len] at l
  rw [tl_txt, Bool.and_eq_true, Bool.and_eq_true, decide_eq_true_eq, decide_eq_true_eq, List.all_eq_true, List.length_append]
  refine ⟨⟨by omega, by show zl.length + 1 ≤ 12; omega⟩, fun c hc => ?_⟩
  rcases List.mem_append.mp hc with hc | hc
  · exact h3 c hc
  · rw [List.mem_singleton.mp hc]
    decide
theorem ris_mono {xs : List Nat} (h : Ris xs) : ∀ (d i : Nat) (x y : Nat), xs[i]? = some x → xs[i + d + 1]? = some y → x < y := by
  intro d
  induction d with
  | zero =>
    intro i x y gx gy
    have := h (i + 1) y gy
    have e : ah xs (i + 1) = ((xs.getD i 0 : Nat) : Int) := rfl
    rw [e, getD_at gx] at this
    omega
  | succ d ih =>
    intro i x y gx gy
    have hl := (List.getElem?_eq_some_iff.mp gy).1
    have gz : xs[i + d + 1]? = some (xs[i + d + 1]'(by omega)) := List.getElem?_eq_getElem _
    have a := ih i x _ gx gz
    have b := h (i + d + 1 + 1) y (by rw [show i + d + 1 + 1 = i + (d + 1) + 1 by omega]; exact gy)
    have e : ah xs (i + d + 1 + 1) = ((xs.getD (i + d + 1) 0 : Nat) : Int) := rfl
    rw [e, getD_at gz] at b
    omega
theorem ris_two {xs : List Nat} (h : Ris xs) {i j x y : Nat} (l : i < j) (gx : xs[i]? = some x) (gy : xs[j]? = some y) : x < y :=
  ris_mono h (j - i - 1) i x y gx (by rw [show i + (j - i - 1) + 1 = j by omega]; exact gy)
theorem ris_erase {xs : List Nat} (h : Ris xs) (k : Nat) : Ris (xs.eraseIdx k) := fun i x g => by
  cases i with
  | zero => show (-1 : Int) < (x : Int); omega
  | succ i =>
    show (((xs.eraseIdx k).getD i 0 : Nat) : Int) < (x : Int)
    have hl := (List.getElem?_eq_some_iff.mp g).1
    have gp : (xs.eraseIdx k)[i]? = some ((xs.eraseIdx k)[i]'(by omega)) := List.getElem?_eq_getElem _
    rw [getD_at gp]
    generalize (xs.eraseIdx k)[i]'(by omega) = y at gp
    rw [List.getElem?_eraseIdx] at g gp
    have : y < x := by
      split at g <;> split at gp <;> exact ris_two h (by omega) gp g
    omega
theorem ris_up {xs : List Nat} (h : Ris xs) {y : Nat} (g : xs[xs.length - 1]? = some y) : Ris (xs.take (xs.length - 1) ++ [y + 1]) := by
  have hl := (List.getElem?_eq_some_iff.mp g).1
  refine ris_snoc (ris_take h _) ?_
  have hy := h _ _ g
  have len : (xs.take (xs.length - 1)).length = xs.length - 1 := by rw [List.length_take]; omega
  rw [len]
  have e : ah (xs.take (xs.length - 1)) (xs.length - 1) = ah xs (xs.length - 1) := by
    cases hk : xs.length - 1 with
    | zero => rfl
    | succ k =>
      show (((xs.take (k + 1)).getD k 0 : Nat) : Int) = ((xs.getD k 0 : Nat) : Int)
      rw [List.getD_eq_getElem?_getD, List.getElem?_take, if_pos (by omega), List.getD_eq_getElem?_getD]
  rw [e]
  omega
theorem set_id {α : Type} {l : List α} {i : Nat} {a : α} (g : l[i]? = some a) : l.set i a = l := by
  apply List.ext_getElem?
  intro j
  by_cases c : i = j
  · subst c
    rw [List.getElem?_set_self (List.getElem?_eq_some_iff.mp g).1, g]
  · rw [List.getElem?_set_ne c]
theorem fit_mono {es : List En} {ls ks : List Nat} (h : Fit es ls) (l : ls.length ≤ ks.length) (f : ks.length ≤ 60) (m : ∀ n ∈ ks, n ≤ 120) (g : ∀ i, i < ls.length → ls.getD i 0 ≤ ks.getD i 0) : Fit es ks :=
  ⟨f, m, fun e he => by
    obtain ⟨a, b⟩ := h.fit e he
    have := g e.1 a
    exact ⟨by omega, fun n hn => by have := b n hn; omega⟩⟩
theorem Fit.sub {es fs : List En} {ls : List Nat} (h : Fit es ls) (s : ∀ e ∈ fs, e ∈ es) : Fit fs ls := ⟨h.few, h.most, fun e he => h.fit e (s e he)⟩
theorem getD_set {ls : List Nat} {i j v : Nat} (hi : i < ls.length) : (ls.set i v).getD j 0 = if i = j then v else ls.getD j 0 := by
  rw [List.getD_eq_getElem?_getD, List.getD_eq_getElem?_getD]
  by_cases c : i = j
  · subst c
    rw [if_pos rfl, List.getElem?_set_self hi]
    rfl
  · rw [if_neg c, List.getElem?_set_ne c]
structure Gd (B : Nat) (z : Str) (s : Nat) (es : List En) (ls : List Nat) : Prop where
  w : isW z = true
  s1 : 1 ≤ s
  s8 : s ≤ 8
  ens : Ens es
  few : es.length ≤ 20
  sl : ∀ e ∈ es, e.1 < 60
  pl : ∀ e ∈ es, ∀ n ∈ e.2, n < B
  fit : Fit es ls
theorem Gd.row {B : Nat} {z : Str} {s : Nat} {es : List En} {ls : List Nat} (h : Gd B z s es ls) : RowIs z s es ls := ⟨h.w, h.s1, h.s8, h.ens, h.fit⟩
theorem Gd.up {B C : Nat} {z : Str} {s : Nat} {es : List En} {ls : List Nat} (h : Gd B z s es ls) (l : B ≤ C) : Gd C z s es ls := ⟨h.w, h.s1, h.s8, h.ens, h.few, h.sl, fun e he n hn => Nat.lt_of_lt_of_le (h.pl e he n hn) l, h.fit⟩
theorem Gd.ls {B : Nat} {z : Str} {s : Nat} {es : List En} {ls ks : List Nat} (h : Gd B z s es ls) (f : Fit es ks) : Gd B z s es ks := ⟨h.w, h.s1, h.s8, h.ens, h.few, h.sl, h.pl, f⟩
theorem mem_erase {α : Type} {l : List α} {k : Nat} {a : α} (h : a ∈ l.eraseIdx k) : a ∈ l := List.mem_of_mem_eraseIdx h
theorem Gd.pop {B : Nat} {z : Str} {s : Nat} {es : List En} {ls : List Nat} (h : Gd B z s es ls) (k : Nat) : Gd B z s (es.eraseIdx k) ls := by
  have le : (es.eraseIdx k).length ≤ es.length := by rw [List.length_eraseIdx]; split <;> omega
  refine ⟨h.w, h.s1, h.s8, ⟨fun e he => h.ens.ok e (mem_erase he), ?_, by have := h.few; omega⟩, by have := h.few; omega, fun e he => h.sl e (mem_erase he), fun e he => h.pl e (mem_erase he), h.fit.sub fun e he => mem_erase he⟩
  have e1 : slots (es.eraseIdx k) = (slots es).eraseIdx k := by
    apply List.ext_getElem?
    intro i
    unfold slots
    rw [List.getElem?_map, List.getElem?_eraseIdx, List.getElem?_eraseIdx]
    split <;> rw [List.getElem?_map]
  rw [e1]
  exact ris_erase h.ens.ris k
/-- the last place of an entry, one further -/
def upE (e : En) (y : Nat) : En := (e.1, e.2.take (e.2.length - 1) ++ [y + 1])
theorem mem_set {α : Type} {l : List α} {i : Nat} {a b : α} (h : b ∈ l.set i a) : b = a ∨ b ∈ l := (List.mem_or_eq_of_mem_set h).symm
theorem Gd.last {z : Str} {s : Nat} {es : List En} {ls : List Nat} {i y : Nat} {e : En} (h : Gd 68 z s es ls) (g : es[i]? = some e) (gy : e.2[e.2.length - 1]? = some y) {v : Nat} (v1 : ls.getD e.1 0 ≤ v) (v2 : y + 2 ≤ v) (v3 : v ≤ 120) : Gd 69 z s (es.set i (upE e y)) (ls.set e.1 v) := by
  have me := List.mem_of_getElem? g
  have my := List.mem_of_getElem? gy
  have eo := h.ens.ok e me
  have py := h.pl e me y my
  have hs : slots (es.set i (upE e y)) = slots es := by
    unfold slots
    rw [List.map_set]
    exact set_id (by rw [List.getElem?_map, g]; rfl)
  have len : (e.2.take (e.2.length - 1) ++ [y + 1]).length = e.2.length := by
    have := eo.some
    rw [List.length_append, List.length_take, List.length_singleton]
    omega
  have pu : ∀ n ∈ (upE e y).2, n < 69 := fun n hn => by
    rcases List.mem_append.mp hn with hn | hn
    · have := h.pl e me n (List.mem_of_mem_take hn)
      omega
    · rw [List.mem_singleton.mp hn]
      omega
  have big : (69 : Nat) < 16 ^ 100 := by decide
  refine ⟨h.w, h.s1, h.s8, ⟨fun f hf => ?_, by rw [hs]; exact h.ens.ris, by rw [List.length_set]; exact h.ens.few⟩, by rw [List.length_set]; exact h.few, fun f hf => ?_, fun f hf => ?_, ⟨by rw [List.length_set]; exact h.fit.few, fun n hn => ?_, fun f hf => ?_⟩⟩
  · rcases mem_set hf with rfl | hf
    · exact ⟨ris_up eo.ris gy, by show 0 < (e.2.take (e.2.length - 1) ++ [y + 1]).length; rw [len]; exact eo.some, by show (e.2.take (e.2.length - 1) ++ [y + 1]).length ≤ 120; rw [len]; exact eo.few, eo.slot, fun n hn => Nat.lt_trans (pu n hn) big⟩
    · exact h.ens.ok f hf
  · rcases mem_set hf with rfl | hf
    · exact h.sl e me
    · exact h.sl f hf
  · rcases mem_set hf with rfl | hf
    · exact pu
    · exact fun n hn => Nat.lt_trans (h.pl f hf n hn) (by decide)
  · rcases mem_set hn with rfl | hn
    · exact v3
    · exact h.fit.most n hn
  · have hsl := (h.fit.fit e me).1
    rw [List.length_set, getD_set hsl]
    rcases mem_set hf with rfl | hf
    · refine ⟨hsl, fun n hn => ?_⟩
      rw [if_pos (show e.1 = (upE e y).1 from rfl)]
      rcases List.mem_append.mp hn with hn | hn
      · have := ris_last eo.ris (List.mem_of_mem_take hn) gy
        omega
      · rw [List.mem_singleton.mp hn]
        omega
    · obtain ⟨a, b⟩ := h.fit.fit f hf
      refine ⟨a, fun n hn => ?_⟩
      have := b n hn
      split
      · rename_i c
        rw [← c] at this
        omega
      · exact this
theorem EnsA.pop {H : Hp} {xs : List V} {es : List En} (h : EnsA H xs es) (k : Nat) : EnsA H (xs.eraseIdx k) (es.eraseIdx k) := by
  refine ⟨by rw [List.length_eraseIdx, List.length_eraseIdx, h.1], fun i e g => ?_⟩
  rw [List.getElem?_eraseIdx] at g ⊢
  split at g
  · rename_i c
    rw [if_pos c]
    exact h.2 i e g
  · rename_i c
    rw [if_neg c]
    exact h.2 (i + 1) e g
theorem EnsA.put {H : Hp} {xs : List V} {es : List En} {i : Nat} {t : Addr} {e : En} (h : EnsA H xs es) (k : EnA H t e) : EnsA H (xs.set i (.ref t)) (es.set i e) := by
  refine ⟨by rw [List.length_set, List.length_set, h.1], fun j f g => ?_⟩
  by_cases c : i = j
  · subst c
    by_cases l : i < es.length
    · rw [List.getElem?_set_self l] at g
      cases g
      exact ⟨t, List.getElem?_set_self (by rw [h.1]; exact l), k⟩
    · rw [List.getElem?_eq_none (by rw [List.length_set]; omega)] at g
      cases g
  · rw [List.getElem?_set_ne c] at g ⊢
    exact h.2 j f g

theorem cut_but (ps : List Nat) : cutV (nvs ps) none (some (-1)) = nvs (ps.take (ps.length - 1)) := by
  unfold cutV
  rw [HT.sIx_none, Nat.sub_zero, List.drop_zero, nvs_len]
  have e : HT.sIx ps.length ps.length (some (-1)) = ps.length - 1 := by
    show (if (-1 : Int) < 0 then ((-1 : Int) + (ps.length : Int)).toNat else min (-1 : Int).toNat ps.length) = _
    rw [if_pos (by decide)]
    omega
  rw [e]
  unfold nvs
  rw [List.map_take]
structure St12 (H0 : Hp) (p : Addr) (c : Nat) (l m : Addr) (xs : List V) (es : List En) (ls : List Nat) (H : Hp) : Prop where
  lp : l ≠ p
  mp : m ≠ p
  lm : l ≠ m
  l0 : H0 l = none
  m0 : H0 m = none
  pl : Pl H p c
  gl : H l = some (.lst xs)
  hE : EnsA H xs es
  gm : H m = some (.lst (nvs ls))
  fx : Fx p H0 H
section
variable {H0 H H' : Hp} {p l m : Addr} {c c' : Nat} {xs : List V} {es : List En} {ls : List Nat}
theorem St12.ex (t : St12 H0 p c l m xs es ls H) (e : Ex H H') : St12 H0 p c l m xs es ls H' := ⟨t.lp, t.mp, t.lm, t.l0, t.m0, t.pl.ex e, e _ _ t.gl, t.hE.ex e, e _ _ t.gm, t.fx.trans (Fx.ex e)⟩
theorem St12.draw (t : St12 H0 p c l m xs es ls H) (f : Fx p H H') (hp : Pl H' p c') : St12 H0 p c' l m xs es ls H' := ⟨t.lp, t.mp, t.lm, t.l0, t.m0, hp, f _ _ t.lp t.gl, t.hE.fx t.pl f, f _ _ t.mp t.gm, t.fx.trans f⟩
theorem St12.setM {ks : List Nat} (t : St12 H0 p c l m xs es ls H) : St12 H0 p c l m xs es ks (upd H m (.lst (nvs ks))) :=
  ⟨t.lp, t.mp, t.lm, t.l0, t.m0, pl_upd t.pl t.mp, by rw [upd_ne t.lm]; exact t.gl, t.hE.updL t.gm, upd_same, fx_mut t.fx t.m0⟩
theorem St12.setL {ys : List V} {fs : List En} (t : St12 H0 p c l m xs es ls H) (h : EnsA H ys fs) : St12 H0 p c l m ys fs ls (upd H l (.lst ys)) :=
  ⟨t.lp, t.mp, t.lm, t.l0, t.m0, pl_upd t.pl t.lp, upd_same, h.updL t.gl, by rw [upd_ne (fun e => t.lm e.symm)]; exact t.gm, fx_mut t.fx t.l0⟩
end
/-- between two of the tests -/
def Ph12 (H0 : Hp) (p : Addr) (c : Nat) (so at' : Int) (B : Nat) : L2.St → Hp → Prop := fun σ' H' => ∃ (z : Str) (l m : Addr) (s : Nat) (o7 o8 o9 : Option V) (xs : List V) (es : List En) (ls : List Nat),
  σ' = [some (.ref p), some (.str z), some (.ref l), some (.ref m), some (.int (s : Int)), some (.int so), some (.int at'), o7, o8, o9] ∧ St12 H0 p c l m xs es ls H' ∧ Gd B z s es ls
def spChg : Sp := fun vs H Q _ => ∃ (p l m : Addr) (c : Nat) (z : Str) (s : Nat) (xs : List V) (es : List En) (ls : List Nat), vs = [.ref p, .str z, .ref l, .ref m, .int (s : Int)] ∧ Pl H p c ∧ c < 900000 ∧ l ≠ p ∧ m ≠ p ∧ H l = some (.lst xs) ∧ EnsA H xs es ∧ H m = some (.lst (nvs ls)) ∧ Gd 68 z s es ls ∧ z.length ≤ 8 ∧
  ∀ (t l' m' : Addr) (z' : Str) (s' : Nat) (xs' : List V) (es' : List En) (ls' : List Nat) (H' : Hp), t ≠ p → l' ≠ p → m' ≠ p → H t = none → H l' = none → H m' = none → H' t = some (.tup [.str z', .ref l', .ref m', .int (s' : Int)]) → H' l' = some (.lst xs') → EnsA H' xs' es' → H' m' = some (.lst (nvs ls')) → Gd 69 z' s' es' ls' → Pl H' p (c + 4) → Fx p H H' → Q (.ref t) H'
theorem ens_empty {es : List En} (c : (!PyData.eqv (.list (dEs es)) (.list (dEs []))) = true) : 0 < es.length := by
  cases es with
  | nil =>
    rw [eqv_self (shEs [])] at c
    cases c
  | cons e r => exact Nat.succ_pos _
theorem seq_ok {n j : Nat} (h : j < n) : seqIndex? (j : Int) n = some j := (ixN_seq (ixN_nat h)).1
theorem fx_freeN {p a : Addr} {H H' : Hp} (f : Fx p H H') (n : a ≠ p) (h : H' a = none) : H a = none := by
  cases e : H a with
  | none => rfl
  | some o =>
    rw [f a o n e] at h
    cases h
set_option maxHeartbeats 32000000 in
theorem ok_l_changed (T : TX K mg A FD TK) : FnOk P w K mg base CX0 2 (A 51) (FD 51) ["_law_pool_here", "_law_word", "_law_entries", "_law_lengths_here", "_law_wide"] spChg := by
  have G_l_take := ok_l_take (P := P) (w := w) (base := base) T
  refine T.f_l_changed.ok (k := 1) sc_l_changed (fun vs H Q E h => ?_) (fun cdv A' outer s H vs Q E hr h => ?_)
  · obtain ⟨p, l, m, c, z, s, xs, es, ls, rfl, _⟩ := h
    rfl
  · obtain ⟨p, l, m, c, z, s, xs, es, ls, rfl, hp, hc, nlp, nmp, hl, hE, hm, hG, z8, q⟩ := h
    refine ⟨_, (pss_cons (ps_set (i := 5) sc_l_changed.nd rfl (.inl rfl) (pe_call G_l_take hr (by rfl) T.g_l_take T.f_l_take.kp T.b_l_take .nil pass0 (pa_cons (pv 0) (pa_cons pe_int pa_nil))))
      (pss_cons (ps_par (by rfl) sc_l_changed.nd (i := 2) (j := 3) rfl rfl (by decide) rfl rfl (pa_cons (pe_callTy (listK (K := K) rfl) (by rfl) T.m_list (by decide +kernel) (pa_cons (pv 2) pa_nil)) (pa_cons (pe_callTy (listK (K := K) rfl) (by rfl) T.m_list (by decide +kernel) (pa_cons (pv 3) pa_nil)) pa_nil)) (by rfl))
      (pss_cons (ps_set (i := 6) sc_l_changed.nd rfl (.inl rfl) (pe_call G_l_take hr (by rfl) T.g_l_take T.f_l_take.kp T.b_l_take .nil pass0 (pa_cons (pv 0) (pa_cons (pe_op op_add (pe_callB (lenK (K := K) rfl) (by rfl) T.m_len (by decide +kernel) (pa_cons (pv 3) pa_nil)) pe_int) pa_nil))))
      (pss_cut (ps_if (pt_cmpR op_eq (pv 5) pe_int (nomark _))
      (pss_one (ps_set (i := 1) sc_l_changed.nd rfl (.inl rfl) (pe_op op_add_str (pv 1) pe_str)))
      pss_nil)
      (pss_cut (ps_if (pt_cmpR op_eq (pv 5) pe_int (nomark _))
      (pss_one (ps_set (i := 4) sc_l_changed.nd rfl (.inl rfl) (pe_op op_add (pe_op op_mod (pv 4) pe_int) pe_int)))
      pss_nil)
      (pss_cut (ps_if (PW.pt (pw_and (pt_cmpR op_eq (pv 5) pe_int (nomark _)) (pw_and1 (pt_cmpR (neDK (K := K) rfl hr.units) (pv 2) (pe_lst pa_nil) (nomark _)))))
      (pss_one (ps_expr (pe_bm PySem.F.plainAttrs_list PySem.F.slot_list_pop PySem.F.type_list_pop mt_popAt (pv 2) (pa_cons (pe_call G_l_take hr (by rfl) T.g_l_take T.f_l_take.kp T.b_l_take .nil pass0 (pa_cons (pv 0) (pa_cons (pe_callB (lenK (K := K) rfl) (by rfl) T.m_len (by decide +kernel) (pa_cons (pv 2) pa_nil)) pa_nil))) pa_nil))))
      pss_nil)
      (pss_cut (ps_if (PW.pt (pw_and (pt_cmpR op_eq (pv 5) pe_int (nomark _)) (pw_and1 (pt_cmpR (neDK (K := K) rfl hr.units) (pv 2) (pe_lst pa_nil) (nomark _)))))
      (pss_cons (ps_set (i := 7) sc_l_changed.nd rfl (.inl rfl) (pe_call G_l_take hr (by rfl) T.g_l_take T.f_l_take.kp T.b_l_take .nil pass0 (pa_cons (pv 0) (pa_cons (pe_callB (lenK (K := K) rfl) (by rfl) T.m_len (by decide +kernel) (pa_cons (pv 2) pa_nil)) pa_nil))))
      (pss_cons (ps_asg (pe_ix (ixLK (K := K) rfl) (pv 2) (pv 7) (fun _ _ => rfl)) (pg_tup rfl (pgs_cons (pg_name (i := 8) sc_l_changed.nd rfl (.inl rfl)) (pgs_cons (pg_name (i := 9) sc_l_changed.nd rfl (.inl rfl)) pgs_nil))))
      (pss_cons (ps_asg (pe_tup (pa_cons (pv 8) (pa_cons (pe_op (SlT.op_catTA (K := K) rfl) (pe_slice (SlT.sl_tupA (K := K) rfl) (pv 9) po_none (po_some (pe_un un_neg pe_int))) (pe_tup (pa_cons (pe_op op_add (pe_ix (ixTK (K := K) rfl) (pv 9) (pe_un un_neg pe_int) (fun _ _ => rfl)) pe_int) pa_nil))) pa_nil))) (pg_sub (pv 2) (pv 7) set_list))
      (pss_one (ps_asg (pe_callB (call_max2 rfl) (by rfl) T.m_max (by decide +kernel) (pa_cons (pe_ix (ixLK (K := K) rfl) (pv 3) (pv 8) (fun _ _ => rfl)) (pa_cons (pe_op op_add (pe_ix (ixTK (K := K) rfl) (pv 9) (pe_un un_neg pe_int) (fun _ _ => rfl)) pe_int) pa_nil))) (pg_sub (pv 3) (pv 8) set_list))))))
      pss_nil)
      (pss_cut (ps_if (PW.pt (pw_and (pt_cmpR (inK (K := K) rfl) (pv 5) (pe_tup (pa_cons pe_int (pa_cons pe_int pa_nil))) (by rfl)) (pw_and1 (pt_cmpR op_lt (pv 6) (pe_callB (lenK (K := K) rfl) (by rfl) T.m_len (by decide +kernel) (pa_cons (pv 3) pa_nil)) (nomark _)))))
      (pss_one (ps_asg (pe_callB (call_min2 rfl) (by rfl) T.m_min (by decide +kernel) (pa_cons pe_int (pa_cons (pe_op op_add (pe_ix (ixLK (K := K) rfl) (pv 3) (pv 6) (fun _ _ => rfl)) pe_int) pa_nil))) (pg_sub (pv 3) (pv 6) set_list)))
      pss_nil)
      (pss_cut (ps_if (pt_cmpR op_eq (pv 5) pe_int (nomark _))
      (pss_one (ps_set (i := 3) sc_l_changed.nd rfl (.inl rfl) (pe_op op_cat (pv 3) (pe_op op_rep (pe_lst (pa_cons pe_int pa_nil)) (pe_callTy call_int1 (by rfl) T.m_int (by decide +kernel) (pa_cons (pe_cmpR op_lt (pe_callB (lenK (K := K) rfl) (by rfl) T.m_len (by decide +kernel) (pa_cons (pv 3) pa_nil)) pe_int (nomark _)) pa_nil))))))
      pss_nil)
      (pss_one (ps_ret (pe_tup (pa_cons (pv 1) (pa_cons (pv 2) (pa_cons (pv 3) (pa_cons (pv 4) pa_nil)))))))))))))))), ?_⟩
    refine ⟨.ref p, rfl, p, 8, c, rfl, hp, by decide, by decide, by omega, fun so H1 so0 so1 hp1 f1 => ?_⟩
    have hl1 := f1 _ _ nlp hl
    have hm1 := f1 _ _ nmp hm
    refine ⟨.ref l, rfl, l, _, rfl, .inl (SqL.of hl1), fun l1 nl1 => ?_⟩
    have x2 := Ex.new (o := .lst xs) nl1
    have g2 := upd_same (H := H1) (a := l1) (o := .lst xs)
    have n1p := pool_ne hp1 nl1
    have l10 := fx_freeN f1 n1p nl1
    generalize (upd H1 l1 (.lst xs)) = H2 at x2 g2 ⊢
    refine ⟨.ref m, rfl, m, _, rfl, .inl (SqL.of (x2 _ _ hm1)), fun m1 nm1 => ?_⟩
    have x3 := Ex.new (o := .lst (nvs ls)) nm1
    have g3 := upd_same (H := H2) (a := m1) (o := .lst (nvs ls))
    have hp2 := hp1.ex x2
    have m1p := pool_ne hp2 nm1
    have m10 := fx_freeN (f1.trans (Fx.ex x2)) m1p nm1
    have nlm : l1 ≠ m1 := ne_of_none g2 nm1
    generalize (upd H2 m1 (.lst (nvs ls))) = H3 at x3 g3 ⊢
    have t3 : St12 H p (c + 1) l1 m1 xs es ls H3 := ⟨n1p, m1p, nlm, l10, m10, hp2.ex x3, x3 _ _ g2, ((hE.fx hp f1).ex x2).ex x3, g3, f1.trans (Fx.ex (x2.trans x3))⟩
    refine ⟨_, _, rfl, ?_⟩
    have ll := hG.fit.few
    refine ⟨.ref p, rfl, .ref m1, rfl, m1, _, rfl, .inl (SqL.of g3), _, 1, rfl, rfl, p, _, c + 1, rfl, t3.pl, ?_, ?_, by omega, fun at' H4 at0 at1 hp4 f4 => ?_⟩
    · rw [nvs_len]
      omega
    · rw [nvs_len]
      omega
    have t4 := t3.draw f4 hp4
    clear t3 x3 g3 hp2 nm1 m10 l10 hl1 hm1 x2 g2 nl1
    -- 0: the word
    refine ⟨Ph12 H p (c + 2) so at' 68, ?_, fun σ' H' ph => ?_⟩
    · refine ⟨.int so, rfl, rfl, _, rfl, ite2 (fun _ => ?_) (fun _ => ?_)⟩
      · refine ⟨.str z, rfl, z, "a", rfl, rfl, ?_, ?_⟩
        · rw [show (Str.ofString "a").length = 1 by decide +kernel]
          exact sz (by omega)
        · exact ⟨z ++ "a", l1, m1, s, _, _, _, xs, es, ls, rfl, t4, ⟨isW_more hG.w z8, hG.s1, hG.s8, hG.ens, hG.few, hG.sl, hG.pl, hG.fit⟩⟩
      · exact ⟨z, l1, m1, s, _, _, _, xs, es, ls, rfl, t4, hG⟩
    clear t4 hG hE hl hm z8
    obtain ⟨z, l1, m1, s, o7, o8, o9, xs, es, ls, rfl, t, hG⟩ := ph
    -- 1: the size
    refine ⟨Ph12 H p (c + 2) so at' 68, ?_, fun σ' H' ph => ?_⟩
    · refine ⟨.int so, rfl, rfl, _, rfl, ite2 (fun _ => ?_) (fun _ => ?_)⟩
      · refine ⟨.int (s : Int), rfl, (s : Int), 8, rfl, rfl, (show (0 : Int) < 8 by decide), (s : Int) % 8, 1, rfl, rfl, ?_⟩
        have e : (s : Int) % 8 + 1 = ((s % 8 + 1 : Nat) : Int) := by omega
        refine ⟨z, l1, m1, s % 8 + 1, o7, o8, o9, xs, es, ls, ?_, t, ⟨hG.w, by omega, by omega, hG.ens, hG.few, hG.sl, hG.pl, hG.fit⟩⟩
        rw [← e]
        rfl
      · exact ⟨z, l1, m1, s, o7, o8, o9, xs, es, ls, rfl, t, hG⟩
    clear t hG
    obtain ⟨z, l1, m1, s, o7, o8, o9, xs, es, ls, rfl, t, hG⟩ := ph
    -- 2: one left out
    refine ⟨Ph12 H p (c + 3) so at' 68, ?_, fun σ' H2 ph => ?_⟩
    · have same : ∀ {H2}, St12 H p (c + 2) l1 m1 xs es ls H2 → Ph12 H p (c + 3) so at' 68 [some (.ref p), some (.str z), some (.ref l1), some (.ref m1), some (.int (s : Int)), some (.int so), some (.int at'), o7, o8, o9] H2 := fun {H2} t => ⟨z, l1, m1, s, o7, o8, o9, xs, es, ls, rfl, ⟨t.lp, t.mp, t.lm, t.l0, t.m0, t.pl.mono (by omega), t.gl, t.hE, t.gm, t.fx⟩, hG⟩
      refine ⟨.int so, rfl, rfl, _, rfl, ite2 (fun _ => ?_) (fun _ => ite2 (fun h => absurd h (by decide)) (fun _ => same t))⟩
      refine ⟨.ref l1, rfl, Nat.zero_le _, fun L nL => ?_⟩
      have eL := Ex.new (o := .lst []) nL
      have gL := upd_same (H := H') (a := L) (o := .lst [])
      generalize (upd H' L (.lst [])) = H5 at eL gL ⊢
      have t5 := t.ex eL
      refine ⟨.list (dEs es), .list (dEs []), .lst (SqL.of t5.gl) (dpEs t5.hE), .lst (SqL.of gL) .nil, shEs es, shEs [], _, rfl, ite2 (fun cc => ?_) (fun _ => same t5)⟩
      have e0 := ens_empty cc
      have exl := t5.hE.1
      have few := hG.few
      refine ⟨.ref l1, rfl, .inl ⟨rfl, _, SqL.of t5.gl⟩, .ref p, rfl, .ref l1, rfl, l1, _, rfl, .inl (SqL.of t5.gl), p, _, c + 2, rfl, t5.pl, ?_, ?_, by omega, fun d H6 d0 d1 hp6 f6 => ?_⟩
      · omega
      · omega
      have t6 := t5.draw f6 hp6
      obtain ⟨j, rfl⟩ := Int.eq_ofNat_of_zero_le d0
      have hj : j < xs.length := by omega
      refine ⟨l1, xs, (j : Int), j, xs[j], rfl, rfl, t6.gl, by omega, by omega, seq_ok hj, List.getElem?_eq_getElem hj, ?_⟩
      exact ⟨z, l1, m1, s, o7, o8, o9, xs.eraseIdx j, es.eraseIdx j, ls, rfl, t6.setL (t6.hE.pop j), hG.pop j⟩
    clear t hG
    obtain ⟨z, l1, m1, s, o7, o8, o9, xs, es, ls, rfl, t, hG⟩ := ph
    -- 3: a last place, one further
    refine ⟨Ph12 H p (c + 4) so at' 69, ?_, fun σ' H2 ph => ?_⟩
    · have same : ∀ {H2}, St12 H p (c + 3) l1 m1 xs es ls H2 → Ph12 H p (c + 4) so at' 69 [some (.ref p), some (.str z), some (.ref l1), some (.ref m1), some (.int (s : Int)), some (.int so), some (.int at'), o7, o8, o9] H2 := fun {H2} t => ⟨z, l1, m1, s, o7, o8, o9, xs, es, ls, rfl, ⟨t.lp, t.mp, t.lm, t.l0, t.m0, t.pl.mono (by omega), t.gl, t.hE, t.gm, t.fx⟩, hG.up (by decide)⟩
      refine ⟨.int so, rfl, rfl, _, rfl, ite2 (fun _ => ?_) (fun _ => ite2 (fun h => absurd h (by decide)) (fun _ => same t))⟩
      refine ⟨.ref l1, rfl, Nat.zero_le _, fun L nL => ?_⟩
      have eL := Ex.new (o := .lst []) nL
      have gL := upd_same (H := H2) (a := L) (o := .lst [])
      generalize (upd H2 L (.lst [])) = H5 at eL gL ⊢
      have t5 := t.ex eL
      refine ⟨.list (dEs es), .list (dEs []), .lst (SqL.of t5.gl) (dpEs t5.hE), .lst (SqL.of gL) .nil, shEs es, shEs [], _, rfl, ite2 (fun cc => ?_) (fun _ => same t5)⟩
      have e0 := ens_empty cc
      have exl := t5.hE.1
      have few := hG.few
      refine ⟨.ref p, rfl, .ref l1, rfl, l1, _, rfl, .inl (SqL.of t5.gl), p, _, c + 3, rfl, t5.pl, ?_, ?_, by omega, fun d H6 d0 d1 hp6 f6 => ?_⟩
      · omega
      · omega
      have t6 := t5.draw f6 hp6
      obtain ⟨j, rfl⟩ := Int.eq_ofNat_of_zero_le d0
      have hj : j < xs.length := by omega
      obtain ⟨e, ge⟩ : ∃ e, es[j]? = some e := ⟨_, List.getElem?_eq_getElem (by omega)⟩
      obtain ⟨a, ga, tt, hea, hta⟩ := t6.hE.2 j e ge
      have me := List.mem_of_getElem? ge
      have eo := hG.ens.ok e me
      have ps := eo.some
      have pf := eo.few
      obtain ⟨y, gy⟩ : ∃ y, e.2[e.2.length - 1]? = some y := ⟨_, List.getElem?_eq_getElem (by omega)⟩
      have y68 := hG.pl e me y (List.mem_of_getElem? gy)
      have gy' : (nvs e.2)[(nvs e.2).length - 1]? = some (.int (y : Int)) := by
        rw [nvs_len]
        unfold nvs
        rw [List.getElem?_map, gy]
        rfl
      refine ⟨.ref l1, rfl, .int (j : Int), rfl, l1, _, _, _, rfl, rfl, SqL.of t6.gl, atI_nat ga, a, _, rfl, SqT.of hea, rfl, .int (e.1 : Int), _, rfl, .ref tt, _, rfl, rfl, ?_⟩
      refine ⟨.int (e.1 : Int), rfl, .ref tt, rfl, 1, rfl, -1, rfl, SlT.slA_use hta fun w1 H7 e7 gw => ?_⟩
      rw [cut_but] at gw
      have t7 := t6.ex e7
      refine ⟨.ref tt, rfl, 1, rfl, tt, _, -1, _, rfl, rfl, SqT.of (e7 _ _ hta), atI_end gy', (y : Int), 1, rfl, rfl, by show 1 ≤ sizeLine; decide, fun u nu => ?_⟩
      have e8 := Ex.new (o := .tup [V.int ((y : Int) + 1)]) nu
      have gu := upd_same (H := H7) (a := u) (o := .tup [V.int ((y : Int) + 1)])
      generalize (upd H7 u (.tup [V.int ((y : Int) + 1)])) = H8 at e8 gu ⊢
      refine SlT.catA_use (e8 _ _ gw) gu ?_ fun w2 H9 e9 gw2 => ?_
      · rw [nvs_len, List.length_take]
        exact sz (by show min (e.2.length - 1) e.2.length + 1 ≤ _; omega)
      have gw3 : H9 w2 = some (.tup (nvs (e.2.take (e.2.length - 1) ++ [y + 1]))) := by
        rw [gw2, nvs_snoc]
        rfl
      refine ⟨by show 2 ≤ sizeLine; decide, fun Tt nT => ?_⟩
      have eT := Ex.new (o := .tup [V.int (e.1 : Int), .ref w2]) nT
      have gT := upd_same (H := H9) (a := Tt) (o := .tup [V.int (e.1 : Int), .ref w2])
      generalize (upd H9 Tt (.tup [V.int (e.1 : Int), .ref w2])) = HT at eT gT ⊢
      have t10 := (t7.ex (e8.trans e9)).ex eT
      have hta10 := eT _ _ (e9 _ _ (e8 _ _ (e7 _ _ hta)))
      refine ⟨.ref l1, rfl, .int (j : Int), rfl, l1, xs, _, j, rfl, rfl, t10.gl, ixN_nat hj, ?_⟩
      have t11 := t10.setL (t10.hE.put (i := j) (e := upE e y) ⟨w2, gT, eT _ _ gw3⟩)
      have hta11 : (upd HT l1 (.lst (xs.set j (.ref Tt)))) tt = some (.tup (nvs e.2)) := by
        rw [upd_ne (ne_of hta10 t10.gl (by intro z; cases z))]
        exact hta10
      generalize (upd HT l1 (.lst (xs.set j (.ref Tt)))) = HU at t11 hta11 ⊢
      have hsl := (hG.fit.fit e me).1
      have gls : ls[e.1]? = some (ls.getD e.1 0) := by rw [List.getD_eq_getElem?_getD, List.getElem?_eq_getElem hsl]; rfl
      have lv : ls.getD e.1 0 ≤ 120 := hG.fit.most _ (List.mem_of_getElem? gls)
      have gls' : (nvs ls)[e.1]? = some (.int ((ls.getD e.1 0 : Nat) : Int)) := by
        unfold nvs
        rw [List.getElem?_map, gls]
        rfl
      refine ⟨.ref m1, rfl, .int (e.1 : Int), rfl, m1, _, _, _, rfl, rfl, SqL.of t11.gm, atI_nat gls', .ref tt, rfl, 1, rfl, tt, _, -1, _, rfl, rfl, SqT.of hta11, atI_end gy', (y : Int), 2, rfl, rfl, _, _, rfl, .ref m1, rfl, .int (e.1 : Int), rfl, m1, _, _, e.1, rfl, rfl, t11.gm, ixN_nat (by rw [nvs_len]; exact hsl), ?_⟩
      obtain ⟨v, hv⟩ : ∃ v : Nat, (if ((y : Int) + 2) > ((ls.getD e.1 0 : Nat) : Int) then ((y : Int) + 2) else ((ls.getD e.1 0 : Nat) : Int)) = (v : Int) := ⟨max (ls.getD e.1 0) (y + 2), by split <;> omega⟩
      rw [hv]
      have v1 : ls.getD e.1 0 ≤ v ∧ y + 2 ≤ v ∧ v ≤ 120 := by split at hv <;> omega
      have es' : (nvs ls).set e.1 (.int (v : Int)) = nvs (ls.set e.1 v) := by
        unfold nvs
        exact (List.map_set (f := fun (n : Nat) => V.int (n : Int))).symm
      rw [es']
      have t12 := t11.setM (ks := ls.set e.1 v)
      exact ⟨z, l1, m1, s, some (.int (j : Int)), some (.int (e.1 : Int)), some (.ref tt), _, _, _, rfl, ⟨t12.lp, t12.mp, t12.lm, t12.l0, t12.m0, t12.pl.mono (by omega), t12.gl, t12.hE, t12.gm, t12.fx⟩, hG.last ge gy v1.1 v1.2.1 v1.2.2⟩
    clear t hG
    obtain ⟨z, l1, m1, s, o7, o8, o9, xs, es, ls, rfl, t, hG⟩ := ph
    -- 4, 5: a length, one more
    refine ⟨Ph12 H p (c + 4) so at' 69, ?_, fun σ' H3 ph => ?_⟩
    · have same : ∀ {H2}, St12 H p (c + 4) l1 m1 xs es ls H2 → Ph12 H p (c + 4) so at' 69 [some (.ref p), some (.str z), some (.ref l1), some (.ref m1), some (.int (s : Int)), some (.int so), some (.int at'), o7, o8, o9] H2 := fun {H2} t => ⟨z, l1, m1, s, o7, o8, o9, xs, es, ls, rfl, t, hG⟩
      refine ⟨.int so, rfl, by show 2 ≤ sizeLine; decide, fun Tt nT => ?_⟩
      have eT := Ex.new (o := .tup [V.int 4, .int 5]) nT
      have gT := upd_same (H := H2) (a := Tt) (o := .tup [V.int 4, .int 5])
      generalize (upd H2 Tt (.tup [V.int 4, .int 5])) = H5 at eT gT ⊢
      have t5 := t.ex eT
      refine ⟨Tt, _, rfl, .inr (SqT.of gT), rfl, rfl, _, rfl, ite2 (fun _ => ?_) (fun _ => ite2 (fun h => absurd h (by decide)) (fun _ => same t5))⟩
      refine ⟨.int at', rfl, .ref m1, rfl, m1, _, rfl, .inl (SqL.of t5.gm), at', _, rfl, rfl, _, rfl, ite2 (fun cc => ?_) (fun _ => same t5)⟩
      have lt := of_decide_eq_true cc
      rw [nvs_len] at lt
      obtain ⟨j, rfl⟩ := Int.eq_ofNat_of_zero_le at0
      have hsl : j < ls.length := by omega
      have gls : ls[j]? = some (ls.getD j 0) := by rw [List.getD_eq_getElem?_getD, List.getElem?_eq_getElem hsl]; rfl
      have lv : ls.getD j 0 ≤ 120 := hG.fit.most _ (List.mem_of_getElem? gls)
      have gls' : (nvs ls)[j]? = some (.int ((ls.getD j 0 : Nat) : Int)) := by
        unfold nvs
        rw [List.getElem?_map, gls]
        rfl
      refine ⟨.ref m1, rfl, .int (j : Int), rfl, m1, _, _, _, rfl, rfl, SqL.of t5.gm, atI_nat gls', ((ls.getD j 0 : Nat) : Int), 1, rfl, rfl, 120, _, rfl, .ref m1, rfl, .int (j : Int), rfl, m1, _, _, j, rfl, rfl, t5.gm, ixN_nat (by rw [nvs_len]; exact hsl), ?_⟩
      obtain ⟨v, hv⟩ : ∃ v : Nat, (if (((ls.getD j 0 : Nat) : Int) + 1) < 120 then (((ls.getD j 0 : Nat) : Int) + 1) else 120) = (v : Int) := ⟨min 120 (ls.getD j 0 + 1), by split <;> omega⟩
      rw [hv]
      have v1 : ls.getD j 0 ≤ v ∧ v ≤ 120 := by split at hv <;> omega
      have es' : (nvs ls).set j (.int (v : Int)) = nvs (ls.set j v) := by
        unfold nvs
        exact (List.map_set (f := fun (n : Nat) => V.int (n : Int))).symm
      rw [es']
      refine ⟨z, l1, m1, s, o7, o8, o9, xs, es, _, rfl, t5.setM (ks := ls.set j v), hG.ls (fit_mono hG.fit (by rw [List.length_set]; exact Nat.le_refl _) (by rw [List.length_set]; exact hG.fit.few) (fun n hn => ?_) (fun i hi => ?_))⟩
      · rcases mem_set hn with rfl | hn
        · exact v1.2
        · exact hG.fit.most n hn
      · rw [getD_set hsl]
        split
        · rename_i c
          rw [← c]
          exact v1.1
        · exact Nat.le_refl _
    clear t hG
    obtain ⟨z, l1, m1, s, o7, o8, o9, xs, es, ls, rfl, t, hG⟩ := ph
    -- 6: a length more
    refine ⟨Ph12 H p (c + 4) so at' 69, ?_, fun σ' H4 ph => ?_⟩
    · have same : ∀ {H2}, St12 H p (c + 4) l1 m1 xs es ls H2 → Ph12 H p (c + 4) so at' 69 [some (.ref p), some (.str z), some (.ref l1), some (.ref m1), some (.int (s : Int)), some (.int so), some (.int at'), o7, o8, o9] H2 := fun {H2} t => ⟨z, l1, m1, s, o7, o8, o9, xs, es, ls, rfl, t, hG⟩
      refine ⟨.int so, rfl, rfl, _, rfl, ite2 (fun _ => ?_) (fun _ => same t)⟩
      refine ⟨.ref m1, rfl, by show 1 ≤ sizeLine; decide, fun L nL => ?_⟩
      have eL := Ex.new (o := .lst [V.int 0]) nL
      have gL := upd_same (H := H3) (a := L) (o := .lst [V.int 0])
      generalize (upd H3 L (.lst [V.int 0])) = H5 at eL gL ⊢
      have t5 := t.ex eL
      obtain ⟨k, hk, hk2⟩ : ∃ k : Nat, (if decide (((nvs ls).length : Int) < 60) = true then (1 : Int) else 0) = (k : Int) ∧ k ≤ 1 ∧ ls.length + k ≤ 60 := by
        have := hG.fit.few
        rw [nvs_len]
        by_cases c : ls.length < 60
        · exact ⟨1, by rw [decide_eq_true (by omega)]; rfl, by omega, by omega⟩
        · exact ⟨0, by rw [decide_eq_false (by omega)]; rfl, by omega, by omega⟩
      refine ⟨.ref m1, rfl, m1, _, rfl, .inl (SqL.of t5.gm), _, 60, rfl, rfl, .inr ⟨_, rfl, ?_⟩⟩
      rw [hk]
      refine ⟨L, (k : Int), [V.int 0], rfl, rfl, gL, by omega, by omega, ?_, fun R nR => ?_⟩
      · rw [Int.toNat_natCast]
        exact sz (by show 1 * k ≤ _; omega)
      rw [Int.toNat_natCast]
      have er : (List.replicate k [V.int 0]).flatten = nvs (List.replicate k 0) := by
        match k, hk2.1 with
        | 0, _ => rfl
        | 1, _ => rfl
      rw [er]
      have eR := Ex.new (o := .lst (nvs (List.replicate k 0))) nR
      have gR := upd_same (H := H5) (a := R) (o := .lst (nvs (List.replicate k 0)))
      generalize (upd H5 R (.lst (nvs (List.replicate k 0)))) = H6 at eR gR ⊢
      have t6 := t5.ex eR
      have few := hG.fit.few
      refine ⟨m1, R, _, _, rfl, rfl, t6.gm, gR, ?_, fun M nM => ?_⟩
      · rw [nvs_len, nvs_len, List.length_replicate]
        exact sz (by omega)
      have eM := Ex.new (o := .lst (nvs ls ++ nvs (List.replicate k 0))) nM
      have gM : (upd H6 M (.lst (nvs ls ++ nvs (List.replicate k 0)))) M = some (.lst (nvs (ls ++ List.replicate k 0))) := by
        rw [upd_same]
        unfold nvs
        rw [List.map_append]
      have nMp := pool_ne t6.pl nM
      have nlM : l1 ≠ M := ne_of_none t6.gl nM
      have M0 := fx_freeN t6.fx nMp nM
      generalize (upd H6 M (.lst (nvs ls ++ nvs (List.replicate k 0)))) = H7 at eM gM ⊢
      have t7 := t6.ex eM
      refine ⟨z, l1, M, s, o7, o8, o9, xs, es, _, rfl, ⟨t7.lp, nMp, nlM, t7.l0, M0, t7.pl, t7.gl, t7.hE, gM, t7.fx⟩, hG.ls (fit_mono hG.fit (by rw [List.length_append]; omega) (by rw [List.length_append, List.length_replicate]; exact hk2.2) (fun n hn => ?_) (fun i hi => ?_))⟩
      · rcases List.mem_append.mp hn with hn | hn
        · exact hG.fit.most n hn
        · rw [List.eq_of_mem_replicate hn]
          exact Nat.zero_le _
      · rw [List.getD_eq_getElem?_getD, List.getD_eq_getElem?_getD, List.getElem?_append_left hi]
        exact Nat.le_refl _
    clear t hG
    obtain ⟨z, l1, m1, s, o7, o8, o9, xs, es, ls, rfl, t, hG⟩ := ph
    refine ⟨.str z, rfl, .ref l1, rfl, .ref m1, rfl, .int (s : Int), rfl, by show 4 ≤ sizeLine; decide, fun Tt nT => ?_⟩
    have nTp := pool_ne t.pl nT
    have t2 := t.ex (Ex.new (o := .tup [V.str z, .ref l1, .ref m1, .int (s : Int)]) nT)
    exact q Tt l1 m1 z s xs es ls _ nTp t.lp t.mp (fx_freeN t.fx nTp nT) t.l0 t.m0 upd_same t2.gl t2.hE t2.gm hG t2.pl t2.fx

/-! ### when rows, blocks are equal: the law's own look -/
theorem sOk {z : Str} (h : isW z = true) : PyData.canLay0 (.str z) = true := by
  unfold isW at h
  rw [Bool.and_eq_true, Bool.and_eq_true, decide_eq_true_eq, decide_eq_true_eq, List.all_eq_true] at h
  obtain ⟨⟨_, _⟩, h3⟩ := h
  rw [PyData.canLay0]
  show z.cps.all (fun c => decide (c < 0x110000)) = true
  rw [Array.all_eq_true_iff_forall_mem]
  intro c hc
  have := h3 c (Array.mem_toList_iff.mpr hc)
  rw [Bool.and_eq_true, decide_eq_true_eq, decide_eq_true_eq] at this
  exact decide_eq_true (by omega)
theorem blkEq_iff {es fs : List En} {ls ks : List Nat} (he : Ens es) (hf : Ens fs) : blkEq es ls fs ks = true ↔ headE es ls = headE fs ks ∧ es = fs := by
  unfold blkEq
  rw [Bool.and_eq_true, decide_eq_true_eq]
  constructor
  · rintro ⟨a, b⟩
    have a' := eqv_pln _ _ (by rw [plnD]; exact pln_dV _) (by rw [plnD]; exact pln_dV _) a
    have b' := V.str.inj b
    have b2 : (codeE es).flatten = (codeE fs).flatten := by
      rw [← tl_txt (codeE es).flatten, b', tl_txt]
    exact ⟨dV_inj (PyData.tuple.inj a'), codeE_inj he hf b2⟩
  · rintro ⟨a, rfl⟩
    rw [a]
    exact ⟨eqv_self (shTd _), rfl⟩
theorem ans_iff {e : Nat → Bool} {m n : Nat} : OwnT.ans e m n = true ↔ m = n ∧ ∀ i, i < m → e i = true := by
  unfold OwnT.ans
  rw [Bool.and_eq_true, List.all_eq_true, beq_iff_eq]
  constructor
  · rintro ⟨a, rfl⟩
    exact ⟨rfl, fun i hi => a i (List.mem_range.mpr (by omega))⟩
  · rintro ⟨rfl, b⟩
    exact ⟨fun i hi => b i (by have := List.mem_range.mp hi; omega), rfl⟩
theorem cuts_eq {es fs : List En} {s n : Nat} (h : ∀ i, i < n → cutE es s i = cutE fs s i) : es.take (n * s) = fs.take (n * s) := by
  induction n with
  | zero => rw [Nat.zero_mul]; rfl
  | succ n ih => rw [take_more, take_more, ih fun i hi => h i (by omega), h n (Nat.lt_succ_self n)]
theorem rowEq_iff {z z' : Str} {s s' : Nat} {es es' : List En} {ls ls' : List Nat} (he : Ens es) (hf : Ens es') (s1 : 1 ≤ s) : rowEq z s es ls z' s' es' ls' = true ↔ z = z' ∧ s = s' ∧ es = es' ∧ headsE es s ls (nb es.length s) = headsE es' s' ls' (nb es'.length s') := by
  unfold rowEq
  rw [Bool.and_eq_true, Bool.and_eq_true, decide_eq_true_eq, decide_eq_true_eq, ans_iff]
  constructor
  · rintro ⟨a, b, c, d⟩
    have hz := V.str.inj a
    have hs : s = s' := by have := V.int.inj b; omega
    subst hs
    have k : ∀ i, i < nb es.length s → headE (cutE es s i) ls = headE (cutE es' s i) ls' ∧ cutE es s i = cutE es' s i := fun i hi => (blkEq_iff (he.cut s i) (hf.cut s i)).mp (d i hi)
    have t := cuts_eq (n := nb es.length s) fun i hi => (k i hi).2
    have m1 := nb_mul (n := es.length) (s := s) s1
    have m2 := nb_mul (n := es'.length) (s := s) s1
    rw [List.take_of_length_le m1, c, List.take_of_length_le m2] at t
    refine ⟨hz, rfl, t, ?_⟩
    unfold headsE
    rw [← c]
    exact List.map_congr_left fun i hi => (k i (List.mem_range.mp hi)).1
  · rintro ⟨rfl, rfl, rfl, d⟩
    refine ⟨rfl, rfl, rfl, fun i hi => (blkEq_iff (he.cut s i) (he.cut s i)).mpr ⟨?_, rfl⟩⟩
    unfold headsE at d
    have g : ((List.range (nb es.length s)).map fun i => headE (cutE es s i) ls)[i]? = ((List.range (nb es.length s)).map fun i => headE (cutE es s i) ls')[i]? := by rw [d]
    rw [List.getElem?_map, List.getElem?_map, List.getElem?_range hi] at g
    exact Option.some.inj g
theorem rowEq_comm {z z' : Str} {s s' : Nat} {es es' : List En} {ls ls' : List Nat} (he : Ens es) (hf : Ens es') (s1 : 1 ≤ s) (s2 : 1 ≤ s') : rowEq z s es ls z' s' es' ls' = rowEq z' s' es' ls' z s es ls := by
  rw [Bool.eq_iff_iff, rowEq_iff he hf s1, rowEq_iff hf he s2]
  exact ⟨fun ⟨a, b, c, d⟩ => ⟨a.symm, b.symm, c.symm, d.symm⟩, fun ⟨a, b, c, d⟩ => ⟨a.symm, b.symm, c.symm, d.symm⟩⟩
theorem blkEq_comm {es fs : List En} {ls ks : List Nat} (he : Ens es) (hf : Ens fs) : blkEq es ls fs ks = blkEq fs ks es ls := by
  rw [Bool.eq_iff_iff, blkEq_iff he hf, blkEq_iff hf he]
  exact ⟨fun ⟨a, b⟩ => ⟨a.symm, b.symm⟩, fun ⟨a, b⟩ => ⟨a.symm, b.symm⟩⟩
def dRow (z : Str) (s : Nat) (es : List En) (ls : List Nat) : PyData := .tuple [.str z, .list (dEs es), .int (s : Int), .list (dTs (headsE es s ls (nb es.length s)))]
def dBlk (es : List En) (ls : List Nat) : PyData := .tuple [.tuple (dV (headE es ls)), .list (dEs es)]
theorem pln_dRow (z : Str) (s : Nat) (es : List En) (ls : List Nat) : plnD (dRow z s es ls) = true := by
  unfold dRow
  rw [plnD, plnL, plnL, plnL, plnL, plnL, plnD, plnD, plnD, plnD, pln_dEs, pln_dTs]
  rfl
theorem pln_dBlk (es : List En) (ls : List Nat) : plnD (dBlk es ls) = true := by
  unfold dBlk
  rw [plnD, plnL, plnL, plnL, plnD, plnD, pln_dEs, pln_dV]
  rfl
theorem sh_dRow {z : Str} (h : isW z = true) (s : Nat) (es : List En) (ls : List Nat) : SeqAt.shaped (dRow z s es ls) = true := by
  have a := shEs es
  have b := shTs (headsE es s ls (nb es.length s))
  unfold SeqAt.shaped at a b ⊢
  rw [Bool.and_eq_true, decide_eq_true_eq] at a b
  unfold dRow
  rw [PyData.canLay0, PyData.canLayAll0, PyData.canLayAll0, PyData.canLayAll0, PyData.canLayAll0, PyData.canLayAll0, a.1, b.1]
  rw [sOk h, PyData.canLay0]
  have d1 : PyData.depthAll (dEs es) ≤ 2 := (sh_all (k := 2) shE es).2
  have d2 : PyData.depthAll (dTs (headsE es s ls (nb es.length s))) ≤ 1 := (sh_all (k := 1) shT (headsE es s ls (nb es.length s))).2
  have d3 : PyData.depth (.tuple [.str z, .list (dEs es), .int (s : Int), .list (dTs (headsE es s ls (nb es.length s)))]) ≤ 64 := by
    simp only [PyData.depth, PyData.depthAll]
    omega
  rw [decide_eq_true d3]
  rfl
theorem due_row {z z' : Str} {s s' : Nat} {es es' : List En} {ls ls' : List Nat} (hz : isW z = true) (he : Ens es) (hf : Ens es') (s1 : 1 ≤ s) : PyData.eqv (dRow z s es ls) (dRow z' s' es' ls') = rowEq z s es ls z' s' es' ls' := by
  rw [Bool.eq_iff_iff, rowEq_iff he hf s1]
  constructor
  · intro h
    have e := eqv_pln _ _ (pln_dRow _ _ _ _) (pln_dRow _ _ _ _) h
    have e := PyData.tuple.inj e
    simp only [List.cons.injEq, and_true] at e
    obtain ⟨a, b, c, d⟩ := e
    have hs : s = s' := by have := PyData.int.inj c; omega
    exact ⟨PyData.str.inj a, hs, dEs_inj (PyData.list.inj b), dTs_inj (PyData.list.inj d)⟩
  · rintro ⟨rfl, rfl, rfl, d⟩
    have e : dRow z s es ls = dRow z s es ls' := by
      unfold dRow
      rw [d]
    rw [e]
    exact eqv_self (sh_dRow hz s es ls')
theorem sh_dBlk (es : List En) (ls : List Nat) : SeqAt.shaped (dBlk es ls) = true := by
  have a := shEs es
  have b := shT (headE es ls)
  unfold SeqAt.shaped at a ⊢
  rw [Bool.and_eq_true, decide_eq_true_eq] at a
  unfold dBlk
  rw [PyData.canLay0, PyData.canLayAll0, PyData.canLayAll0, PyData.canLayAll0, a.1, b.1]
  have d1 : PyData.depthAll (dEs es) ≤ 2 := (sh_all (k := 2) shE es).2
  have d3 : PyData.depth (.tuple [.tuple (dV (headE es ls)), .list (dEs es)]) ≤ 64 := by
    have := b.2
    rw [PyData.depth] at this
    simp only [PyData.depth, PyData.depthAll]
    omega
  rw [decide_eq_true d3]
  rfl
theorem due_blk {es fs : List En} {ls ks : List Nat} (he : Ens es) (hf : Ens fs) : PyData.eqv (dBlk es ls) (dBlk fs ks) = blkEq es ls fs ks := by
  rw [Bool.eq_iff_iff, blkEq_iff he hf]
  constructor
  · intro h
    have e := PyData.tuple.inj (eqv_pln _ _ (pln_dBlk _ _) (pln_dBlk _ _) h)
    simp only [List.cons.injEq, and_true] at e
    exact ⟨dV_inj (PyData.tuple.inj e.1), dEs_inj (PyData.list.inj e.2)⟩
  · rintro ⟨a, rfl⟩
    have e : dBlk es ls = dBlk es ks := by
      unfold dBlk
      rw [a]
    rw [e]
    exact eqv_self (sh_dBlk es ks)

/-! ### law -/
def spLaw (K : PySem.W.Frag) : Sp := fun vs H Q _ => ∃ (a : Addr) (ns : List Int), vs = [.ref a] ∧ SqL K H a (ns.map V.int) ∧ ns.length ≤ 63 ∧ ∀ H', Q (.bl true) H'
theorem maxmin8 (n : Nat) : 1 ≤ (if (if (n : Int) < 8 then (n : Int) else 8) > 1 then (if (n : Int) < 8 then (n : Int) else 8) else 1) ∧ (if (if (n : Int) < 8 then (n : Int) else 8) > 1 then (if (n : Int) < 8 then (n : Int) else 8) else 1) ≤ 8 := by
  constructor
  · split <;> split <;> omega
  · split <;> split <;> omega
theorem fx_new {p : Addr} {H H1 H2 : Hp} (n : H p = none) (e : Ex H H1) (f : Fx p H1 H2) : Ex H H2 := fun a o h => f a o (ne_of_none h n) (e a o h)
theorem cutV_mul {xs : List V} {i s : Nat} : cutV xs (some ((i : Nat) * (s : Int))) (some ((i : Nat) * (s : Int) + (s : Int))) = (xs.drop (i * s)).take s := by
  have := cutV_at (xs := xs) (i := i) (s := s)
  rw [Int.zero_add] at this
  exact this
theorem refs_inj : ∀ {bs cs : List Addr}, bs.map V.ref = cs.map V.ref → bs = cs := fun h => map_inj (fun _ _ e => V.ref.inj e) h
theorem rowF_same {z z' : Str} {s s' : Nat} {t t' : Addr} (h : rowF z s t = rowF z' s' t') : z = z' ∧ s = s' ∧ t = t' := by
  unfold rowF at h
  simp only [List.cons.injEq, Prod.mk.injEq, true_and, and_true] at h
  obtain ⟨a, b, c⟩ := h
  exact ⟨V.str.inj a, by have := V.int.inj b; omega, V.ref.inj c⟩
theorem RowAt.same {CR CB : Addr} {H : Hp} {r : Addr} {z z' : Str} {s s' : Nat} {es es' : List En} {ls ls' : List Nat} (h : RowAt CR CB H r z s es ls) (k : RowAt CR CB H r z' s' es' ls') : rowEq z s es ls z' s' es' ls' = true := by
  obtain ⟨dx, t, bs, h1, h2, h3⟩ := h
  obtain ⟨dy, u, cs, k1, k2, k3⟩ := k
  rw [h1] at k1
  obtain ⟨rfl, rfl, rfl⟩ := rowF_same (HO.ins.inj (Option.some.inj k1)).2.2
  rw [h2] at k2
  obtain rfl := refs_inj (HO.tup.inj (Option.some.inj k2))
  unfold rowEq
  rw [decide_eq_true rfl, decide_eq_true rfl, Bool.true_and, Bool.true_and, ans_iff]
  refine ⟨h3.1.symm.trans k3.1, fun i hi => ?_⟩
  have hb : i < bs.length := by rw [h3.1]; exact hi
  have g := List.getElem?_eq_getElem hb
  exact (h3.2 i _ g).same (k3.2 i _ g)
theorem row_db {CR CB : Addr} {H : Hp} {a b : Addr} {z z' : Str} {s s' : Nat} {es es' : List En} {ls ls' : List Nat} (h : RowAt CR CB H a z s es ls) (k : RowAt CR CB H b z' s' es' ls') : OwnS.DB CR (REqR CR CB) H (.ref a) (.ref b) (rowEq z s es ls z' s' es' ls') := by
  obtain ⟨dx, t, bs, h1, _⟩ := id h
  obtain ⟨dy, u, cs, k1, _⟩ := id k
  exact ⟨a, b, dx, dy, _, _, rfl, rfl, h1, k1, ⟨z, s, es, ls, z', s', es', ls', h, k, rfl⟩, fun e => by subst e; exact h.same k⟩
/-- a thing of a built-in kind -/
def Bare (K : PySem.W.Frag) (H : Hp) (y : V) : Prop := ∃ T, TyX K H y (.type T) ∧ T ∈ ["NoneType", "int", "str", "tuple", "list", "bool"]
theorem bare_nf {K : PySem.W.Frag} {C : Addr} {H : Hp} {y : V} (h : Bare K H y) : ∃ T, TyX K H y (.type T) ∧ PySem.W.notFirst K C (.type T) = true := by
  obtain ⟨T, ht, hm⟩ := h
  refine ⟨T, ht, ?_⟩
  simp only [List.mem_cons, List.not_mem_nil, or_false] at hm
  rcases hm with rfl | rfl | rfl | rfl | rfl | rfl <;> exact Own.nf (by rfl) (by rfl)
theorem EnsL.gd {es : List En} {ls : List Nat} {z : Str} {s : Nat} (h : EnsL es) (f : Fit es ls) (hz : isW z = true) (s1 : 1 ≤ s) (s8 : s ≤ 8) : Gd 68 z s es ls := ⟨hz, s1, s8, h.ens, h.few, h.slot, h.place, f⟩
theorem iteN {A B : Prop} (b : B) : if (false = true) then A else B := by
  rw [if_neg (by decide)]
  exact b
set_option maxHeartbeats 64000000 in
theorem ok_law (T : TX K mg A FD TK) : FnOk P w K mg base CX0 12 (A 52) (FD 52) ["_law_script"] (spLaw K) := by
  have G_l_pool := (ok_l_pool (P := P) (w := w) (base := base) T).mono (show 1 ≤ 11 by decide)
  have G_l_take := (ok_l_take (P := P) (w := w) (base := base) T).mono (show 1 ≤ 11 by decide)
  have G_l_kinds := (ok_l_kinds (P := P) (w := w) (base := base) T).mono (show 2 ≤ 11 by decide)
  have G_l_row_entries := (ok_l_row_entries (P := P) (w := w) (base := base) T).mono (show 2 ≤ 11 by decide)
  have G_l_lengths := (ok_l_lengths (P := P) (w := w) (base := base) T).mono (show 2 ≤ 11 by decide)
  have G_l_changed := (ok_l_changed (P := P) (w := w) (base := base) T).mono (show 2 ≤ 11 by decide)
  have G_l_heads := (ok_l_heads (P := P) (w := w) (base := base) T).mono (show 1 ≤ 11 by decide)
  have G_l_are := (ok_l_are (P := P) (w := w) (base := base) T).mono (show 9 ≤ 11 by decide)
  have G_Row := (ok_rinit (P := P) (w := w) (base := base) T).mono (show 9 ≤ 10 by decide)
  have G_Row_blocks := (ok_rblocks (P := P) (w := w) (base := base) T).mono (show 1 ≤ 11 by decide)
  have G_Row_eq := (ok_req (P := P) (w := w) (base := base) T).mono (show 4 ≤ 11 by decide)
  have G_Row_eq7 := (ok_req (P := P) (w := w) (base := base) T).mono (show 4 ≤ 10 by decide)
  have G_Block_eq := (ok_beq (P := P) (w := w) (base := base) T).mono (show 2 ≤ 11 by decide)
  have KB3_Row := kb_row T
  obtain ⟨dsb, R3_Row, B3_Row⟩ := bd_row T
  refine T.f_law.ok (k := 11) sc_law (fun vs H Q E h => ?_) (fun cdv A' outer s H vs Q E hr h => ?_)
  · obtain ⟨a, ns, rfl, _⟩ := h
    rfl
  · obtain ⟨a, ns, rfl, hS, hn, q⟩ := h
    refine ⟨_, (pss_cons (ps_for PassesOwn.never rfl (pi_range1 (by rfl) T.m_range (pa_cons (pe_callB (call_max2 rfl) (by rfl) T.m_max (by decide +kernel) (pa_cons pe_int (pa_cons (pe_callB (call_min2 rfl) (by rfl) T.m_min (by decide +kernel) (pa_cons pe_int (pa_cons (pe_callB (lenK (K := K) rfl) (by rfl) T.m_len (by decide +kernel) (pa_cons (pv 0) pa_nil)) pa_nil))) pa_nil))) pa_nil)) (pg_name (i := 1) sc_law.nd rfl (.inl rfl))
      (pss_cons (ps_set (i := 2) sc_law.nd rfl (.inl rfl) (pe_call G_l_pool hr (by rfl) T.g_l_pool T.f_l_pool.kp T.b_l_pool .nil pass0 (pa_cons (pv 0) (pa_cons (pv 1) pa_nil))))
      (pss_cons (ps_set (i := 3) sc_law.nd rfl (.inl rfl) (pe_call G_l_row_entries hr (by rfl) T.g_l_row_entries T.f_l_row_entries.kp T.b_l_row_entries .nil pass0 (pa_cons (pv 2) (pa_cons pe_int (pa_cons pe_int pa_nil)))))
      (pss_cons (ps_set (i := 4) sc_law.nd rfl (.inl rfl) (pe_call G_l_lengths hr (by rfl) T.g_l_lengths T.f_l_lengths.kp T.b_l_lengths .nil pass0 (pa_cons (pv 2) (pa_cons (pv 3) pa_nil))))
      (pss_cons (ps_set (i := 5) sc_law.nd rfl (.inl rfl) (pe_tup (pa_cons (pe_slice sl_str (pe_ix (ixLK (K := K) rfl) (pe_call G_l_kinds hr (by rfl) T.g_l_kinds T.f_l_kinds.kp T.b_l_kinds .nil pass0 (pa_cons (pv 2) pa_nil)) pe_int (fun _ _ => rfl)) po_none (po_some pe_int)) (pa_cons (pv 3) (pa_cons (pv 4) (pa_cons (pe_op op_add pe_int (pe_call G_l_take hr (by rfl) T.g_l_take T.f_l_take.kp T.b_l_take .nil pass0 (pa_cons (pv 2) (pa_cons pe_int pa_nil)))) pa_nil))))))
      (pss_cons (ps_set (i := 6) sc_law.nd rfl (.inl rfl) (pe_call G_l_changed hr (by rfl) T.g_l_changed T.f_l_changed.kp T.b_l_changed .nil pass0 (pa_cons (pv 2) (pa_cons (pe_ix (ixTK (K := K) rfl) (pv 5) pe_int (fun _ _ => rfl)) (pa_cons (pv 3) (pa_cons (pv 4) (pa_cons (pe_ix (ixTK (K := K) rfl) (pv 5) pe_int (fun _ _ => rfl)) pa_nil)))))))
      (pss_cons (ps_par (by rfl) sc_law.nd (i := 7) (j := 8) rfl rfl (by decide) rfl rfl (pa_cons (pe_makeK T.M_Row G_Row hr (by rfl) T.k_Row KB3_Row pass0 (pa_cons (pe_ix (ixTK (K := K) rfl) (pv 5) pe_int (fun _ _ => rfl)) (pa_cons (pe_ix (ixTK (K := K) rfl) (pv 5) pe_int (fun _ _ => rfl)) (pa_cons (pe_ix (ixTK (K := K) rfl) (pv 5) pe_int (fun _ _ => rfl)) pa_nil))) (pk_cons (pe_ix (ixTK (K := K) rfl) (pv 5) pe_int (fun _ _ => rfl)) pk_nil)) (pa_cons (pe_makeK T.M_Row G_Row hr (by rfl) T.k_Row KB3_Row pass0 (pa_cons (pe_ix (ixTK (K := K) rfl) (pv 6) pe_int (fun _ _ => rfl)) (pa_cons (pe_ix (ixTK (K := K) rfl) (pv 6) pe_int (fun _ _ => rfl)) (pa_cons (pe_ix (ixTK (K := K) rfl) (pv 6) pe_int (fun _ _ => rfl)) pa_nil))) (pk_cons (pe_ix (ixTK (K := K) rfl) (pv 6) pe_int (fun _ _ => rfl)) pk_nil)) pa_nil)) (by rfl))
      (pss_cons (ps_set (i := 9) sc_law.nd rfl (.inl rfl) (pe_lst (pa_cons (pe_call G_l_heads hr (by rfl) T.g_l_heads T.f_l_heads.kp T.b_l_heads .nil pass0 (pa_cons (pe_ix (ixTK (K := K) rfl) (pv 5) pe_int (fun _ _ => rfl)) (pa_cons (pe_ix (ixTK (K := K) rfl) (pv 5) pe_int (fun _ _ => rfl)) (pa_cons (pe_ix (ixTK (K := K) rfl) (pv 5) pe_int (fun _ _ => rfl)) pa_nil)))) (pa_cons (pe_call G_l_heads hr (by rfl) T.g_l_heads T.f_l_heads.kp T.b_l_heads .nil pass0 (pa_cons (pe_ix (ixTK (K := K) rfl) (pv 6) pe_int (fun _ _ => rfl)) (pa_cons (pe_ix (ixTK (K := K) rfl) (pv 6) pe_int (fun _ _ => rfl)) (pa_cons (pe_ix (ixTK (K := K) rfl) (pv 6) pe_int (fun _ _ => rfl)) pa_nil)))) pa_nil))))
      (pss_cons (ps_if (pt_not (pt_val (pe_call G_l_are hr (by rfl) T.g_l_are T.f_l_are.kp T.b_l_are .nil pass0 (pa_cons (pv 7) (pa_cons (pv 8) (pa_cons (pe_cmpR (eqDK (K := K) rfl hr.units) (pe_tup (pa_cons (pe_ix (ixTK (K := K) rfl) (pv 5) pe_int (fun _ _ => rfl)) (pa_cons (pe_ix (ixTK (K := K) rfl) (pv 5) pe_int (fun _ _ => rfl)) (pa_cons (pe_ix (ixTK (K := K) rfl) (pv 5) pe_int (fun _ _ => rfl)) (pa_cons (pe_ix (ixLK (K := K) rfl) (pv 9) pe_int (fun _ _ => rfl)) pa_nil))))) (pe_tup (pa_cons (pe_ix (ixTK (K := K) rfl) (pv 6) pe_int (fun _ _ => rfl)) (pa_cons (pe_ix (ixTK (K := K) rfl) (pv 6) pe_int (fun _ _ => rfl)) (pa_cons (pe_ix (ixTK (K := K) rfl) (pv 6) pe_int (fun _ _ => rfl)) (pa_cons (pe_ix (ixLK (K := K) rfl) (pv 9) pe_int (fun _ _ => rfl)) pa_nil))))) (nomark _)) pa_nil))))))
      (pss_one (ps_ret pe_bl))
      pss_nil)
      (pss_cons (ps_for PassesOwn.never rfl (pi_enum (by rfl) T.m_enumerate (pa_cons (pe_meth0 (pv 7) T.cl_Row T.M_Row_blocks G_Row_blocks hr T.b_Row_blocks .nil pass0) pa_nil)) (pg_tup rfl (pgs_cons (pg_name (i := 10) sc_law.nd rfl (.inl rfl)) (pgs_cons (pg_name (i := 11) sc_law.nd rfl (.inl rfl)) pgs_nil)))
      (pss_cons (ps_set (i := 12) sc_law.nd rfl (.inl rfl) (pe_tup (pa_cons (pe_ix (ixLK (K := K) rfl) (pe_ix (ixLK (K := K) rfl) (pv 9) pe_int (fun _ _ => rfl)) (pv 10) (fun _ _ => rfl)) (pa_cons (pe_slice (slLK (K := K) rfl) (pv 3) (po_some (pe_op op_mul (pv 10) (pe_ix (ixTK (K := K) rfl) (pv 5) pe_int (fun _ _ => rfl)))) (po_some (pe_op op_add (pe_op op_mul (pv 10) (pe_ix (ixTK (K := K) rfl) (pv 5) pe_int (fun _ _ => rfl))) (pe_ix (ixTK (K := K) rfl) (pv 5) pe_int (fun _ _ => rfl))))) pa_nil))))
      (pss_cons (ps_for PassesOwn.never rfl (pi_enum (by rfl) T.m_enumerate (pa_cons (pe_meth0 (pv 8) T.cl_Row T.M_Row_blocks G_Row_blocks hr T.b_Row_blocks .nil pass0) pa_nil)) (pg_tup rfl (pgs_cons (pg_name (i := 13) sc_law.nd rfl (.inl rfl)) (pgs_cons (pg_name (i := 14) sc_law.nd rfl (.inl rfl)) pgs_nil)))
      (pss_cons (ps_set (i := 15) sc_law.nd rfl (.inl rfl) (pe_tup (pa_cons (pe_ix (ixLK (K := K) rfl) (pe_ix (ixLK (K := K) rfl) (pv 9) pe_int (fun _ _ => rfl)) (pv 13) (fun _ _ => rfl)) (pa_cons (pe_slice (slLK (K := K) rfl) (pe_ix (ixTK (K := K) rfl) (pv 6) pe_int (fun _ _ => rfl)) (po_some (pe_op op_mul (pv 13) (pe_ix (ixTK (K := K) rfl) (pv 6) pe_int (fun _ _ => rfl)))) (po_some (pe_op op_add (pe_op op_mul (pv 13) (pe_ix (ixTK (K := K) rfl) (pv 6) pe_int (fun _ _ => rfl))) (pe_ix (ixTK (K := K) rfl) (pv 6) pe_int (fun _ _ => rfl))))) pa_nil))))
      (pss_one (ps_if (pt_not (pt_val (pe_call G_l_are hr (by rfl) T.g_l_are T.f_l_are.kp T.b_l_are .nil pass0 (pa_cons (pv 11) (pa_cons (pv 14) (pa_cons (pe_cmpR (eqDK (K := K) rfl hr.units) (pv 12) (pv 15) (nomark _)) pa_nil))))))
      (pss_one (ps_ret pe_bl))
      pss_nil))))
      (pss_one (ps_if (PW.pt (pw_or (pt_cmpR op_notBl (pe_cmpR (OwnT.op_eqC G_Block_eq T.M_Block_eq T.b_Block_eq pass0 hr (K := K) rfl) (pv 11) (pv 7) (nomark _)) pe_bl (nomark _)) (pw_or1 (pt_cmpR op_notBl (pe_cmpR (Own.op_eqO G_Block_eq T.M_Block_eq T.b_Block_eq pass0 hr (K := K) rfl) (pv 11) (pv 12) (nomark _)) pe_bl (nomark _)))))
      (pss_one (ps_ret pe_bl))
      pss_nil)))))
      (pss_one (ps_for PassesOwn.never rfl (piTK (K := K) rfl (pe_tup (pa_cons pe_non (pa_cons (pe_ix (ixTK (K := K) rfl) (pv 5) pe_int (fun _ _ => rfl)) (pa_cons (pv 3) (pa_cons pe_int (pa_cons pe_bl (pa_cons (pe_ix (ixLK (K := K) rfl) (pv 9) pe_int (fun _ _ => rfl)) pa_nil)))))))) (pg_name (i := 16) sc_law.nd rfl (.inl rfl))
      (pss_one (ps_if (PW.pt (pw_or (pt_cmpR op_notBl (pe_cmpR (Own.op_eqO G_Row_eq T.M_Row_eq T.b_Row_eq pass0 hr (K := K) rfl) (pv 7) (pv 16) (nomark _)) pe_bl (nomark _)) (pw_or1 (pt_cmpR op_notBl (pe_cmpR (Own.op_neO G_Row_eq7 T.M_Row_eq T.b_Row_eq pass0 hr T.neR T.moR (K := K) rfl) (pv 7) (pv 16) (nomark _)) pe_bl (nomark _)))))
      (pss_one (ps_ret pe_bl))
      pss_nil))))))))))))))
      (pss_one (ps_ret pe_bl))), ?_⟩
    refine ⟨.ref a, rfl, a, _, rfl, .inl hS, 8, _, rfl, 1, _, rfl, (if (if ((ns.map V.int).length : Int) < 8 then ((ns.map V.int).length : Int) else 8) > 1 then (if ((ns.map V.int).length : Int) < 8 then ((ns.map V.int).length : Int) else 8) else 1), rfl, ?_, ?_, ?_⟩
    · have := maxmin8 (ns.map V.int).length
      omega
    · have := maxmin8 (ns.map V.int).length
      omega
    have hmm := maxmin8 (ns.map V.int).length
    generalize (if (if ((ns.map V.int).length : Int) < 8 then ((ns.map V.int).length : Int) else 8) > 1 then (if ((ns.map V.int).length : Int) < 8 then ((ns.map V.int).length : Int) else 8) else 1) = nn at hmm ⊢
    refine for_range (lo := 0) (n := nn.toNat) (fun i σ' H' => ∃ y1 y2 y3 y4 y5 y6 y7 y8 y9 y10 y11 y12 y13 y14 y15 y16 : Option V, σ' = [some (.ref a), y1, y2, y3, y4, y5, y6, y7, y8, y9, y10, y11, y12, y13, y14, y15, y16] ∧ Ex H H') ⟨none, none, none, none, none, none, none, none, none, none, none, none, none, none, none, none, rfl, Ex.refl H⟩ (fun i σ' H' hi pv => ?_) (fun σ' H' pv => ?_)
    rotate_left
    · obtain ⟨y1, y2, y3, y4, y5, y6, y7, y8, y9, y10, y11, y12, y13, y14, y15, y16, rfl, e0⟩ := pv
      exact q H'
    obtain ⟨y1, y2, y3, y4, y5, y6, y7, y8, y9, y10, y11, y12, y13, y14, y15, y16, rfl, e0⟩ := pv
    refine ⟨.ref a, rfl, .int ((0 : Int) + i), rfl, a, ns, i, ?_, ex_l e0 hS, hn, by omega, fun p H1 np e1 hp1 => ?_⟩
    · show [V.ref a, V.int ((0 : Int) + i)] = [V.ref a, V.int (i : Int)]
      rw [Int.zero_add]
    refine ⟨.ref p, rfl, p, _, 10, 3, rfl, by decide, by decide, by decide, hp1, by decide, fun l xs es H2 nlp nl hl hE hL hm2 hp2 f2 => ?_⟩
    refine ⟨.ref p, rfl, .ref l, rfl, p, l, _, xs, es, rfl, hp2, by decide, nlp, hl, hE, hL, fun m ls H3 nmp nm hm hF hp3 f3 => ?_⟩
    have hl3 := f3 _ _ nlp hl
    have hE3 := hE.fx hp2 f3
    refine ⟨.ref p, rfl, p, _, rfl, hp3, by decide, fun kk zs H4 nkk hk4 hp4 f4 => ?_⟩
    obtain ⟨z0, az, wz⟩ : ∃ z : Str, atI (zs.map V.str) 0 = some (.str z) ∧ isW z = true := by
      have h1 := hk4.2.1
      match zs, h1, hk4.2.2.2 with
      | z :: r, _, h => exact ⟨z, atI_nat (j := 0) rfl, by rw [List.all_cons, Bool.and_eq_true] at h; exact h.1⟩
    obtain ⟨wz', z8⟩ := isW_cut wz
    have lz0 : z0.length ≤ 12 := by
      unfold isW at wz
      rw [Bool.and_eq_true, Bool.and_eq_true, decide_eq_true_eq, decide_eq_true_eq] at wz
      exact wz.1.2
    refine ⟨kk, _, 0, _, rfl, rfl, SqL.of hk4.1, az, 8, rfl, z0, rfl, sz (by omega), ?_⟩
    obtain ⟨z, hz⟩ : ∃ z, cutS z0 none (some 8) = z := ⟨_, rfl⟩
    rw [hz] at wz' z8
    refine ⟨.ref l, rfl, .ref m, rfl, .ref p, rfl, p, 8, _, rfl, hp4, by decide, by decide, by decide, fun dd H5 d0 d1 hp5 f5 => ⟨1, dd, rfl, rfl, by show 4 ≤ sizeLine; decide, fun o1 no1 => ?_⟩⟩
    obtain ⟨s, hs⟩ : ∃ n : Nat, 1 + dd = (n : Int) := ⟨(1 + dd).toNat, by omega⟩
    have f35 := f4.trans f5
    have hl5 := f35 _ _ nlp hl3
    have hE5 := hE3.fx hp3 f35
    have hm5 := f35 _ _ nmp hm
    have no1p := pool_ne hp5 no1
    have x6 := Ex.new (o := .tup [V.str (cutS z0 none (some 8)), .ref l, .ref m, (fun (i j : Int) => V.int (i + j)) 1 dd]) no1
    have g1 : (upd H5 o1 (.tup [V.str (cutS z0 none (some 8)), .ref l, .ref m, (fun (i j : Int) => V.int (i + j)) 1 dd])) o1 = some (.tup [.str z, .ref l, .ref m, .int (s : Int)]) := by
      rw [upd_same, hz]
      show some (HO.tup [.str z, .ref l, .ref m, .int (1 + dd)]) = _
      rw [hs]
    generalize (upd H5 o1 (.tup [V.str (cutS z0 none (some 8)), .ref l, .ref m, (fun (i j : Int) => V.int (i + j)) 1 dd])) = H6 at x6 g1 ⊢
    have hl6 := x6 _ _ hl5
    have hE6 := hE5.ex x6
    have hm6 := x6 _ _ hm5
    have hp6 := hp5.ex x6
    have hG := hL.gd hF wz' (show 1 ≤ s by omega) (show s ≤ 8 by omega)
    have e6 : Ex H' H6 := (fx_new np e1 (f2.trans (f3.trans f35))).trans x6
    clear hl5 hE5 hm5 f35 hE3 hl3 hl hE hm f2 f3 f4 f5 x6 hp5 hp4 hk4 az wz
    refine ⟨.ref p, rfl, .ref o1, rfl, o1, _, 0, _, rfl, rfl, SqT.of g1, atI_nat (j := 0) rfl, .ref l, rfl, .ref m, rfl, .ref o1, rfl, o1, _, 3, _, rfl, rfl, SqT.of g1, atI_nat (j := 3) rfl, p, l, m, _, z, s, xs, es, ls, rfl, hp6, by decide, nlp, nmp, hl6, hE6, hm6, hG, z8, fun o2 l2 m2 z2 s2 xs2 es2 ls2 H7 no2p nl2p nm2p no2 nl2 nm2 g2 hl2 hE2 hm2' hG2 hp7 f7 => ?_⟩
    have g1 := f7 _ _ no1p g1
    have hl := f7 _ _ nlp hl6
    have hE := hE6.fx hp6 f7
    have hm := f7 _ _ nmp hm6
    have e7 : Ex H' H7 := fx_new np e6 f7
    clear hl6 hE6 hm6 hp6 e6 f7
    have R1 := hG.row
    have R2 := hG2.row
    refine ⟨.ref o1, rfl, o1, _, 0, _, rfl, rfl, SqT.of g1, atI_nat (j := 0) rfl, .ref o1, rfl, o1, _, 1, _, rfl, rfl, SqT.of g1, atI_nat (j := 1) rfl, .ref o1, rfl, o1, _, 2, _, rfl, rfl, SqT.of g1, atI_nat (j := 2) rfl, .ref o1, rfl, o1, _, 3, _, rfl, rfl, SqT.of g1, atI_nat (j := 3) rfl, rfl, rfl, fun r1 dx1 nr1 nd1 _ => mk_row nr1 nd1 hl hE hm R1 fun H8 x8 hR1 => ?_⟩
    have g2 := x8 _ _ g2
    refine ⟨.ref o2, rfl, o2, _, 0, _, rfl, rfl, SqT.of g2, atI_nat (j := 0) rfl, .ref o2, rfl, o2, _, 1, _, rfl, rfl, SqT.of g2, atI_nat (j := 1) rfl, .ref o2, rfl, o2, _, 2, _, rfl, rfl, SqT.of g2, atI_nat (j := 2) rfl, .ref o2, rfl, o2, _, 3, _, rfl, rfl, SqT.of g2, atI_nat (j := 3) rfl, rfl, rfl, fun r2 dx2 nr2 nd2 _ => mk_row nr2 nd2 (x8 _ _ hl2) (hE2.ex x8) (x8 _ _ hm2') R2 fun H9 x9 hR2 => ?_⟩
    have x89 := x8.trans x9
    have g1 := x89 _ _ g1
    have g2 := x9 _ _ g2
    have hR1 := hR1.ex x9
    have hl := x89 _ _ hl
    have hE := hE.ex x89
    have hm := x89 _ _ hm
    have hl2 := x89 _ _ hl2
    have hE2 := hE2.ex x89
    have hm2 := x89 _ _ hm2'
    have e9 := e7.trans x89
    refine ⟨_, _, rfl, ?_⟩
    -- the heads
    refine ⟨.ref o1, rfl, o1, _, 1, _, rfl, rfl, SqT.of g1, atI_nat (j := 1) rfl, .ref o1, rfl, o1, _, 2, _, rfl, rfl, SqT.of g1, atI_nat (j := 2) rfl, .ref o1, rfl, o1, _, 3, _, rfl, rfl, SqT.of g1, atI_nat (j := 3) rfl, l, m, xs, s, es, ls, rfl, R1.lo, R1.hi, hl, hE, R1.ens, hm, R1.fit, fun h1 hs1 H10 nh1 x10 gh1 hT1 => ?_⟩
    have g2 := x10 _ _ g2
    refine ⟨.ref o2, rfl, o2, _, 1, _, rfl, rfl, SqT.of g2, atI_nat (j := 1) rfl, .ref o2, rfl, o2, _, 2, _, rfl, rfl, SqT.of g2, atI_nat (j := 2) rfl, .ref o2, rfl, o2, _, 3, _, rfl, rfl, SqT.of g2, atI_nat (j := 3) rfl, l2, m2, xs2, s2, es2, ls2, rfl, R2.lo, R2.hi, x10 _ _ hl2, hE2.ex x10, R2.ens, x10 _ _ hm2, R2.fit, fun h2 hs2 H11 nh2 x11 gh2 hT2 => ?_⟩
    refine ⟨by show 2 ≤ sizeLine; decide, fun hh nhh => ?_⟩
    have x12 := Ex.new (o := .lst [V.ref h1, .ref h2]) nhh
    have ghh := upd_same (H := H11) (a := hh) (o := .lst [V.ref h1, .ref h2])
    generalize (upd H11 hh (.lst [V.ref h1, .ref h2])) = HX at x12 ghh ⊢
    have xx := (x10.trans x11).trans x12
    have x112 := x11.trans x12
    have g1 := xx _ _ g1
    have g2 := x112 _ _ g2
    have hl := xx _ _ hl
    have hE := hE.ex xx
    have hl2 := xx _ _ hl2
    have hE2 := hE2.ex xx
    have hR1 := hR1.ex xx
    have hR2 := hR2.ex xx
    have gh1 := x112 _ _ gh1
    have hT1 := hT1.ex x112
    have gh2 := x12 _ _ gh2
    have hT2 := hT2.ex x12
    have eX := e9.trans xx
    clear e9 xx x112 x10 x11 x12 hm hm2 nh1 nh2 nhh x8 x9 x89 hm2'
    -- rows
    refine ⟨.ref r1, rfl, .ref r2, rfl, .ref o1, rfl, o1, _, 0, _, rfl, rfl, SqT.of g1, atI_nat (j := 0) rfl, .ref o1, rfl, o1, _, 1, _, rfl, rfl, SqT.of g1, atI_nat (j := 1) rfl, .ref o1, rfl, o1, _, 3, _, rfl, rfl, SqT.of g1, atI_nat (j := 3) rfl, .ref hh, rfl, hh, _, 0, _, rfl, rfl, SqL.of ghh, atI_nat (j := 0) rfl, by show 4 ≤ sizeLine; decide, fun T1 nT1 => ?_⟩
    have y1' := Ex.new (o := .tup [V.str z, .ref l, .int (s : Int), .ref h1]) nT1
    have gT1 := upd_same (H := HX) (a := T1) (o := .tup [V.str z, .ref l, .int (s : Int), .ref h1])
    generalize (upd HX T1 (.tup [V.str z, .ref l, .int (s : Int), .ref h1])) = HA at y1' gT1 ⊢
    have g2A := y1' _ _ g2
    have ghA := y1' _ _ ghh
    refine ⟨.ref o2, rfl, o2, _, 0, _, rfl, rfl, SqT.of g2A, atI_nat (j := 0) rfl, .ref o2, rfl, o2, _, 1, _, rfl, rfl, SqT.of g2A, atI_nat (j := 1) rfl, .ref o2, rfl, o2, _, 3, _, rfl, rfl, SqT.of g2A, atI_nat (j := 3) rfl, .ref hh, rfl, hh, _, 1, _, rfl, rfl, SqL.of ghA, atI_nat (j := 1) rfl, by show 4 ≤ sizeLine; decide, fun T2 nT2 => ?_⟩
    have y2' := Ex.new (o := .tup [V.str z2, .ref l2, .int (s2 : Int), .ref h2]) nT2
    have gT2 := upd_same (H := HA) (a := T2) (o := .tup [V.str z2, .ref l2, .int (s2 : Int), .ref h2])
    generalize (upd HA T2 (.tup [V.str z2, .ref l2, .int (s2 : Int), .ref h2])) = HB at y2' gT2 ⊢
    have xB := y1'.trans y2'
    have gT1 := y2' _ _ gT1
    refine ⟨dRow z s es ls, dRow z2 s2 es2 ls2, .tup (SqT.of gT1) (.cons (.str _) (.cons (.lst (SqL.of (xB _ _ hl)) (dpEs (hE.ex xB))) (.cons (.int _) (.cons (.lst (SqL.of (xB _ _ gh1)) (dpTs (hT1.ex xB))) .nil)))), .tup (SqT.of gT2) (.cons (.str _) (.cons (.lst (SqL.of (xB _ _ hl2)) (dpEs (hE2.ex xB))) (.cons (.int _) (.cons (.lst (SqL.of (xB _ _ gh2)) (dpTs (hT2.ex xB))) .nil)))), sh_dRow R1.word _ _ _, sh_dRow R2.word _ _ _, ?_⟩
    rw [due_row R1.word R1.ens R2.ens R1.lo]
    refine ⟨r1, r2, _, rfl, .inl ⟨row_db (hR1.ex xB) (hR2.ex xB), ?_⟩, fun HC xC => ⟨_, rfl, ite2 (fun c => absurd c (by decide)) (fun _ => ?_)⟩⟩
    · rw [rowEq_comm R1.ens R2.ens R1.lo R2.lo]
      exact row_db (hR2.ex xB) (hR1.ex xB)
    have xC := xB.trans xC
    clear gT1 gT2 y1' y2' xB g2A ghA nT1 nT2
    obtain ⟨dr1, tr1, br1, gr1, _⟩ := id hR1
    obtain ⟨dr2, tr2, br2, gr2, _⟩ := id hR2
    have fw := R1.ens.few
    have fw2 := R2.ens.few
    have nbl := nb_le (n := es.length) (s := s) R1.lo
    have nbl2 := nb_le (n := es2.length) (s := s2) R2.lo
    have s8 := R1.hi
    have s28 := R2.hi
    -- blocks
    refine ⟨.ref r1, rfl, r1, dr1, _, rfl, xC _ _ gr1, rfl, r1, z, s, es, ls, rfl, hR1.ex xC, fun lb bs HD nlb xD gb hbs => ⟨lb, _, rfl, SqL.of gb, ?_⟩⟩
    have xD := xC.trans xD
    refine for_it (walk_enum (K := K) (a := lb) (xs := bs.map V.ref)) (fun j σ2 Hn => ∃ y10 y11 y12 y13 y14 y15 : Option V, σ2 = [some (.ref a), some (.int ((0 : Int) + i)), some (.ref p), some (.ref l), some (.ref m), some (.ref o1), some (.ref o2), some (.ref r1), some (.ref r2), some (.ref hh), y10, y11, y12, y13, y14, y15, y16] ∧ Ex HD Hn)
      ⟨y10, y11, y12, y13, y14, y15, rfl, Ex.refl _⟩ (fun j σ2 Hn _ pj => ?_) (fun j x σ2 Hn Hn' hj pj hy => ?_) (fun σ2 Hn pj => ?_)
    · obtain ⟨_, _, _, _, _, _, _, en⟩ := pj
      exact SqL.of (en _ _ gb)
    · obtain ⟨y10, y11, y12, y13, y14, y15, rfl, en⟩ := pj
      obtain ⟨Tt, u1, u2, rfl, nT, rfl, k1, k2⟩ := hy
      cases k1
      obtain ⟨b, hb, rfl, ib⟩ := refs_at k2
      have inb : j < nb es.length s := by rw [← hbs.1]; exact ib
      have en1 := en.trans (Ex.new (o := .tup [V.int (j : Nat), .ref b]) nT)
      refine ⟨Tt, _, rfl, SqT.of upd_same, rfl, .int (j : Nat), _, rfl, .ref b, _, rfl, rfl, ?_⟩
      generalize (upd Hn Tt (.tup [V.int (j : Nat), .ref b])) = Ho at en1 ⊢
      have xo := xD.trans en1
      have go1 := xo _ _ g1
      have goh := xo _ _ ghh
      obtain ⟨hj1, ghj, gnj⟩ := hT1.2 j (headE (cutE es s j) ls) (by unfold headsE; rw [List.getElem?_map, List.getElem?_range inb]; rfl)
      have ghj' : (hs1.map V.ref)[j]? = some (.ref hj1) := by rw [List.getElem?_map, ghj]; rfl
      refine ⟨.ref hh, rfl, hh, _, 0, _, rfl, rfl, SqL.of goh, atI_nat (j := 0) rfl, .int (j : Nat), rfl, h1, _, _, _, rfl, rfl, SqL.of (xo _ _ gh1), atI_nat ghj', ?_⟩
      refine ⟨.ref l, rfl, .int (j : Nat), rfl, .ref o1, rfl, o1, _, 3, _, rfl, rfl, SqT.of go1, atI_nat (j := 3) rfl, _, _, rfl, rfl, .inl ⟨by omega, by omega⟩, _, rfl, .int (j : Nat), rfl, .ref o1, rfl, o1, _, 3, _, rfl, rfl, SqT.of go1, atI_nat (j := 3) rfl, _, _, rfl, rfl, .inl ⟨by omega, by omega⟩, .ref o1, rfl, o1, _, 3, _, rfl, rfl, SqT.of go1, atI_nat (j := 3) rfl, _, _, rfl, rfl, _, rfl, l, _, rfl, SqL.of (xo _ _ hl), fun c nc => ?_⟩
      rw [cutV_mul]
      have eC := Ex.new (o := .lst ((xs.drop (j * s)).take s)) nc
      have hc := upd_same (H := Ho) (a := c) (o := .lst ((xs.drop (j * s)).take s))
      generalize (upd Ho c (.lst ((xs.drop (j * s)).take s))) = Hp1 at eC hc ⊢
      have xp := xo.trans eC
      have hEc := (hE.ex xp).cut s j
      refine ⟨by show 2 ≤ sizeLine; decide, fun M nM => ?_⟩
      have eM := Ex.new (o := .tup [V.ref hj1, .ref c]) nM
      have gM := upd_same (H := Hp1) (a := M) (o := .tup [V.ref hj1, .ref c])
      generalize (upd Hp1 M (.tup [V.ref hj1, .ref c])) = Hq at eM gM ⊢
      have xq := xp.trans eM
      have enq := en1.trans (eC.trans eM)
      have hc := eM _ _ hc
      have hEc := hEc.ex eM
      have gnq := xq _ _ gnj
      have hB1 := (hbs.2 j b hb).ex enq
      -- against the other row's blocks
      refine ⟨.ref r2, rfl, r2, dr2, _, rfl, xq _ _ gr2, rfl, r2, z2, s2, es2, ls2, rfl, hR2.ex xq, fun lc cs HE nlc xE gc hcs => ⟨lc, _, rfl, SqL.of gc, ?_⟩⟩
      have xqE := xq.trans xE
      have enE := enq.trans xE
      refine for_it (walk_enum (K := K) (a := lc) (xs := cs.map V.ref)) (fun j2 σ2 Hn => ∃ y13 y14 y15 : Option V, σ2 = [some (.ref a), some (.int ((0 : Int) + i)), some (.ref p), some (.ref l), some (.ref m), some (.ref o1), some (.ref o2), some (.ref r1), some (.ref r2), some (.ref hh), some (.int (j : Nat)), some (.ref b), some (.ref M), y13, y14, y15, y16] ∧ Ex HE Hn)
        ⟨y13, y14, y15, rfl, Ex.refl _⟩ (fun j2 σ2 Hn _ pj => ?_) (fun j2 x σ2 Hn2 Hn' hj2 pj hy => ?_) (fun σ2 Hn2 pj => ?_)
      · obtain ⟨_, _, _, _, en⟩ := pj
        exact SqL.of (en _ _ gc)
      · obtain ⟨y13, y14, y15, rfl, em⟩ := pj
        obtain ⟨T2, u1, u2, rfl, nT2, rfl, k1, k2⟩ := hy
        cases k1
        obtain ⟨d, hd, rfl, id2⟩ := refs_at k2
        have inb2 : j2 < nb es2.length s2 := by rw [← hcs.1]; exact id2
        have em1 := em.trans (Ex.new (o := .tup [V.int (j2 : Nat), .ref d]) nT2)
        refine ⟨T2, _, rfl, SqT.of upd_same, rfl, .int (j2 : Nat), _, rfl, .ref d, _, rfl, rfl, ?_⟩
        generalize (upd Hn2 T2 (.tup [V.int (j2 : Nat), .ref d])) = Ho2 at em1 ⊢
        have xo2 := xqE.trans em1
        have go2 := xo2 _ _ g2
        have goh2 := xo2 _ _ ghh
        obtain ⟨hj2', ghj2, gnj2⟩ := hT2.2 j2 (headE (cutE es2 s2 j2) ls2) (by unfold headsE; rw [List.getElem?_map, List.getElem?_range inb2]; rfl)
        have ghj2' : (hs2.map V.ref)[j2]? = some (.ref hj2') := by rw [List.getElem?_map, ghj2]; rfl
        refine ⟨.ref hh, rfl, hh, _, 1, _, rfl, rfl, SqL.of goh2, atI_nat (j := 1) rfl, .int (j2 : Nat), rfl, h2, _, _, _, rfl, rfl, SqL.of (xo2 _ _ gh2), atI_nat ghj2', ?_⟩
        refine ⟨.ref o2, rfl, o2, _, 1, _, rfl, rfl, SqT.of go2, atI_nat (j := 1) rfl, .int (j2 : Nat), rfl, .ref o2, rfl, o2, _, 3, _, rfl, rfl, SqT.of go2, atI_nat (j := 3) rfl, _, _, rfl, rfl, .inl ⟨by omega, by omega⟩, _, rfl, .int (j2 : Nat), rfl, .ref o2, rfl, o2, _, 3, _, rfl, rfl, SqT.of go2, atI_nat (j := 3) rfl, _, _, rfl, rfl, .inl ⟨by omega, by omega⟩, .ref o2, rfl, o2, _, 3, _, rfl, rfl, SqT.of go2, atI_nat (j := 3) rfl, _, _, rfl, rfl, _, rfl, l2, _, rfl, SqL.of (xo2 _ _ hl2), fun c2 nc2 => ?_⟩
        rw [cutV_mul]
        have eC2 := Ex.new (o := .lst ((xs2.drop (j2 * s2)).take s2)) nc2
        have hc2 := upd_same (H := Ho2) (a := c2) (o := .lst ((xs2.drop (j2 * s2)).take s2))
        generalize (upd Ho2 c2 (.lst ((xs2.drop (j2 * s2)).take s2))) = Hp2 at eC2 hc2 ⊢
        have xp2 := xo2.trans eC2
        have hEc2 := (hE2.ex xp2).cut s2 j2
        refine ⟨by show 2 ≤ sizeLine; decide, fun M2 nM2 => ?_⟩
        have eM2 := Ex.new (o := .tup [V.ref hj2', .ref c2]) nM2
        have gM2 := upd_same (H := Hp2) (a := M2) (o := .tup [V.ref hj2', .ref c2])
        generalize (upd Hp2 M2 (.tup [V.ref hj2', .ref c2])) = Hq2 at eM2 gM2 ⊢
        have emq := em1.trans (eC2.trans eM2)
        have xE2 := xE.trans emq
        have xq2 := xq.trans xE2
        have hB2 := (hcs.2 j2 d hd).ex emq
        have hB1' := hB1.ex xE2
        have en1' := R1.ens.cut s j
        have en2' := R2.ens.cut s2 j2
        refine ⟨.ref b, rfl, .ref d, rfl, .ref M, rfl, .ref M2, rfl, dBlk (cutE es s j) ls, dBlk (cutE es2 s2 j2) ls2, .tup (SqT.of (xE2 _ _ gM)) (.cons (.tup (SqT.of (xE2 _ _ gnq)) (dpV _)) (.cons (.lst (SqL.of (xE2 _ _ hc)) (dpEs (hEc.ex xE2))) .nil)), .tup (SqT.of gM2) (.cons (.tup (SqT.of (xq2 _ _ gnj2)) (dpV _)) (.cons (.lst (SqL.of (eM2 _ _ hc2)) (dpEs (hEc2.ex eM2))) .nil)), sh_dBlk _ _, sh_dBlk _ _, ?_⟩
        rw [due_blk en1' en2']
        refine ⟨b, d, _, rfl, .inr ⟨blk_db hB1' hB2, ?_⟩, fun HF xF => ⟨_, rfl, ite2 (fun c => absurd c (by decide)) (fun _ => ?_)⟩⟩
        · rw [blkEq_comm en1' en2']
          exact blk_db hB2 hB1'
        exact ⟨some (.int (j2 : Nat)), some (.ref d), some (.ref M2), rfl, emq.trans xF⟩
      · obtain ⟨y13, y14, y15, rfl, em⟩ := pj
        have xE2 := xE.trans em
        have hB := hB1.ex xE2
        obtain ⟨db, hbi⟩ := id hB
        have xq2 := xq.trans xE2
        have gr1q := xq2 _ _ gr1
        refine ⟨.ref b, rfl, .ref r1, rfl, b, db, _, r1, _, dr1, _, rfl, rfl, hbi, gr1q, T.nfRB, b, cutE es s j, ls, .ref r1, rfl, hB, .inr ⟨⟨.ref (A 39), .base (.ins gr1q T.cl_Row T.ciR T.cs T.ct T.moR), T.kRB⟩, false, rfl, false, false, rfl, rfl, _, rfl, iteN ?_⟩⟩
        have gMq := xE2 _ _ gM
        refine ⟨.ref b, rfl, .ref M, rfl, b, db, _, rfl, hbi, .inr ⟨"tuple", .base (.tup gMq), Own.nf (by rfl) (by rfl)⟩, b, cutE es s j, ls, .ref M, rfl, hB, .inr ⟨⟨.type "tuple", .base (.tup gMq), T.ktB⟩, false, rfl, false, false, rfl, rfl, _, rfl, iteN ?_⟩⟩
        exact ⟨some (.int (j : Nat)), some (.ref b), some (.ref M), y13, y14, y15, rfl, enE.trans em⟩
    · obtain ⟨y10, y11, y12, y13, y14, y15, rfl, en⟩ := pj
      -- other things
      have xn := xD.trans en
      have gn1 := xn _ _ g1
      have gnh := xn _ _ ghh
      refine ⟨.ref o1, rfl, o1, _, 0, _, rfl, rfl, SqT.of gn1, atI_nat (j := 0) rfl, .ref l, rfl, .ref hh, rfl, hh, _, 0, _, rfl, rfl, SqL.of gnh, atI_nat (j := 0) rfl, by show 6 ≤ sizeLine; decide, fun tt ntt => ?_⟩
      have xt := Ex.new (o := .tup [V.non, .str z, .ref l, .int 3, .bl true, .ref h1]) ntt
      have gtt := upd_same (H := Hn) (a := tt) (o := .tup [V.non, .str z, .ref l, .int 3, .bl true, .ref h1])
      generalize (upd Hn tt (.tup [V.non, .str z, .ref l, .int 3, .bl true, .ref h1])) = HM at xt gtt ⊢
      have xm := xn.trans xt
      have hlM := xm _ _ hl
      have ghM := xm _ _ gh1
      have gr1M := xm _ _ gr1
      have hRM := hR1.ex xm
      refine ⟨tt, rfl, ⟨_, SqT.of gtt⟩, ?_⟩
      refine for_tup (K := K) (xs := [V.non, .str z, .ref l, .int 3, .bl true, .ref h1]) (fun j σ2 Hm => ∃ y16 : Option V, σ2 = [some (.ref a), some (.int ((0 : Int) + i)), some (.ref p), some (.ref l), some (.ref m), some (.ref o1), some (.ref o2), some (.ref r1), some (.ref r2), some (.ref hh), y10, y11, y12, y13, y14, y15, y16] ∧ Hm = HM) ⟨y16, rfl, rfl⟩
        (fun j σ2 Hm hj pv => ?_) (fun j x σ2 Hm hx pv => ?_) (fun σ2 Hm pv => ?_)
      · obtain ⟨y16, rfl, rfl⟩ := pv
        exact SqT.of gtt
      · obtain ⟨y16, rfl, rfl⟩ := pv
        have bx : Bare K Hm x := by
          match j, hx with
          | 0, hx => cases hx; exact ⟨_, .base .non, by simp⟩
          | 1, hx => cases hx; exact ⟨_, .base (.str _), by simp⟩
          | 2, hx => cases hx; exact ⟨_, .base (.lst hlM), by simp⟩
          | 3, hx => cases hx; exact ⟨_, .base (.int _), by simp⟩
          | 4, hx => cases hx; exact ⟨_, .base (.bl _), by simp⟩
          | 5, hx => cases hx; exact ⟨_, .base (.lst ghM), by simp⟩
          | j + 6, hx => simp at hx
        have ox : Own.OthK K (A 39) Hm x := .inr (bare_nf bx)
        have el : Else K (A 39) Hm x := by
          obtain ⟨ty, ht, hm⟩ := bx
          refine ⟨.type ty, ht, ?_⟩
          simp only [List.mem_cons, List.not_mem_nil, or_false] at hm
          rcases hm with rfl | rfl | rfl | rfl | rfl | rfl
          · exact T.kNoneType
          · exact T.kint
          · exact T.kstr
          · exact T.ktuple
          · exact T.klist
          · exact T.kbool
        refine ⟨.ref r1, rfl, x, rfl, r1, dr1, _, rfl, gr1M, ox, r1, z, s, es, ls, x, rfl, hRM, .inr ⟨el, false, rfl, false, false, rfl, rfl, _, rfl, iteN ?_⟩⟩
        refine ⟨.ref r1, rfl, x, rfl, r1, dr1, _, rfl, gr1M, ox, r1, z, s, es, ls, x, rfl, hRM, .inr ⟨el, false, rfl, true, true, rfl, rfl, _, rfl, iteN ?_⟩⟩
        exact ⟨some x, rfl, rfl⟩
      · obtain ⟨y16, rfl, rfl⟩ := pv
        exact ⟨_, _, _, _, _, _, _, _, _, _, _, _, _, _, _, _, rfl, e0.trans (eX.trans xm)⟩

end
set_option maxHeartbeats 8000000 in
theorem all_mk {l : PySem.W.OpenLaw} {w : World} {K : PySem.W.Frag} {h : Heap} {mg : Str → Option Value} {fa : Addr} (X : K.In h) (G : h.Ns mainGlobals mg) (hfa : mg "law" = some (.ref fa))
    {f10 : Addr} {od10 an10 : Option Addr} {sl10 : Array (Option Value)} {oc10 kV10 dc10 pm10 cd10 ct10 : Value}
    (a10 : PySem.W.nsIn K mainGlobals "is_whole" = some (some (.ref f10))) (l10 : K.lookup f10 = some ⟨oc10, od10, .func (PySem.W.fnOf "is_whole" "is_whole" (defArgs (topS 10)) (defBody (topS 10)) (defScope (topS 10)) .none kV10 dc10 pm10 an10 cd10 ct10), sl10⟩) (c10 : PySem.W.codeIn K cd10 "is_whole" = true) (k10 : PySem.W.keepIn K (.ref f10) = true)
    {f11 : Addr} {od11 an11 : Option Addr} {sl11 : Array (Option Value)} {oc11 kV11 dc11 pm11 cd11 ct11 : Value}
    (a11 : PySem.W.nsIn K mainGlobals "is_within" = some (some (.ref f11))) (l11 : K.lookup f11 = some ⟨oc11, od11, .func (PySem.W.fnOf "is_within" "is_within" (defArgs (topS 11)) (defBody (topS 11)) (defScope (topS 11)) .none kV11 dc11 pm11 an11 cd11 ct11), sl11⟩) (c11 : PySem.W.codeIn K cd11 "is_within" = true) (k11 : PySem.W.keepIn K (.ref f11) = true)
    {f15 : Addr} {od15 an15 : Option Addr} {sl15 : Array (Option Value)} {oc15 kV15 dc15 pm15 cd15 ct15 : Value}
    (a15 : PySem.W.nsIn K mainGlobals "is_count" = some (some (.ref f15))) (l15 : K.lookup f15 = some ⟨oc15, od15, .func (PySem.W.fnOf "is_count" "is_count" (defArgs (topS 15)) (defBody (topS 15)) (defScope (topS 15)) .none kV15 dc15 pm15 an15 cd15 ct15), sl15⟩) (c15 : PySem.W.codeIn K cd15 "is_count" = true) (k15 : PySem.W.keepIn K (.ref f15) = true)
    {f16 : Addr} {od16 an16 : Option Addr} {sl16 : Array (Option Value)} {oc16 kV16 dc16 pm16 cd16 ct16 : Value}
    (a16 : PySem.W.nsIn K mainGlobals "code" = some (some (.ref f16))) (l16 : K.lookup f16 = some ⟨oc16, od16, .func (PySem.W.fnOf "code" "code" (defArgs (topS 16)) (defBody (topS 16)) (defScope (topS 16)) .none kV16 dc16 pm16 an16 cd16 ct16), sl16⟩) (c16 : PySem.W.codeIn K cd16 "code" = true) (k16 : PySem.W.keepIn K (.ref f16) = true)
    {f17 : Addr} {od17 an17 : Option Addr} {sl17 : Array (Option Value)} {oc17 kV17 dc17 pm17 cd17 ct17 : Value}
    (a17 : PySem.W.nsIn K mainGlobals "code_all" = some (some (.ref f17))) (l17 : K.lookup f17 = some ⟨oc17, od17, .func (PySem.W.fnOf "code_all" "code_all" (defArgs (topS 17)) (defBody (topS 17)) (defScope (topS 17)) .none kV17 dc17 pm17 an17 cd17 ct17), sl17⟩) (c17 : PySem.W.codeIn K cd17 "code_all" = true) (k17 : PySem.W.keepIn K (.ref f17) = true)
    {f18 : Addr} {od18 an18 : Option Addr} {sl18 : Array (Option Value)} {oc18 kV18 dc18 pm18 cd18 ct18 : Value}
    (a18 : PySem.W.nsIn K mainGlobals "code_entries" = some (some (.ref f18))) (l18 : K.lookup f18 = some ⟨oc18, od18, .func (PySem.W.fnOf "code_entries" "code_entries" (defArgs (topS 18)) (defBody (topS 18)) (defScope (topS 18)) .none kV18 dc18 pm18 an18 cd18 ct18), sl18⟩) (c18 : PySem.W.codeIn K cd18 "code_entries" = true) (k18 : PySem.W.keepIn K (.ref f18) = true)
    {f19 : Addr} {od19 an19 : Option Addr} {sl19 : Array (Option Value)} {oc19 kV19 dc19 pm19 cd19 ct19 : Value}
    (a19 : PySem.W.nsIn K mainGlobals "decode_entries" = some (some (.ref f19))) (l19 : K.lookup f19 = some ⟨oc19, od19, .func (PySem.W.fnOf "decode_entries" "decode_entries" (defArgs (topS 19)) (defBody (topS 19)) (defScope (topS 19)) .none kV19 dc19 pm19 an19 cd19 ct19), sl19⟩) (c19 : PySem.W.codeIn K cd19 "decode_entries" = true) (k19 : PySem.W.keepIn K (.ref f19) = true)
    {f20 : Addr} {od20 an20 : Option Addr} {sl20 : Array (Option Value)} {oc20 kV20 dc20 pm20 cd20 ct20 : Value}
    (a20 : PySem.W.nsIn K mainGlobals "check_entries" = some (some (.ref f20))) (l20 : K.lookup f20 = some ⟨oc20, od20, .func (PySem.W.fnOf "check_entries" "check_entries" (defArgs (topS 20)) (defBody (topS 20)) (defScope (topS 20)) .none kV20 dc20 pm20 an20 cd20 ct20), sl20⟩) (c20 : PySem.W.codeIn K cd20 "check_entries" = true) (k20 : PySem.W.keepIn K (.ref f20) = true)
    {f21 : Addr} {od21 an21 : Option Addr} {sl21 : Array (Option Value)} {oc21 kV21 dc21 pm21 cd21 ct21 : Value}
    (a21 : PySem.W.nsIn K mainGlobals "is_entry" = some (some (.ref f21))) (l21 : K.lookup f21 = some ⟨oc21, od21, .func (PySem.W.fnOf "is_entry" "is_entry" (defArgs (topS 21)) (defBody (topS 21)) (defScope (topS 21)) .none kV21 dc21 pm21 an21 cd21 ct21), sl21⟩) (c21 : PySem.W.codeIn K cd21 "is_entry" = true) (k21 : PySem.W.keepIn K (.ref f21) = true)
    {f22 : Addr} {od22 an22 : Option Addr} {sl22 : Array (Option Value)} {oc22 kV22 dc22 pm22 cd22 ct22 : Value}
    (a22 : PySem.W.nsIn K mainGlobals "are_places" = some (some (.ref f22))) (l22 : K.lookup f22 = some ⟨oc22, od22, .func (PySem.W.fnOf "are_places" "are_places" (defArgs (topS 22)) (defBody (topS 22)) (defScope (topS 22)) .none kV22 dc22 pm22 an22 cd22 ct22), sl22⟩) (c22 : PySem.W.codeIn K cd22 "are_places" = true) (k22 : PySem.W.keepIn K (.ref f22) = true)
    {f23 : Addr} {od23 an23 : Option Addr} {sl23 : Array (Option Value)} {oc23 kV23 dc23 pm23 cd23 ct23 : Value}
    (a23 : PySem.W.nsIn K mainGlobals "first_fall" = some (some (.ref f23))) (l23 : K.lookup f23 = some ⟨oc23, od23, .func (PySem.W.fnOf "first_fall" "first_fall" (defArgs (topS 23)) (defBody (topS 23)) (defScope (topS 23)) .none kV23 dc23 pm23 an23 cd23 ct23), sl23⟩) (c23 : PySem.W.codeIn K cd23 "first_fall" = true) (k23 : PySem.W.keepIn K (.ref f23) = true)
    {f24 : Addr} {od24 an24 : Option Addr} {sl24 : Array (Option Value)} {oc24 kV24 dc24 pm24 cd24 ct24 : Value}
    (a24 : PySem.W.nsIn K mainGlobals "gaps_of" = some (some (.ref f24))) (l24 : K.lookup f24 = some ⟨oc24, od24, .func (PySem.W.fnOf "gaps_of" "gaps_of" (defArgs (topS 24)) (defBody (topS 24)) (defScope (topS 24)) .none kV24 dc24 pm24 an24 cd24 ct24), sl24⟩) (c24 : PySem.W.codeIn K cd24 "gaps_of" = true) (k24 : PySem.W.keepIn K (.ref f24) = true)
    {f25 : Addr} {od25 an25 : Option Addr} {sl25 : Array (Option Value)} {oc25 kV25 dc25 pm25 cd25 ct25 : Value}
    (a25 : PySem.W.nsIn K mainGlobals "risen" = some (some (.ref f25))) (l25 : K.lookup f25 = some ⟨oc25, od25, .func (PySem.W.fnOf "risen" "risen" (defArgs (topS 25)) (defBody (topS 25)) (defScope (topS 25)) .none kV25 dc25 pm25 an25 cd25 ct25), sl25⟩) (c25 : PySem.W.codeIn K cd25 "risen" = true) (k25 : PySem.W.keepIn K (.ref f25) = true)
    {f26 : Addr} {od26 an26 : Option Addr} {sl26 : Array (Option Value)} {oc26 kV26 dc26 pm26 cd26 ct26 : Value}
    (a26 : PySem.W.nsIn K mainGlobals "check_text" = some (some (.ref f26))) (l26 : K.lookup f26 = some ⟨oc26, od26, .func (PySem.W.fnOf "check_text" "check_text" (defArgs (topS 26)) (defBody (topS 26)) (defScope (topS 26)) .none kV26 dc26 pm26 an26 cd26 ct26), sl26⟩) (c26 : PySem.W.codeIn K cd26 "check_text" = true) (k26 : PySem.W.keepIn K (.ref f26) = true)
    {f27 : Addr} {od27 an27 : Option Addr} {sl27 : Array (Option Value)} {oc27 kV27 dc27 pm27 cd27 ct27 : Value}
    (a27 : PySem.W.nsIn K mainGlobals "read_number" = some (some (.ref f27))) (l27 : K.lookup f27 = some ⟨oc27, od27, .func (PySem.W.fnOf "read_number" "read_number" (defArgs (topS 27)) (defBody (topS 27)) (defScope (topS 27)) .none kV27 dc27 pm27 an27 cd27 ct27), sl27⟩) (c27 : PySem.W.codeIn K cd27 "read_number" = true) (k27 : PySem.W.keepIn K (.ref f27) = true)
    {f28 : Addr} {od28 an28 : Option Addr} {sl28 : Array (Option Value)} {oc28 kV28 dc28 pm28 cd28 ct28 : Value}
    (a28 : PySem.W.nsIn K mainGlobals "read_numbers" = some (some (.ref f28))) (l28 : K.lookup f28 = some ⟨oc28, od28, .func (PySem.W.fnOf "read_numbers" "read_numbers" (defArgs (topS 28)) (defBody (topS 28)) (defScope (topS 28)) .none kV28 dc28 pm28 an28 cd28 ct28), sl28⟩) (c28 : PySem.W.codeIn K cd28 "read_numbers" = true) (k28 : PySem.W.keepIn K (.ref f28) = true)
    {f32 : Addr} {od32 an32 : Option Addr} {sl32 : Array (Option Value)} {oc32 kV32 dc32 pm32 cd32 ct32 : Value}
    (a32 : PySem.W.nsIn K mainGlobals "is_word" = some (some (.ref f32))) (l32 : K.lookup f32 = some ⟨oc32, od32, .func (PySem.W.fnOf "is_word" "is_word" (defArgs (topS 32)) (defBody (topS 32)) (defScope (topS 32)) .none kV32 dc32 pm32 an32 cd32 ct32), sl32⟩) (c32 : PySem.W.codeIn K cd32 "is_word" = true) (k32 : PySem.W.keepIn K (.ref f32) = true)
    {f33 : Addr} {od33 an33 : Option Addr} {sl33 : Array (Option Value)} {oc33 kV33 dc33 pm33 cd33 ct33 : Value}
    (a33 : PySem.W.nsIn K mainGlobals "check_word" = some (some (.ref f33))) (l33 : K.lookup f33 = some ⟨oc33, od33, .func (PySem.W.fnOf "check_word" "check_word" (defArgs (topS 33)) (defBody (topS 33)) (defScope (topS 33)) .none kV33 dc33 pm33 an33 cd33 ct33), sl33⟩) (c33 : PySem.W.codeIn K cd33 "check_word" = true) (k33 : PySem.W.keepIn K (.ref f33) = true)
    {f40 : Addr} {od40 an40 : Option Addr} {sl40 : Array (Option Value)} {oc40 kV40 dc40 pm40 cd40 ct40 : Value}
    (a40 : PySem.W.nsIn K mainGlobals "check_lengths" = some (some (.ref f40))) (l40 : K.lookup f40 = some ⟨oc40, od40, .func (PySem.W.fnOf "check_lengths" "check_lengths" (defArgs (topS 40)) (defBody (topS 40)) (defScope (topS 40)) .none kV40 dc40 pm40 an40 cd40 ct40), sl40⟩) (c40 : PySem.W.codeIn K cd40 "check_lengths" = true) (k40 : PySem.W.keepIn K (.ref f40) = true)
    {f41 : Addr} {od41 an41 : Option Addr} {sl41 : Array (Option Value)} {oc41 kV41 dc41 pm41 cd41 ct41 : Value}
    (a41 : PySem.W.nsIn K mainGlobals "check_size" = some (some (.ref f41))) (l41 : K.lookup f41 = some ⟨oc41, od41, .func (PySem.W.fnOf "check_size" "check_size" (defArgs (topS 41)) (defBody (topS 41)) (defScope (topS 41)) .none kV41 dc41 pm41 an41 cd41 ct41), sl41⟩) (c41 : PySem.W.codeIn K cd41 "check_size" = true) (k41 : PySem.W.keepIn K (.ref f41) = true)
    {f42 : Addr} {od42 an42 : Option Addr} {sl42 : Array (Option Value)} {oc42 kV42 dc42 pm42 cd42 ct42 : Value}
    (a42 : PySem.W.nsIn K mainGlobals "check_fit" = some (some (.ref f42))) (l42 : K.lookup f42 = some ⟨oc42, od42, .func (PySem.W.fnOf "check_fit" "check_fit" (defArgs (topS 42)) (defBody (topS 42)) (defScope (topS 42)) .none kV42 dc42 pm42 an42 cd42 ct42), sl42⟩) (c42 : PySem.W.codeIn K cd42 "check_fit" = true) (k42 : PySem.W.keepIn K (.ref f42) = true)
    {f44 : Addr} {od44 an44 : Option Addr} {sl44 : Array (Option Value)} {oc44 kV44 dc44 pm44 cd44 ct44 : Value}
    (a44 : PySem.W.nsIn K mainGlobals "_law_pool" = some (some (.ref f44))) (l44 : K.lookup f44 = some ⟨oc44, od44, .func (PySem.W.fnOf "_law_pool" "_law_pool" (defArgs (topS 44)) (defBody (topS 44)) (defScope (topS 44)) .none kV44 dc44 pm44 an44 cd44 ct44), sl44⟩) (c44 : PySem.W.codeIn K cd44 "_law_pool" = true) (k44 : PySem.W.keepIn K (.ref f44) = true)
    {f45 : Addr} {od45 an45 : Option Addr} {sl45 : Array (Option Value)} {oc45 kV45 dc45 pm45 cd45 ct45 : Value}
    (a45 : PySem.W.nsIn K mainGlobals "_law_take" = some (some (.ref f45))) (l45 : K.lookup f45 = some ⟨oc45, od45, .func (PySem.W.fnOf "_law_take" "_law_take" (defArgs (topS 45)) (defBody (topS 45)) (defScope (topS 45)) .none kV45 dc45 pm45 an45 cd45 ct45), sl45⟩) (c45 : PySem.W.codeIn K cd45 "_law_take" = true) (k45 : PySem.W.keepIn K (.ref f45) = true)
    {f46 : Addr} {od46 an46 : Option Addr} {sl46 : Array (Option Value)} {oc46 kV46 dc46 pm46 cd46 ct46 : Value}
    (a46 : PySem.W.nsIn K mainGlobals "_law_kinds" = some (some (.ref f46))) (l46 : K.lookup f46 = some ⟨oc46, od46, .func (PySem.W.fnOf "_law_kinds" "_law_kinds" (defArgs (topS 46)) (defBody (topS 46)) (defScope (topS 46)) .none kV46 dc46 pm46 an46 cd46 ct46), sl46⟩) (c46 : PySem.W.codeIn K cd46 "_law_kinds" = true) (k46 : PySem.W.keepIn K (.ref f46) = true)
    {f47 : Addr} {od47 an47 : Option Addr} {sl47 : Array (Option Value)} {oc47 kV47 dc47 pm47 cd47 ct47 : Value}
    (a47 : PySem.W.nsIn K mainGlobals "_law_row_entries" = some (some (.ref f47))) (l47 : K.lookup f47 = some ⟨oc47, od47, .func (PySem.W.fnOf "_law_row_entries" "_law_row_entries" (defArgs (topS 47)) (defBody (topS 47)) (defScope (topS 47)) .none kV47 dc47 pm47 an47 cd47 ct47), sl47⟩) (c47 : PySem.W.codeIn K cd47 "_law_row_entries" = true) (k47 : PySem.W.keepIn K (.ref f47) = true)
    {f48 : Addr} {od48 an48 : Option Addr} {sl48 : Array (Option Value)} {oc48 kV48 dc48 pm48 cd48 ct48 : Value}
    (a48 : PySem.W.nsIn K mainGlobals "_law_lengths" = some (some (.ref f48))) (l48 : K.lookup f48 = some ⟨oc48, od48, .func (PySem.W.fnOf "_law_lengths" "_law_lengths" (defArgs (topS 48)) (defBody (topS 48)) (defScope (topS 48)) .none kV48 dc48 pm48 an48 cd48 ct48), sl48⟩) (c48 : PySem.W.codeIn K cd48 "_law_lengths" = true) (k48 : PySem.W.keepIn K (.ref f48) = true)
    {f49 : Addr} {od49 an49 : Option Addr} {sl49 : Array (Option Value)} {oc49 kV49 dc49 pm49 cd49 ct49 : Value}
    (a49 : PySem.W.nsIn K mainGlobals "_law_heads" = some (some (.ref f49))) (l49 : K.lookup f49 = some ⟨oc49, od49, .func (PySem.W.fnOf "_law_heads" "_law_heads" (defArgs (topS 49)) (defBody (topS 49)) (defScope (topS 49)) .none kV49 dc49 pm49 an49 cd49 ct49), sl49⟩) (c49 : PySem.W.codeIn K cd49 "_law_heads" = true) (k49 : PySem.W.keepIn K (.ref f49) = true)
    {f50 : Addr} {od50 an50 : Option Addr} {sl50 : Array (Option Value)} {oc50 kV50 dc50 pm50 cd50 ct50 : Value}
    (a50 : PySem.W.nsIn K mainGlobals "_law_are" = some (some (.ref f50))) (l50 : K.lookup f50 = some ⟨oc50, od50, .func (PySem.W.fnOf "_law_are" "_law_are" (defArgs (topS 50)) (defBody (topS 50)) (defScope (topS 50)) .none kV50 dc50 pm50 an50 cd50 ct50), sl50⟩) (c50 : PySem.W.codeIn K cd50 "_law_are" = true) (k50 : PySem.W.keepIn K (.ref f50) = true)
    {f51 : Addr} {od51 an51 : Option Addr} {sl51 : Array (Option Value)} {oc51 kV51 dc51 pm51 cd51 ct51 : Value}
    (a51 : PySem.W.nsIn K mainGlobals "_law_changed" = some (some (.ref f51))) (l51 : K.lookup f51 = some ⟨oc51, od51, .func (PySem.W.fnOf "_law_changed" "_law_changed" (defArgs (topS 51)) (defBody (topS 51)) (defScope (topS 51)) .none kV51 dc51 pm51 an51 cd51 ct51), sl51⟩) (c51 : PySem.W.codeIn K cd51 "_law_changed" = true) (k51 : PySem.W.keepIn K (.ref f51) = true)
    {f52 : Addr} {od52 an52 : Option Addr} {sl52 : Array (Option Value)} {oc52 kV52 dc52 pm52 cd52 ct52 : Value}
    (a52 : PySem.W.nsIn K mainGlobals "law" = some (some (.ref f52))) (l52 : K.lookup f52 = some ⟨oc52, od52, .func (PySem.W.fnOf "law" "law" (defArgs (topS 52)) (defBody (topS 52)) (defScope (topS 52)) .none kV52 dc52 pm52 an52 cd52 ct52), sl52⟩) (c52 : PySem.W.codeIn K cd52 "law" = true) (k52 : PySem.W.keepIn K (.ref f52) = true)
    (z_abs : PySem.W.nsIn K mainGlobals "abs" = some none)
    (z_all : PySem.W.nsIn K mainGlobals "all" = some none)
    (z_bool : PySem.W.nsIn K mainGlobals "bool" = some none)
    (z_divmod : PySem.W.nsIn K mainGlobals "divmod" = some none)
    (z_enumerate : PySem.W.nsIn K mainGlobals "enumerate" = some none)
    (z_int : PySem.W.nsIn K mainGlobals "int" = some none)
    (z_isinstance : PySem.W.nsIn K mainGlobals "isinstance" = some none)
    (z_len : PySem.W.nsIn K mainGlobals "len" = some none)
    (z_list : PySem.W.nsIn K mainGlobals "list" = some none)
    (z_max : PySem.W.nsIn K mainGlobals "max" = some none)
    (z_min : PySem.W.nsIn K mainGlobals "min" = some none)
    (z_range : PySem.W.nsIn K mainGlobals "range" = some none)
    (z_str : PySem.W.nsIn K mainGlobals "str" = some none)
    (z_tuple : PySem.W.nsIn K mainGlobals "tuple" = some none)
    {tk13 : Tok} (e13 : PySem.W.nsIn K mainGlobals "DIGITS_AHEAD" = some (some (.str "ABCDEFGHIJKLMNOP" tk13)))
    {tk14 : Tok} (e14 : PySem.W.nsIn K mainGlobals "LAST_DIGITS" = some (some (.str "abcdefghijklmnop" tk14)))
    {tk30 : Tok} (e30 : PySem.W.nsIn K mainGlobals "MOST_LETTERS" = some (some (.int 12 tk30)))
    {tk31 : Tok} (e31 : PySem.W.nsIn K mainGlobals "MOST_WORDS" = some (some (.int 120 tk31)))
    {tk35 : Tok} (e35 : PySem.W.nsIn K mainGlobals "SIZE" = some (some (.int 4 tk35)))
    {tk36 : Tok} (e36 : PySem.W.nsIn K mainGlobals "MOST_SIZE" = some (some (.int 8 tk36)))
    {tk37 : Tok} (e37 : PySem.W.nsIn K mainGlobals "MOST_LENGTHS" = some (some (.int 60 tk37)))
    {f1 : Addr} (a1 : PySem.W.nsIn K mainGlobals "Wrong" = some (some (.ref f1)))
    {f2 : Addr} (a2 : PySem.W.nsIn K mainGlobals "NoWord" = some (some (.ref f2)))
    {f3 : Addr} (a3 : PySem.W.nsIn K mainGlobals "NoNumber" = some (some (.ref f3)))
    {f4 : Addr} (a4 : PySem.W.nsIn K mainGlobals "NoSize" = some (some (.ref f4)))
    {f5 : Addr} (a5 : PySem.W.nsIn K mainGlobals "NoLengths" = some (some (.ref f5)))
    {f6 : Addr} (a6 : PySem.W.nsIn K mainGlobals "NoCode" = some (some (.ref f6)))
    {f7 : Addr} (a7 : PySem.W.nsIn K mainGlobals "NoRow" = some (some (.ref f7)))
    {f8 : Addr} (a8 : PySem.W.nsIn K mainGlobals "NoEntries" = some (some (.ref f8)))
    {f38 : Addr} (a38 : PySem.W.nsIn K mainGlobals "Block" = some (some (.ref f38)))
    {f39 : Addr} (a39 : PySem.W.nsIn K mainGlobals "Row" = some (some (.ref f39)))
    (pg38 : PySem.W.plainGet K f38 Str.empty = true) (hd38 : PySem.W.hasDictIn K f38 = true) (po38 : PySem.W.plainOver K f38 = true) (sa38 : PySem.W.findIn K (.ref f38) "__setattr__" = some (some (.builtin "object.__setattr__"))) (mk38 : PySem.W.makesIn K f38 = true) (kc38 : PySem.W.keepIn K (.ref f38) = true)
    (na38_first : PySem.W.findIn K (.ref f38) "first" = some none)
    (na38_last : PySem.W.findIn K (.ref f38) "last" = some none)
    (na38_many : PySem.W.findIn K (.ref f38) "many" = some none)
    (na38_most : PySem.W.findIn K (.ref f38) "most" = some none)
    (na38_least : PySem.W.findIn K (.ref f38) "least" = some none)
    (na38_coded : PySem.W.findIn K (.ref f38) "coded" = some none)
    (pg39 : PySem.W.plainGet K f39 Str.empty = true) (hd39 : PySem.W.hasDictIn K f39 = true) (po39 : PySem.W.plainOver K f39 = true) (sa39 : PySem.W.findIn K (.ref f39) "__setattr__" = some (some (.builtin "object.__setattr__"))) (mk39 : PySem.W.makesIn K f39 = true) (kc39 : PySem.W.keepIn K (.ref f39) = true)
    (na39_word : PySem.W.findIn K (.ref f39) "word" = some none)
    (na39_size : PySem.W.findIn K (.ref f39) "size" = some none)
    (na39_cut : PySem.W.findIn K (.ref f39) "cut" = some none)
    {f53 : Addr} {od53 an53 : Option Addr} {sl53 : Array (Option Value)} {oc53 kV53 dc53 pm53 cd53 ct53 : Value}
    (a53 : PySem.W.findIn K (.ref f38) "__init__" = some (some (.ref f53))) (i53 : PySem.W.isFn K (.ref f53) = true)
    (l53 : K.lookup f53 = some ⟨oc53, od53, .func (PySem.W.fnOf "__init__" "Block.__init__" (defArgs (inClass (topS 38) 0)) (defBody (inClass (topS 38) 0)) (defScope (inClass (topS 38) 0)) .none kV53 dc53 pm53 an53 cd53 ct53), sl53⟩) (c53 : PySem.W.codeIn K cd53 "Block.__init__" = true) (k53 : PySem.W.keepIn K (.ref f53) = true)
    {f54 : Addr} {od54 an54 : Option Addr} {sl54 : Array (Option Value)} {oc54 kV54 dc54 pm54 cd54 ct54 : Value}
    (a54 : PySem.W.findIn K (.ref f38) "__eq__" = some (some (.ref f54))) (i54 : PySem.W.isFn K (.ref f54) = true)
    (l54 : K.lookup f54 = some ⟨oc54, od54, .func (PySem.W.fnOf "__eq__" "Block.__eq__" (defArgs (inClass (topS 38) 1)) (defBody (inClass (topS 38) 1)) (defScope (inClass (topS 38) 1)) .none kV54 dc54 pm54 an54 cd54 ct54), sl54⟩) (c54 : PySem.W.codeIn K cd54 "Block.__eq__" = true) (k54 : PySem.W.keepIn K (.ref f54) = true)
    {f55 : Addr} {od55 an55 : Option Addr} {sl55 : Array (Option Value)} {oc55 kV55 dc55 pm55 cd55 ct55 : Value}
    (a55 : PySem.W.findIn K (.ref f38) "head" = some (some (.ref f55))) (i55 : PySem.W.isFn K (.ref f55) = true)
    (l55 : K.lookup f55 = some ⟨oc55, od55, .func (PySem.W.fnOf "head" "Block.head" (defArgs (inClass (topS 38) 3)) (defBody (inClass (topS 38) 3)) (defScope (inClass (topS 38) 3)) .none kV55 dc55 pm55 an55 cd55 ct55), sl55⟩) (c55 : PySem.W.codeIn K cd55 "Block.head" = true) (k55 : PySem.W.keepIn K (.ref f55) = true)
    {f56 : Addr} {od56 an56 : Option Addr} {sl56 : Array (Option Value)} {oc56 dc56 pm56 cd56 ct56 : Value} {DK56 : Addr}
    (a56 : PySem.W.findIn K (.ref f39) "__init__" = some (some (.ref f56))) (i56 : PySem.W.isFn K (.ref f56) = true)
    (l56 : K.lookup f56 = some ⟨oc56, od56, .func (PySem.W.fnOf "__init__" "Row.__init__" (defArgs (inClass (topS 39) 0)) (defBody (inClass (topS 39) 0)) (defScope (inClass (topS 39) 0)) .none (.ref DK56) dc56 pm56 an56 cd56 ct56), sl56⟩) (c56 : PySem.W.codeIn K cd56 "Row.__init__" = true) (k56 : PySem.W.keepIn K (.ref f56) = true)
    {tmk56_0 : Tok} (dk56_0 : PySem.W.nsIn K DK56 "size" = some (some (.int 4 tmk56_0)))
    {f57 : Addr} {od57 an57 : Option Addr} {sl57 : Array (Option Value)} {oc57 kV57 dc57 pm57 cd57 ct57 : Value}
    (a57 : PySem.W.findIn K (.ref f39) "__eq__" = some (some (.ref f57))) (i57 : PySem.W.isFn K (.ref f57) = true)
    (l57 : K.lookup f57 = some ⟨oc57, od57, .func (PySem.W.fnOf "__eq__" "Row.__eq__" (defArgs (inClass (topS 39) 1)) (defBody (inClass (topS 39) 1)) (defScope (inClass (topS 39) 1)) .none kV57 dc57 pm57 an57 cd57 ct57), sl57⟩) (c57 : PySem.W.codeIn K cd57 "Row.__eq__" = true) (k57 : PySem.W.keepIn K (.ref f57) = true)
    {f58 : Addr} {od58 an58 : Option Addr} {sl58 : Array (Option Value)} {oc58 kV58 dc58 pm58 cd58 ct58 : Value}
    (a58 : PySem.W.findIn K (.ref f39) "blocks" = some (some (.ref f58))) (i58 : PySem.W.isFn K (.ref f58) = true)
    (l58 : K.lookup f58 = some ⟨oc58, od58, .func (PySem.W.fnOf "blocks" "Row.blocks" (defArgs (inClass (topS 39) 3)) (defBody (inClass (topS 39) 3)) (defScope (inClass (topS 39) 3)) .none kV58 dc58 pm58 an58 cd58 ct58), sl58⟩) (c58 : PySem.W.codeIn K cd58 "Row.blocks" = true) (k58 : PySem.W.keepIn K (.ref f58) = true)
    (ff_cs : PySem.W.specialIn K (.builtin "object.__class__") "__get__" = some (some (.builtin "getset_descriptor.__get__")))
    (ff_ct : PySem.W.takesIn K (.builtin "object.__class__") = some true)
    (ff_ciB : PySem.W.findIn K (.ref f38) "__class__" = some (some (.builtin "object.__class__")))
    (ff_moB : PySem.W.mroIn K f38 (.type "object") = some true)
    (ff_neB : PySem.W.findIn K (.ref f38) "__ne__" = some (some (.builtin "object.__ne__")))
    (ff_kB : PySem.W.kitOne K (.ref f38) (.ref f38) = some true)
    (ff_ciR : PySem.W.findIn K (.ref f39) "__class__" = some (some (.builtin "object.__class__")))
    (ff_moR : PySem.W.mroIn K f39 (.type "object") = some true)
    (ff_neR : PySem.W.findIn K (.ref f39) "__ne__" = some (some (.builtin "object.__ne__")))
    (ff_kR : PySem.W.kitOne K (.ref f39) (.ref f39) = some true)
    (ff_kRB : PySem.W.kitOne K (.ref f39) (.ref f38) = some false)
    (ff_ktB : PySem.W.kitOne K (.type "tuple") (.ref f38) = some false)
    (ff_nfRB : PySem.W.notFirst K f38 (.ref f39) = true)
    (ff_kNoneType : PySem.W.kitOne K (.type "NoneType") (.ref f39) = some false)
    (ff_kint : PySem.W.kitOne K (.type "int") (.ref f39) = some false)
    (ff_kstr : PySem.W.kitOne K (.type "str") (.ref f39) = some false)
    (ff_ktuple : PySem.W.kitOne K (.type "tuple") (.ref f39) = some false)
    (ff_klist : PySem.W.kitOne K (.type "list") (.ref f39) = some false)
    (ff_kbool : PySem.W.kitOne K (.type "bool") (.ref f39) = some false)
    : ∃ fd : FuncData, (∀ (s : Shared) (v : Value), BindsTo s fd ⟨[v], []⟩ [("_law_script", v)]) ∧ ∀ base : Heap, K.In base → base.Ns mainGlobals mg → FnOk l.prog w K mg base CX0 12 fa fd ["_law_script"] (spLaw K) := by
  have e := hfa.symm.trans (PySem.W.mg_of X G a52)
  cases e
  let A : Nat → Addr := fun i => ([0, f1, f2, f3, f4, f5, f6, f7, f8, 0, f10, f11, 0, 0, 0, f15, f16, f17, f18, f19, f20, f21, f22, f23, f24, f25, f26, f27, f28, 0, 0, 0, f32, f33, 0, 0, 0, 0, f38, f39, f40, f41, f42, 0, f44, f45, f46, f47, f48, f49, f50, f51, fa, f53, f54, f55, f56, f57, f58] : List Addr).getD i 0
  let FD : Nat → FuncData := fun i => ([PySem.W.fnOf "law" "law" (defArgs (topS 52)) (defBody (topS 52)) (defScope (topS 52)) .none kV52 dc52 pm52 an52 cd52 ct52, PySem.W.fnOf "law" "law" (defArgs (topS 52)) (defBody (topS 52)) (defScope (topS 52)) .none kV52 dc52 pm52 an52 cd52 ct52, PySem.W.fnOf "law" "law" (defArgs (topS 52)) (defBody (topS 52)) (defScope (topS 52)) .none kV52 dc52 pm52 an52 cd52 ct52, PySem.W.fnOf "law" "law" (defArgs (topS 52)) (defBody (topS 52)) (defScope (topS 52)) .none kV52 dc52 pm52 an52 cd52 ct52, PySem.W.fnOf "law" "law" (defArgs (topS 52)) (defBody (topS 52)) (defScope (topS 52)) .none kV52 dc52 pm52 an52 cd52 ct52, PySem.W.fnOf "law" "law" (defArgs (topS 52)) (defBody (topS 52)) (defScope (topS 52)) .none kV52 dc52 pm52 an52 cd52 ct52, PySem.W.fnOf "law" "law" (defArgs (topS 52)) (defBody (topS 52)) (defScope (topS 52)) .none kV52 dc52 pm52 an52 cd52 ct52, PySem.W.fnOf "law" "law" (defArgs (topS 52)) (defBody (topS 52)) (defScope (topS 52)) .none kV52 dc52 pm52 an52 cd52 ct52, PySem.W.fnOf "law" "law" (defArgs (topS 52)) (defBody (topS 52)) (defScope (topS 52)) .none kV52 dc52 pm52 an52 cd52 ct52, PySem.W.fnOf "law" "law" (defArgs (topS 52)) (defBody (topS 52)) (defScope (topS 52)) .none kV52 dc52 pm52 an52 cd52 ct52, PySem.W.fnOf "is_whole" "is_whole" (defArgs (topS 10)) (defBody (topS 10)) (defScope (topS 10)) .none kV10 dc10 pm10 an10 cd10 ct10, PySem.W.fnOf "is_within" "is_within" (defArgs (topS 11)) (defBody (topS 11)) (defScope (topS 11)) .none kV11 dc11 pm11 an11 cd11 ct11, PySem.W.fnOf "law" "law" (defArgs (topS 52)) (defBody (topS 52)) (defScope (topS 52)) .none kV52 dc52 pm52 an52 cd52 ct52, PySem.W.fnOf "law" "law" (defArgs (topS 52)) (defBody (topS 52)) (defScope (topS 52)) .none kV52 dc52 pm52 an52 cd52 ct52, PySem.W.fnOf "law" "law" (defArgs (topS 52)) (defBody (topS 52)) (defScope (topS 52)) .none kV52 dc52 pm52 an52 cd52 ct52, PySem.W.fnOf "is_count" "is_count" (defArgs (topS 15)) (defBody (topS 15)) (defScope (topS 15)) .none kV15 dc15 pm15 an15 cd15 ct15, PySem.W.fnOf "code" "code" (defArgs (topS 16)) (defBody (topS 16)) (defScope (topS 16)) .none kV16 dc16 pm16 an16 cd16 ct16, PySem.W.fnOf "code_all" "code_all" (defArgs (topS 17)) (defBody (topS 17)) (defScope (topS 17)) .none kV17 dc17 pm17 an17 cd17 ct17, PySem.W.fnOf "code_entries" "code_entries" (defArgs (topS 18)) (defBody (topS 18)) (defScope (topS 18)) .none kV18 dc18 pm18 an18 cd18 ct18, PySem.W.fnOf "decode_entries" "decode_entries" (defArgs (topS 19)) (defBody (topS 19)) (defScope (topS 19)) .none kV19 dc19 pm19 an19 cd19 ct19, PySem.W.fnOf "check_entries" "check_entries" (defArgs (topS 20)) (defBody (topS 20)) (defScope (topS 20)) .none kV20 dc20 pm20 an20 cd20 ct20, PySem.W.fnOf "is_entry" "is_entry" (defArgs (topS 21)) (defBody (topS 21)) (defScope (topS 21)) .none kV21 dc21 pm21 an21 cd21 ct21, PySem.W.fnOf "are_places" "are_places" (defArgs (topS 22)) (defBody (topS 22)) (defScope (topS 22)) .none kV22 dc22 pm22 an22 cd22 ct22, PySem.W.fnOf "first_fall" "first_fall" (defArgs (topS 23)) (defBody (topS 23)) (defScope (topS 23)) .none kV23 dc23 pm23 an23 cd23 ct23, PySem.W.fnOf "gaps_of" "gaps_of" (defArgs (topS 24)) (defBody (topS 24)) (defScope (topS 24)) .none kV24 dc24 pm24 an24 cd24 ct24, PySem.W.fnOf "risen" "risen" (defArgs (topS 25)) (defBody (topS 25)) (defScope (topS 25)) .none kV25 dc25 pm25 an25 cd25 ct25, PySem.W.fnOf "check_text" "check_text" (defArgs (topS 26)) (defBody (topS 26)) (defScope (topS 26)) .none kV26 dc26 pm26 an26 cd26 ct26, PySem.W.fnOf "read_number" "read_number" (defArgs (topS 27)) (defBody (topS 27)) (defScope (topS 27)) .none kV27 dc27 pm27 an27 cd27 ct27, PySem.W.fnOf "read_numbers" "read_numbers" (defArgs (topS 28)) (defBody (topS 28)) (defScope (topS 28)) .none kV28 dc28 pm28 an28 cd28 ct28, PySem.W.fnOf "law" "law" (defArgs (topS 52)) (defBody (topS 52)) (defScope (topS 52)) .none kV52 dc52 pm52 an52 cd52 ct52, PySem.W.fnOf "law" "law" (defArgs (topS 52)) (defBody (topS 52)) (defScope (topS 52)) .none kV52 dc52 pm52 an52 cd52 ct52, PySem.W.fnOf "law" "law" (defArgs (topS 52)) (defBody (topS 52)) (defScope (topS 52)) .none kV52 dc52 pm52 an52 cd52 ct52, PySem.W.fnOf "is_word" "is_word" (defArgs (topS 32)) (defBody (topS 32)) (defScope (topS 32)) .none kV32 dc32 pm32 an32 cd32 ct32, PySem.W.fnOf "check_word" "check_word" (defArgs (topS 33)) (defBody (topS 33)) (defScope (topS 33)) .none kV33 dc33 pm33 an33 cd33 ct33, PySem.W.fnOf "law" "law" (defArgs (topS 52)) (defBody (topS 52)) (defScope (topS 52)) .none kV52 dc52 pm52 an52 cd52 ct52, PySem.W.fnOf "law" "law" (defArgs (topS 52)) (defBody (topS 52)) (defScope (topS 52)) .none kV52 dc52 pm52 an52 cd52 ct52, PySem.W.fnOf "law" "law" (defArgs (topS 52)) (defBody (topS 52)) (defScope (topS 52)) .none kV52 dc52 pm52 an52 cd52 ct52, PySem.W.fnOf "law" "law" (defArgs (topS 52)) (defBody (topS 52)) (defScope (topS 52)) .none kV52 dc52 pm52 an52 cd52 ct52, PySem.W.fnOf "law" "law" (defArgs (topS 52)) (defBody (topS 52)) (defScope (topS 52)) .none kV52 dc52 pm52 an52 cd52 ct52, PySem.W.fnOf "law" "law" (defArgs (topS 52)) (defBody (topS 52)) (defScope (topS 52)) .none kV52 dc52 pm52 an52 cd52 ct52, PySem.W.fnOf "check_lengths" "check_lengths" (defArgs (topS 40)) (defBody (topS 40)) (defScope (topS 40)) .none kV40 dc40 pm40 an40 cd40 ct40, PySem.W.fnOf "check_size" "check_size" (defArgs (topS 41)) (defBody (topS 41)) (defScope (topS 41)) .none kV41 dc41 pm41 an41 cd41 ct41, PySem.W.fnOf "check_fit" "check_fit" (defArgs (topS 42)) (defBody (topS 42)) (defScope (topS 42)) .none kV42 dc42 pm42 an42 cd42 ct42, PySem.W.fnOf "law" "law" (defArgs (topS 52)) (defBody (topS 52)) (defScope (topS 52)) .none kV52 dc52 pm52 an52 cd52 ct52, PySem.W.fnOf "_law_pool" "_law_pool" (defArgs (topS 44)) (defBody (topS 44)) (defScope (topS 44)) .none kV44 dc44 pm44 an44 cd44 ct44, PySem.W.fnOf "_law_take" "_law_take" (defArgs (topS 45)) (defBody (topS 45)) (defScope (topS 45)) .none kV45 dc45 pm45 an45 cd45 ct45, PySem.W.fnOf "_law_kinds" "_law_kinds" (defArgs (topS 46)) (defBody (topS 46)) (defScope (topS 46)) .none kV46 dc46 pm46 an46 cd46 ct46, PySem.W.fnOf "_law_row_entries" "_law_row_entries" (defArgs (topS 47)) (defBody (topS 47)) (defScope (topS 47)) .none kV47 dc47 pm47 an47 cd47 ct47, PySem.W.fnOf "_law_lengths" "_law_lengths" (defArgs (topS 48)) (defBody (topS 48)) (defScope (topS 48)) .none kV48 dc48 pm48 an48 cd48 ct48, PySem.W.fnOf "_law_heads" "_law_heads" (defArgs (topS 49)) (defBody (topS 49)) (defScope (topS 49)) .none kV49 dc49 pm49 an49 cd49 ct49, PySem.W.fnOf "_law_are" "_law_are" (defArgs (topS 50)) (defBody (topS 50)) (defScope (topS 50)) .none kV50 dc50 pm50 an50 cd50 ct50, PySem.W.fnOf "_law_changed" "_law_changed" (defArgs (topS 51)) (defBody (topS 51)) (defScope (topS 51)) .none kV51 dc51 pm51 an51 cd51 ct51, PySem.W.fnOf "law" "law" (defArgs (topS 52)) (defBody (topS 52)) (defScope (topS 52)) .none kV52 dc52 pm52 an52 cd52 ct52, PySem.W.fnOf "__init__" "Block.__init__" (defArgs (inClass (topS 38) 0)) (defBody (inClass (topS 38) 0)) (defScope (inClass (topS 38) 0)) .none kV53 dc53 pm53 an53 cd53 ct53, PySem.W.fnOf "__eq__" "Block.__eq__" (defArgs (inClass (topS 38) 1)) (defBody (inClass (topS 38) 1)) (defScope (inClass (topS 38) 1)) .none kV54 dc54 pm54 an54 cd54 ct54, PySem.W.fnOf "head" "Block.head" (defArgs (inClass (topS 38) 3)) (defBody (inClass (topS 38) 3)) (defScope (inClass (topS 38) 3)) .none kV55 dc55 pm55 an55 cd55 ct55, PySem.W.fnOf "__init__" "Row.__init__" (defArgs (inClass (topS 39) 0)) (defBody (inClass (topS 39) 0)) (defScope (inClass (topS 39) 0)) .none (.ref DK56) dc56 pm56 an56 cd56 ct56, PySem.W.fnOf "__eq__" "Row.__eq__" (defArgs (inClass (topS 39) 1)) (defBody (inClass (topS 39) 1)) (defScope (inClass (topS 39) 1)) .none kV57 dc57 pm57 an57 cd57 ct57, PySem.W.fnOf "blocks" "Row.blocks" (defArgs (inClass (topS 39) 3)) (defBody (inClass (topS 39) 3)) (defScope (inClass (topS 39) 3)) .none kV58 dc58 pm58 an58 cd58 ct58] : List FuncData).getD i (PySem.W.fnOf "law" "law" (defArgs (topS 52)) (defBody (topS 52)) (defScope (topS 52)) .none kV52 dc52 pm52 an52 cd52 ct52)
  let TK : Nat → Tok := fun i => ([0, 0, 0, 0, 0, 0, 0, 0, 0, 0, 0, 0, 0, tk13, tk14, 0, 0, 0, 0, 0, 0, 0, 0, 0, 0, 0, 0, 0, 0, 0, tk30, tk31, 0, 0, 0, tk35, tk36, tk37] : List Tok).getD i 0
  have T : TX K mg A FD TK := {
    f_is_whole := fun_mk (st := topS 10) l10 c10 k10
    b_is_whole := (fun_mk (st := topS 10) l10 c10 k10).binds (ps := ["thing"]) fun _ _ _ _ _ _ us hl => match us, hl with | [_], _ => rfl
    g_is_whole := PySem.W.mg_of X G a10
    f_is_within := fun_mk (st := topS 11) l11 c11 k11
    b_is_within := (fun_mk (st := topS 11) l11 c11 k11).binds (ps := ["thing", "least", "most"]) fun _ _ _ _ _ _ us hl => match us, hl with | [_, _, _], _ => rfl
    g_is_within := PySem.W.mg_of X G a11
    f_is_count := fun_mk (st := topS 15) l15 c15 k15
    b_is_count := (fun_mk (st := topS 15) l15 c15 k15).binds (ps := ["thing"]) fun _ _ _ _ _ _ us hl => match us, hl with | [_], _ => rfl
    g_is_count := PySem.W.mg_of X G a15
    f_code := fun_mk (st := topS 16) l16 c16 k16
    b_code := (fun_mk (st := topS 16) l16 c16 k16).binds (ps := ["number"]) fun _ _ _ _ _ _ us hl => match us, hl with | [_], _ => rfl
    g_code := PySem.W.mg_of X G a16
    f_code_all := fun_mk (st := topS 17) l17 c17 k17
    b_code_all := (fun_mk (st := topS 17) l17 c17 k17).binds (ps := ["numbers"]) fun _ _ _ _ _ _ us hl => match us, hl with | [_], _ => rfl
    g_code_all := PySem.W.mg_of X G a17
    f_code_entries := fun_mk (st := topS 18) l18 c18 k18
    b_code_entries := (fun_mk (st := topS 18) l18 c18 k18).binds (ps := ["entries"]) fun _ _ _ _ _ _ us hl => match us, hl with | [_], _ => rfl
    g_code_entries := PySem.W.mg_of X G a18
    f_decode_entries := fun_mk (st := topS 19) l19 c19 k19
    b_decode_entries := (fun_mk (st := topS 19) l19 c19 k19).binds (ps := ["text"]) fun _ _ _ _ _ _ us hl => match us, hl with | [_], _ => rfl
    g_decode_entries := PySem.W.mg_of X G a19
    f_check_entries := fun_mk (st := topS 20) l20 c20 k20
    b_check_entries := (fun_mk (st := topS 20) l20 c20 k20).binds (ps := ["entries"]) fun _ _ _ _ _ _ us hl => match us, hl with | [_], _ => rfl
    g_check_entries := PySem.W.mg_of X G a20
    f_is_entry := fun_mk (st := topS 21) l21 c21 k21
    b_is_entry := (fun_mk (st := topS 21) l21 c21 k21).binds (ps := ["thing"]) fun _ _ _ _ _ _ us hl => match us, hl with | [_], _ => rfl
    g_is_entry := PySem.W.mg_of X G a21
    f_are_places := fun_mk (st := topS 22) l22 c22 k22
    b_are_places := (fun_mk (st := topS 22) l22 c22 k22).binds (ps := ["thing"]) fun _ _ _ _ _ _ us hl => match us, hl with | [_], _ => rfl
    g_are_places := PySem.W.mg_of X G a22
    f_first_fall := fun_mk (st := topS 23) l23 c23 k23
    b_first_fall := (fun_mk (st := topS 23) l23 c23 k23).binds (ps := ["things"]) fun _ _ _ _ _ _ us hl => match us, hl with | [_], _ => rfl
    g_first_fall := PySem.W.mg_of X G a23
    f_gaps_of := fun_mk (st := topS 24) l24 c24 k24
    b_gaps_of := (fun_mk (st := topS 24) l24 c24 k24).binds (ps := ["numbers"]) fun _ _ _ _ _ _ us hl => match us, hl with | [_], _ => rfl
    g_gaps_of := PySem.W.mg_of X G a24
    f_risen := fun_mk (st := topS 25) l25 c25 k25
    b_risen := (fun_mk (st := topS 25) l25 c25 k25).binds (ps := ["gaps"]) fun _ _ _ _ _ _ us hl => match us, hl with | [_], _ => rfl
    g_risen := PySem.W.mg_of X G a25
    f_check_text := fun_mk (st := topS 26) l26 c26 k26
    b_check_text := (fun_mk (st := topS 26) l26 c26 k26).binds (ps := ["text"]) fun _ _ _ _ _ _ us hl => match us, hl with | [_], _ => rfl
    g_check_text := PySem.W.mg_of X G a26
    f_read_number := fun_mk (st := topS 27) l27 c27 k27
    b_read_number := (fun_mk (st := topS 27) l27 c27 k27).binds (ps := ["text", "start"]) fun _ _ _ _ _ _ us hl => match us, hl with | [_, _], _ => rfl
    g_read_number := PySem.W.mg_of X G a27
    f_read_numbers := fun_mk (st := topS 28) l28 c28 k28
    b_read_numbers := (fun_mk (st := topS 28) l28 c28 k28).binds (ps := ["text", "at", "many"]) fun _ _ _ _ _ _ us hl => match us, hl with | [_, _, _], _ => rfl
    g_read_numbers := PySem.W.mg_of X G a28
    f_is_word := fun_mk (st := topS 32) l32 c32 k32
    b_is_word := (fun_mk (st := topS 32) l32 c32 k32).binds (ps := ["thing"]) fun _ _ _ _ _ _ us hl => match us, hl with | [_], _ => rfl
    g_is_word := PySem.W.mg_of X G a32
    f_check_word := fun_mk (st := topS 33) l33 c33 k33
    b_check_word := (fun_mk (st := topS 33) l33 c33 k33).binds (ps := ["word"]) fun _ _ _ _ _ _ us hl => match us, hl with | [_], _ => rfl
    g_check_word := PySem.W.mg_of X G a33
    f_check_lengths := fun_mk (st := topS 40) l40 c40 k40
    b_check_lengths := (fun_mk (st := topS 40) l40 c40 k40).binds (ps := ["lengths"]) fun _ _ _ _ _ _ us hl => match us, hl with | [_], _ => rfl
    g_check_lengths := PySem.W.mg_of X G a40
    f_check_size := fun_mk (st := topS 41) l41 c41 k41
    b_check_size := (fun_mk (st := topS 41) l41 c41 k41).binds (ps := ["size"]) fun _ _ _ _ _ _ us hl => match us, hl with | [_], _ => rfl
    g_check_size := PySem.W.mg_of X G a41
    f_check_fit := fun_mk (st := topS 42) l42 c42 k42
    b_check_fit := (fun_mk (st := topS 42) l42 c42 k42).binds (ps := ["entries", "lengths"]) fun _ _ _ _ _ _ us hl => match us, hl with | [_, _], _ => rfl
    g_check_fit := PySem.W.mg_of X G a42
    f_l_pool := fun_mk (st := topS 44) l44 c44 k44
    b_l_pool := (fun_mk (st := topS 44) l44 c44 k44).binds (ps := ["_law_script", "_law_at"]) fun _ _ _ _ _ _ us hl => match us, hl with | [_, _], _ => rfl
    g_l_pool := PySem.W.mg_of X G a44
    f_l_take := fun_mk (st := topS 45) l45 c45 k45
    b_l_take := (fun_mk (st := topS 45) l45 c45 k45).binds (ps := ["_law_pool_here", "_law_many"]) fun _ _ _ _ _ _ us hl => match us, hl with | [_, _], _ => rfl
    g_l_take := PySem.W.mg_of X G a45
    f_l_kinds := fun_mk (st := topS 46) l46 c46 k46
    b_l_kinds := (fun_mk (st := topS 46) l46 c46 k46).binds (ps := ["_law_pool_here"]) fun _ _ _ _ _ _ us hl => match us, hl with | [_], _ => rfl
    g_l_kinds := PySem.W.mg_of X G a46
    f_l_row_entries := fun_mk (st := topS 47) l47 c47 k47
    b_l_row_entries := (fun_mk (st := topS 47) l47 c47 k47).binds (ps := ["_law_pool_here", "_law_many", "_law_most"]) fun _ _ _ _ _ _ us hl => match us, hl with | [_, _, _], _ => rfl
    g_l_row_entries := PySem.W.mg_of X G a47
    f_l_lengths := fun_mk (st := topS 48) l48 c48 k48
    b_l_lengths := (fun_mk (st := topS 48) l48 c48 k48).binds (ps := ["_law_pool_here", "_law_entries"]) fun _ _ _ _ _ _ us hl => match us, hl with | [_, _], _ => rfl
    g_l_lengths := PySem.W.mg_of X G a48
    f_l_heads := fun_mk (st := topS 49) l49 c49 k49
    b_l_heads := (fun_mk (st := topS 49) l49 c49 k49).binds (ps := ["_law_entries", "_law_lengths_here", "_law_wide"]) fun _ _ _ _ _ _ us hl => match us, hl with | [_, _, _], _ => rfl
    g_l_heads := PySem.W.mg_of X G a49
    f_l_are := fun_mk (st := topS 50) l50 c50 k50
    b_l_are := (fun_mk (st := topS 50) l50 c50 k50).binds (ps := ["_law_one", "_law_other", "_law_due"]) fun _ _ _ _ _ _ us hl => match us, hl with | [_, _, _], _ => rfl
    g_l_are := PySem.W.mg_of X G a50
    f_l_changed := fun_mk (st := topS 51) l51 c51 k51
    b_l_changed := (fun_mk (st := topS 51) l51 c51 k51).binds (ps := ["_law_pool_here", "_law_word", "_law_entries", "_law_lengths_here", "_law_wide"]) fun _ _ _ _ _ _ us hl => match us, hl with | [_, _, _, _, _], _ => rfl
    g_l_changed := PySem.W.mg_of X G a51
    f_law := fun_mk (st := topS 52) l52 c52 k52
    b_law := (fun_mk (st := topS 52) l52 c52 k52).binds (ps := ["_law_script"]) fun _ _ _ _ _ _ us hl => match us, hl with | [_], _ => rfl
    g_law := PySem.W.mg_of X G a52
    m_abs := PySem.W.mg_none_of X G z_abs
    m_all := PySem.W.mg_none_of X G z_all
    m_bool := PySem.W.mg_none_of X G z_bool
    m_divmod := PySem.W.mg_none_of X G z_divmod
    m_enumerate := PySem.W.mg_none_of X G z_enumerate
    m_int := PySem.W.mg_none_of X G z_int
    m_isinstance := PySem.W.mg_none_of X G z_isinstance
    m_len := PySem.W.mg_none_of X G z_len
    m_list := PySem.W.mg_none_of X G z_list
    m_max := PySem.W.mg_none_of X G z_max
    m_min := PySem.W.mg_none_of X G z_min
    m_range := PySem.W.mg_none_of X G z_range
    m_str := PySem.W.mg_none_of X G z_str
    m_tuple := PySem.W.mg_none_of X G z_tuple
    c_DIGITS_AHEAD := PySem.W.mg_of X G e13
    c_LAST_DIGITS := PySem.W.mg_of X G e14
    c_MOST_LETTERS := PySem.W.mg_of X G e30
    c_MOST_WORDS := PySem.W.mg_of X G e31
    c_SIZE := PySem.W.mg_of X G e35
    c_MOST_SIZE := PySem.W.mg_of X G e36
    c_MOST_LENGTHS := PySem.W.mg_of X G e37
    k_Wrong := PySem.W.mg_of X G a1
    k_NoWord := PySem.W.mg_of X G a2
    k_NoNumber := PySem.W.mg_of X G a3
    k_NoSize := PySem.W.mg_of X G a4
    k_NoLengths := PySem.W.mg_of X G a5
    k_NoCode := PySem.W.mg_of X G a6
    k_NoRow := PySem.W.mg_of X G a7
    k_NoEntries := PySem.W.mg_of X G a8
    k_Block := PySem.W.mg_of X G a38
    k_Row := PySem.W.mg_of X G a39
    cl_Block := ⟨pg38, hd38, po38, sa38⟩
    n_Block_first := na38_first
    n_Block_last := na38_last
    n_Block_many := na38_many
    n_Block_most := na38_most
    n_Block_least := na38_least
    n_Block_coded := na38_coded
    cl_Row := ⟨pg39, hd39, po39, sa39⟩
    n_Row_word := na39_word
    n_Row_size := na39_size
    n_Row_cut := na39_cut
    f_Block_init := fun_mk (st := inClass (topS 38) 0) l53 c53 k53
    b_Block_init := (fun_mk (st := inClass (topS 38) 0) l53 c53 k53).binds (ps := ["self", "entries", "lengths"]) fun _ _ _ _ _ _ us hl => match us, hl with | [_, _, _], _ => rfl
    M_Block := ⟨mk38, a53, i53, kc38⟩
    f_Block_eq := fun_mk (st := inClass (topS 38) 1) l54 c54 k54
    b_Block_eq := (fun_mk (st := inClass (topS 38) 1) l54 c54 k54).binds (ps := ["self", "other"]) fun _ _ _ _ _ _ us hl => match us, hl with | [_, _], _ => rfl
    M_Block_eq := ⟨a54, i54, k54⟩
    f_Block_head := fun_mk (st := inClass (topS 38) 3) l55 c55 k55
    b_Block_head := (fun_mk (st := inClass (topS 38) 3) l55 c55 k55).binds (ps := ["self"]) fun _ _ _ _ _ _ us hl => match us, hl with | [_], _ => rfl
    M_Block_head := ⟨a55, i55, k55⟩
    f_Row_init := ⟨⟨oc56, od56, .none, .ref DK56, dc56, pm56, an56, cd56, ct56, sl56, rfl, l56, c56, .inl ⟨rfl, rfl⟩, .inr ⟨DK56, rfl, fun q hq => by
        simp only [List.mem_cons, List.not_mem_nil, or_false] at hq
        subst hq
        exact ⟨_, dk56_0, ⟨_, rfl⟩⟩⟩⟩, k56⟩
    M_Row := ⟨mk39, a56, i56, kc39⟩
    f_Row_eq := fun_mk (st := inClass (topS 39) 1) l57 c57 k57
    b_Row_eq := (fun_mk (st := inClass (topS 39) 1) l57 c57 k57).binds (ps := ["self", "other"]) fun _ _ _ _ _ _ us hl => match us, hl with | [_, _], _ => rfl
    M_Row_eq := ⟨a57, i57, k57⟩
    f_Row_blocks := fun_mk (st := inClass (topS 39) 3) l58 c58 k58
    b_Row_blocks := (fun_mk (st := inClass (topS 39) 3) l58 c58 k58).binds (ps := ["self"]) fun _ _ _ _ _ _ us hl => match us, hl with | [_], _ => rfl
    M_Row_blocks := ⟨a58, i58, k58⟩
    cs := ff_cs
    ct := ff_ct
    ciB := ff_ciB
    moB := ff_moB
    neB := ff_neB
    kB := ff_kB
    ciR := ff_ciR
    moR := ff_moR
    neR := ff_neR
    kR := ff_kR
    kRB := ff_kRB
    ktB := ff_ktB
    nfRB := ff_nfRB
    kNoneType := ff_kNoneType
    kint := ff_kint
    kstr := ff_kstr
    ktuple := ff_ktuple
    klist := ff_klist
    kbool := ff_kbool }
  exact ⟨FD 52, fun s v => .of_eq rfl, fun base _ _ => ok_law T⟩
end K12
open PySem PySem.W PyProof.Rows
set_option maxHeartbeats 0 in
theorem PySem.Challenge.cw_blocksearch_k12_rows_alike_holds : PySem.Challenge.rw_blocksearch_k12_rows_alike.Holds := by
  w_on; o_law; k_head; (case hw => w_witness2)
  k_fill
  refine L2.walk_of (l := PySem.Challenge.rw_blocksearch_k12_rows_alike) (n := 63) (k := 12) (x := "_law_script") (CX := fun _ => L2.CX0) (sp := fun w => K12.spLaw _) rfl (by decide) rfl ⟨rfl, by decide, by decide⟩ (fun w h Y => PySem.W.kIn_of Y) ?F (fun _ _ a ns hl _ hS => ⟨a, ns, rfl, hS, hl, fun _ => rfl⟩) (fun _ _ _ _ _ h => h)
  case F =>
    intro w mg fa h KX G hmg
    refine' K12.all_mk KX G hmg ?a10 ?l10 ?c10 ?k10 ?a11 ?l11 ?c11 ?k11 ?a15 ?l15 ?c15 ?k15 ?a16 ?l16 ?c16 ?k16 ?a17 ?l17 ?c17 ?k17 ?a18 ?l18 ?c18 ?k18 ?a19 ?l19 ?c19 ?k19 ?a20 ?l20 ?c20 ?k20 ?a21 ?l21 ?c21 ?k21 ?a22 ?l22 ?c22 ?k22 ?a23 ?l23 ?c23 ?k23 ?a24 ?l24 ?c24 ?k24 ?a25 ?l25 ?c25 ?k25 ?a26 ?l26 ?c26 ?k26 ?a27 ?l27 ?c27 ?k27 ?a28 ?l28 ?c28 ?k28 ?a32 ?l32 ?c32 ?k32 ?a33 ?l33 ?c33 ?k33 ?a40 ?l40 ?c40 ?k40 ?a41 ?l41 ?c41 ?k41 ?a42 ?l42 ?c42 ?k42 ?a44 ?l44 ?c44 ?k44 ?a45 ?l45 ?c45 ?k45 ?a46 ?l46 ?c46 ?k46 ?a47 ?l47 ?c47 ?k47 ?a48 ?l48 ?c48 ?k48 ?a49 ?l49 ?c49 ?k49 ?a50 ?l50 ?c50 ?k50 ?a51 ?l51 ?c51 ?k51 ?a52 ?l52 ?c52 ?k52 ?z_abs ?z_all ?z_bool ?z_divmod ?z_enumerate ?z_int ?z_isinstance ?z_len ?z_list ?z_max ?z_min ?z_range ?z_str ?z_tuple ?e13 ?e14 ?e30 ?e31 ?e35 ?e36 ?e37 ?a1 ?a2 ?a3 ?a4 ?a5 ?a6 ?a7 ?a8 ?a38 ?a39 ?pg38 ?hd38 ?po38 ?sa38 ?mk38 ?kc38 ?na38_first ?na38_last ?na38_many ?na38_most ?na38_least ?na38_coded ?pg39 ?hd39 ?po39 ?sa39 ?mk39 ?kc39 ?na39_word ?na39_size ?na39_cut ?a53 ?i53 ?l53 ?c53 ?k53 ?a54 ?i54 ?l54 ?c54 ?k54 ?a55 ?i55 ?l55 ?c55 ?k55 ?a56 ?i56 ?l56 ?c56 ?k56 ?dk56_0 ?a57 ?i57 ?l57 ?c57 ?k57 ?a58 ?i58 ?l58 ?c58 ?k58 ?ff_cs ?ff_ct ?ff_ciB ?ff_moB ?ff_neB ?ff_kB ?ff_ciR ?ff_moR ?ff_neR ?ff_kR ?ff_kRB ?ff_ktB ?ff_nfRB ?ff_kNoneType ?ff_kint ?ff_kstr ?ff_ktuple ?ff_klist ?ff_kbool
    (case a10 => k_is)
    (case l10 => k_is)
    (case c10 => k_is)
    (case k10 => k_is)
    (case a11 => k_is)
    (case l11 => k_is)
    (case c11 => k_is)
    (case k11 => k_is)
    (case a15 => k_is)
    (case l15 => k_is)
    (case c15 => k_is)
    (case k15 => k_is)
    (case a16 => k_is)
    (case l16 => k_is)
    (case c16 => k_is)
    (case k16 => k_is)
    (case a17 => k_is)
    (case l17 => k_is)
    (case c17 => k_is)
    (case k17 => k_is)
    (case a18 => k_is)
    (case l18 => k_is)
    (case c18 => k_is)
    (case k18 => k_is)
    (case a19 => k_is)
    (case l19 => k_is)
    (case c19 => k_is)
    (case k19 => k_is)
    (case a20 => k_is)
    (case l20 => k_is)
    (case c20 => k_is)
    (case k20 => k_is)
    (case a21 => k_is)
    (case l21 => k_is)
    (case c21 => k_is)
    (case k21 => k_is)
    (case a22 => k_is)
    (case l22 => k_is)
    (case c22 => k_is)
    (case k22 => k_is)
    (case a23 => k_is)
    (case l23 => k_is)
    (case c23 => k_is)
    (case k23 => k_is)
    (case a24 => k_is)
    (case l24 => k_is)
    (case c24 => k_is)
    (case k24 => k_is)
    (case a25 => k_is)
    (case l25 => k_is)
    (case c25 => k_is)
    (case k25 => k_is)
    (case a26 => k_is)
    (case l26 => k_is)
    (case c26 => k_is)
    (case k26 => k_is)
    (case a27 => k_is)
    (case l27 => k_is)
    (case c27 => k_is)
    (case k27 => k_is)
    (case a28 => k_is)
    (case l28 => k_is)
    (case c28 => k_is)
    (case k28 => k_is)
    (case a32 => k_is)
    (case l32 => k_is)
    (case c32 => k_is)
    (case k32 => k_is)
    (case a33 => k_is)
    (case l33 => k_is)
    (case c33 => k_is)
    (case k33 => k_is)
    (case a40 => k_is)
    (case l40 => k_is)
    (case c40 => k_is)
    (case k40 => k_is)
    (case a41 => k_is)
    (case l41 => k_is)
    (case c41 => k_is)
    (case k41 => k_is)
    (case a42 => k_is)
    (case l42 => k_is)
    (case c42 => k_is)
    (case k42 => k_is)
    (case a44 => k_is)
    (case l44 => k_is)
    (case c44 => k_is)
    (case k44 => k_is)
    (case a45 => k_is)
    (case l45 => k_is)
    (case c45 => k_is)
    (case k45 => k_is)
    (case a46 => k_is)
    (case l46 => k_is)
    (case c46 => k_is)
    (case k46 => k_is)
    (case a47 => k_is)
    (case l47 => k_is)
    (case c47 => k_is)
    (case k47 => k_is)
    (case a48 => k_is)
    (case l48 => k_is)
    (case c48 => k_is)
    (case k48 => k_is)
    (case a49 => k_is)
    (case l49 => k_is)
    (case c49 => k_is)
    (case k49 => k_is)
    (case a50 => k_is)
    (case l50 => k_is)
    (case c50 => k_is)
    (case k50 => k_is)
    (case a51 => k_is)
    (case l51 => k_is)
    (case c51 => k_is)
    (case k51 => k_is)
    (case a52 => k_is)
    (case l52 => k_is)
    (case c52 => k_is)
    (case k52 => k_is)
    (case z_abs => k_is)
    (case z_all => k_is)
    (case z_bool => k_is)
    (case z_divmod => k_is)
    (case z_enumerate => k_is)
    (case z_int => k_is)
    (case z_isinstance => k_is)
    (case z_len => k_is)
    (case z_list => k_is)
    (case z_max => k_is)
    (case z_min => k_is)
    (case z_range => k_is)
    (case z_str => k_is)
    (case z_tuple => k_is)
    (case e13 => k_is)
    (case e14 => k_is)
    (case e30 => k_is)
    (case e31 => k_is)
    (case e35 => k_is)
    (case e36 => k_is)
    (case e37 => k_is)
    (case a1 => k_is)
    (case a2 => k_is)
    (case a3 => k_is)
    (case a4 => k_is)
    (case a5 => k_is)
    (case a6 => k_is)
    (case a7 => k_is)
    (case a8 => k_is)
    (case a38 => k_is)
    (case a39 => k_is)
    (case pg38 => k_is)
    (case hd38 => k_is)
    (case po38 => k_is)
    (case sa38 => k_is)
    (case mk38 => k_is)
    (case kc38 => k_is)
    (case na38_first => k_is)
    (case na38_last => k_is)
    (case na38_many => k_is)
    (case na38_most => k_is)
    (case na38_least => k_is)
    (case na38_coded => k_is)
    (case pg39 => k_is)
    (case hd39 => k_is)
    (case po39 => k_is)
    (case sa39 => k_is)
    (case mk39 => k_is)
    (case kc39 => k_is)
    (case na39_word => k_is)
    (case na39_size => k_is)
    (case na39_cut => k_is)
    (case a53 => k_is)
    (case i53 => k_is)
    (case l53 => k_is)
    (case c53 => k_is)
    (case k53 => k_is)
    (case a54 => k_is)
    (case i54 => k_is)
    (case l54 => k_is)
    (case c54 => k_is)
    (case k54 => k_is)
    (case a55 => k_is)
    (case i55 => k_is)
    (case l55 => k_is)
    (case c55 => k_is)
    (case k55 => k_is)
    (case a56 => k_is)
    (case i56 => k_is)
    (case l56 => k_is)
    (case c56 => k_is)
    (case k56 => k_is)
    (case dk56_0 => k_is)
    (case a57 => k_is)
    (case i57 => k_is)
    (case l57 => k_is)
    (case c57 => k_is)
    (case k57 => k_is)
    (case a58 => k_is)
    (case i58 => k_is)
    (case l58 => k_is)
    (case c58 => k_is)
    (case k58 => k_is)
    (case ff_cs => k_is)
    (case ff_ct => k_is)
    (case ff_ciB => k_is)
    (case ff_moB => k_is)
    (case ff_neB => k_is)
    (case ff_kB => kernel_rfl)
    (case ff_ciR => k_is)
    (case ff_moR => k_is)
    (case ff_neR => k_is)
    (case ff_kR => kernel_rfl)
    (case ff_kRB => kernel_rfl)
    (case ff_ktB => kernel_rfl)
    (case ff_nfRB => kernel_rfl)
    (case ff_kNoneType => kernel_rfl)
    (case ff_kint => kernel_rfl)
    (case ff_kstr => kernel_rfl)
    (case ff_ktuple => kernel_rfl)
    (case ff_klist => kernel_rfl)
    (case ff_kbool => kernel_rfl)

