import PyProof.Rows.All
import Wide.All
import OpenK.AllK
import Wide.FinOn
import HandS.ForMost
import HandS.Defaults
import HandS.IsInst
import HandS.Walk
import HandS.Lambda
import HandS.EndTab
import HandS.Evl
import HandS.More
import HandS.MakeKw
import HandS.MakeKwOnly
import HandS.Text
import HandS.Deep
import HandS.Style
import HandS.Star
import HandS.Zip
import HandS.Conv
import HandS.Sort
import HandS.OwnEq
import HandS.FStr
import KE.KCallOwn
import KE.GoesMore
import PyProof.EnumMake
import HandS.Dict
import HandS.WordsDict
import HandS.SetBool
import HandS.Strs
import PySem.Challenge.RW_blocksearch_k18_slots_of_rows
set_option Elab.async false
set_option linter.all false
set_option maxRecDepth 100000
/-! words of my own: the drawn pool, heaps that grow beside it, small facts -/
namespace My
open PySem PySem.Spec PyProof.Rows L2 Evl

/-- the pool at p: three ints, at most c draws mixed so far -/
def Pl (H : Hp) (p : Addr) (c : Nat) : Prop := ∃ (g b : Int) (k : Nat), H p = some (.lst [.int g, .int b, .int (k : Int)]) ∧ 0 ≤ g ∧ 0 ≤ b ∧ b < 281474976710656 ∧ k ≤ c
/-- all but p stays -/
def Fx (p : Addr) (H H' : Hp) : Prop := ∀ a o, a ≠ p → H a = some o → H' a = some o
theorem Fx.refl (p : Addr) (H : Hp) : Fx p H H := fun _ _ _ h => h
theorem Fx.trans {p : Addr} {H H1 H2 : Hp} (a : Fx p H H1) (b : Fx p H1 H2) : Fx p H H2 := fun x o n h => b x o n (a x o n h)
theorem Fx.ex {p : Addr} {H H' : Hp} (e : Ex H H') : Fx p H H' := fun a o _ h => e a o h
theorem Fx.upd {p : Addr} {H : Hp} {o : HO} : Fx p H (L2.upd H p o) := fun a u n h => by
  rw [upd_ne n]
  exact h
theorem Pl.mono {H : Hp} {p : Addr} {c c' : Nat} (h : Pl H p c) (l : c ≤ c') : Pl H p c' := by
  obtain ⟨g, b, k, h1, h2, h3, h4, h5⟩ := h
  exact ⟨g, b, k, h1, h2, h3, h4, Nat.le_trans h5 l⟩
theorem Pl.ex {H H' : Hp} {p : Addr} {c : Nat} (h : Pl H p c) (e : Ex H H') : Pl H' p c := by
  obtain ⟨g, b, k, h1, h2⟩ := h
  exact ⟨g, b, k, e _ _ h1, h2⟩
theorem Pl.some {H : Hp} {p : Addr} {c : Nat} (h : Pl H p c) : ∃ xs, H p = some (.lst xs) := by
  obtain ⟨g, b, k, h1, _⟩ := h
  exact ⟨_, h1⟩
/-- what is free behind was free ahead -/
theorem fx_free {p a : Addr} {H H' : Hp} {c : Nat} (f : Fx p H H') (h : Pl H' p c) (e : H' a = none) : H a = none := by
  cases q : H a with
  | none => rfl
  | some o =>
    have n : a ≠ p := fun z => by
      obtain ⟨xs, hx⟩ := h.some
      rw [z, hx] at e
      cases e
    rw [f a o n q] at e
    cases e
/-- a tuple is not the pool -/
theorem Fx.tup {p a : Addr} {H H' : Hp} {xs : List V} {c : Nat} (f : Fx p H H') (hp : Pl H p c) (h : H a = some (.tup xs)) : H' a = some (.tup xs) := by
  obtain ⟨ys, hy⟩ := hp.some
  exact f a _ (ne_of h hy (by intro z; cases z)) h
theorem Fx.sqt {K : PySem.W.Frag} {p a : Addr} {H H' : Hp} {xs : List V} {c : Nat} (f : Fx p H H') (hp : Pl H p c) (h : SqT K H a xs) : SqT K H' a xs := by
  obtain ⟨ys, hy⟩ := hp.some
  rcases h with (h | ⟨o, h⟩) | h
  · exact .inl (.inl (f a _ (ne_of h hy (by intro z; cases z)) h))
  · exact .inl (.inr ⟨o, f a _ (ne_of h hy (by intro z; cases z)) h⟩)
  · exact .inr h
theorem Fx.lst {p a : Addr} {H H' : Hp} {xs : List V} (f : Fx p H H') (n : a ≠ p) (h : H a = some (.lst xs)) : H' a = some (.lst xs) := f a _ n h
theorem ex_upd {H : Hp} {p : Addr} {o : HO} (h : H p = none) : Ex H (L2.upd H p o) := Ex.new h
theorem ret_v {v : V} {H : Hp} {Q : VK} (q : RetV v H Q) : Q v H := q H (Ex.refl H)
theorem sz {n : Nat} (h : n ≤ 100000) : n ≤ sizeLine := sz_of h
theorem natAbs_lt {z : Int} {n : Nat} (h0 : 0 ≤ z) (h : z < (n : Int)) : z.natAbs < n := by omega
/-- a * b ≤ A * B -/
theorem mul_le {a b A B : Int} (h0 : 0 ≤ a) (h1 : a ≤ A) (h2 : 0 ≤ b) (h3 : b ≤ B) : a * b ≤ A * B := Int.mul_le_mul h1 h3 h2 (Int.le_trans h0 h1)
theorem mul_nn {a b : Int} (h0 : 0 ≤ a) (h1 : 0 ≤ b) : 0 ≤ a * b := Int.mul_nonneg h0 h1
/-! the rules with the written part said, for blocks of comprehensions -/
section
variable {X : Cx} {K : PySem.W.Frag}
theorem lenK (h : X.K = K) : CallR X (.builtin "len") (rLenS K) := by subst h; exact call_len_seq
theorem listK (h : X.K = K) : CallR X (.type "list") (rListS K) := by subst h; exact call_list_of
def rTupS (K : PySem.W.Frag) : List V → Hp → VK → Prop := fun xs H Q => ∃ p ys, xs = [.ref p] ∧ ((SqL K H p ys ∧ ∀ l, H l = none → Q (.ref l) (L2.upd H l (.tup ys))) ∨ (SqT K H p ys ∧ Q (.ref p) H))
theorem tupK (h : X.K = K) : CallR X (.type "tuple") (rTupS K) := by subst h; exact call_tuple_of
theorem ixLK (h : X.K = K) : IxR X (rIxL K) := by subst h; exact ix_list
theorem ixTK (h : X.K = K) : IxR X (rIxT K) := by subst h; exact ix_tup
theorem slLK (h : X.K = K) : SlR X (rSlL K) := by subst h; exact sl_list
theorem slTK (h : X.K = K) : SlR X (rSlT K) := by subst h; exact sl_tup
theorem catTK (h : X.K = K) : OpR X (binaryOp .Add) (rCatT K) := by subst h; exact op_catT
theorem inK (h : X.K = K) : OpR X (compareOp .In) (rIn K false) := by subst h; exact op_in_seq
theorem notInK (h : X.K = K) : OpR X (compareOp .NotIn) (rIn K true) := by subst h; exact op_notIn_seq
theorem isiK (h : X.K = K) : CallR X (.builtin "isinstance") (rIsi K) := by subst h; exact call_isi
theorem isiTK (h : X.K = K) : CallR X (.builtin "isinstance") (rIsiT K) := by subst h; exact call_isiT
theorem allK (h : X.K = K) (hc : X.calm = true) : CallR X (.builtin "all") (rAll K) := by subst h; exact cr_all hc
theorem anyK (h : X.K = K) (hc : X.calm = true) : CallR X (.builtin "any") (rAny K) := by subst h; exact cr_any hc
theorem sumK (h : X.K = K) (hc : X.calm = true) : CallR X (.builtin "sum") (rSum K) := by subst h; exact cr_sum hc
theorem maxK (h : X.K = K) (hc : X.calm = true) : CallR X (.builtin "max") (rMax K) := by subst h; exact cr_max hc
theorem minK (h : X.K = K) (hc : X.calm = true) : CallR X (.builtin "min") (rMin K) := by subst h; exact cr_min hc
theorem fldK {e : Expr} {f : Str} {pos : Pos} {ta : TE} (h : X.K = K) (he : PE X e ta) (hb : attributeBase e f X.env (eval e X.env) = eval e X.env) : PE X (.Attribute e f pos) (tFld K ta f) := by subst h; exact pe_fld he hb
theorem tupGK {es : List Expr} {k : Nat} {t : TGs} {n : Nat} {pos : Pos} (h : X.K = K) (hc : X.calm = true) (hg : PGs X es t) (hn : (assignEach es X.env).length = n := by rfl) (hst : (assignEach es X.env).findIdx? (·.1) = none := by rfl) : PG X (.Tuple es k pos) (gTup K n t) := by subst h; exact pg_tup hc hg hn hst
theorem eqDK (h : X.K = K) (hu : X.A.units + 64 < cLine) : OpR X (compareOp .Eq) (rEqD K) := by subst h; exact op_eqD hu
theorem neDK (h : X.K = K) (hu : X.A.units + 64 < cLine) : OpR X (compareOp .NotEq) (rNeD K) := by subst h; exact op_neD hu
theorem indexK (h : X.K = K) : MtR X "list.index" (rIndex K) := by subst h; exact mt_index
theorem piOr {tg e : Expr} {w1 w2 : TI} (h1 : PI X tg e w1) (h2 : PI X tg e w2) : PI X tg e (fun σ H R => w1 σ H R ∨ w2 σ H R) := ⟨fun pins s σ H R I h => h.elim (fun h => h1.run pins s σ H R I h) (fun h => h2.run pins s σ H R I h)⟩
theorem piLK {tg l : Expr} {tl : TE} (h : X.K = K) (hl : PE X l tl) : PI X tg l (iList K tl) := by subst h; exact pi_list hl
theorem piTK {tg l : Expr} {tl : TE} (h : X.K = K) (hl : PE X l tl) : PI X tg l (iTup K tl) := by subst h; exact pi_tup hl
end
end My
/-! enumerate over a tuple -/
namespace EnT
open PySem PySem.Spec PyProof.Rows L2
open AutoSeq1 (wpAny_loadPart')
abbrev tIt (t : Addr) : Obj := { cls := .type "tuple_iterator", data := .fields #[.ref t, .int 0 0] }
abbrev eIt (it : Addr) : Obj := { cls := .type "enumerate", data := .fields #[.none, .bool false, .ref it, rawInt 0, .none, .none] }
set_option maxHeartbeats 2000000 in
theorem newT (t : Addr) (items : Array Value) (n : Nat) (dct : Option Addr) (sl : Array (Option Value)) :
    Meets (Builtin.«enumerate.__new__» ⟨[.type "enumerate", .ref t], []⟩) (fun _ R s => s.heap.get? t = some { cls := .type "tuple", dict := dct, data := .seq items n, slots := sl } ∧ R (.ok (.ret (.ref (s.heap.push (tIt t)).objs.size))) { s with heap := (s.heap.push (tIt t)).push (eIt s.heap.objs.size) }) :=
  .of_wp fun prog w A R s z => by
    obtain ⟨hp, g, d, tk, os⟩ := s
    obtain ⟨ht, z⟩ := z
    have hS := sub_enumerate
    have hT : Heap.IsTuple (Shared.heap ⟨hp, g, d, tk, os⟩) t items := ⟨_, ht, rfl, n, rfl⟩
    wp_walk using wpAny_loadPart' ht
    refine wpAny_stack_any (fun _ => wpAny_pure ?_)
    split
    · rename_i cc _ _ _ _ _; cases (cc == Value.type "enumerate") <;> (wp_walk using wpAny_loadPart' ht, wpAny_pyIter_tuple hT; exact ⟨_, rfl, z⟩)
    · wp_walk using wpAny_loadPart' ht, wpAny_pyIter_tuple hT; exact ⟨_, rfl, z⟩
theorem callT {prog : Program} {w : World} {A : Around} {E : Value → Shared → Prop} {s : Shared} {t : Addr} {items : Array Value} {Q : Value → Shared → Prop} (hT : s.heap.IsTuple t items)
    (k : ∀ h', IsEnum h' (s.heap.objs.size + 1) s.heap.objs.size 0 .none → h'.IsTupleIter s.heap.objs.size t 0 → h'.objs.size = s.heap.objs.size + 2 → (∀ b o, s.heap.get? b = some o → h'.get? b = some o) → Q (.ref (s.heap.objs.size + 1)) { s with heap := h' }) :
    wpAny (model prog w) A (call (.type "enumerate") [.ref t]) Q E s := by
  obtain ⟨⟨c, dct, dt, sl⟩, ht, c1, n, d1⟩ := hT
  simp only at c1 d1
  subst c1 d1
  refine callType_new F.called_enumerate (by decide) (F.typeCall_enumerate_1 _) (F.newCall_enumerate_1 _) (fun ob => F.args_object_init_2 ob _) F.entry_enumerate_new (newT t items n dct sl) ⟨ht, ?_⟩
  have z : (s.heap.push (tIt t)).objs.size = s.heap.objs.size + 1 := Heap.size_push ..
  show _ ∧ _
  rw [z]
  have e1 : IsEnum ((s.heap.push (tIt t)).push (eIt s.heap.objs.size)) (s.heap.objs.size + 1) s.heap.objs.size 0 .none := by
    have e0 := Heap.get?_push_size (s.heap.push (tIt t)) (o := eIt s.heap.objs.size) rfl
    rw [z] at e0
    exact e0
  exact ⟨⟨_, e1, rfl⟩, k _ e1 ⟨_, Heap.get?_push_of_some _ (Heap.get?_push_size _ rfl), rfl, rfl⟩ (by rw [Heap.size_push, z]) (fun b o x => Heap.get?_push_of_some _ (Heap.get?_push_of_some _ x))⟩
/-- the tuple at a, each item in a new pair -/
def IteT (K : PySem.W.Frag) (a : Addr) : It :=
  ⟨fun i H => ∃ (xs : List V) (x : V), SqT K H a xs ∧ xs[i]? = some x, fun i H v H' => ∃ T x, v = .ref T ∧ H T = none ∧ H' = upd H T (.tup [.int (i : Nat), x]) ∧ ∀ xs, SqT K H a xs → xs[i]? = some x, fun i H => ∃ xs : List V, SqT K H a xs ∧ xs.length ≤ i ∧ i ≤ xs.length⟩
set_option maxHeartbeats 2000000 in
theorem turnT {P : Program} {w : World} {K : PySem.W.Frag} {elts : List Expr} {kk : Nat} {tpos : Pos} (a e it : Addr) (na : a ≠ it) (nea : e ≠ a) :
    Turn P w K (.Tuple elts kk tpos) (IteT K a) [e, it] e (fun i h => (∃ old, IsEnum h e it ((i : Nat) : Int) old) ∧ h.IsTupleIter it a i ∧ e ≠ it) where
  mem := by simp
  obj := fun i h st b hb => by
    obtain ⟨⟨old, he⟩, ⟨o, ho, hc, hd⟩, _⟩ := st
    have z : b = e ∨ b = it := by simpa using hb
    rcases z with rfl | rfl
    · exact ⟨_, he, fun v q => nomatch q⟩
    · exact ⟨o, ho, fun v q => by rw [hd] at q; cases q⟩
  keep := fun i h h' st k => by
    obtain ⟨⟨old, he⟩, hi, ne⟩ := st
    exact ⟨⟨old, k e (by simp) _ he⟩, hi.at (fun o q => k it (by simp) o q), ne⟩
  item := by
    intro X hP hw hK hc i pins s σ H E I hf st hg
    subst hP; subst hw; subst hK
    obtain ⟨⟨old, he⟩, hit, hne⟩ := st
    obtain ⟨xs, x, hq, hx⟩ := hg
    obtain ⟨its, rv, pt, hz⟩ := I.tuple hq
    obtain ⟨u, hu, ru⟩ := rv.get hx
    have l1 : e < s.heap.objs.size := Heap.lt_size he
    have l2 : it < s.heap.objs.size := by obtain ⟨_, q, _⟩ := hit; exact Heap.lt_size q
    have il : i < its.toArray.size := by rw [List.size_toArray]; exact (List.getElem?_eq_some_iff.mp hu).1
    refine wpAny_pyNext_enum_itemD (Draws.tuple (A := X.A.in1) (prog := X.prog) (w := X.w) (show X.A.in1.handled = none from I.ok.hd hc) it a na its.toArray) he ⟨hit, pt⟩ il hne (by simp [hne, nea]) fun v h' tk hv ho hst hT hsz hk => ?_
    have ev : v = u := by
      have : its[i]? = some v := by simpa using hv
      rw [hu] at this
      exact (Option.some.inj this).symm
    subst ev
    refine ⟨_, rfl, wpAny_letOwnedTupleGo_enum (s := { s with heap := h', toks := tk + 1 }) ho fun h2 he2 sb => ?_⟩
    have hT2 : h2.get? s.heap.objs.size = some { cls := .type "tuple", data := .seq #[.int i tk, v] } := (sb.2 _ (Nat.ne_of_gt l1)).trans hT
    have nw : ObjOk X.prog X.w (upd H s.heap.objs.size (.tup [.int (i : Nat), x])) h2 s.heap.objs.size (.tup [.int (i : Nat), x]) := ⟨by show 2 ≤ sizeLine; decide, [.int i tk, v], .cons ⟨_, rfl⟩ (.cons ru .nil), ⟨_, hT2, rfl, _, rfl⟩⟩
    have I1 : Inv X pins σ (upd H s.heap.objs.size (.tup [.int (i : Nat), x])) { s with heap := h2, toks := tk + 1 } := I.turnedNew (ch := [e, it]) (fun b ob hb q => (sb.2 b (fun z => hb (by simp [z]))).trans (hk b ob (fun z => hb (by simp [z])) (fun z => hb (by simp [z])) q)) hf (Nat.le_refl _) nw
    refine ⟨.ref s.heap.objs.size, _, I1, rfl, ⟨_, x, rfl, I.hok.fresh (Nat.le_refl _), rfl, fun ys hy => by rw [I.tuple_inj hy hq]; exact hx⟩, ⟨⟨v, ?_⟩, hst.1.at (fun o q => (sb.2 it (Ne.symm hne)).trans q), hne⟩, fun b hb => ?_⟩
    · rw [show ((i + 1 : Nat) : Int) = (i : Int) + 1 by omega]; exact he2
    · have z : b = e ∨ b = it := by simpa using hb
      have lb : b < s.heap.objs.size := by rcases z with rfl | rfl <;> assumption
      rw [upd_ne (Nat.ne_of_lt lb)]; exact (hf b hb).1
  done := by
    intro X hP hw hK hc i pins s σ H E I hf st hg
    subst hP; subst hw; subst hK
    obtain ⟨⟨old, he⟩, hit, hne⟩ := st
    obtain ⟨xs, hq, h1, h2⟩ := hg
    obtain ⟨its, rv, pt, hz⟩ := I.tuple hq
    obtain ⟨f0, f1, f2, f3, f4, f5⟩ := hf it (by simp)
    have hl := rv.length
    have ei : i = its.toArray.size := by rw [List.size_toArray]; omega
    subst ei
    exact wpAny_pyNext_enum_endD (Draws.tuple (A := X.A.in1) (prog := X.prog) (w := X.w) (show X.A.in1.handled = none from I.ok.hd hc) it a na its.toArray) he ⟨hit, pt⟩ fun h' eb => ⟨rfl, I.turned (t' := s.toks) (fun b o hb q => eb b o hb q) f0 f1 f3 f4 f5⟩
  self := fun A i s Q E st h => wpAny_pyIter_enum st.1.choose_spec h
def iEnumT (K : PySem.W.Frag) (ta : TA) : TI := fun σ H R => ta σ H fun vs H1 => ∃ a xs, vs = [.ref a] ∧ SqT K H1 a xs ∧ R (IteT K a) H1
set_option maxHeartbeats 2000000 in
theorem pi_enumT {X : Cx} {K : PySem.W.Frag} {e : Expr} {ta : TA} {p pos tpos : Pos} {elts : List Expr} {kk : Nat} (hX : X.K = K) (hg : Gl X "enumerate") (hm : X.mg "enumerate" = none) (ha : PA X [e] ta) (hs : starEach [e] X.env = [(false, eval e X.env)] := by rfl) :
    PI X (.Tuple elts kk tpos) (.Call (.Name "enumerate" p) [e] [] pos) (iEnumT K ta) := by
  subst hX
  refine ⟨fun pins s σ H R I h => Call_ (ld_blt I hg hm boot_enumerate (PyProof.Rows.callWith_type1 (thn (ha.run pos pins s σ H _ I h) fun us s1 ⟨vs, H1, I1, r1, q1⟩ => ?_) hs rfl))⟩
  obtain ⟨a, xs, ex, hq, q⟩ := q1
  subst ex
  cases r1 with
  | cons r rr =>
    cases rr
    cases r
    obtain ⟨its, rv, pt, hz⟩ := I1.tuple hq
    have la : a < s1.heap.objs.size := by obtain ⟨o, ho, _⟩ := pt; exact Heap.lt_size ho
    refine callT pt fun h' he hit hsz hk => wpAny_pyIter_enum he ?_
    have I2 : Inv X pins σ H1 { s1 with heap := h' } := I1.kept (t' := s1.toks) hk
    refine ⟨s1.heap.objs.size + 1, [s1.heap.objs.size + 1, s1.heap.objs.size], _, _, H1, rfl, I2, turnT a (s1.heap.objs.size + 1) s1.heap.objs.size (Nat.ne_of_lt la) (Nat.ne_of_gt (Nat.lt_succ_of_lt la)), ⟨⟨.none, he⟩, hit, Nat.succ_ne_self _⟩, fun b hb => ?_, q⟩
    have z : b = s1.heap.objs.size + 1 ∨ b = s1.heap.objs.size := by simpa using hb
    have lb : s1.heap.objs.size ≤ b := by
      rcases z with z | z
      · rw [z]; exact Nat.le_succ _
      · rw [z]; exact Nat.le_refl _
    exact I1.fpOk lb (I1.hok.fresh lb)
theorem walkT {K : PySem.W.Frag} {a : Addr} {xs : List V} : Walk (IteT K a) xs.length (fun H => SqT K H a xs) (YPair (fun i => some (.int (i : Nat))) (fun i => xs[i]?)) := by
  refine ⟨fun i _ hi q => ⟨xs, xs[i], q, by simp [hi]⟩, fun _ q => ⟨xs, q, Nat.le_refl _, Nat.le_refl _⟩, fun i H v H' _ q y => ?_⟩
  obtain ⟨T, x, h1, h2, h3, h4⟩ := y
  exact ⟨T, .int (i : Nat), x, h1, h2, h3, rfl, h4 xs q⟩
end EnT
/-! len(range(n)); xs[:] = ys -/
namespace RgV
open PySem PySem.Spec PyProof.Rows L2
variable {X : Cx}
theorem cr_range1 : CallR X (.type "range") (fun vs H Q => ∃ j, vs = [V.int j] ∧ ∀ p, H p = none → Q (.ref p) (upd H p (.rng 0 j))) := by
  intro pins s σ H vs us Q I r h
  obtain ⟨j, rfl, q⟩ := h
  cases r with
  | cons rj rn =>
    cases rn
    obtain ⟨t, rfl⟩ := rj
    refine call_range_1 ⟨.ref s.heap.objs.size, upd H s.heap.objs.size (.rng 0 j), I.laid (t' := s.toks + 1 + 1) (fun b o z => Heap.get?_push_of_some _ z) (Nat.le_refl _) ?_, rfl, q _ (I.hok.fresh (Nat.le_refl _))⟩
    exact ⟨s.toks, t, s.toks + 1, Heap.get?_push_size _ rfl⟩
theorem cr_lenR : CallR X (.builtin "len") (fun vs H Q => ∃ (a : Addr) (hi : Int), vs = [V.ref a] ∧ H a = some (.rng 0 hi) ∧ 0 ≤ hi ∧ hi < 4611686018427387904 ∧ Q (.int hi) H) := by
  intro pins s σ H vs us Q I r h
  obtain ⟨a, hi, rfl, ha, h0, h1, q⟩ := h
  rw [Vals.ref1 r]
  obtain ⟨t, u, v, ho⟩ := I.hok a _ ha
  obtain ⟨n, rfl⟩ := Int.eq_ofNat_of_zero_le h0
  refine call_len_range (n := n) (show IsRange s.heap a 0 n 1 t u v from ho) ?_ (by omega) ⟨.int n, H, I.tok _, ⟨_, rfl⟩, q⟩
  rw [rangeSize_one]
  split <;> omega
end RgV
namespace SlA
open PySem PySem.Spec PyProof.Rows L2
section
variable {prog : Program} {w : World} {A : Around} {E : Value → Shared → Prop} {s : Shared}
theorem bounds_all (n : Nat) : sliceBounds none none none n = ((0 : Int), (n : Int), 1) := by
  simp [sliceBounds]
set_option maxRecDepth 100000 in
set_option maxHeartbeats 4000000 in
theorem store_all {l b sl : Addr} {old new : Array Value} {n n2 : Nat} {Q : Unit → Shared → Prop}
    (e : s.heap.get? l = some { cls := .type "list", data := .seq old n }) (e2 : s.heap.get? b = some { cls := .type "list", data := .seq new n2 }) (ne : l ≠ b) (hs : s.heap.IsSliceOf sl .none .none .none)
    (sz : old.size + new.size ≤ sizeLine) (h : Q () { s with heap := s.heap.update l (Obj.mapSeq fun xs => xs.extract 0 0 ++ new ++ xs.extract old.size xs.size) }) :
    wpAny (model prog w) A (setItem (.ref l) (.ref sl) (.ref b)) Q E s := by
  have kl : s.heap.IsList l old := PySem.IsL.isList e
  have kb : s.heap.IsList b new := PySem.IsL.isList e2
  obtain ⟨os, g1, g2, g3⟩ := id hs
  have ty : s.TypeIs (.ref sl) "slice" := ⟨os, g1, g2⟩
  have st : ¬ ((rawPart none == rawInt 0) = true) := Bool.false_ne_true
  have nosame : Builtin.List.listSameRef (.ref l) (.ref b) = false := by
    unfold Builtin.List.listSameRef
    exact beq_eq_false_iff_ne.mpr ne
  have mx : (max (0 : Int) (old.size : Int)).toNat = old.size := by omega
  have z2 : ((fun xs : Array Value => xs.extract 0 0 ++ new ++ xs.extract old.size xs.size) old).size ≤ sizeLine + 1 := by
    simp only [Array.size_append, Array.size_extract]
    omega
  unfold setItem
  try with_reducible refine wpAny_holding ?_
  first | refine wpAny_bind (wpAny_pure ?_) | skip
  refine wpAny_bind (wpAny_sequenceKey kl.typeIs (by decide) ?_)
  refine wpAny_bind (wpAny_callSpecial?_slot (name := Str.ofString "__setitem__") kl.typeIs slot_list_setitem (wpAny_call_entry slot_list_setitem kl.typeIs entry_list_setitem ?_ (args_list_setitem _ _ _)))
  show wpAny _ _ (Builtin.List.listSubscript? (.ref sl) >>= _) _ _ s
  refine wpAny_bind ?_
  unfold Builtin.List.listSubscript?
  refine wpAny_bind (wpAny_specialOf ty slice_no_index ?_)
  simp only [Option.isNone_none, if_true]
  refine wpAny_pure ?_
  show wpAny _ _ (typeOf (.ref sl) >>= _) _ _ s
  refine wpAny_bind (wpAny_typeOf ty ?_)
  first
    | rw [if_neg (by decide)]
    | refine PySem.W.KFB.if_not (by decide) ?_
  rw [listSliceParts_eq]
  refine wpAny_bind (wpAny_bind (wpAny_field g1 g3 (x := .none) rfl (wpAny_bind (wpAny_listPart .none ?_))))
  rw [if_neg st]
  refine wpAny_bind (wpAny_field g1 g3 (x := .none) rfl (wpAny_bind (wpAny_listPart .none ?_)))
  refine wpAny_bind (wpAny_field g1 g3 (x := .none) rfl (wpAny_bind (wpAny_listPart .none (wpAny_pure ?_))))
  first
    | simp only [nosame, Bool.false_eq_true, if_false]
    | refine PySem.W.KFB.if_not nosame ?_
    | (dsimp only
       rw [if_neg (by rw [nosame]; exact Bool.false_ne_true)])
  refine wpAny_bind (m := Builtin.List.listAllItems (.ref b) "must assign iterable to extended slice") ?_
  unfold Builtin.List.listAllItems
  refine wpAny_bind (wpAny_typeOf kb.typeIs ?_)
  first
    | refine PySem.W.KFB.if_so (by decide) ?_
    | rw [if_pos (by decide)]
    | simp only [beq_self_eq_true, Bool.true_or, if_true]
  unfold Builtin.List.listItems
  refine wpAny_bind (wpAny_seqItems e2 rfl (wpAny_pure ?_))
  refine wpAny_bind (wpAny_bind (wpAny_seqItems e rfl (wpAny_pure ?_)))
  refine wpAny_bind (wpAny_of_eq ((sliceIndices_raw none none none old.size (by simp)).trans (congrArg (pure : Int × Int × Int → Sem (Int × Int × Int)) (bounds_all old.size))) ?_)
  show wpAny _ _ (if ((1 : Int) == 1) = true then _ else _) _ _ s
  rw [if_pos (by decide)]
  refine wpAny_bind (wpAny_rule ?_)
  first
    | simp only [notLongL sz, Bool.false_eq_true, if_false]
    | refine PySem.W.KFB.if_not (notLongL sz) ?_
  first | refine wpAny_bind (wpAny_pure ?_) | skip
  show wpAny _ _ (updateSeq l (fun xs => xs.extract 0 ((0 : Int)).toNat ++ new ++ xs.extract (max (0 : Int) (old.size : Int)).toNat xs.size) >>= _) _ _ s
  rw [mx]
  refine wpAny_bind (wpAny_updateSeq (hz := Nat.le_trans (Nat.le_add_right _ _) sz) (_hz' := z2) e rfl ?_)
  refine wpAny_bind (wpAny_letGo ?_)
  first
    | exact wpAny_bind (wpAny_pure (wpAny_pure ⟨.none, rfl, wpAny_pure h⟩))
    | exact wpAny_pure ⟨.none, rfl, wpAny_pure h⟩
end
section
variable {X : Cx}
def gAll (to : TE) : TG := fun v σ H Q => to σ H fun x H1 => ∃ (l b : Addr) (xs ys : List V), x = .ref l ∧ v = .ref b ∧ H1 l = some (.lst xs) ∧ H1 b = some (.lst ys) ∧ l ≠ b ∧ xs.length + ys.length ≤ sizeLine ∧ Q σ (upd H1 l (.lst ys))
set_option maxHeartbeats 4000000 in
theorem pg_all {o : Expr} {to : TE} {p2 pos : Pos} (ho : PE X o to)
    (ha : ∀ v, assign (.Subscript o (.Slice none none none p2) pos) X.env v = (do
      let ov ← holding [v] (eval o X.env)
      let iv ← holding [v, ov] (eval (.Slice none none none p2) X.env)
      standAt pos
      holding [v, ov, iv] (setItem ov iv v)
      release [iv, v, ov] []) := by intro _; rfl) : PG X (.Subscript o (.Slice none none none p2) pos) (gAll to) := by
  refine ⟨fun pins s σ H v u Q I r h => ?_⟩
  rw [ha]
  refine wpAny_bind (wpAny_holding (thn (ho.run pins s σ H _ I h) fun ov s1 ⟨x, H1, I1, r1, l, b, xs, ys, e1, e2, hl, hb, ne, sz, q⟩ => ?_))
  subst e1
  subst e2
  obtain rfl : ov = Value.ref l := r1
  obtain rfl : u = Value.ref b := r
  refine wpAny_bind (wpAny_holding (wpAny_Slice ?_))
  rw [evalPart_none]
  refine wpAny_pure (wpAny_pure (wpAny_pure ?_))
  have I4 : Inv X pins σ H1 { s1 with heap := s1.heap.push { cls := .type "slice", data := .fields #[.none, .none, .none] } } := I1.kept (t' := s1.toks) fun b ob z => Heap.get?_push_of_some _ z
  obtain ⟨zl, its, n, rv, kl, el⟩ := I4.lstM hl
  obtain ⟨zb, its2, n2, rv2, kb, eb⟩ := I4.lstM hb
  refine wpAny_bind (wpAny_standAt (wpAny_bind (wpAny_holding ?_)))
  refine store_all el eb ne (Heap.IsSliceOf.new ..) (by rw [List.size_toArray, List.size_toArray]; omega) ?_
  refine wpAny_release ⟨σ, _, ?_, q⟩
  refine I4.lset (its' := its2) (t' := s1.toks) hl el ?_ rv2 (by omega)
  rw [List.size_toArray]
  simp
end
end SlA
/-! ==, !=, len, str, repr of an instance of the program's own class, by its own def -/
namespace Own
open PySem PySem.Spec PyProof.Rows L2
section
variable {X : Cx} {K : PySem.W.Frag} {pins : List (Addr × Obj)} {s : Shared} {σ : L2.St} {H : Hp} {CX : CXT} {C f : Addr} {fd : FuncData} {ps : List Str} {sp : Sp} {E : XK} {n : Nat}
/-- the def at f is run on us, somewhere below the running body -/
theorem run_own {A : Around} {vs : List V} {us : List Value} {Q : VK} (F : FnOk X.prog X.w X.K X.mg X.base CX n f fd ps sp) (hb : Binds X.K fd ps []) (hx : Passes CX X E) (sb : Sub X n A) (I : Inv X pins σ H s) (r : Vals vs us) (h : sp vs H Q E) :
    wpAny (model X.prog X.w) A (call (.ref f) us) (EP X pins σ Q) X.xe s := by
  have e0 : Env0 X.prog X.w X.K X.mg X.base A X.stack s H := by
    have e := I.env0
    exact ⟨by rw [sb.fr]; exact e.frames, e.mod, e.bs, e.bsz, e.funs, e.frf, e.hok, e.bare⟩
  have hl := F.len _ _ _ _ h
  have hl2 := r.length
  refine wpAny_call (codeAny_mono (F.run A X.stack s H ⟨us, []⟩ us vs _ E sb.room e0 (by
    have z := hb s us I.kIn (by simp; omega)
    simpa using z) r h) fun q s' hq => ?_)
  cases q with
  | error e => exact hx pins σ H s e s' I hq
  | ok fl =>
    cases fl with
    | ret w => exact I.after hq
    | next => exact False.elim hq
    | brk => exact False.elim hq
    | cont => exact False.elim hq
/-- len(o) -/
def rLenO (C : Addr) (sp : Sp) (E : XK) : List V → Hp → VK → Prop := fun xs H Q => ∃ a dx fs, xs = [.ref a] ∧ H a = some (.ins C dx fs) ∧ sp [.ref a] H (fun v H' => ∃ i : Int, v = .int i ∧ (0 ≤ i ∧ i < 2 ^ 63) ∧ Q (.int i) H') E
theorem cr_lenO (F : FnOk X.prog X.w X.K X.mg X.base CX n f fd ps sp) (m : Meth X.K C "__len__" f) (hb : Binds X.K fd ps []) (hx : Passes CX X E) (hr : Room (n + 1) X.A) : CallR X (.builtin "len") (rLenO C sp E) := by
  intro pins s σ H xs us Q I r h
  obtain ⟨a, dx, fs, rfl, ha, h⟩ := h
  cases r with
  | cons r1 rr =>
    cases rr
    cases r1
    obtain ⟨mA, J, _⟩ := ins_get I.hok ha
    obtain ⟨od, J, _⟩ := J.look
    obtain ⟨mm, hF⟩ := I.fr
    refine PySem.W.len_K hF I.ok.mod.kin J m.at_ m.fn (wpAny_mono (run_own F hb hx ⟨hr.in1, rfl⟩ I (vs := [.ref a]) (.cons rfl .nil) h) (fun v s' q => ?_) fun _ _ z => z)
    obtain ⟨z, H', I', rz, i, rfl, hi, q⟩ := q
    obtain ⟨t, rfl⟩ := rz
    exact ⟨hi, .int i, H', I'.tok _, ⟨_, rfl⟩, q⟩
/-- repr(o), str(o) -/
def rStrO (C : Addr) (sp : Sp) (E : XK) : List V → Hp → VK → Prop := fun xs H Q => ∃ a dx fs, xs = [.ref a] ∧ H a = some (.ins C dx fs) ∧ sp [.ref a] H (fun v H' => ∃ z : Str, v = .str z ∧ Q (.str z) H') E
theorem cr_reprO (F : FnOk X.prog X.w X.K X.mg X.base CX n f fd ps sp) (m : Meth X.K C "__repr__" f) (hb : Binds X.K fd ps []) (hx : Passes CX X E) (hr : Room (n + 1) X.A) : CallR X (.builtin "repr") (rStrO C sp E) := by
  intro pins s σ H xs us Q I r h
  obtain ⟨a, dx, fs, rfl, ha, h⟩ := h
  cases r with
  | cons r1 rr =>
    cases rr
    cases r1
    obtain ⟨mA, J, _⟩ := ins_get I.hok ha
    obtain ⟨od, J, _⟩ := J.look
    obtain ⟨mm, hF⟩ := I.fr
    refine PySem.W.repr_K hr.in1.units0 hF I.ok.mod.kin J m.at_ m.fn (wpAny_mono (run_own F hb hx ⟨hr.in1, rfl⟩ I (vs := [.ref a]) (.cons rfl .nil) h) (fun v s' q => ?_) fun _ _ z => z)
    obtain ⟨z, H', I', rz, y, rfl, q⟩ := q
    obtain ⟨t, rfl⟩ := rz
    exact ⟨.str y, H', I', ⟨_, rfl⟩, q⟩
theorem cr_strO (F : FnOk X.prog X.w X.K X.mg X.base CX n f fd ps sp) (m : Meth X.K C "__str__" f) (hb : Binds X.K fd ps []) (hx : Passes CX X E) (hr : Room (n + 2) X.A) : CallR X (.type "str") (rStrO C sp E) := by
  intro pins s σ H xs us Q I r h
  obtain ⟨a, dx, fs, rfl, ha, h⟩ := h
  cases r with
  | cons r1 rr =>
    cases rr
    cases r1
    obtain ⟨mA, J, _⟩ := ins_get I.hok ha
    obtain ⟨od, J, _⟩ := J.look
    refine PySem.W.kso_call hr.in1.in1.units0 I.kIn J m.at_ m.fn (wpAny_mono (run_own F hb hx ⟨hr.in1.in1, rfl⟩ I (vs := [.ref a]) (.cons rfl .nil) h) (fun v s' q => ?_) fun _ _ z => z)
    obtain ⟨z, H', I', rz, y, rfl, q⟩ := q
    obtain ⟨t, rfl⟩ := rz
    exact ⟨.str y, H', I', ⟨_, rfl⟩, q⟩
/-- x == y by x's own def: y is an instance of the same class, or of a type that doesn't go first -/
def OthK (K : PySem.W.Frag) (C : Addr) (H : Hp) (y : V) : Prop := (∃ b dy gs, y = .ref b ∧ H b = some (.ins C dy gs)) ∨ ∃ T, TyX K H y (.type T) ∧ PySem.W.notFirst K C (.type T) = true
def rEqO (K : PySem.W.Frag) (C : Addr) (sp : Sp) (E : XK) : R2 := fun x y H Q => ∃ a dx fs, x = .ref a ∧ H a = some (.ins C dx fs) ∧ OthK K C H y ∧ sp [x, y] H (fun v H' => ∃ b : Bool, v = .bl b ∧ Q (.bl b) H') E
theorem oth_looks {y : V} {u : Value} (I : Inv X pins σ H s) (ry : RelV y u) (h : OthK X.K C H y) : ∃ tb, PySem.W.Looks (model X.prog X.w) s.heap (typeOf u) tb ∧ PySem.W.notFirst X.K C tb = true := by
  rcases h with ⟨b, dy, gs, rfl, hb⟩ | ⟨T, ty, nf⟩
  · cases ry
    obtain ⟨mB, J, _⟩ := ins_get I.hok hb
    obtain ⟨od, J, _⟩ := J.look
    exact ⟨_, J.type, by simp [PySem.W.notFirst]⟩
  · obtain ⟨P, Z, p, _⟩ := kit_of I ry ty
    exact ⟨_, Z.ty _ _ I.kIn p, nf⟩
theorem op_eqO (F : FnOk X.prog X.w X.K X.mg X.base CX n f fd ps sp) (m : Meth X.K C "__eq__" f) (hb : Binds X.K fd ps []) (hx : Passes CX X E) (hr : Room n X.A) (hK : X.K = K) : OpR X (compareOp .Eq) (rEqO K C sp E) := by
  subst hK
  intro pins s σ H x y v u Q I rx ry h
  obtain ⟨a, dx, fs, rfl, ha, ho, h⟩ := h
  cases rx
  obtain ⟨mA, J, _⟩ := ins_get I.hok ha
  obtain ⟨od, J, _⟩ := J.look
  obtain ⟨mm, hF⟩ := I.fr
  obtain ⟨tb, ht, hn⟩ := oth_looks I ry ho
  show wpAny (model X.prog X.w) X.A (richCompare .Eq (.ref a) u) (EP X pins σ Q) X.xe s
  refine PySem.W.cmp_K (op := .Eq) hr.units0 hF I.ok.mod.kin J ht hn m.at_ m.fn (wpAny_mono (run_own F hb hx ⟨hr, rfl⟩ I (vs := [.ref a, y]) (.cons rfl (.cons ry .nil)) h) (fun v s' q => ?_) fun _ _ z => z)
  obtain ⟨z, H', I', rz, b, rfl, q⟩ := q
  cases rz
  exact ⟨.bl b, H', I', rfl, q⟩
section
variable {M : Model} {prog : Program} {w : World} {A : Around} {E : Value → Shared → Prop} {s : Shared} {x : Addr} {ox : Obj} {od : Option Obj}
theorem ifBound_ne {args : List Value} {Q : Option Value → Shared → Prop} (Z : K.In s.heap) (I : PySem.W.InstAt s.heap x ox C od) (hs : PySem.W.findIn K (.ref C) "__ne__" = some (some (.builtin "object.__ne__")))
    (h : wpAny M A (call (.builtin "object.__ne__") (.ref x :: args)) (fun v => Q (some v)) E s) : wpAny M A (callSpecialIfBound? (.ref x) "__ne__" args) Q E s := by
  have fin : wpAny M A (call (.builtin "object.__ne__") ([.ref x] ++ args) >>= fun v => pure (some v)) Q E s := wpAny_bind (wpAny_mono h (fun v s' z => wpAny_pure z) fun _ _ z => z)
  simp only [callSpecialIfBound?, bindSpecialIfBound?]
  refine wpAny_holding (wpAny_bind (wpAny_bind (wpAny_bind (I.type.here ((PySem.W.looks_findIn Z hs).here (wpAny_bind (wpAny_askSetting (wpAny_ite ?_))))))))
  split
  · exact wpAny_bind (wpAny_of_eq (F.cmp_object.ne.bind _) (wpAny_pure fin))
  · exact wpAny_tryCatch (wpAny_bind (wpAny_of_eq (F.cmp_object.ne.bind _) (wpAny_pure fin)))
theorem call_ne {u : Value} {f : Addr} {Q : Value → Shared → Prop} (hu : A.in1.units < cLine) (Z : K.In s.heap) (I : PySem.W.InstAt s.heap x ox C od) (hm : PySem.W.mroIn K C (.type "object") = some true) (hs : PySem.W.findIn K (.ref C) "__eq__" = some (some (.ref f))) (hf : PySem.W.isFn K (.ref f) = true)
    (h : wpAny (model prog w) A.in1 (call (.ref f) [.ref x, u]) (fun v s' => ∃ b, v = .bool b ∧ Q (.bool (!b)) s') E s) : wpAny (model prog w) A (call (.builtin "object.__ne__") [.ref x, u]) Q E s := by
  refine wpAny_call (codeAny_call_builtin F.cmp_object.ne.plain F.cmpEntry_ne (PySem.W.check_slot F.cmpKind_ne F.cmpSplit_ne (I.type.andThen (PySem.W.looks_mroIn Z hm)) (F.cmpArgs_ne _ _) ?_))
  unfold Builtin.«object.__ne__»
  refine wpAny_bind (m := slotArgs "__ne__" 1 _) (wpAny_pure ?_)
  refine wpAny_bind (wpAny_cRoomFor hu ?_)
  refine wpAny_bind (m := callSpecialIfBound? (.ref x) (Str.ofString "__eq__") _) (PySem.W.ifBound_K Z I hs hf (wpAny_mono h (fun v s' z => ?_) fun _ _ z => z))
  obtain ⟨b, rfl, q⟩ := z
  exact wpAny_bind (wpAny_truthy_bool (wpAny_pure q))
end
/-- x != y by x's own == -/
def rNeO (K : PySem.W.Frag) (C : Addr) (sp : Sp) (E : XK) : R2 := fun x y H Q => ∃ a dx fs, x = .ref a ∧ H a = some (.ins C dx fs) ∧ OthK K C H y ∧ sp [x, y] H (fun v H' => ∃ b : Bool, v = .bl b ∧ Q (.bl (!b)) H') E
theorem op_neO (F : FnOk X.prog X.w X.K X.mg X.base CX n f fd ps sp) (m : Meth X.K C "__eq__" f) (hb : Binds X.K fd ps []) (hx : Passes CX X E) (hr : Room (n + 1) X.A) (hne : PySem.W.findIn X.K (.ref C) "__ne__" = some (some (.builtin "object.__ne__"))) (hm : PySem.W.mroIn X.K C (.type "object") = some true) (hK : X.K = K) : OpR X (compareOp .NotEq) (rNeO K C sp E) := by
  subst hK
  intro pins s σ H x y v u Q I rx ry h
  obtain ⟨a, dx, fs, rfl, ha, ho, h⟩ := h
  cases rx
  obtain ⟨mA, J, _⟩ := ins_get I.hok ha
  obtain ⟨od, J, _⟩ := J.look
  obtain ⟨tb, ht, hn⟩ := oth_looks I ry ho
  have one : wpAny (model X.prog X.w) X.A (tryCompare (.ref a) "__ne__" u) (fun r s' => ∃ v, r = some v ∧ EP X pins σ Q v s') X.xe s := by
    unfold tryCompare
    refine wpAny_bind (ifBound_ne I.kIn J hne (call_ne hr.in1.units0 I.kIn J hm m.at_ m.fn (wpAny_mono (run_own F hb hx ⟨hr.in1, rfl⟩ I (vs := [.ref a, y]) (.cons rfl (.cons ry .nil)) h) (fun v s' q => ?_) fun _ _ z => z)))
    obtain ⟨z, H', I', rz, b, rfl, q⟩ := q
    cases rz
    exact ⟨b, rfl, wpAny_pure ⟨_, rfl, .bl (!b), H', I', rfl, q⟩⟩
  show wpAny (model X.prog X.w) X.A (richCompare .NotEq (.ref a) u) (EP X pins σ Q) X.xe s
  unfold richCompare
  simp only [oneThing_ref]
  refine wpAny_holding (wpAny_bind (wpAny_cRoomFor hr.units0 (wpAny_bind (J.type.here (wpAny_bind (ht.here ?_))))))
  split
  · rename_i q
    have e : PySem.W.subIn X.K tb (.ref C) = some false := by
      rcases Bool.or_eq_true_iff.mp hn with e | e
      · rw [beq_iff_eq.mp e] at q; simp at q
      · exact beq_iff_eq.mp e
    refine wpAny_bind ((PySem.W.looks_subIn I.kIn e).here ?_)
    simp only [Bool.false_eq_true, if_false]
    refine wpAny_bind (wpAny_mono one (fun r s' z => ?_) fun _ _ e => e)
    obtain ⟨v, rfl, hq⟩ := z
    exact wpAny_pure hq
  · refine wpAny_bind (wpAny_pure ?_)
    simp only [Bool.false_eq_true, if_false]
    refine wpAny_bind (wpAny_mono one (fun r s' z => ?_) fun _ _ e => e)
    obtain ⟨v, rfl, hq⟩ := z
    exact wpAny_pure hq
/-- a built-in type doesn't go first -/
theorem nf {T : String} {ts : List Value} (e : fastBuiltinMro T = some ts) (h : ts.all (fun t => match t with | .type _ => true | _ => false) = true) : PySem.W.notFirst K C (.type T) = true := by
  have z : PySem.W.subIn K (.type T) (.ref C) = some false := by
    show (fastBuiltinMro T).map (·.contains (.ref C)) = some false
    rw [e]
    refine congrArg some (Bool.eq_false_iff.mpr fun q => ?_)
    have := List.all_eq_true.mp h _ (List.contains_iff_mem.mp q)
    exact absurd this (by simp)
  unfold PySem.W.notFirst
  rw [z]
  simp
end
end Own
/-! x in a list, list == list: items with a == of their own, any answer, that keeps all objects -/
namespace OwnS
open PySem PySem.Spec PyProof.Rows L2
open AutoSeq1 (wpAny_loadPart')
open MeetsSeq MeetsSeq2 MeetsSeq3 SeqRoads2
/-- all of e from i on, k of them -/
def al (e : Nat → Bool) : Nat → Nat → Bool
  | _, 0 => true
  | i, k + 1 => e i && al e (i + 1) k
def an (e : Nat → Bool) : Nat → Nat → Bool
  | _, 0 => false
  | i, k + 1 => e i || an e (i + 1) k
section
variable {prog : Program} {w : World} {A : Around} {R : Result → Shared → Prop}
def ListB (prog : Program) (w : World) (A : Around) (E : Value → Shared → Prop) (l b : Addr) (N : Nat) (e : Nat → Bool) (I : Shared → Prop) : Prop :=
  ∀ s, I s → ∃ (items items2 : Array Value) (n n2 : Nat), s.heap.get? l = some { cls := .type "list", data := .seq items n } ∧ s.heap.get? b = some { cls := .type "list", data := .seq items2 n2 } ∧ items.size = N ∧ items2.size = N ∧
    ∀ i (h1 : i < items.size) (h2 : i < items2.size), wpAny (model prog w) A.in1 (eqBool items[i] items2[i]) (fun r s' => r = e i ∧ I s') E s
theorem eq_loopB (l b : Addr) (N : Nat) (e : Nat → Bool) (I : Shared → Prop) (hl : ListB prog w A (fun e s' => R (.error e) s') l b N e I) (k : Nat) :
    ∀ i : Nat, N - i = k → i ≤ N → (∀ s, I s → R (.ok (.ret (.bool (al e i k)))) s) → ∀ s, I s →
      wpAny (model prog w) A.in1 (Builtin.«list.__eq__.loop» ⟨[.ref l, .ref b, rawInt i, rawInt 2], []⟩) (GQ.FinOf prog w A R) (fun e s' => R (.error e) s') s := by
  induction k with
  | zero =>
    intro i hk hi fin s h
    obtain ⟨items, items2, n, n2, hl1, hb1, hs1, hs2, _⟩ := hl _ h
    have hi' : i = N := by omega
    have hR : R (.ok (.ret (.bool true))) s := fin s h
    obtain ⟨hp, g, d, tk, os⟩ := s
    wp_walk using wpAny_loadPart' hl1, wpAny_loadPart' hb1
    have hi1 : items[((i : Nat) : Int).toNat]? = none := by simp; omega
    have hi2 : items2[((i : Nat) : Int).toNat]? = none := by simp; omega
    rw [hi1, hi2]
    wp_walk using wpAny_loadPart' hl1, wpAny_loadPart' hb1
    show R (.ok (.ret (.bool (items.size == items2.size)))) _
    rw [hs1, hs2]
    simpa using hR
  | succ k ih =>
    intro i hk hi fin s h
    obtain ⟨items, items2, n, n2, hl1, hb1, hs1, hs2, turn⟩ := hl _ h
    have hlt : i < items.size := by omega
    have hlt2 : i < items2.size := by omega
    have ht := turn i hlt hlt2
    obtain ⟨hp, g, d, tk, os⟩ := s
    wp_walk using wpAny_loadPart' hl1, wpAny_loadPart' hb1
    have hi1 : items[((i : Nat) : Int).toNat]? = some items[i] := by simp [hlt]
    have hi2 : items2[((i : Nat) : Int).toNat]? = some items2[i] := by simp [hlt2]
    have hc : ((i : Int) + 1) = ((i + 1 : Nat) : Int) := by omega
    rw [hi1, hi2]
    refine wpAny_bind (wpAny_mono ht (fun r s2 h2 => ?_) fun _ _ x => x)
    obtain ⟨hr, h2⟩ := h2
    subst hr
    cases he : e i with
    | true =>
      have hrec := ih (i + 1) (by omega) (by omega) (fun s hs => by have := fin s hs; rwa [al, he, Bool.true_and] at this) s2 h2
      obtain ⟨hp2, g2, d2, tk2, os2⟩ := s2
      wp_walk
      rw [hc]
      exact ⟨plainId_quiet plain_eq_loop _, codeAny_builtin entry_eq_loop (by
        rw [Around.under_plainId plain_eq_loop _]
        exact hrec)⟩
    | false =>
      have hR := fin s2 h2
      rw [al, he, Bool.false_and] at hR
      obtain ⟨itemsB, items2B, nB, n2B, hl1B, hb1B, hs1B, hs2B, _⟩ := hl _ h2
      obtain ⟨hp2, g2, d2, tk2, os2⟩ := s2
      wp_walk using wpAny_loadPart' hl1B, wpAny_loadPart' hb1B
      have hi1B : itemsB[((i : Nat) : Int).toNat]? = some (itemsB[i]'(by omega)) := by simp
      have hi2B : items2B[((i : Nat) : Int).toNat]? = some (items2B[i]'(by omega)) := by simp
      rw [hi1B, hi2B]
      wp_walk
      exact hR
theorem list_eqB (l b : Addr) (N : Nat) (e : Nat → Bool) (I : Shared → Prop) (hl : ListB prog w A (fun e s' => R (.error e) s') l b N e I)
    (fin : ∀ s, I s → R (.ok (.ret (.bool (al e 0 N)))) s) {s : Shared} (h : I s) :
    wpAny (model prog w) A.in1 (Builtin.«list.__eq__» ⟨[.ref l, .ref b], []⟩) (GQ.FinOf prog w A R) (fun e s' => R (.error e) s') s := by
  obtain ⟨items, items2, n, n2, hl1, hb1, hs1, hs2, _⟩ := hl _ h
  have hrec := eq_loopB (A := A) (R := R) l b N e I hl N 0 (by omega) (Nat.zero_le _) fin s h
  obtain ⟨hp, g, d, tk, os⟩ := s
  have f3 := AutoSeq1.sub_list_list
  have hne : ¬ (items.size != items2.size) = true := by simp [hs1, hs2]
  wp_walk using wpAny_loadPart' hl1, wpAny_loadPart' hb1
  exact ⟨plainId_quiet plain_eq_loop _, codeAny_builtin entry_eq_loop (by
    rw [Around.under_plainId plain_eq_loop _]
    exact hrec)⟩
/-- x is sought in the list -/
def SeekB (prog : Program) (w : World) (A : Around) (E : Value → Shared → Prop) (l : Addr) (x : Value) (N : Nat) (e : Nat → Bool) (I : Shared → Prop) : Prop :=
  ∀ s, I s → ∃ (items : Array Value) (n : Nat), s.heap.get? l = some { cls := .type "list", data := .seq items n } ∧ items.size = N ∧
    ∀ i (h1 : i < items.size), wpAny (model prog w) A.in1 (eqBool items[i] x) (fun r s' => r = e i ∧ I s') E s
theorem in_loopB (l : Addr) (x : Value) (N : Nat) (e : Nat → Bool) (I : Shared → Prop) (hl : SeekB prog w A (fun e s' => R (.error e) s') l x N e I) (k : Nat) :
    ∀ i : Nat, N - i = k → i ≤ N → (∀ s, I s → R (.ok (.ret (.bool (an e i k)))) s) → ∀ s, I s →
      wpAny (model prog w) A.in1 (Builtin.«list.__contains__.loop» ⟨[.ref l, x, rawInt i], []⟩) (GQ.FinOf prog w A R) (fun e s' => R (.error e) s') s := by
  induction k with
  | zero =>
    intro i hk hi fin s h
    obtain ⟨items, n, hl1, hs1, _⟩ := hl _ h
    have hR : R (.ok (.ret (.bool false))) s := fin s h
    obtain ⟨hp, g, d, tk, os⟩ := s
    wp_walk using wpAny_loadPart' hl1
    have hi1 : items[((i : Nat) : Int).toNat]? = none := by simp; omega
    rw [hi1]
    wp_walk
    exact hR
  | succ k ih =>
    intro i hk hi fin s h
    obtain ⟨items, n, hl1, hs1, turn⟩ := hl _ h
    have hlt : i < items.size := by omega
    have ht := turn i hlt
    obtain ⟨hp, g, d, tk, os⟩ := s
    wp_walk using wpAny_loadPart' hl1
    have hi1 : items[((i : Nat) : Int).toNat]? = some items[i] := by simp [hlt]
    have hc : ((i : Int) + 1) = ((i + 1 : Nat) : Int) := by omega
    rw [hi1]
    refine wpAny_bind (wpAny_mono ht (fun r s2 h2 => ?_) fun _ _ x => x)
    obtain ⟨hr, h2⟩ := h2
    subst hr
    cases he : e i with
    | false =>
      have hrec := ih (i + 1) (by omega) (by omega) (fun s hs => by have := fin s hs; rwa [an, he, Bool.false_or] at this) s2 h2
      obtain ⟨hp2, g2, d2, tk2, os2⟩ := s2
      wp_walk
      rw [hc]
      exact ⟨plainId_quiet plain_contains_loop _, codeAny_builtin entry_contains_loop (by
        rw [Around.under_plainId plain_contains_loop _]
        exact hrec)⟩
    | true =>
      have hR := fin s2 h2
      rw [an, he, Bool.true_or] at hR
      obtain ⟨hp2, g2, d2, tk2, os2⟩ := s2
      wp_walk
      exact hR
theorem list_inB (l : Addr) (x : Value) (N : Nat) (e : Nat → Bool) (I : Shared → Prop) (hl : SeekB prog w A (fun e s' => R (.error e) s') l x N e I)
    (fin : ∀ s, I s → R (.ok (.ret (.bool (an e 0 N)))) s) {s : Shared} (h : I s) :
    wpAny (model prog w) A.in1 (Builtin.«list.__contains__» ⟨[.ref l, x], []⟩) (GQ.FinOf prog w A R) (fun e s' => R (.error e) s') s := by
  obtain ⟨items, n, hl1, hs1, _⟩ := hl _ h
  have hrec := in_loopB (A := A) (R := R) l x N e I hl N 0 (by omega) (Nat.zero_le _) fin s h
  obtain ⟨hp, g, d, tk, os⟩ := s
  wp_walk using wpAny_loadPart' hl1
  exact ⟨plainId_quiet plain_contains_loop _, codeAny_builtin entry_contains_loop (by
    rw [Around.under_plainId plain_contains_loop _]
    exact hrec)⟩
end
section
variable {prog : Program} {w : World} {A : Around} {E : Value → Shared → Prop} {s : Shared}
theorem rc_listB {l b : Addr} {N : Nat} {e : Nat → Bool} {Q : Value → Shared → Prop} (hu : A.units < cLine) (I : Shared → Prop) (hl : ListB prog w A E l b N e I)
    (fin : ∀ s, I s → Q (.bool (al e 0 N)) s) (h : I s) : wpAny (model prog w) A (richCompare .Eq (.ref l) (.ref b)) Q E s := by
  obtain ⟨items, items2, n, n2, hl1, hb1, _, _, _⟩ := hl _ h
  refine wpAny_richCompare_same_room (op := .Eq) ⟨_, hl1, rfl⟩ ⟨_, hb1, rfl⟩ F.slot_list_eq (GQ.call_here F.slot_list_eq ⟨_, hl1, rfl⟩ F.entry_list_eq (F.args_list_eq_2 _ _) ?_) hu
  exact list_eqB (R := wants (fun v s' => v ≠ .notImplemented ∧ Q v s') E) l b N e I hl (fun s' q => ⟨(fun x => nomatch x), fin s' q⟩) h
theorem in_listB {l : Addr} {x : Value} {N : Nat} {e : Nat → Bool} {Q : Value → Shared → Prop} (I : Shared → Prop) (hl : SeekB prog w A E l x N e I)
    (fin : ∀ s, I s → Q (.bool (an e 0 N)) s) (h : I s) : wpAny (model prog w) A (compareOp .In x (.ref l)) Q E s := by
  obtain ⟨items, n, hl1, _, _⟩ := hl _ h
  show wpAny _ A (do return .bool (← contains (.ref l) x)) Q E s
  refine wpAny_bind (wpAny_contains_slot ⟨_, hl1, rfl⟩ F.slot_list_contains (wpAny_mono (GQ.call_here (Q := fun v s' => ∃ b, v = .bool b ∧ Q (.bool b) s') F.slot_list_contains ⟨_, hl1, rfl⟩ F.entry_list_contains (F.args_list_contains_2 _ _) ?_) (fun v s' hv => ?_) fun _ _ e => e))
  · exact list_inB (R := wants (fun v s' => ∃ b, v = .bool b ∧ Q (.bool b) s') E) l x N e I hl (fun s' q => ⟨_, rfl, fin s' q⟩) h
  · obtain ⟨b, rfl, hq⟩ := hv
    exact wpAny_truthy_bool (wpAny_pure hq)
end
section
variable {X : Cx} {K : PySem.W.Frag} {CX : CXT} {C f : Addr} {fd : FuncData} {ps : List Str} {E : XK} {n : Nat} {R : Addr → Addr → Bool → Hp → Prop}
/-- what the own == promises: the answer that R tells, all objects kept; the same object is equal to itself -/
def spB (R : Addr → Addr → Bool → Hp → Prop) : Sp := fun vs H Q _ => ∃ a b r, vs = [.ref a, .ref b] ∧ R a b r H ∧ Q (.bl r) H
/-- two instances, and the answer -/
def DB (C : Addr) (R : Addr → Addr → Bool → Hp → Prop) (H : Hp) (x y : V) (r : Bool) : Prop := ∃ a b dx dy fs gs, x = .ref a ∧ y = .ref b ∧ H a = some (.ins C dx fs) ∧ H b = some (.ins C dy gs) ∧ R a b r H ∧ (a = b → r = true)
theorem eqB {pins : List (Addr × Obj)} {σ : L2.St} {H : Hp} {s : Shared} {A : Around} {x y : V} {u v : Value} {r : Bool} {sp : Sp} (hsp : ∀ a b r Q E, R a b r H → Q (.bl r) H → sp [.ref a, .ref b] H Q E) (F : FnOk X.prog X.w X.K X.mg X.base CX n f fd ps sp) (m : Meth X.K C "__eq__" f) (hb : Binds X.K fd ps []) (hx : Passes CX X E) (sb : Sub X n A)
    (I : Inv X pins σ H s) (rx : RelV x u) (ry : RelV y v) (d : DB C R H x y r) : wpAny (model X.prog X.w) A (eqBool u v) (fun z s' => z = r ∧ Inv X pins σ H s') X.xe s := by
  obtain ⟨a, b, dx, dy, fs, gs, rfl, rfl, ha, hb', hr, hs⟩ := d
  cases rx
  cases ry
  by_cases hab : a = b
  · subst hab
    exact SeqAt.EqAt.same (A := A) (s := s) (.ref a) X.prog X.w X.xe _ ⟨(hs rfl).symm, I⟩
  · obtain ⟨mA, J, _⟩ := ins_get I.hok ha
    obtain ⟨mB, J', _⟩ := ins_get I.hok hb'
    obtain ⟨od, J, _⟩ := J.look
    obtain ⟨od', J', _⟩ := J'.look
    obtain ⟨mm, hF⟩ := I.fr
    refine GQ.eqBool_refG hab ?_
    refine PySem.W.cmp_K (op := .Eq) (tb := .ref C) sb.room.units0 hF I.ok.mod.kin J J'.type (by simp [PySem.W.notFirst]) m.at_ m.fn (wpAny_mono (Own.run_own (Q := fun z H' => z = .bl r ∧ H' = H) F hb hx sb I (vs := [.ref a, .ref b]) (.cons rfl (.cons rfl .nil)) (hsp a b r _ E hr ⟨rfl, rfl⟩)) (fun v s' q => ?_) fun _ _ z => z)
    obtain ⟨z, H', I', rz, rfl, rfl⟩ := q
    cases rz
    exact ⟨r, rfl, rfl, I'⟩
/-- [x, ..] == [y, ..] -/
def rEqB (C : Addr) (R : Addr → Addr → Bool → Hp → Prop) : R2 := fun x y H Q => ∃ (a b : Addr) (xs ys : List V) (e : Nat → Bool), x = .ref a ∧ y = .ref b ∧ H a = some (.lst xs) ∧ H b = some (.lst ys) ∧ xs.length = ys.length ∧ (∀ (i : Nat) p q, xs[i]? = some p → ys[i]? = some q → DB C R H p q (e i)) ∧ Q (.bl (al e 0 xs.length)) H
def rInB (C : Addr) (R : Addr → Addr → Bool → Hp → Prop) : R2 := fun x y H Q => ∃ (b : Addr) (ys : List V) (e : Nat → Bool), y = .ref b ∧ H b = some (.lst ys) ∧ (∀ (i : Nat) q, ys[i]? = some q → DB C R H q x (e i)) ∧ Q (.bl (an e 0 ys.length)) H
theorem op_eqB {sp : Sp} (hsp : ∀ H a b r Q E, R a b r H → Q (.bl r) H → sp [.ref a, .ref b] H Q E) (F : FnOk X.prog X.w X.K X.mg X.base CX n f fd ps sp) (m : Meth X.K C "__eq__" f) (hb : Binds X.K fd ps []) (hx : Passes CX X E) (hr : Room (n + 1) X.A) : OpR X (compareOp .Eq) (rEqB C R) := by
  intro pins s σ H x y v u Q I rx ry h
  obtain ⟨a, b, xs, ys, e, rfl, rfl, ha, hb', hl, hd, q⟩ := h
  cases rx
  cases ry
  show wpAny (model X.prog X.w) X.A (richCompare .Eq (.ref a) (.ref b)) (EP X pins σ Q) X.xe s
  refine rc_listB (N := xs.length) (e := e) hr.units0 (fun s' => Inv X pins σ H s') (fun s' I' => ?_) (fun s' I' => ⟨.bl _, H, I', rfl, q⟩) I
  obtain ⟨z, its, k, r, h1⟩ := I'.hok a _ ha
  obtain ⟨z2, its2, k2, r2, h2⟩ := I'.hok b _ hb'
  refine ⟨its.toArray, its2.toArray, k, k2, h1, h2, by rw [List.size_toArray, ← r.length], by rw [List.size_toArray, ← r2.length, ← hl], fun i l1 l2 => ?_⟩
  have g1 : its[i]? = some its.toArray[i] := by
    have h1' : i < its.length := by simpa using l1
    rw [List.getElem?_eq_getElem h1'] <;> simp
  have g2 : its2[i]? = some its2.toArray[i] := by
    have h2' : i < its2.length := by simpa using l2
    rw [List.getElem?_eq_getElem h2'] <;> simp
  have k1 : i < xs.length := by rw [r.length]; simpa using l1
  have k2 : i < ys.length := by rw [r2.length]; simpa using l2
  obtain ⟨u, hu, ru⟩ := r.get (List.getElem?_eq_getElem k1)
  obtain ⟨v, hv, rv⟩ := r2.get (List.getElem?_eq_getElem k2)
  rw [g1] at hu
  rw [g2] at hv
  rw [Option.some.inj hu, Option.some.inj hv]
  exact eqB (hsp H) F m hb hx ⟨hr.in1, rfl⟩ I' ru rv (hd i _ _ (List.getElem?_eq_getElem k1) (List.getElem?_eq_getElem k2))
theorem op_inB {sp : Sp} (hsp : ∀ H a b r Q E, R a b r H → Q (.bl r) H → sp [.ref a, .ref b] H Q E) (F : FnOk X.prog X.w X.K X.mg X.base CX n f fd ps sp) (m : Meth X.K C "__eq__" f) (hb : Binds X.K fd ps []) (hx : Passes CX X E) (hr : Room (n + 1) X.A) : OpR X (compareOp .In) (rInB C R) := by
  intro pins s σ H x y v u Q I rx ry h
  obtain ⟨b, ys, e, rfl, hb', hd, q⟩ := h
  cases ry
  refine in_listB (N := ys.length) (e := e) (fun s' => Inv X pins σ H s') (fun s' I' => ?_) (fun s' I' => ⟨.bl _, H, I', rfl, q⟩) I
  obtain ⟨z2, its2, k2, r2, h2⟩ := I'.hok b _ hb'
  refine ⟨its2.toArray, k2, h2, by rw [List.size_toArray, ← r2.length], fun i l2 => ?_⟩
  have g2 : its2[i]? = some its2.toArray[i] := by
    have h2' : i < its2.length := by simpa using l2
    rw [List.getElem?_eq_getElem h2'] <;> simp
  have k2 : i < ys.length := by rw [r2.length]; simpa using l2
  obtain ⟨v, hv, rv⟩ := r2.get (List.getElem?_eq_getElem k2)
  rw [g2] at hv
  rw [Option.some.inj hv]
  exact eqB (hsp H) F m hb hx ⟨hr.in1, rfl⟩ I' rv rx (hd i _ (List.getElem?_eq_getElem k2))
end
end OwnS
/-! list == list: the same objects in both, of whatever class -/
namespace EqS
open PySem PySem.Spec PyProof.Rows L2
theorem al_true : ∀ (k i : Nat), OwnS.al (fun _ => true) i k = true
  | 0, _ => rfl
  | k + 1, i => by
    rw [OwnS.al, al_true k (i + 1)]
    rfl
def rEqSame : R2 := fun x y H Q => ∃ (a b : Addr) (rs : List Addr), x = .ref a ∧ y = .ref b ∧ H a = some (.lst (rs.map V.ref)) ∧ H b = some (.lst (rs.map V.ref)) ∧ Q (.bl true) H
theorem op_eqSame {X : Cx} (hu : X.A.units < cLine) : OpR X (compareOp .Eq) rEqSame := by
  intro pins s σ H x y v u Q I rx ry h
  obtain ⟨a, b, rs, rfl, rfl, ha, hb, q⟩ := h
  cases rx
  cases ry
  show wpAny (model X.prog X.w) X.A (richCompare .Eq (.ref a) (.ref b)) (EP X pins σ Q) X.xe s
  refine OwnS.rc_listB (N := rs.length) (e := fun _ => true) hu (fun s' => Inv X pins σ H s') (fun s' I' => ?_) (fun s' I' => ?_) I
  · obtain ⟨z, its, k, r, h1⟩ := I'.hok a _ ha
    obtain ⟨z2, its2, k2, r2, h2⟩ := I'.hok b _ hb
    have n1 := r.length
    have n2 := r2.length
    rw [List.length_map] at n1 n2
    refine ⟨its.toArray, its2.toArray, k, k2, h1, h2, by rw [List.size_toArray, ← n1], by rw [List.size_toArray, ← n2], fun i l1 l2 => ?_⟩
    have h1' : i < its.length := by simpa using l1
    have h2' : i < its2.length := by simpa using l2
    have gi : (rs.map V.ref)[i]? = some (V.ref (rs[i]'(by omega))) := by rw [List.getElem?_map, List.getElem?_eq_getElem (by omega)]; rfl
    obtain ⟨u, hu', ru⟩ := r.get gi
    obtain ⟨v, hv', rv⟩ := r2.get gi
    rw [List.getElem?_eq_getElem h1'] at hu'
    rw [List.getElem?_eq_getElem h2'] at hv'
    cases ru
    cases rv
    have e1 : its.toArray[i] = Value.ref (rs[i]'(by omega)) := by simpa using hu'
    have e2 : its2.toArray[i] = Value.ref (rs[i]'(by omega)) := by simpa using hv'
    rw [e1, e2]
    exact SeqAt.EqAt.same (A := X.A.in1) (s := s') _ X.prog X.w X.xe _ ⟨rfl, I'⟩
  · rw [al_true]
    exact ⟨.bl true, H, I', rfl, q⟩
end EqS
/-! ### a set of numbers by two clauses: {y for x in xs if .. for y in f(x) if ..} -/
namespace ScT
open PySem PySem.Spec PyProof.Rows L2 PpSet
section
variable {prog : Program} {w : World} {A : Around} {R : Result → Shared → Prop} {s : Shared} {env : Env} {el ta ia tb ib : Expr} {fa fb : List Expr} {sc : Scope} {ps : Pos} {it acc : Value}
abbrev Two (el ta ia tb ib : Expr) (fa fb : List Expr) (sc : Scope) (ps : Pos) : Expr := .SetComp el [⟨ta, ia, fa, 0⟩, ⟨tb, ib, fb, 0⟩] sc ps
/-- what is raised within the block, as it is told outside -/
abbrev Nb (prog : Program) (w : World) (A : Around) (env : Env) (R : Result → Shared → Prop) : Value → Shared → Prop := notedBy (model prog w) A env fun x t => R (.error x) t
/-- a clause's tests -/
abbrev Tst (fs : List Expr) (env : Env) : Sem Bool := forIn fs true fun f q => if q = true then (do let y ← isTrue f env (eval f env); pure (ForInStep.yield y)) else pure (ForInStep.yield q)
theorem turnA : compTurn (Two el ta ia tb ib fa fb sc ps) 0 it acc env = (do
    standAt ia.pos
    match ← pyNext it with
    | none => pure (.done .next)
    | some u =>
      letOwnedTupleGo ta it u
      assign ta env u
      let mut go := true
      for f in fa do
        if go then go ← isTrue f env (eval f env)
      if go then
        let src ← eval ib env
        standAt ib.pos
        let src ← foldedSetIterable ib env src
        let _ ← runOwn (.compStart (Two el ta ia tb ib fa fb sc ps) 1 (← holding [src] (pyIter src)) acc env) env
      again (.compLoop (Two el ta ia tb ib fa fb sc ps) 0 it acc env)) := by rfl
theorem turnB : compTurn (Two el ta ia tb ib fa fb sc ps) 1 it acc env = (do
    standAt ib.pos
    match ← pyNext it with
    | none => pure (.done .next)
    | some u =>
      letOwnedTupleGo tb it u
      assign tb env u
      let mut go := true
      for f in fb do
        if go then go ← isTrue f env (eval f env)
      if go then
        (do let y ← eval el env; standAt el.pos; let _ ← call (.builtin "set.add") [acc, y])
      again (.compLoop (Two el ta ia tb ib fa fb sc ps) 1 it acc env)) := by rfl
/-- the outer loop -/
theorem loopA (hs : ∀ x, foldedSetIterable ib env x = pure x) (In : Nat → Shared → Prop)
    (turn : ∀ n s, In n s → wpAny (model prog w) A (pyNext it) (fun nx s1 => match nx with
      | none => R (.ok .next) s1
      | some u => wpAny (model prog w) A (letOwnedTupleGo ta it u) (fun _ s2 => wpAny (model prog w) A (assign ta env u) (fun _ s3 => wpAny (model prog w) A (Tst fa env) (fun go s4 =>
          if go = true then wpAny (model prog w) A (eval ib env) (fun x s5 => wpAny (model prog w) A (pyIter x) (fun i1 s6 =>
            codeAny (model prog w) A (.compStart (Two el ta ia tb ib fa fb sc ps) 1 i1 acc env) (fun r t => match r with | .ok _ => ∃ m, m < n ∧ In m t | .error _ => False) s6) (Nb prog w A env R) s5) (Nb prog w A env R) s4
          else ∃ m, m < n ∧ In m s4) (Nb prog w A env R) s3) (Nb prog w A env R) s2) (Nb prog w A env R) s1) (Nb prog w A env R) s)
    (n : Nat) (h : In n s) : codeAny (model prog w) A (.compLoop (Two el ta ia tb ib fa fb sc ps) 0 it acc env) R s := by
  refine codeAny_loop rfl In (fun n s hI => ?_) n h
  show wpAny _ A ((compTurn (Two el ta ia tb ib fa fb sc ps) 0 it acc env).onRaise (fun x => do noteFrame x env; theTreesLotGoes x)) _ _ s
  refine wpAny_noted ?_
  rw [turnA]
  refine wpAny_bind (wpAny_standAt (wpAny_bind (wpAny_mono (turn n s hI) (fun nx s1 h1 => ?_) fun _ _ z => z)))
  cases nx with
  | none => exact wpAny_pure h1
  | some u =>
    refine wpAny_bind (wpAny_mono h1 (fun _ s2 h2 => wpAny_bind (wpAny_mono h2 (fun _ s3 h3 => wpAny_bind (wpAny_mono h3 (fun go s4 h4 => ?_) fun _ _ z => z)) fun _ _ z => z)) fun _ _ z => z)
    cases go with
    | false => exact wpAny_pure ⟨rfl, h4⟩
    | true =>
      refine wpAny_bind (wpAny_mono h4 (fun x s5 h5 => ?_) fun _ _ z => z)
      refine wpAny_bind (wpAny_standAt (wpAny_bind (wpAny_of_eq (hs x) (wpAny_bind (wpAny_holding (wpAny_mono h5 (fun i1 s6 h6 => ?_) fun _ _ z => z))))))
      refine wpAny_bind (wpAny_runOwn ?_)
      rw [Around.mark_none]
      refine codeAny_mono h6 fun r t hr => ?_
      cases r with
      | ok f =>
        first
          | exact wpAny_pure ⟨rfl, hr⟩
          | exact wpAny_bind (wpAny_pure (wpAny_pure ⟨rfl, hr⟩))
      | error x => exact hr.elim
/-- the inner one -/
theorem loopB (In : Nat → Shared → Prop)
    (turn : ∀ n s, In n s → wpAny (model prog w) A (pyNext it) (fun nx s1 => match nx with
      | none => R (.ok .next) s1
      | some u => wpAny (model prog w) A (letOwnedTupleGo tb it u) (fun _ s2 => wpAny (model prog w) A (assign tb env u) (fun _ s3 => wpAny (model prog w) A (Tst fb env) (fun go s4 =>
          if go = true then wpAny (model prog w) A (eval el env) (fun y s5 => wpAny (model prog w) A (call (.builtin "set.add") [acc, y]) (fun _ s6 => ∃ m, m < n ∧ In m s6) (Nb prog w A env R) s5) (Nb prog w A env R) s4
          else ∃ m, m < n ∧ In m s4) (Nb prog w A env R) s3) (Nb prog w A env R) s2) (Nb prog w A env R) s1) (Nb prog w A env R) s)
    (n : Nat) (h : In n s) : codeAny (model prog w) A (.compLoop (Two el ta ia tb ib fa fb sc ps) 1 it acc env) R s := by
  refine codeAny_loop rfl In (fun n s hI => ?_) n h
  show wpAny _ A ((compTurn (Two el ta ia tb ib fa fb sc ps) 1 it acc env).onRaise (fun x => do noteFrame x env; theTreesLotGoes x)) _ _ s
  refine wpAny_noted ?_
  rw [turnB]
  refine wpAny_bind (wpAny_standAt (wpAny_bind (wpAny_mono (turn n s hI) (fun nx s1 h1 => ?_) fun _ _ z => z)))
  cases nx with
  | none => exact wpAny_pure h1
  | some u =>
    refine wpAny_bind (wpAny_mono h1 (fun _ s2 h2 => wpAny_bind (wpAny_mono h2 (fun _ s3 h3 => wpAny_bind (wpAny_mono h3 (fun go s4 h4 => ?_) fun _ _ z => z)) fun _ _ z => z)) fun _ _ z => z)
    cases go with
    | false => exact wpAny_pure ⟨rfl, h4⟩
    | true =>
      exact wpAny_bind (wpAny_bind (wpAny_mono h4 (fun y s5 h5 => wpAny_bind (wpAny_standAt (wpAny_bind (wpAny_mono h5 (fun _ s6 h6 => wpAny_pure (wpAny_pure ⟨rfl, h6⟩)) fun _ _ z => z)))) fun _ _ z => z))
theorem startB (h0 : codeAny (model prog w) A (.compLoop (Two el ta ia tb ib fa fb sc ps) 1 it acc env) R s)
    (h : wpAny (model prog w) A (pyIter it) (fun i2 t => codeAny (model prog w) A (.compLoop (Two el ta ia tb ib fa fb sc ps) 1 i2 acc env) R t) (Nb prog w A env R) s) :
    codeAny (model prog w) A (.compStart (Two el ta ia tb ib fa fb sc ps) 1 it acc env) R s := by
  refine codeAny_of_tree ?_
  show wpAny _ _ ((compStart (Two el ta ia tb ib fa fb sc ps) 1 it acc env).onRaise (fun x => do noteFrame x env; standAt theWindowsPlace)) _ _ s
  refine wpAny_notedAt ?_
  unfold compStart
  show wpAny _ _ (ask >>= _) _ _ s
  refine wpAny_bind (wpAny_askSetting (wpAny_ite ?_))
  split
  · first
      | exact wpAny_bind (wpAny_pure (wpAny_pure (And.intro rfl h0)))
      | exact wpAny_pure (And.intro rfl h0)
  · refine wpAny_bind (wpAny_rule ?_)
    first
      | exact wpAny_bind (wpAny_standAt (wpAny_bind (wpAny_mono h (fun i2 t h2 => wpAny_pure (And.intro rfl h2)) fun _ _ z => z)))
      | (show wpAny _ _ (standAt ib.pos >>= _) _ _ s; exact wpAny_bind (wpAny_standAt (wpAny_bind (wpAny_mono h (fun i2 t h2 => wpAny_pure (And.intro rfl h2)) fun _ _ z => z))))
end

section
variable {X : Cx}
/-- a number laid into a tracked set -/
theorem addI_ok {pins : List (Addr × Obj)} {σ : L2.St} {H : Hp} {s : Shared} {E : Value → Shared → Prop} {D : Addr} {S : Int → Bool} {n : Nat} {k : Int} {tk : Tok} {Q : Value → Shared → Prop} (I : Inv X pins σ H s) (hD : H D = some (SetO X.w D S n)) (room : n + 1 < scanBound)
    (h : ∀ t, Inv X pins σ (upd H D (SetO X.w D (fun j => S j || decide (j = k)) (if S k = true then n else n + 1))) t → Q .none t) : wpAny (model X.prog X.w) X.A (call (.builtin "set.add") [.ref D, .int k tk]) Q E s := by
  refine setR_add (setO_get I hD) room fun h2 sb new => ?_
  have ex : ∃ u, h2.get? D = some u := by
    have ⟨o, _, _, _, ho, _⟩ := new
    exact ⟨o, ho⟩
  exact h _ (I.write (e := D) (t' := s.toks + 1) (by rw [hD]; trivial) (.inl rfl) (fun b u hb hu => (sb.2 b hb).trans hu) ex (setO_new new))
/-- D: the new set; Nx: what holds behind a turn of the outer clause, Ny: of the inner one. vs: the block's names, vb: those of the second target -/
def tSc2 (w : World) (wi : TI) (g : TG) (tt : TT) (wj : TI) (gj : TG) (tj : TT) (te : TE) (vs vb : List Nat) : TE := fun σ H Q => wi σ H fun J H1 => ∀ D, H1 D = none → ∃ W : Nat → Nat → Hp → Prop, (∃ m, W 0 m (upd H1 D (SetO w D (fun _ => false) 0))) ∧ ∀ i m H, W i m H →
  (J.stop i H ∧ Q (.ref D) H) ∨ (J.go i H ∧ ∃ Nx : Hp → Prop, (∀ H2, Nx H2 → ∃ l, l < m ∧ W (i + 1) l H2) ∧ ∀ x H2, J.yld i H x H2 → g x (wipe σ vs) H2 fun σ2 H3 => wipe σ2 vs = wipe σ vs ∧ tt σ2 H3 fun b H4 =>
    if b = true then wj σ2 H4 fun K H5 => ∃ V : Nat → Nat → Hp → Prop, (∃ m, V 0 m H5) ∧ ∀ j k H, V j k H →
      (K.stop j H ∧ Nx H) ∨ (K.go j H ∧ ∃ Ny : Hp → Prop, (∀ H6, Ny H6 → ∃ l, l < k ∧ V (j + 1) l H6) ∧ ∀ x H6, K.yld j H x H6 → gj x (wipe σ2 vb) H6 fun σ3 H7 => wipe σ3 vb = wipe σ2 vb ∧ tj σ3 H7 fun b H8 =>
        if b = true then te σ3 H8 fun y H9 => ∃ (z : Int) (S : Int → Bool) (n : Nat), y = .int z ∧ H9 D = some (SetO w D S n) ∧ n + 1 < scanBound ∧ Ny (upd H9 D (SetO w D (fun j => S j || decide (j = z)) (if S z = true then n else n + 1))) else Ny H8)
    else Nx H4)
set_option maxHeartbeats 4000000 in
theorem pe_sc2 {el ta ia tb ib : Expr} {fa fb : List Expr} {sc : Scope} {own : List (PySem.Str × Nat)} {vb : List Nat} {ps : Pos} {wi wj : TI} {g gj : TG} {tt tj : TT} {te : TE} (hc : X.calm = true) (hN : X.N.Nodup) (hi : PI X ta ia wi) (ok : BlkOk X.N X.env.scope sc own) (hv : ∀ i ∈ vb, i ∈ own.map (·.2))
    (hg : ∀ (s : Shared) (H : Hp) (C : Addr) (cl : List (PySem.Str × Addr)) (fp : List Addr), PG (X.blk s H sc (compEnvC sc cl C X.env) fp) ta g) (ht : ∀ (s : Shared) (H : Hp) (C : Addr) (cl : List (PySem.Str × Addr)) (fp : List Addr), PTs (X.blk s H sc (compEnvC sc cl C X.env) fp) fa tt)
    (hj : ∀ (s : Shared) (H : Hp) (C : Addr) (cl : List (PySem.Str × Addr)) (fp : List Addr), PI (X.blk s H sc (compEnvC sc cl C X.env) fp) tb ib wj)
    (hgj : ∀ (s : Shared) (H : Hp) (C : Addr) (cl : List (PySem.Str × Addr)) (fp : List Addr), PG (X.blk s H sc (compEnvC sc cl C X.env) fp) tb gj) (htj : ∀ (s : Shared) (H : Hp) (C : Addr) (cl : List (PySem.Str × Addr)) (fp : List Addr), PTs (X.blk s H sc (compEnvC sc cl C X.env) fp) fb tj)
    (he : ∀ (s : Shared) (H : Hp) (C : Addr) (cl : List (PySem.Str × Addr)) (fp : List Addr), PE (X.blk s H sc (compEnvC sc cl C X.env) fp) el te) (hs : ∀ x, foldedSetIterable ia X.env x = pure x := by intro _; rfl) (hsj : ∀ env x, foldedSetIterable ib env x = pure x := by intro _ _; rfl) :
    PE X (.SetComp el [⟨ta, ia, fa, 0⟩, ⟨tb, ib, fb, 0⟩] sc ps) (tSc2 X.w wi g tt wj gj tj te (own.map (·.2)) vb) := by
  refine ⟨fun pins s σ H Q I h => ?_⟩
  rw [eval_SetComp]
  have caught : ∀ y ∈ sc.names, y.2 = .free → ∃ c, X.env.cells.lookup y.1 = some c := fun y hy e => (ok.free y hy e).elim (fun k => I.ok.has _ (.inl k)) fun k => I.ok.has _ (.inr k)
  refine wpAny_comprehension_free (use := none) rfl hs (closure_ok caught) ok.kind (fun y hy e => by rw [ok.uniq y hy, e]) (thn (hi.run pins s σ H _ I h) fun _ s1 hx => thn hx fun _ s2 h2 => ?_)
  obtain ⟨it, fp, tn, J, H2, rfl, I2, T, st2, f2, q⟩ := h2
  refine newSet_ok (newEnv_comp ?_)
  obtain ⟨D, hD⟩ : ∃ D, s2.heap.objs.size = D := ⟨_, rfl⟩
  obtain ⟨W, ⟨m0, w0⟩, turn⟩ := q D (I2.hok.fresh (Nat.le_of_eq hD))
  rw [hD]
  -- the new set's state, and the block's
  obtain ⟨s3, hs3⟩ : ∃ t : Shared, ({ s2 with heap := s2.heap.push { cls := .type "set", dict := none, data := .set #[] 0 (.fresh 0 0 (!X.w.params.followText "set-order")) } } : Shared) = t := ⟨_, rfl⟩
  rw [hs3]
  have h3 : ∀ b o, s2.heap.get? b = some o → s3.heap.get? b = some o := fun b o e => by rw [← hs3]; exact Heap.get?_push_of_some _ e
  have z3 : s2.heap.objs.size ≤ s3.heap.objs.size := by
    rw [← hs3]
    show s2.heap.objs.size ≤ (Heap.push s2.heap _).objs.size
    rw [Heap.size_push]
    exact Nat.le_succ _
  have I3 : Inv X pins σ (upd H2 D (SetO X.w D (fun _ => false) 0)) s3 := by
    rw [← hs3]
    refine I2.laid (t' := s2.toks) (fun b o e => Heap.get?_push_of_some _ e) (Nat.le_of_eq hD) ?_
    rw [← hD]
    exact setO_new (setR_fresh X.w)
  have f3 : ∀ b ∈ fp, FpOk X pins (upd H2 D (SetO X.w D (fun _ => false) 0)) b ∧ b < s3.heap.objs.size := fun b hb => by
    obtain ⟨o, e, _⟩ := T.obj _ _ st2 b hb
    have lt := Heap.lt_size e
    refine ⟨⟨?_, (f2 b hb).2⟩, Nat.lt_of_lt_of_le lt z3⟩
    rw [upd_ne (by rw [← hD]; exact Nat.ne_of_lt lt)]
    exact (f2 b hb).1
  have st3 : tn 0 s3.heap := T.keep _ _ _ st2 fun b _ o e => h3 b o e
  have I4 := block_start I3 ok hN f3
  have pg := hg s3 (upd H2 D (SetO X.w D (fun _ => false) 0)) s3.heap.objs.size (cellsFrom (s3.heap.objs.size + 1) sc.names (cloFrom X.env.cells sc.names [])) fp
  have pt := ht s3 (upd H2 D (SetO X.w D (fun _ => false) 0)) s3.heap.objs.size (cellsFrom (s3.heap.objs.size + 1) sc.names (cloFrom X.env.cells sc.names [])) fp
  have pe := he s3 (upd H2 D (SetO X.w D (fun _ => false) 0)) s3.heap.objs.size (cellsFrom (s3.heap.objs.size + 1) sc.names (cloFrom X.env.cells sc.names [])) fp
  have pj := hj s3 (upd H2 D (SetO X.w D (fun _ => false) 0)) s3.heap.objs.size (cellsFrom (s3.heap.objs.size + 1) sc.names (cloFrom X.env.cells sc.names [])) fp
  have pgj := hgj s3 (upd H2 D (SetO X.w D (fun _ => false) 0)) s3.heap.objs.size (cellsFrom (s3.heap.objs.size + 1) sc.names (cloFrom X.env.cells sc.names [])) fp
  have ptj := htj s3 (upd H2 D (SetO X.w D (fun _ => false) 0)) s3.heap.objs.size (cellsFrom (s3.heap.objs.size + 1) sc.names (cloFrom X.env.cells sc.names [])) fp
  show codeAny _ _ (.compStart (Two el ta ia tb ib fa fb sc ps) 0 (.ref it) (.ref D) (compEnvC sc (cellsFrom (s3.heap.objs.size + 1) sc.names (cloFrom X.env.cells sc.names [])) s3.heap.objs.size X.env)) (compPost (model X.prog X.w) X.A X.xe none _ (.ref D) s3.heap.objs.size) { s3 with heap := pushCells (s3.heap.push { cls := .type "dict", data := .dict #[] }) sc.names }
  have none3 : ∀ b ∈ fp, (upd H2 D (SetO X.w D (fun _ => false) 0)) b = none := fun b hb => (f3 b hb).1.1
  generalize hce : compEnvC sc (cellsFrom (s3.heap.objs.size + 1) sc.names (cloFrom X.env.cells sc.names [])) s3.heap.objs.size X.env = ce at I4 pg pt pe pj pgj ptj ⊢
  have cL : ce.locals = s3.heap.objs.size := by subst hce; rfl
  generalize hH3 : upd H2 D (SetO X.w D (fun _ => false) 0) = H3 at I3 I4 pg pt pe pj pgj ptj w0 none3 f3
  generalize hs4 : ({ s3 with heap := pushCells (s3.heap.push { cls := .type "dict", data := .dict #[] }) sc.names } : Shared) = s4 at I4 ⊢
  have st4 : tn 0 s4.heap := T.keep _ _ _ st3 fun b _ o e => by rw [← hs4]; exact pushCells_keeps _ _ _ _ (Heap.get?_push_of_some _ e)
  have foot : ∀ {τ : L2.St} {G : Hp} {t : Shared}, Inv (X.blk s3 H3 sc ce fp) [] τ G t → (∀ b ∈ fp, G b = none) → ∀ b ∈ fp, FpOk (X.blk s3 H3 sc ce fp) [] G b := fun {τ G t} I9 hn b hb =>
    ⟨hn b hb, (I9.ok.exf b hb).1, I9.ok.exfs b hb, .inl hb, fun x c e => (I9.ok.exf b hb).2 x c e, fun p hp => absurd (show p ∈ ([] : List (Addr × Obj)) ++ [] from hp) (by simp)⟩
  have loop : codeAny (model X.prog X.w) X.A (.compLoop (Two el ta ia tb ib fa fb sc ps) 0 (.ref it) (.ref D) ce) (compPost (model X.prog X.w) X.A X.xe none (EP X pins σ Q) (.ref D) s3.heap.objs.size) s4 := by
    refine loopA (hsj ce) (fun n t => ∃ i G, Inv (X.blk s3 H3 sc ce fp) [] (wipe σ (own.map (·.2))) G t ∧ tn i t.heap ∧ (∀ b ∈ fp, G b = none) ∧ W i n G) ?_ m0 ⟨0, H3, I4, st4, none3, w0⟩
    rintro n s5 ⟨i, H5, I5, st5, n5, w5⟩
    rcases turn i n H5 w5 with ⟨stop, qq⟩ | ⟨go, Nx, hNx, step⟩
    · refine thnF (T.done (X.blk s3 H3 sc ce fp) rfl rfl rfl hc i [] s5 _ H5 (fun _ _ => False) I5 (foot I5 n5) st5 stop) fun r s6 ⟨hr, I6⟩ => ?_
      subst hr
      have I7 : Inv X pins σ H5 s6 := I3.call' (ch := fp) I6.os I6.base I6.hok I6.bare fun b hb => ⟨(f3 b hb).1.2.2.2.1, (f3 b hb).1.2.1, (f3 b hb).1.2.2.2.2.1, (f3 b hb).1.2.2.2.2.2⟩
      obtain ⟨l, hn, _⟩ := I6.loc
      have hn : s6.heap.Ns ce.locals l := hn
      rw [cL] at hn
      obtain ⟨f0, f1, f2', f3', f4, f5⟩ := I3.fpOk (H' := H5) (b := s3.heap.objs.size) (Nat.le_refl _) (by rw [← cL]; exact I6.free)
      exact ⟨l, hn, fun h9 sb => ⟨.ref D, H5, I7.turned (t' := s6.toks) (fun b o hb e => (sb.2 b hb).trans e) f0 f1 f3' f4 f5, rfl, qq⟩⟩
    · refine thnF (T.item (X.blk s3 H3 sc ce fp) rfl rfl rfl hc i [] s5 _ H5 (fun _ _ => False) I5 (foot I5 n5) st5 go) fun r s6 ⟨u, hr, h6⟩ => ?_
      subst hr
      refine thnF h6 fun _ s7 ⟨x, H7, I7, r7, y7, st7, n7⟩ => ?_
      refine thnF (pg.run _ s7 _ H7 x u _ (I7.pinned (foot I7 n7) (T.obj _ _ st7)) r7 (step x H7 y7)) fun _ s8 ⟨σ8, H8, I8, hw8, q8⟩ => ?_
      refine thnF (pt.run _ s8 σ8 H8 _ I8 q8) fun b s9 ⟨H9, I9, q9⟩ => ?_
      -- how an outer turn ends
      have fin : ∀ {τ : L2.St} {t : Shared} {G : Hp}, Inv (X.blk s3 H3 sc ce fp) ([] ++ pinsAt fp s7.heap) τ G t → (wipe σ (own.map (·.2))).length = τ.length → (∀ (j : Nat) v, (wipe σ (own.map (·.2)))[j]? = some (some v) → τ[j]? = some (some v)) → Nx G →
          ∃ m, m < n ∧ ∃ i G, Inv (X.blk s3 H3 sc ce fp) [] (wipe σ (own.map (·.2))) G t ∧ tn i t.heap ∧ (∀ b ∈ fp, G b = none) ∧ W i m G := fun {τ t G} I10 hl hk nx => by
        obtain ⟨l, hl2, w10⟩ := hNx G nx
        have pinned : ∀ b ∈ fp, ∀ o, s7.heap.get? b = some o → t.heap.get? b = some o ∧ G b = none := fun b hb o e =>
          let z := I10.pin (b, o) (List.mem_append_right _ (List.mem_append_right _ (mem_pinsAt hb e)))
          ⟨z.1, z.2.1⟩
        refine ⟨l, hl2, i + 1, G, (I10.unpinned (pins := [])).weak hl hk, T.keep _ _ _ st7 fun b hb o e => (pinned b hb o e).1, fun b hb => ?_, w10⟩
        obtain ⟨o, e, _⟩ := T.obj _ _ st7 b hb
        exact (pinned b hb o e).2
      have hl8 : (wipe σ (own.map (·.2))).length = σ8.length := by rw [← hw8, wipe_length]
      cases b with
      | false =>
        simp only [Bool.false_eq_true, if_false] at q9 ⊢
        exact fin I9 hl8 (fun j v e => by rw [← hw8] at e; exact (wipe_some e).1) q9
      | true =>
        simp only [if_true] at q9 ⊢
        refine thnF (pj.run _ s9 σ8 H9 _ I9 q9) fun _ s10 hx => thnF hx fun _ s11 h11 => ?_
        obtain ⟨it1, fp1, tn1, K, H11, rfl, I11, T1, st11, f11, V, ⟨m1, w1⟩, turn1⟩ := h11
        have foot1 : ∀ {G : Hp}, (∀ b ∈ fp1, G b = none) → ∀ b ∈ fp1, FpOk (X.blk s3 H3 sc ce fp) ([] ++ pinsAt fp s7.heap) G b := fun hn b hb => ⟨hn b hb, (f11 b hb).2⟩
        have inner : codeAny (model X.prog X.w) X.A (.compLoop (Two el ta ia tb ib fa fb sc ps) 1 (.ref it1) (.ref D) ce)
            (fun r t => match r with
              | .ok _ => ∃ m, m < n ∧ ∃ i G, Inv (X.blk s3 H3 sc ce fp) [] (wipe σ (own.map (·.2))) G t ∧ tn i t.heap ∧ (∀ b ∈ fp, G b = none) ∧ W i m G
              | .error _ => False) s11 := by
          refine loopB (fun k t => ∃ j G, Inv (X.blk s3 H3 sc ce fp) ([] ++ pinsAt fp s7.heap) (wipe σ8 vb) G t ∧ tn1 j t.heap ∧ (∀ b ∈ fp1, G b = none) ∧ V j k G) ?_ m1 ⟨0, H11, I11.weak (wipe_length _ _) (fun j v e => (wipe_some e).1), st11, fun b hb => (f11 b hb).1, w1⟩
          rintro k s12 ⟨j, H12, I12, st12, n12, w12⟩
          rcases turn1 j k H12 w12 with ⟨stop1, nx1⟩ | ⟨go1, Ny, hNy, step1⟩
          · refine thnF (T1.done (X.blk s3 H3 sc ce fp) rfl rfl rfl hc j _ s12 (wipe σ8 vb) H12 (fun _ _ => False) I12 (foot1 n12) st12 stop1) fun r s13 ⟨hr, I13⟩ => ?_
            subst hr
            refine fin I13 (hl8.trans (wipe_length σ8 vb).symm) (fun j v e => ?_) nx1
            rw [← hw8] at e
            obtain ⟨e1, e2⟩ := wipe_some e
            rw [wipe_out fun z => e2 (hv j z)]
            exact e1
          · refine thnF (T1.item (X.blk s3 H3 sc ce fp) rfl rfl rfl hc j _ s12 (wipe σ8 vb) H12 (fun _ _ => False) I12 (foot1 n12) st12 go1) fun r s13 ⟨u1, hr, h13⟩ => ?_
            subst hr
            refine thnF h13 fun _ s14 ⟨x1, H14, I14, r14, y14, st14, n14⟩ => ?_
            refine thnF (pgj.run _ s14 (wipe σ8 vb) H14 x1 u1 _ (I14.pinned (foot1 n14) (T1.obj _ _ st14)) r14 (step1 x1 H14 y14)) fun _ s15 ⟨σ15, H15, I15, hw15, q15⟩ => ?_
            refine thnF (ptj.run _ s15 σ15 H15 _ I15 q15) fun b1 s16 ⟨H16, I16, q16⟩ => ?_
            -- how an inner turn ends
            have fin1 : ∀ {t : Shared} {G : Hp}, Inv (X.blk s3 H3 sc ce fp) (([] ++ pinsAt fp s7.heap) ++ pinsAt fp1 s14.heap) σ15 G t → Ny G → ∃ m, m < k ∧ ∃ j G, Inv (X.blk s3 H3 sc ce fp) ([] ++ pinsAt fp s7.heap) (wipe σ8 vb) G t ∧ tn1 j t.heap ∧ (∀ b ∈ fp1, G b = none) ∧ V j m G := fun {t G} I17 ny => by
              obtain ⟨l, hl, w17⟩ := hNy G ny
              have pinned : ∀ b ∈ fp1, ∀ o, s14.heap.get? b = some o → t.heap.get? b = some o ∧ G b = none := fun b hb o e =>
                let z := I17.pin (b, o) (List.mem_append_right _ (List.mem_append_right _ (mem_pinsAt hb e)))
                ⟨z.1, z.2.1⟩
              refine ⟨l, hl, j + 1, G, I17.unpinned.weak (by rw [← hw15, wipe_length]) (fun j v e => by rw [← hw15] at e; exact (wipe_some e).1), T1.keep _ _ _ st14 fun b hb o e => (pinned b hb o e).1, fun b hb => ?_, w17⟩
              obtain ⟨o, e, _⟩ := T1.obj _ _ st14 b hb
              exact (pinned b hb o e).2
            cases b1 with
            | false =>
              simp only [Bool.false_eq_true, if_false] at q16 ⊢
              exact fin1 I16 q16
            | true =>
              simp only [if_true] at q16 ⊢
              refine thnF (pe.run _ s16 σ15 H16 _ I16 q16) fun yu s17 ⟨yv, H17, I17, r17, z, S, n2, ey, hD17, hz17, ny⟩ => ?_
              subst ey
              obtain ⟨tz, rfl⟩ := r17
              exact addI_ok (X := X.blk s3 H3 sc ce fp) I17 hD17 hz17 fun s18 I18 => fin1 I18 ny
        exact startB inner (T1.self X.A 0 _ _ _ st11 inner)
  exact codeAny_compStart_set loop (T.self X.A 0 _ _ _ st4 loop)
end
end ScT
namespace K18
open PySem PySem.Spec PyProof.Rows L2 Evl My TL
def topS (i : Nat) : Stmt := PySem.Challenge.pw_blocksearch_k18_slots_of_rows.main.body.getD i (.Pass ⟨0, 0, 0, 0⟩)
abbrev N_wall : List Str := ["k"]
theorem sc_wall : FnScope N_wall ["k"] (defScope (topS 0)) := ⟨rfl, rfl, rfl, by decide +kernel, rfl, by decide +kernel, by decide +kernel⟩
abbrev N_is_whole : List Str := ["thing"]
theorem sc_is_whole : FnScope N_is_whole ["thing"] (defScope (topS 12)) := ⟨rfl, rfl, rfl, by decide +kernel, rfl, by decide +kernel, by decide +kernel⟩
abbrev N_is_within : List Str := ["thing", "least", "most"]
theorem sc_is_within : FnScope N_is_within ["thing", "least", "most"] (defScope (topS 13)) := ⟨rfl, rfl, rfl, by decide +kernel, rfl, by decide +kernel, by decide +kernel⟩
abbrev N_is_count : List Str := ["thing"]
theorem sc_is_count : FnScope N_is_count ["thing"] (defScope (topS 17)) := ⟨rfl, rfl, rfl, by decide +kernel, rfl, by decide +kernel, by decide +kernel⟩
abbrev N_code : List Str := ["number", "signs", "digit"]
theorem sc_code : FnScope N_code ["number"] (defScope (topS 18)) := ⟨rfl, rfl, rfl, by decide +kernel, rfl, by decide +kernel, by decide +kernel⟩
abbrev N_code_all : List Str := ["numbers", "at", "number"]
theorem sc_code_all : FnScope N_code_all ["numbers"] (defScope (topS 19)) := ⟨rfl, rfl, rfl, by decide +kernel, rfl, by decide +kernel, by decide +kernel⟩
abbrev N_code_entries : List Str := ["entries", "texts", "slot", "places"]
theorem sc_code_entries : FnScope N_code_entries ["entries"] (defScope (topS 20)) := ⟨rfl, rfl, rfl, by decide +kernel, rfl, by decide +kernel, by decide +kernel⟩
abbrev N_decode_entries : List Str := ["text", "many", "at", "slot_gaps", "entries", "slot", "further", "place_gaps"]
theorem sc_decode_entries : FnScope N_decode_entries ["text"] (defScope (topS 21)) := ⟨rfl, rfl, rfl, by decide +kernel, rfl, by decide +kernel, by decide +kernel⟩
abbrev N_check_entries : List Str := ["entries", "ahead", "at", "entry"]
theorem sc_check_entries : FnScope N_check_entries ["entries"] (defScope (topS 22)) := ⟨rfl, rfl, rfl, by decide +kernel, rfl, by decide +kernel, by decide +kernel⟩
abbrev N_is_entry : List Str := ["thing"]
theorem sc_is_entry : FnScope N_is_entry ["thing"] (defScope (topS 23)) := ⟨rfl, rfl, rfl, by decide +kernel, rfl, by decide +kernel, by decide +kernel⟩
abbrev N_are_places : List Str := ["thing"]
theorem sc_are_places : FnScope N_are_places ["thing"] (defScope (topS 24)) := ⟨rfl, rfl, rfl, by decide +kernel, rfl, by decide +kernel, by decide +kernel⟩
abbrev N_first_fall : List Str := ["things", "ahead", "at", "thing"]
theorem sc_first_fall : FnScope N_first_fall ["things"] (defScope (topS 25)) := ⟨rfl, rfl, rfl, by decide +kernel, rfl, by decide +kernel, by decide +kernel⟩
abbrev N_gaps_of : List Str := ["numbers", "gaps", "ahead", "number"]
theorem sc_gaps_of : FnScope N_gaps_of ["numbers"] (defScope (topS 26)) := ⟨rfl, rfl, rfl, by decide +kernel, rfl, by decide +kernel, by decide +kernel⟩
abbrev N_risen : List Str := ["gaps", "numbers", "ahead", "gap"]
theorem sc_risen : FnScope N_risen ["gaps"] (defScope (topS 27)) := ⟨rfl, rfl, rfl, by decide +kernel, rfl, by decide +kernel, by decide +kernel⟩
abbrev N_check_text : List Str := ["text"]
theorem sc_check_text : FnScope N_check_text ["text"] (defScope (topS 28)) := ⟨rfl, rfl, rfl, by decide +kernel, rfl, by decide +kernel, by decide +kernel⟩
abbrev N_read_number : List Str := ["text", "start", "number", "worth", "at", "last", "digit"]
theorem sc_read_number : FnScope N_read_number ["text", "start"] (defScope (topS 29)) := ⟨rfl, rfl, rfl, by decide +kernel, rfl, by decide +kernel, by decide +kernel⟩
abbrev N_read_numbers : List Str := ["text", "at", "many", "numbers", "number"]
theorem sc_read_numbers : FnScope N_read_numbers ["text", "at", "many"] (defScope (topS 30)) := ⟨rfl, rfl, rfl, by decide +kernel, rfl, by decide +kernel, by decide +kernel⟩
abbrev N_check_number : List Str := ["slot"]
theorem sc_check_number : FnScope N_check_number ["slot"] (defScope (topS 33)) := ⟨rfl, rfl, rfl, by decide +kernel, rfl, by decide +kernel, by decide +kernel⟩
abbrev N_common : List Str := ["rows", "walkers", "slots", "slot", "reached", "row"]
theorem sc_common : FnScope N_common ["rows"] (defScope (topS 34)) := ⟨rfl, rfl, rfl, by decide +kernel, rfl, by decide +kernel, by decide +kernel⟩
abbrev N_reached_by_all : List Str := ["walkers", "slot", "walker", "reached"]
theorem sc_reached_by_all : FnScope N_reached_by_all ["walkers", "slot"] (defScope (topS 35)) := ⟨rfl, rfl, rfl, by decide +kernel, rfl, by decide +kernel, by decide +kernel⟩
abbrev N_either : List Str := ["rows", "row", "slot"]
theorem sc_either : FnScope N_either ["rows"] (defScope (topS 36)) := ⟨rfl, rfl, rfl, by decide +kernel, rfl, by decide +kernel, by decide +kernel⟩
abbrev N_without : List Str := ["row", "other", "walker", "slot"]
theorem sc_without : FnScope N_without ["row", "other"] (defScope (topS 37)) := ⟨rfl, rfl, rfl, by decide +kernel, rfl, by decide +kernel, by decide +kernel⟩
abbrev N_slots_of : List Str := ["row", "slot", "places"]
theorem sc_slots_of : FnScope N_slots_of ["row"] (defScope (topS 38)) := ⟨rfl, rfl, rfl, by decide +kernel, rfl, by decide +kernel, by decide +kernel⟩
abbrev N_is_word : List Str := ["thing", "sign"]
theorem sc_is_word : FnScope N_is_word ["thing"] (defScope (topS 42)) := ⟨rfl, rfl, rfl, by decide +kernel, rfl, by decide +kernel, by decide +kernel⟩
abbrev N_check_word : List Str := ["word"]
theorem sc_check_word : FnScope N_check_word ["word"] (defScope (topS 43)) := ⟨rfl, rfl, rfl, by decide +kernel, rfl, by decide +kernel, by decide +kernel⟩
abbrev N_check_lengths : List Str := ["lengths", "length"]
theorem sc_check_lengths : FnScope N_check_lengths ["lengths"] (defScope (topS 50)) := ⟨rfl, rfl, rfl, by decide +kernel, rfl, by decide +kernel, by decide +kernel⟩
abbrev N_check_size : List Str := ["size"]
theorem sc_check_size : FnScope N_check_size ["size"] (defScope (topS 51)) := ⟨rfl, rfl, rfl, by decide +kernel, rfl, by decide +kernel, by decide +kernel⟩
abbrev N_check_fit : List Str := ["entries", "lengths", "at", "slot", "places"]
theorem sc_check_fit : FnScope N_check_fit ["entries", "lengths"] (defScope (topS 52)) := ⟨rfl, rfl, rfl, by decide +kernel, rfl, by decide +kernel, by decide +kernel⟩
abbrev N_l_pool : List Str := ["_law_script", "_law_at", "_law_cell", "_law_far"]
theorem sc_l_pool : FnScope N_l_pool ["_law_script", "_law_at"] (defScope (topS 54)) := ⟨rfl, rfl, rfl, by decide +kernel, rfl, by decide +kernel, by decide +kernel⟩
abbrev N_l_take : List Str := ["_law_pool_here", "_law_many", "_law_digit", "_law_turn", "_law_one", "_law_other"]
theorem sc_l_take : FnScope N_l_take ["_law_pool_here", "_law_many"] (defScope (topS 55)) := ⟨rfl, rfl, rfl, by decide +kernel, rfl, by decide +kernel, by decide +kernel⟩
abbrev N_l_kinds : List Str := ["_law_pool_here", "_law_some", "_law_start"]
theorem sc_l_kinds : FnScope N_l_kinds ["_law_pool_here"] (defScope (topS 56)) := ⟨rfl, rfl, rfl, by decide +kernel, rfl, by decide +kernel, by decide +kernel⟩
abbrev N_l_whole : List Str := ["_law_thing"]
theorem sc_l_whole : FnScope N_l_whole ["_law_thing"] (defScope (topS 57)) := ⟨rfl, rfl, rfl, by decide +kernel, rfl, by decide +kernel, by decide +kernel⟩
abbrev N_l_row_entries : List Str := ["_law_pool_here", "_law_many", "_law_most", "_law_told", "_law_slot", "_law_k", "_law_spots", "_law_last", "_law_j"]
theorem sc_l_row_entries : FnScope N_l_row_entries ["_law_pool_here", "_law_many", "_law_most"] (defScope (topS 58)) := ⟨rfl, rfl, rfl, by decide +kernel, rfl, by decide +kernel, by decide +kernel⟩
abbrev N_l_lengths : List Str := ["_law_pool_here", "_law_entries", "_law_told", "_law_slot", "_law_need", "_law_spots", "_law_other"]
theorem sc_l_lengths : FnScope N_l_lengths ["_law_pool_here", "_law_entries"] (defScope (topS 59)) := ⟨rfl, rfl, rfl, by decide +kernel, rfl, by decide +kernel, by decide +kernel⟩
abbrev N_l_right : List Str := ["_law_rows", "_law_slots", "_law_every", "_law_any_of", "_law_handed", "_law_turn", "_law_told", "_law_slot", "_law_some"]
theorem sc_l_right : FnScope N_l_right ["_law_rows", "_law_slots"] (defScope (topS 60)) := ⟨rfl, rfl, rfl, by decide +kernel, rfl, by decide +kernel, by decide +kernel⟩
abbrev N_law : List Str := ["_law_script", "_law_k", "_law_pool_here", "_law_kinds_here", "_law_rows", "_law_slots", "_law_j", "_law_entries", "_law_row", "_law_mine", "_law_other", "_law_yours", "_law_due", "_law_told", "_law_slot", "_law_spots"]
theorem sc_law : FnScope N_law ["_law_script"] (defScope (topS 61)) := ⟨rfl, rfl, rfl, by decide +kernel, rfl, by decide +kernel, by decide +kernel⟩
abbrev N_Block_init : List Str := ["self", "entries", "lengths", "slot", "places"]
theorem sc_Block_init : FnScope N_Block_init ["self", "entries", "lengths"] (defScope (inClass (topS 48) 0)) := ⟨rfl, rfl, rfl, by decide +kernel, rfl, by decide +kernel, by decide +kernel⟩
abbrev N_Row_init : List Str := ["self", "word", "entries", "lengths", "size", "at"]
theorem sc_Row_init : FnScope N_Row_init ["self", "word", "entries", "lengths", "size"] (defScope (inClass (topS 49) 0)) := ⟨rfl, rfl, rfl, by decide +kernel, rfl, by decide +kernel, by decide +kernel⟩
abbrev N_Row_blocks : List Str := ["self"]
theorem sc_Row_blocks : FnScope N_Row_blocks ["self"] (defScope (inClass (topS 49) 3)) := ⟨rfl, rfl, rfl, by decide +kernel, rfl, by decide +kernel, by decide +kernel⟩
abbrev N_Row_entries : List Str := ["self", "block", "entry"]
theorem sc_Row_entries : FnScope N_Row_entries ["self"] (defScope (inClass (topS 49) 4)) := ⟨rfl, rfl, rfl, by decide +kernel, rfl, by decide +kernel, by decide +kernel⟩
abbrev N_Row_eq : List Str := ["self", "other"]
theorem sc_Row_eq : FnScope N_Row_eq ["self", "other"] (defScope (inClass (topS 49) 1)) := ⟨rfl, rfl, rfl, by decide +kernel, rfl, by decide +kernel, by decide +kernel⟩
abbrev N_Walker_init : List Str := ["self", "row"]
theorem sc_Walker_init : FnScope N_Walker_init ["self", "row"] (defScope (inClass (topS 32) 0)) := ⟨rfl, rfl, rfl, by decide +kernel, rfl, by decide +kernel, by decide +kernel⟩
abbrev N_Walker_slot : List Str := ["self"]
theorem sc_Walker_slot : FnScope N_Walker_slot ["self"] (defScope (inClass (topS 32) 1)) := ⟨rfl, rfl, rfl, by decide +kernel, rfl, by decide +kernel, by decide +kernel⟩
abbrev N_Walker_step : List Str := ["self", "at", "entry", "inside"]
theorem sc_Walker_step : FnScope N_Walker_step ["self"] (defScope (inClass (topS 32) 2)) := ⟨rfl, rfl, rfl, by decide +kernel, rfl, by decide +kernel, by decide +kernel⟩
abbrev N_Walker_seek : List Str := ["self", "slot"]
theorem sc_Walker_seek : FnScope N_Walker_seek ["self", "slot"] (defScope (inClass (topS 32) 3)) := ⟨rfl, rfl, rfl, by decide +kernel, rfl, by decide +kernel, by decide +kernel⟩
abbrev N_Walker_entries_in : List Str := ["self", "at"]
theorem sc_Walker_entries_in : FnScope N_Walker_entries_in ["self", "at"] (defScope (inClass (topS 32) 10)) := ⟨rfl, rfl, rfl, by decide +kernel, rfl, by decide +kernel, by decide +kernel⟩
abbrev N_Walker_slot_at : List Str := ["self", "standing", "at", "entry"]
theorem sc_Walker_slot_at : FnScope N_Walker_slot_at ["self", "standing"] (defScope (inClass (topS 32) 11)) := ⟨rfl, rfl, rfl, by decide +kernel, rfl, by decide +kernel, by decide +kernel⟩
abbrev N_Walker_reaching : List Str := ["self", "slot", "at"]
theorem sc_Walker_reaching : FnScope N_Walker_reaching ["self", "slot", "at"] (defScope (inClass (topS 32) 12)) := ⟨rfl, rfl, rfl, by decide +kernel, rfl, by decide +kernel, by decide +kernel⟩
abbrev N_Walker_sought : List Str := ["self", "slot", "standing", "here", "at", "one", "places"]
theorem sc_Walker_sought : FnScope N_Walker_sought ["self", "slot", "standing"] (defScope (inClass (topS 32) 13)) := ⟨rfl, rfl, rfl, by decide +kernel, rfl, by decide +kernel, by decide +kernel⟩
/-- what the top has left: A the defs' places, FD their data, TK the constants' tokens -/
structure TX (K : PySem.W.Frag) (mg : Str → Option Value) (A : Nat → Addr) (FD : Nat → FuncData) (TK : Nat → Tok) : Prop where
  f_wall : Fun K "_wall" "_wall" (topS 0) (A 0) (FD 0)
  b_wall : Binds K (FD 0) ["k"] []
  g_wall : mg "_wall" = some (.ref (A 0))
  f_is_whole : Fun K "is_whole" "is_whole" (topS 12) (A 12) (FD 12)
  b_is_whole : Binds K (FD 12) ["thing"] []
  g_is_whole : mg "is_whole" = some (.ref (A 12))
  f_is_within : Fun K "is_within" "is_within" (topS 13) (A 13) (FD 13)
  b_is_within : Binds K (FD 13) ["thing", "least", "most"] []
  g_is_within : mg "is_within" = some (.ref (A 13))
  f_is_count : Fun K "is_count" "is_count" (topS 17) (A 17) (FD 17)
  b_is_count : Binds K (FD 17) ["thing"] []
  g_is_count : mg "is_count" = some (.ref (A 17))
  f_code : Fun K "code" "code" (topS 18) (A 18) (FD 18)
  b_code : Binds K (FD 18) ["number"] []
  g_code : mg "code" = some (.ref (A 18))
  f_code_all : Fun K "code_all" "code_all" (topS 19) (A 19) (FD 19)
  b_code_all : Binds K (FD 19) ["numbers"] []
  g_code_all : mg "code_all" = some (.ref (A 19))
  f_code_entries : Fun K "code_entries" "code_entries" (topS 20) (A 20) (FD 20)
  b_code_entries : Binds K (FD 20) ["entries"] []
  g_code_entries : mg "code_entries" = some (.ref (A 20))
  f_decode_entries : Fun K "decode_entries" "decode_entries" (topS 21) (A 21) (FD 21)
  b_decode_entries : Binds K (FD 21) ["text"] []
  g_decode_entries : mg "decode_entries" = some (.ref (A 21))
  f_check_entries : Fun K "check_entries" "check_entries" (topS 22) (A 22) (FD 22)
  b_check_entries : Binds K (FD 22) ["entries"] []
  g_check_entries : mg "check_entries" = some (.ref (A 22))
  f_is_entry : Fun K "is_entry" "is_entry" (topS 23) (A 23) (FD 23)
  b_is_entry : Binds K (FD 23) ["thing"] []
  g_is_entry : mg "is_entry" = some (.ref (A 23))
  f_are_places : Fun K "are_places" "are_places" (topS 24) (A 24) (FD 24)
  b_are_places : Binds K (FD 24) ["thing"] []
  g_are_places : mg "are_places" = some (.ref (A 24))
  f_first_fall : Fun K "first_fall" "first_fall" (topS 25) (A 25) (FD 25)
  b_first_fall : Binds K (FD 25) ["things"] []
  g_first_fall : mg "first_fall" = some (.ref (A 25))
  f_gaps_of : Fun K "gaps_of" "gaps_of" (topS 26) (A 26) (FD 26)
  b_gaps_of : Binds K (FD 26) ["numbers"] []
  g_gaps_of : mg "gaps_of" = some (.ref (A 26))
  f_risen : Fun K "risen" "risen" (topS 27) (A 27) (FD 27)
  b_risen : Binds K (FD 27) ["gaps"] []
  g_risen : mg "risen" = some (.ref (A 27))
  f_check_text : Fun K "check_text" "check_text" (topS 28) (A 28) (FD 28)
  b_check_text : Binds K (FD 28) ["text"] []
  g_check_text : mg "check_text" = some (.ref (A 28))
  f_read_number : Fun K "read_number" "read_number" (topS 29) (A 29) (FD 29)
  b_read_number : Binds K (FD 29) ["text", "start"] []
  g_read_number : mg "read_number" = some (.ref (A 29))
  f_read_numbers : Fun K "read_numbers" "read_numbers" (topS 30) (A 30) (FD 30)
  b_read_numbers : Binds K (FD 30) ["text", "at", "many"] []
  g_read_numbers : mg "read_numbers" = some (.ref (A 30))
  f_check_number : Fun K "check_number" "check_number" (topS 33) (A 33) (FD 33)
  b_check_number : Binds K (FD 33) ["slot"] []
  g_check_number : mg "check_number" = some (.ref (A 33))
  f_common : Fun K "common" "common" (topS 34) (A 34) (FD 34)
  b_common : Binds K (FD 34) ["rows"] []
  g_common : mg "common" = some (.ref (A 34))
  f_reached_by_all : Fun K "reached_by_all" "reached_by_all" (topS 35) (A 35) (FD 35)
  b_reached_by_all : Binds K (FD 35) ["walkers", "slot"] []
  g_reached_by_all : mg "reached_by_all" = some (.ref (A 35))
  f_either : Fun K "either" "either" (topS 36) (A 36) (FD 36)
  b_either : Binds K (FD 36) ["rows"] []
  g_either : mg "either" = some (.ref (A 36))
  f_without : Fun K "without" "without" (topS 37) (A 37) (FD 37)
  b_without : Binds K (FD 37) ["row", "other"] []
  g_without : mg "without" = some (.ref (A 37))
  f_slots_of : Fun K "slots_of" "slots_of" (topS 38) (A 38) (FD 38)
  b_slots_of : Binds K (FD 38) ["row"] []
  g_slots_of : mg "slots_of" = some (.ref (A 38))
  f_is_word : Fun K "is_word" "is_word" (topS 42) (A 42) (FD 42)
  b_is_word : Binds K (FD 42) ["thing"] []
  g_is_word : mg "is_word" = some (.ref (A 42))
  f_check_word : Fun K "check_word" "check_word" (topS 43) (A 43) (FD 43)
  b_check_word : Binds K (FD 43) ["word"] []
  g_check_word : mg "check_word" = some (.ref (A 43))
  f_check_lengths : Fun K "check_lengths" "check_lengths" (topS 50) (A 50) (FD 50)
  b_check_lengths : Binds K (FD 50) ["lengths"] []
  g_check_lengths : mg "check_lengths" = some (.ref (A 50))
  f_check_size : Fun K "check_size" "check_size" (topS 51) (A 51) (FD 51)
  b_check_size : Binds K (FD 51) ["size"] []
  g_check_size : mg "check_size" = some (.ref (A 51))
  f_check_fit : Fun K "check_fit" "check_fit" (topS 52) (A 52) (FD 52)
  b_check_fit : Binds K (FD 52) ["entries", "lengths"] []
  g_check_fit : mg "check_fit" = some (.ref (A 52))
  f_l_pool : Fun K "_law_pool" "_law_pool" (topS 54) (A 54) (FD 54)
  b_l_pool : Binds K (FD 54) ["_law_script", "_law_at"] []
  g_l_pool : mg "_law_pool" = some (.ref (A 54))
  f_l_take : Fun K "_law_take" "_law_take" (topS 55) (A 55) (FD 55)
  b_l_take : Binds K (FD 55) ["_law_pool_here", "_law_many"] []
  g_l_take : mg "_law_take" = some (.ref (A 55))
  f_l_kinds : Fun K "_law_kinds" "_law_kinds" (topS 56) (A 56) (FD 56)
  b_l_kinds : Binds K (FD 56) ["_law_pool_here"] []
  g_l_kinds : mg "_law_kinds" = some (.ref (A 56))
  f_l_whole : Fun K "_law_whole" "_law_whole" (topS 57) (A 57) (FD 57)
  b_l_whole : Binds K (FD 57) ["_law_thing"] []
  g_l_whole : mg "_law_whole" = some (.ref (A 57))
  f_l_row_entries : Fun K "_law_row_entries" "_law_row_entries" (topS 58) (A 58) (FD 58)
  b_l_row_entries : Binds K (FD 58) ["_law_pool_here", "_law_many", "_law_most"] []
  g_l_row_entries : mg "_law_row_entries" = some (.ref (A 58))
  f_l_lengths : Fun K "_law_lengths" "_law_lengths" (topS 59) (A 59) (FD 59)
  b_l_lengths : Binds K (FD 59) ["_law_pool_here", "_law_entries"] []
  g_l_lengths : mg "_law_lengths" = some (.ref (A 59))
  f_l_right : Fun K "_law_right" "_law_right" (topS 60) (A 60) (FD 60)
  b_l_right : Binds K (FD 60) ["_law_rows", "_law_slots"] []
  g_l_right : mg "_law_right" = some (.ref (A 60))
  f_law : Fun K "law" "law" (topS 61) (A 61) (FD 61)
  b_law : Binds K (FD 61) ["_law_script"] []
  g_law : mg "law" = some (.ref (A 61))
  m_abs : mg "abs" = none
  m_all : mg "all" = none
  m_any : mg "any" = none
  m_bool : mg "bool" = none
  m_divmod : mg "divmod" = none
  m_enumerate : mg "enumerate" = none
  m_int : mg "int" = none
  m_isinstance : mg "isinstance" = none
  m_len : mg "len" = none
  m_list : mg "list" = none
  m_max : mg "max" = none
  m_min : mg "min" = none
  m_range : mg "range" = none
  m_sorted : mg "sorted" = none
  m_str : mg "str" = none
  m_tuple : mg "tuple" = none
  m_zip : mg "zip" = none
  c_DIGITS_AHEAD : mg "DIGITS_AHEAD" = some (.str "ABCDEFGHIJKLMNOP" (TK 15))
  c_LAST_DIGITS : mg "LAST_DIGITS" = some (.str "abcdefghijklmnop" (TK 16))
  c_MOST_LETTERS : mg "MOST_LETTERS" = some (.int 12 (TK 40))
  c_MOST_WORDS : mg "MOST_WORDS" = some (.int 120 (TK 41))
  c_SIZE : mg "SIZE" = some (.int 4 (TK 45))
  c_MOST_SIZE : mg "MOST_SIZE" = some (.int 8 (TK 46))
  c_MOST_LENGTHS : mg "MOST_LENGTHS" = some (.int 60 (TK 47))
  k_Wrong : mg "Wrong" = some (.ref (A 2))
  k_NoWord : mg "NoWord" = some (.ref (A 3))
  k_NoNumber : mg "NoNumber" = some (.ref (A 4))
  k_NoSize : mg "NoSize" = some (.ref (A 5))
  k_NoLengths : mg "NoLengths" = some (.ref (A 6))
  k_NoCode : mg "NoCode" = some (.ref (A 7))
  k_NoRow : mg "NoRow" = some (.ref (A 8))
  k_NoEntries : mg "NoEntries" = some (.ref (A 9))
  k_NoPlace : mg "NoPlace" = some (.ref (A 10))
  k_Walker : mg "Walker" = some (.ref (A 32))
  k_Block : mg "Block" = some (.ref (A 48))
  k_Row : mg "Row" = some (.ref (A 49))
  cl_Block : Cls K (A 48)
  n_Block_first : NoAttr K (A 48) "first"
  n_Block_last : NoAttr K (A 48) "last"
  n_Block_many : NoAttr K (A 48) "many"
  n_Block_most : NoAttr K (A 48) "most"
  n_Block_least : NoAttr K (A 48) "least"
  n_Block_coded : NoAttr K (A 48) "coded"
  cl_Row : Cls K (A 49)
  n_Row_word : NoAttr K (A 49) "word"
  n_Row_size : NoAttr K (A 49) "size"
  n_Row_cut : NoAttr K (A 49) "cut"
  cl_Walker : Cls K (A 32)
  n_Walker_heads : NoAttr K (A 32) "heads"
  n_Walker_decoded : NoAttr K (A 32) "decoded"
  n_Walker_standing : NoAttr K (A 32) "standing"
  f_Block_init : Fun K "__init__" "Block.__init__" (inClass (topS 48) 0) (A 62) (FD 62)
  b_Block_init : Binds K (FD 62) ["self", "entries", "lengths"] []
  M_Block : Mk K (A 48) (A 62)
  f_Row_init : FunD K "__init__" "Row.__init__" (defArgs (inClass (topS 49) 0)) (defBody (inClass (topS 49) 0)) (defScope (inClass (topS 49) 0)) [] [("size", .int 4)] (A 63) (FD 63)
  M_Row : Mk K (A 49) (A 63)
  f_Row_blocks : Fun K "blocks" "Row.blocks" (inClass (topS 49) 3) (A 64) (FD 64)
  b_Row_blocks : Binds K (FD 64) ["self"] []
  M_Row_blocks : Meth K (A 49) "blocks" (A 64)
  f_Row_entries : Fun K "entries" "Row.entries" (inClass (topS 49) 4) (A 65) (FD 65)
  b_Row_entries : Binds K (FD 65) ["self"] []
  M_Row_entries : Meth K (A 49) "entries" (A 65)
  f_Row_eq : Fun K "__eq__" "Row.__eq__" (inClass (topS 49) 1) (A 66) (FD 66)
  b_Row_eq : Binds K (FD 66) ["self", "other"] []
  M_Row_eq : Meth K (A 49) "__eq__" (A 66)
  f_Walker_init : Fun K "__init__" "Walker.__init__" (inClass (topS 32) 0) (A 67) (FD 67)
  b_Walker_init : Binds K (FD 67) ["self", "row"] []
  M_Walker : Mk K (A 32) (A 67)
  f_Walker_slot : Fun K "slot" "Walker.slot" (inClass (topS 32) 1) (A 68) (FD 68)
  b_Walker_slot : Binds K (FD 68) ["self"] []
  M_Walker_slot : Meth K (A 32) "slot" (A 68)
  f_Walker_step : Fun K "step" "Walker.step" (inClass (topS 32) 2) (A 69) (FD 69)
  b_Walker_step : Binds K (FD 69) ["self"] []
  M_Walker_step : Meth K (A 32) "step" (A 69)
  f_Walker_seek : Fun K "seek" "Walker.seek" (inClass (topS 32) 3) (A 70) (FD 70)
  b_Walker_seek : Binds K (FD 70) ["self", "slot"] []
  M_Walker_seek : Meth K (A 32) "seek" (A 70)
  f_Walker_entries_in : Fun K "entries_in" "Walker.entries_in" (inClass (topS 32) 10) (A 71) (FD 71)
  b_Walker_entries_in : Binds K (FD 71) ["self", "at"] []
  M_Walker_entries_in : Meth K (A 32) "entries_in" (A 71)
  f_Walker_slot_at : Fun K "slot_at" "Walker.slot_at" (inClass (topS 32) 11) (A 72) (FD 72)
  b_Walker_slot_at : Binds K (FD 72) ["self", "standing"] []
  M_Walker_slot_at : Meth K (A 32) "slot_at" (A 72)
  f_Walker_reaching : Fun K "reaching" "Walker.reaching" (inClass (topS 32) 12) (A 73) (FD 73)
  b_Walker_reaching : Binds K (FD 73) ["self", "slot", "at"] []
  M_Walker_reaching : Meth K (A 32) "reaching" (A 73)
  f_Walker_sought : Fun K "sought" "Walker.sought" (inClass (topS 32) 13) (A 74) (FD 74)
  b_Walker_sought : Binds K (FD 74) ["self", "slot", "standing"] []
  M_Walker_sought : Meth K (A 32) "sought" (A 74)
section
variable {P : Program} {w : World} {K : PySem.W.Frag} {mg : Str → Option Value} {base : Heap} {A : Nat → Addr} {FD : Nat → FuncData} {TK : Nat → Tok}
/-! ### _law_take -/
def spTake : Sp := fun vs H Q _ => ∃ (p : Addr) (m : Int) (c : Nat), vs = [.ref p, .int m] ∧ Pl H p c ∧ 0 < m ∧ m < 1073741824 ∧ c < 1000000 ∧
  ∀ (d : Int) (H' : Hp), 0 ≤ d → d < m → Pl H' p (c + 1) → Fx p H H' → Q (.int d) H'
set_option maxHeartbeats 4000000 in
theorem ok_l_take (T : TX K mg A FD TK) : FnOk P w K mg base CX0 1 (A 55) (FD 55) ["_law_pool_here", "_law_many"] spTake := by
  refine T.f_l_take.ok sc_l_take (fun vs H Q E h => ?_) (fun cdv A' outer s H vs Q E hr h => ?_)
  · obtain ⟨p, m, c, rfl, _⟩ := h
    rfl
  · obtain ⟨p, m, c, rfl, ⟨g, b, k, hp, hg, hb, hb2, hk⟩, hm, hm2, hc, q⟩ := h
    refine ⟨_, (pss_cons (ps_if (pt_cmpR op_gt (pe_ix (ixLK (K := K) rfl) (pv 0) pe_int (fun _ _ => rfl)) pe_int (nomark _))
      (pss_cons (ps_set (i := 2) sc_l_take.nd rfl (.inl rfl) (pe_op op_mod (pe_ix (ixLK (K := K) rfl) (pv 0) pe_int (fun _ _ => rfl)) (pv 1)))
      (pss_cons (ps_asg (pe_op op_fdiv (pe_ix (ixLK (K := K) rfl) (pv 0) pe_int (fun _ _ => rfl)) (pv 1)) (pg_sub (pv 0) pe_int set_list))
      (pss_one (ps_ret (pv 2)))))
      pss_nil)
      (pss_cons (ps_asg (pe_op op_add (pe_ix (ixLK (K := K) rfl) (pv 0) pe_int (fun _ _ => rfl)) pe_int) (pg_sub (pv 0) pe_int set_list))
      (pss_cons (ps_set (i := 3) sc_l_take.nd rfl (.inl rfl) (pe_ix (ixLK (K := K) rfl) (pv 0) pe_int (fun _ _ => rfl)))
      (pss_cons (ps_set (i := 4) sc_l_take.nd rfl (.inl rfl) (pe_op op_mod (pe_op op_pow (pe_op op_add (pe_op op_add (pe_ix (ixLK (K := K) rfl) (pv 0) pe_int (fun _ _ => rfl)) (pe_op op_mul (pe_op op_mul pe_int (pv 3)) (pv 3))) pe_int) pe_int) pe_int))
      (pss_cons (ps_set (i := 5) sc_l_take.nd rfl (.inl rfl) (pe_op op_mod (pe_op op_add (pe_op op_pow (pv 4) pe_int) (pe_op op_mul pe_int (pv 3))) pe_int))
      (pss_one (ps_ret (pe_op op_mod (pe_op op_fdiv (pe_op op_add (pe_op op_mul (pv 4) pe_int) (pe_op op_mul (pv 5) (pv 5))) pe_int) (pv 1))))))))), ?_⟩
    refine ⟨.ref p, rfl, p, _, 0, .int g, rfl, rfl, SqL.of hp, atI_nat (j := 0) rfl, g, 0, rfl, rfl, _, rfl, ite2 (fun e => ?_) (fun e => ?_)⟩
    · refine ⟨.ref p, rfl, p, _, 0, .int g, rfl, rfl, SqL.of hp, atI_nat (j := 0) rfl, .int m, rfl, g, m, rfl, rfl, hm, ?_⟩
      refine ⟨.ref p, rfl, p, _, 0, .int g, rfl, rfl, SqL.of hp, atI_nat (j := 0) rfl, .int m, rfl, g, m, rfl, rfl, ⟨hm, hm2⟩, .ref p, rfl, p, _, 0, 0, rfl, rfl, hp, rfl, ?_⟩
      refine ⟨.int (g % m), rfl, ?_⟩
      exact q _ _ (Int.emod_nonneg _ (by omega)) (Int.emod_lt_of_pos _ hm) ⟨g / m, b, k, upd_same, Int.ediv_nonneg hg (by omega), hb, hb2, by omega⟩ Fx.upd
    · have hp1 : (upd H p (.lst [.int g, .int b, .int ((k : Int) + 1)])) p = some (.lst [.int g, .int b, .int ((k : Int) + 1)]) := upd_same
      refine ⟨.ref p, rfl, p, _, 2, .int k, rfl, rfl, SqL.of hp, atI_nat (j := 2) rfl, k, 1, rfl, rfl, .ref p, rfl, p, _, 2, 2, rfl, rfl, hp, rfl, ?_⟩
      refine ⟨.ref p, rfl, p, _, 2, .int ((k : Int) + 1), rfl, rfl, SqL.of hp1, atI_nat (j := 2) rfl, ?_⟩
      have t0 : (0 : Int) ≤ (k : Int) + 1 := by omega
      have t1 : (k : Int) + 1 ≤ 1000000 := by omega
      have s1 : 0 ≤ 69621 * ((k : Int) + 1) ∧ 69621 * ((k : Int) + 1) ≤ 69621000000 := by omega
      have s2 : 0 ≤ 69621 * ((k : Int) + 1) * ((k : Int) + 1) := mul_nn s1.1 t0
      have s3 : 69621 * ((k : Int) + 1) * ((k : Int) + 1) ≤ 69621000000 * 1000000 := mul_le s1.1 s1.2 t0 t1
      refine ⟨.ref p, rfl, p, _, 1, .int b, rfl, rfl, SqL.of hp1, atI_nat (j := 1) rfl, .int ((k : Int) + 1), rfl, 69621, (k : Int) + 1, rfl, rfl, .inl ⟨by decide, by decide⟩, .int ((k : Int) + 1), rfl, 69621 * ((k : Int) + 1), (k : Int) + 1, rfl, rfl, .inl ⟨by omega, by omega⟩,
        b, 69621 * ((k : Int) + 1) * ((k : Int) + 1), rfl, rfl, b + 69621 * ((k : Int) + 1) * ((k : Int) + 1), 3, rfl, rfl, b + 69621 * ((k : Int) + 1) * ((k : Int) + 1) + 3, 3, rfl, rfl, ⟨by decide, by decide, natAbs_lt (by omega) (by omega)⟩,
        _, 2147483629, rfl, rfl, (show (0 : Int) < 2147483629 by decide), ?_⟩
      have o0 : 0 ≤ (b + 69621 * ((k : Int) + 1) * ((k : Int) + 1) + 3) ^ Int.toNat 3 % 2147483629 := Int.emod_nonneg _ (by decide)
      have o1 : (b + 69621 * ((k : Int) + 1) * ((k : Int) + 1) + 3) ^ Int.toNat 3 % 2147483629 < 2147483629 := Int.emod_lt_of_pos _ (by decide)
      dsimp only
      generalize (b + 69621 * ((k : Int) + 1) * ((k : Int) + 1) + 3) ^ Int.toNat 3 % 2147483629 = one at o0 o1 ⊢
      refine ⟨.int one, rfl, one, 3, rfl, rfl, ⟨by decide, by decide, natAbs_lt o0 (by omega)⟩, .int ((k : Int) + 1), rfl, 30011, (k : Int) + 1, rfl, rfl, .inl ⟨by decide, by decide⟩, _, _, rfl, rfl, _, 998244353, rfl, rfl, (show (0 : Int) < 998244353 by decide), ?_⟩
      have r0 : 0 ≤ (one ^ Int.toNat 3 + 30011 * ((k : Int) + 1)) % 998244353 := Int.emod_nonneg _ (by decide)
      have r1 : (one ^ Int.toNat 3 + 30011 * ((k : Int) + 1)) % 998244353 < 998244353 := Int.emod_lt_of_pos _ (by decide)
      dsimp only
      generalize (one ^ Int.toNat 3 + 30011 * ((k : Int) + 1)) % 998244353 = other at r0 r1 ⊢
      refine ⟨.int one, rfl, one, 998244353, rfl, rfl, .inl ⟨by omega, by omega⟩, .int other, rfl, .int other, rfl, other, other, rfl, rfl, .inl ⟨by omega, by omega⟩, _, _, rfl, rfl, _, 1013, rfl, rfl, (show (0 : Int) < 1013 ∧ (1013 : Int) < 1073741824 by decide), .int m, rfl, _, m, rfl, rfl, hm, ?_⟩
      exact q _ _ (Int.emod_nonneg _ (by omega)) (Int.emod_lt_of_pos _ hm) ⟨g, b, k + 1, upd_same, hg, hb, hb2, by omega⟩ Fx.upd

/-! ### _law_pool -/
def spPool (K : PySem.W.Frag) : Sp := fun vs H Q _ => ∃ (a : Addr) (ns : List Int) (j : Nat), vs = [.ref a, .int (j : Int)] ∧ SqL K H a (ns.map V.int) ∧ ns.length ≤ 63 ∧ j ≤ 1000 ∧
  ∀ (p : Addr) (H' : Hp), H p = none → Ex H H' → Pl H' p 0 → Q (.ref p) H'
set_option maxHeartbeats 4000000 in
theorem ok_l_pool (T : TX K mg A FD TK) : FnOk P w K mg base CX0 1 (A 54) (FD 54) ["_law_script", "_law_at"] (spPool K) := by
  refine T.f_l_pool.ok sc_l_pool (fun vs H Q E h => ?_) (fun cdv A' outer s H vs Q E hr h => ?_)
  · obtain ⟨a, ns, j, rfl, _⟩ := h
    rfl
  · obtain ⟨a, ns, j, rfl, hS, hn, hj, q⟩ := h
    refine ⟨_, (pss_cons (ps_set (i := 2) sc_l_pool.nd rfl (.inl rfl) pe_int)
      (pss_cut (ps_if (pt_cmpR op_lt (pv 1) (pe_callB (lenK (K := K) rfl) (by rfl) T.m_len (by decide +kernel) (pa_cons (pv 0) pa_nil)) (nomark _))
      (pss_one (ps_set (i := 2) sc_l_pool.nd rfl (.inl rfl) (pe_ix (ixLK (K := K) rfl) (pv 0) (pv 1) (fun _ _ => rfl))))
      pss_nil)
      (pss_cons (ps_set (i := 3) sc_l_pool.nd rfl (.inl rfl) (pe_callB call_abs (by rfl) T.m_abs (by decide +kernel) (pa_cons (pv 2) pa_nil)))
      (pss_one (ps_ret (pe_lst (pa_cons (pe_op op_mul (pv 3) (pe_callTy call_int1 (by rfl) T.m_int (by decide +kernel) (pa_cons (pe_cmpR op_ge (pv 3) (pe_op op_pow pe_int pe_int) (nomark _)) pa_nil))) (pa_cons (pe_op op_add (pe_op op_add (pe_op op_mul (pe_op op_mod (pv 2) pe_int) pe_int) (pe_op op_mul pe_int (pv 1))) pe_int) (pa_cons pe_int pa_nil))))))))), ?_⟩
    refine ⟨fun σ' H' => H' = H ∧ ∃ z : Int, σ' = [some (.ref a), some (.int (j : Int)), some (.int z), none], ?_, ?_⟩
    · refine ⟨.int (j : Int), rfl, .ref a, rfl, a, _, rfl, .inl hS, _, _, rfl, rfl, _, rfl, ite2 (fun e => ?_) (fun e => ?_)⟩
      · have e0 : (j : Int) < ((ns.map V.int).length : Int) := of_decide_eq_true e
        have e1 : j < ns.length := by
          rw [List.length_map] at e0
          omega
        refine ⟨.ref a, rfl, .int (j : Int), rfl, a, _, _, .int ns[j], rfl, rfl, hS, atI_nat (j := j) ?_, rfl, ns[j], rfl⟩
        rw [List.getElem?_map, List.getElem?_eq_getElem e1]
        rfl
      · exact ⟨rfl, 0, rfl⟩
    · rintro σ' H' ⟨rfl, z, rfl⟩
      refine ⟨.int z, rfl, z, rfl, ?_⟩
      have f0 : 0 ≤ (if z < 0 then -z else z) := by split <;> omega
      generalize (if z < 0 then -z else z) = far at f0 ⊢
      refine ⟨.int far, rfl, .int far, rfl, 10, 18, rfl, rfl, ⟨by decide, by decide, by decide⟩, far, _, rfl, rfl, .inr ⟨_, rfl, ?_⟩⟩
      generalize hd : decide ((10 : Int) ^ Int.toNat 18 ≤ far) = big
      have m0 : 0 ≤ z % 2147483647 := Int.emod_nonneg _ (by decide)
      have m1 : z % 2147483647 < 2147483647 := Int.emod_lt_of_pos _ (by decide)
      refine ⟨far, _, rfl, rfl, .inr ⟨?_, ?_⟩, ?_⟩
      · cases big <;> decide
      · cases big <;> decide
      refine ⟨.int z, rfl, z, 2147483647, rfl, rfl, (show (0 : Int) < 2147483647 by decide), ?_⟩
      dsimp only
      generalize z % 2147483647 = y at m0 m1 ⊢
      refine ⟨y, 48271, rfl, rfl, .inl ⟨by omega, by omega⟩, .int (j : Int), rfl, 7919, (j : Int), rfl, rfl, .inl ⟨by decide, by decide⟩, _, _, rfl, rfl, _, 31, rfl, rfl, (by show 3 ≤ sizeLine; decide), fun p np => ?_⟩
      refine q p _ np (ex_upd np) ⟨_, _, 0, upd_same, ?_, ?_, ?_, Nat.le_refl _⟩
      · cases big
        · show (0 : Int) ≤ far * 0
          omega
        · show (0 : Int) ≤ far * 1
          omega
      · omega
      · omega

theorem pool_ne {H : Hp} {p a : Addr} {c : Nat} (h : Pl H p c) (n : H a = none) : a ≠ p := by
  obtain ⟨xs, hx⟩ := h.some
  exact (ne_of_none hx n).symm
theorem pl_upd {H : Hp} {p a : Addr} {c : Nat} {o : HO} (h : Pl H p c) (n : a ≠ p) : Pl (upd H a o) p c := by
  obtain ⟨g, b, k, x1, x2⟩ := h
  exact ⟨g, b, k, by rw [upd_ne n.symm]; exact x1, x2⟩

/-! ### texts: words, pieces between blanks -/
/-- a word: one to twelve letters a to z -/
def isW (z : Str) : Bool := decide (1 ≤ z.cps.size) && decide (z.cps.size ≤ 12) && z.cps.toList.all fun c => decide (97 ≤ c) && decide (c ≤ 122)
def wordV : V → Bool
  | .str z => isW z
  | _ => false
/-- the things that are asked of -/
inductive Th (H : Hp) : V → Prop
  | str (z : Str) (h : z.length ≤ 100000) : Th H (.str z)
  | non : Th H .non
  | bl (b : Bool) : Th H (.bl b)
  | int (i : Int) : Th H (.int i)
  | lst {a : Addr} {xs : List V} (h : H a = some (.lst xs)) : Th H (.ref a)
  | tup {a : Addr} {xs : List V} (h : H a = some (.tup xs)) : Th H (.ref a)
theorem Th.ex {H H' : Hp} {v : V} (t : Th H v) (e : Ex H H') : Th H' v := by
  cases t with
  | str z h => exact .str z h
  | non => exact .non
  | bl b => exact .bl b
  | int i => exact .int i
  | lst h => exact .lst (e _ _ h)
  | tup h => exact .tup (e _ _ h)
theorem Th.exN {H H' : Hp} {v : V} (t : Th H v) (e : LamX.ExtN H H') : Th H' v := by
  cases t with
  | str z h => exact .str z h
  | non => exact .non
  | bl b => exact .bl b
  | int i => exact .int i
  | lst h => exact .lst (e _ _ h (by intro ps z; cases z))
  | tup h => exact .tup (e _ _ h (by intro ps z; cases z))
/-- a text, or a thing of another kind -/
theorem Th.kinds (K : PySem.W.Frag) {H : Hp} {v : V} (t : Th H v) : (∃ z, v = .str z ∧ z.length ≤ 100000) ∨ (∃ ty, TyX K H v (.type ty) ∧ kitB ty "str" = some false ∧ wordV v = false ∧ ∀ z, v ≠ .str z) := by
  cases t with
  | str z h => exact .inl ⟨z, rfl, h⟩
  | non => exact .inr ⟨_, .base .non, by decide +kernel, rfl, fun z e => by cases e⟩
  | bl b => exact .inr ⟨_, .base (.bl b), by decide +kernel, rfl, fun z e => by cases e⟩
  | int i => exact .inr ⟨_, .base (.int i), by decide +kernel, rfl, fun z e => by cases e⟩
  | lst h => exact .inr ⟨_, .base (.lst h), by decide +kernel, rfl, fun z e => by cases e⟩
  | tup h => exact .inr ⟨_, .base (.tup h), by decide +kernel, rfl, fun z e => by cases e⟩
theorem lt_one (a b : Nat) : decide (([a] : List Nat) < [b]) = decide (a < b) := by
  by_cases h : a < b
  · rw [decide_eq_true h]
    exact decide_eq_true (List.Lex.rel h)
  · rw [decide_eq_false h]
    refine decide_eq_false fun z => ?_
    cases z with
    | rel h' => exact h h'
    | cons h' => cases h'
theorem isW_len {z : Str} (h : isW z = true) : z.length ≤ 12 := by
  unfold isW at h
  rw [Bool.and_eq_true, Bool.and_eq_true, decide_eq_true_eq, decide_eq_true_eq] at h
  exact h.1.2
/-! ### split by a blank, joined again -/
theorem spl_len : ∀ (xs acc : List Nat), (spl [32] 0 acc xs).length ≤ xs.length + 1
  | [], acc => Nat.le_refl _
  | c :: r, acc => by
    rw [spl]
    split
    · have := spl_len r []
      show (spl [32] 0 [] r).length + 1 ≤ (c :: r).length + 1
      rw [List.length_cons]
      omega
    · have := spl_len r (acc ++ [c])
      rw [List.length_cons]
      omega
theorem spl_short : ∀ (xs acc : List Nat), ∀ p ∈ spl [32] 0 acc xs, p.length ≤ acc.length + xs.length
  | [], acc, p, h => by
    rw [spl, List.mem_singleton] at h
    rw [h]
    exact Nat.le_refl _
  | c :: r, acc, p, h => by
    rw [spl] at h
    split at h
    · rcases List.mem_cons.mp h with rfl | h
      · omega
      · have := spl_short r [] p h
        rw [List.length_nil] at this
        rw [List.length_cons]
        omega
    · have := spl_short r (acc ++ [c]) p h
      rw [List.length_append, List.length_cons, List.length_nil] at this
      rw [List.length_cons]
      omega
theorem spl_ne (xs acc : List Nat) : spl [32] 0 acc xs ≠ [] := by
  cases xs with
  | nil => rw [spl]; simp
  | cons c r =>
    rw [spl]
    split
    · simp
    · exact spl_ne r (acc ++ [c])
theorem joinL_cons {S p : List Nat} {q : List (List Nat)} (h : q ≠ []) : joinL S (p :: q) = p ++ (S ++ joinL S q) := by
  cases q with
  | nil => exact absurd rfl h
  | cons x r => rw [joinL]
theorem join_spl : ∀ (xs acc : List Nat), joinL [32] (spl [32] 0 acc xs) = acc ++ xs
  | [], acc => by
    rw [spl, joinL, List.append_nil]
  | c :: r, acc => by
    rw [spl]
    split
    · rename_i h
      have hc : c = 32 := by simpa [pre] using h
      show joinL [32] (acc :: spl [32] 0 [] r) = _
      rw [joinL_cons (spl_ne r []), join_spl r [], hc]
      simp
    · rw [join_spl r (acc ++ [c])]
      simp
theorem split_tl (z : Str) : (Txt.split z " ").map tl = spl [32] 0 [] (tl z) := split_spl z " " (by decide) (kind_ok (by decide +kernel))
theorem join_split (z : Str) : Txt.join " " (Txt.split z " ") = z := by
  refine ext_tl ?_
  rw [join_eq, tl_join, split_tl]
  exact (join_spl (tl z) []).trans (List.nil_append _)
theorem tl_len (z : Str) : (tl z).length = z.length := by
  show z.cps.toList.length = z.cps.size
  simp
theorem split_len (z : Str) : (Txt.split z " ").length ≤ z.length + 1 := by
  have h := spl_len (tl z) []
  rw [← split_tl, List.length_map, tl_len] at h
  exact h
theorem split_short {z p : Str} (h : p ∈ Txt.split z " ") : p.length ≤ z.length := by
  have h2 : tl p ∈ spl [32] 0 [] (tl z) := by
    rw [← split_tl]
    exact List.mem_map_of_mem h
  have h3 := spl_short _ _ _ h2
  rw [tl_len, tl_len, List.length_nil] at h3
  omega
/-- the words of a text, if it were one -/
def piecesOf (z : Str) : List Str := if z.length = 0 then [] else Txt.split z " "
def okP (ps : List Str) : Bool := decide (ps.length ≤ 120) && ps.all isW
theorem pieces_len (z : Str) : (piecesOf z).length ≤ z.length + 1 := by
  unfold piecesOf
  split
  · exact Nat.zero_le _
  · exact split_len z
theorem pieces_short {z p : Str} (h : p ∈ piecesOf z) : p.length ≤ z.length := by
  unfold piecesOf at h
  split at h
  · cases h
  · exact split_short h
theorem join_pieces (z : Str) : Txt.join " " (piecesOf z) = z := by
  unfold piecesOf
  split
  · rename_i h
    refine ext_tl ?_
    rw [join_eq, tl_join]
    have : tl z = [] := List.length_eq_zero_iff.mp (by rw [tl_len]; exact h)
    rw [this]
    rfl
  · exact join_split z
/-! ### lists of texts, compared -/
theorem isW_ok {z : Str} (h : isW z = true) : PyData.canLay0 (.str z) = true := by
  unfold isW at h
  rw [Bool.and_eq_true, List.all_eq_true] at h
  show z.cps.all (fun c => decide (c < 0x110000)) = true
  rw [← Array.all_toList, List.all_eq_true]
  intro c hc
  have := h.2 c hc
  rw [Bool.and_eq_true, decide_eq_true_eq, decide_eq_true_eq] at this
  exact decide_eq_true (by omega)
theorem dpS {K : PySem.W.Frag} {H : Hp} : ∀ zs : List Str, DpAll K H (zs.map V.str) (zs.map PyData.str)
  | [] => .nil
  | z :: r => .cons (.str z) (dpS r)
theorem shapeS {zs : List Str} (h : zs.all isW = true) : SeqAt.shaped (.list (zs.map PyData.str)) = true := by
  have h1 : ∀ zs : List Str, zs.all isW = true → PyData.canLayAll0 (zs.map PyData.str) = true := by
    intro zs
    induction zs with
    | nil => intro _; rfl
    | cons z r ih =>
      intro h
      rw [List.all_cons, Bool.and_eq_true] at h
      rw [List.map_cons, PyData.canLayAll0, isW_ok h.1, ih h.2]
      rfl
  have h2 : ∀ zs : List Str, PyData.depthAll (zs.map PyData.str) = 0 := by
    intro zs
    induction zs with
    | nil => rfl
    | cons z r ih =>
      rw [List.map_cons, PyData.depthAll, ih, PyData.depth]
      rfl
  unfold SeqAt.shaped
  rw [PyData.canLay0, PyData.depth, h1 zs h, h2 zs]
  rfl
theorem eqvS {zs : List Str} (h : zs.all isW = true) : PyData.eqv (.list (zs.map PyData.str)) (.list (zs.map PyData.str)) = true := by
  refine SeqAt.eqv_refl _ ?_
  have := shapeS h
  unfold SeqAt.shaped at this
  rw [Bool.and_eq_true] at this
  exact this.1
theorem no_str {x y : Str} {A B : Prop} (h : x ≠ y) (b : B) : if decide (V.str x = V.str y) = true then A else B := by
  rw [decide_eq_false fun z => h (V.str.inj z)]
  exact b
theorem yes_str {x : Str} {A B : Prop} (a : A) : if decide (V.str x = V.str x) = true then A else B := by
  rw [decide_eq_true rfl]
  exact a
theorem yes_le {c A B : Prop} [Decidable c] (h : c) (a : A) : if decide c = true then A else B := by
  rw [decide_eq_true h]
  exact a
theorem no_le {c A B : Prop} [Decidable c] (h : ¬ c) (b : B) : if decide c = true then A else B := by
  rw [decide_eq_false h]
  exact b
theorem joinL_len (S : List Nat) : ∀ ps : List (List Nat), (joinL S ps).length ≤ (ps.map List.length).sum + ps.length * S.length
  | [] => Nat.zero_le _
  | [p] => by
    rw [joinL, List.map_cons, List.sum_cons, List.map_nil, List.sum_nil]
    omega
  | p :: q :: r => by
    have ih := joinL_len S (q :: r)
    rw [joinL, List.length_append, List.length_append, List.map_cons, List.sum_cons, List.length_cons, Nat.add_mul, Nat.one_mul]
    omega
theorem join_len (y : Str) (ps : List Str) : (Txt.join y ps).length ≤ (ps.map (·.length)).sum + ps.length * y.length := by
  have h := joinL_len (tl y) (ps.map tl)
  rw [← tl_join, ← join_eq, tl_len, tl_len, List.length_map, List.map_map] at h
  rw [show (ps.map (·.length)) = ps.map (List.length ∘ tl) from List.map_congr_left fun p _ => (tl_len p).symm]
  exact h
theorem sum_le {ps : List Str} {n : Nat} (h : ∀ p ∈ ps, p.length ≤ n) : (ps.map (·.length)).sum ≤ ps.length * n := by
  induction ps with
  | nil => simp
  | cons p r ih =>
    have h1 := h p (List.mem_cons_self ..)
    have h2 := ih fun x hx => h x (List.mem_cons_of_mem _ hx)
    rw [List.map_cons, List.sum_cons, List.length_cons, Nat.add_mul, Nat.one_mul]
    omega

/-! ### is_whole, is_within, is_word, are_words -/
/-- a word: one to twelve letters a to z -/
def spWholeI : Sp := fun vs H Q _ => ∃ i : Int, vs = [.int i] ∧ RetV (.bl true) H Q
theorem ok_is_whole (T : TX K mg A FD TK) : FnOk P w K mg base CX0 1 (A 12) (FD 12) ["thing"] spWholeI := by
  refine T.f_is_whole.ok sc_is_whole (fun vs H Q E h => ?_) (fun cdv A' outer s H vs Q E hr h => ?_)
  · obtain ⟨i, rfl, _⟩ := h
    rfl
  · obtain ⟨i, rfl, q⟩ := h
    refine ⟨_, (pss_one (ps_ret (pe_and (pe_callB (isiK (K := K) rfl) (by rfl) T.m_isinstance (by decide +kernel) (pa_cons (pv 0) (pa_cons (pe_bltn (v := .ty "int") (by rfl) T.m_int (by decide +kernel) rfl) pa_nil))) (pe_one (pe_not (pe_callB (isiK (K := K) rfl) (by rfl) T.m_isinstance (by decide +kernel) (pa_cons (pv 0) (pa_cons (pe_bltn (v := .ty "bool") (by rfl) T.m_bool (by decide +kernel) rfl) pa_nil)))))))), ?_⟩
    refine ⟨.int i, rfl, .int i, .ty "int", .type "int", .type "int", true, rfl, .ty _, .base (.int i), kit_ty (by decide +kernel), true, rfl, iteT ?_⟩
    exact ⟨.int i, rfl, .int i, .ty "bool", .type "int", .type "bool", false, rfl, .ty _, .base (.int i), kit_ty (by decide +kernel), false, rfl, ret_v q⟩
def spWithinI : Sp := fun vs H Q _ => ∃ i lo hi : Int, vs = [.int i, .int lo, .int hi] ∧ RetV (.bl (decide (lo ≤ i) && decide (i ≤ hi))) H Q
theorem ok_is_within (T : TX K mg A FD TK) : FnOk P w K mg base CX0 2 (A 13) (FD 13) ["thing", "least", "most"] spWithinI := by
  have G_is_whole := ok_is_whole (P := P) (w := w) (base := base) T
  refine T.f_is_within.ok sc_is_within (fun vs H Q E h => ?_) (fun cdv A' outer s H vs Q E hr h => ?_)
  · obtain ⟨i, lo, hi, rfl, _⟩ := h
    rfl
  · obtain ⟨i, lo, hi, rfl, q⟩ := h
    refine ⟨_, (pss_one (ps_ret (pe_and (pe_call G_is_whole hr (by rfl) T.g_is_whole T.f_is_whole.kp T.b_is_whole .nil pass0 (pa_cons (pv 0) pa_nil)) (pe_one (pe_chain op_le op_le (pv 1) (pv 0) (pv 2)))))), ?_⟩
    refine ⟨.int i, rfl, i, rfl, fun H1 e1 => ⟨true, rfl, iteT ?_⟩⟩
    refine ⟨.int lo, rfl, .int i, rfl, lo, i, rfl, rfl, _, rfl, ite2 (fun c => ?_) (fun c => ?_)⟩
    · refine ⟨.int hi, rfl, i, hi, rfl, rfl, ?_⟩
      have z := q.go e1
      rw [c, Bool.true_and] at z
      exact z
    · have z := q.go e1
      rw [Bool.eq_false_iff.mpr c, Bool.false_and] at z
      exact z
def spWordS : Sp := fun vs H Q _ => ∃ z : Str, vs = [.str z] ∧ z.length ≤ 100000 ∧ RetV (.bl (isW z)) H Q
set_option maxHeartbeats 4000000 in
theorem ok_is_word (T : TX K mg A FD TK) : FnOk P w K mg base CX0 1 (A 42) (FD 42) ["thing"] spWordS := by
  refine T.f_is_word.ok sc_is_word (fun vs H Q E h => ?_) (fun cdv A' outer s H vs Q E hr h => ?_)
  · obtain ⟨z, rfl, _⟩ := h
    rfl
  · obtain ⟨z, rfl, hz, q⟩ := h
    refine ⟨_, (pss_cons (ps_if (PW.pt (pw_or (pt_not (pt_val (pe_callB (isiK (K := K) rfl) (by rfl) T.m_isinstance (by decide +kernel) (pa_cons (pv 0) (pa_cons (pe_bltn (v := .ty "str") (by rfl) T.m_str (by decide +kernel) rfl) pa_nil))))) (pw_or1 (pt_not (pt_chain op_le op_le pe_int (pe_callB call_len_str (by rfl) T.m_len (by decide +kernel) (pa_cons (pv 0) pa_nil)) (pe_glob (v := .int 12) (by rfl) T.c_MOST_LETTERS ⟨_, rfl⟩))))))
      (pss_one (ps_ret pe_bl))
      pss_nil)
      (pss_one (ps_ret (pe_callB (allK (K := K) rfl rfl) (by rfl) T.m_all (by decide +kernel) (pa_cons (pe_lc (own := [("sign", 1)])  rfl sc_is_word.nd (pi_str (pv 0)) (blkOk_by (own := [("sign", 1)]) (N := N_is_word) (sc := defScope (topS 42)) (by decide +kernel)) (fun _ _ _ _ _ => (pg_name (i := 1) sc_is_word.nd rfl (Or.inl rfl))) (fun _ _ _ _ _ => pts_nil) (fun _ _ _ _ _ => (pe_chain op_le_str op_le_str pe_str (pv 1) pe_str))) pa_nil))))), ?_⟩
    refine ⟨.str z, rfl, .str z, .ty "str", .type "str", .type "str", true, rfl, .ty _, .base (.str z), kit_ty (by decide +kernel), true, rfl, iteF ?_⟩
    have no : ¬ (decide ((1 : Int) ≤ (z.length : Int)) = true ∧ decide ((z.length : Int) ≤ 12) = true) → isW z = false := fun h => by
      unfold isW
      have e : z.length = z.cps.size := rfl
      by_cases h1 : 1 ≤ z.cps.size
      · by_cases h2 : z.cps.size ≤ 12
        · exact absurd ⟨decide_eq_true (by omega), decide_eq_true (by omega)⟩ h
        · rw [decide_eq_false h2, Bool.and_false, Bool.false_and]
      · rw [decide_eq_false h1, Bool.false_and, Bool.false_and]
    refine ⟨.str z, rfl, z, rfl, sz hz, 1, (z.length : Int), rfl, rfl, _, rfl, ite2 (fun c1 => ?_) (fun c1 => ?_)⟩
    · refine ⟨(z.length : Int), 12, rfl, rfl, _, rfl, ?_⟩
      by_cases c2 : (z.length : Int) ≤ 12
      · rw [decide_eq_true c2]
        refine iteF ?_
        have e : z.length = z.cps.size := rfl
        have c1' : (1 : Int) ≤ (z.length : Int) := of_decide_eq_true c1
        refine ⟨.str z, rfl, z, rfl, fun D hD => ?_⟩
        refine lc_it (walk_str (z := z)) (fun i H' => Ex H H' ∧ H' D = some (.lst ((z.cps.toList.take i).map fun c => .bl (decide (97 ≤ c) && decide (c ≤ 122))))) ⟨Ex.new hD, upd_same⟩ (fun _ _ _ _ => True.intro) (fun i x H1 H2 hi p y => ?_) (fun H1 p => ?_)
        · obtain ⟨p1, p2⟩ := p
          obtain ⟨rfl, c, hc, rfl⟩ := y
          have g : z.cps.toList[i]? = some c := by
            rw [Array.getElem?_toList]
            exact hc
          have stepE : (z.cps.toList.take (i + 1)).map (fun c => V.bl (decide (97 ≤ c) && decide (c ≤ 122))) = (z.cps.toList.take i).map (fun c => V.bl (decide (97 ≤ c) && decide (c ≤ 122))) ++ [V.bl (decide (97 ≤ c) && decide (c ≤ 122))] := by
            rw [List.take_add_one, g, List.map_append]
            rfl
          have lenE : ((z.cps.toList.take i).map (fun c => V.bl (decide (97 ≤ c) && decide (c ≤ 122)))).length < sizeLine := by
            rw [List.length_map, List.length_take]
            refine sz_lt ?_
            have : z.cps.toList.length = z.cps.size := by simp
            omega
          refine ⟨rfl, .str ⟨#[c]⟩, rfl, _, _, rfl, rfl, _, rfl, ?_⟩
          have e1 : (!decide (((⟨#[c]⟩ : Str).cps.toList) < (Str.ofString "a").cps.toList)) = decide (97 ≤ c) := by
            show (!decide ([c] < [97])) = _
            rw [lt_one]
            by_cases h : 97 ≤ c
            · rw [decide_eq_true h, decide_eq_false (by omega)]
              rfl
            · rw [decide_eq_false h, decide_eq_true (by omega)]
              rfl
          have e2 : (!decide ((Str.ofString "z").cps.toList < (⟨#[c]⟩ : Str).cps.toList)) = decide (c ≤ 122) := by
            show (!decide ([122] < [c])) = _
            rw [lt_one]
            by_cases h : c ≤ 122
            · rw [decide_eq_true h, decide_eq_false (by omega)]
              rfl
            · rw [decide_eq_false h, decide_eq_true (by omega)]
              rfl
          refine ite2 (fun b1 => ?_) (fun b1 => ?_)
          · refine ⟨_, _, rfl, rfl, _, p2, lenE, Ex.mut p1 hD, ?_⟩
            rw [upd_same, stepE, ← e1, ← e2, b1, Bool.true_and]
          · refine ⟨_, p2, lenE, Ex.mut p1 hD, ?_⟩
            rw [upd_same, stepE, ← e1, Bool.eq_false_iff.mpr b1, Bool.false_and]
        · obtain ⟨p1, p2⟩ := p
          refine ⟨D, (z.cps.toList.map fun c => (decide (97 ≤ c) && decide (c ≤ 122))), rfl, SqL.of ?_, ?_⟩
          · rw [p2, List.take_of_length_le (by simp), List.map_map]
            rfl
          · have v := q.go p1
            have ev : isW z = ((z.cps.toList.map fun c => (decide (97 ≤ c) && decide (c ≤ 122))).all id) := by
              unfold isW
              rw [decide_eq_true (by omega), decide_eq_true (by omega), List.all_map]
              rfl
            rw [ev] at v
            exact v
      · rw [decide_eq_false c2]
        refine iteT ?_
        have v := ret_v q
        rw [no (fun h => c2 (of_decide_eq_true h.2))] at v
        exact v
    · have v := ret_v q
      rw [no (fun h => c1 h.1)] at v
      exact ⟨false, rfl, v⟩

/-! ### _law_kinds -/
def nine : List Str := ["a", "b", "ab", "ba", "aa", "bab", "abcdefghijkl", "z", "aab"]
theorem nineW : (nine ++ nine).all isW = true := by decide +kernel
theorem nine_cut (j k : Nat) (hj : j < 9) (hk : k < 5) : ∃ zs : List Str, cutV (nine.map V.str ++ nine.map V.str) (some (j : Int)) (some ((j : Int) + 1 + (k : Int))) = zs.map V.str ∧ 1 ≤ zs.length ∧ zs.length ≤ 5 ∧ zs.all isW = true := by
  refine ⟨((nine ++ nine).drop j).take (1 + k), ?_, ?_, ?_, ?_⟩
  · unfold cutV
    rw [show ((j : Int) + 1 + (k : Int)) = ((j + 1 + k : Nat) : Int) by omega, HT.sIx_nat, HT.sIx_nat, ← List.map_append, List.length_map]
    rw [show (nine ++ nine).length = 18 from rfl, show min j 18 = j by omega, show min (j + 1 + k) 18 - j = 1 + k by omega, List.map_take, List.map_drop]
  · rw [List.length_take, List.length_drop, show (nine ++ nine).length = 18 from rfl]
    omega
  · rw [List.length_take, List.length_drop, show (nine ++ nine).length = 18 from rfl]
    omega
  · rw [List.all_eq_true]
    intro x hx
    exact List.all_eq_true.mp nineW x (List.mem_of_mem_drop (List.mem_of_mem_take hx))
/-- a list of one to five words at a -/
def Kn (H : Hp) (a : Addr) (zs : List Str) : Prop := H a = some (.lst (zs.map V.str)) ∧ 1 ≤ zs.length ∧ zs.length ≤ 5 ∧ zs.all isW = true
theorem Kn.ne {H : Hp} {a p : Addr} {zs : List Str} {c : Nat} (h : Kn H a zs) (hp : Pl H p c) : a ≠ p := by
  obtain ⟨g, b, k, h1, _⟩ := hp
  obtain ⟨h2, h3, _⟩ := h
  refine ne_of h2 h1 fun z => ?_
  cases zs with
  | nil => simp at h3
  | cons x r =>
    injection z with z
    rw [List.map_cons] at z
    injection z with z _
    cases z
theorem Kn.fx {H H' : Hp} {a p : Addr} {zs : List Str} {c : Nat} (h : Kn H a zs) (hp : Pl H p c) (f : Fx p H H') : Kn H' a zs := ⟨f a _ (h.ne hp) h.1, h.2⟩
theorem Kn.ex {H H' : Hp} {a : Addr} {zs : List Str} (h : Kn H a zs) (e : Ex H H') : Kn H' a zs := ⟨e _ _ h.1, h.2⟩
def spKinds : Sp := fun vs H Q _ => ∃ (p : Addr) (c : Nat), vs = [.ref p] ∧ Pl H p c ∧ c < 900000 ∧ ∀ (l : Addr) (zs : List Str) (H' : Hp), H l = none → Kn H' l zs → Pl H' p (c + 2) → Fx p H H' → Q (.ref l) H'
set_option maxHeartbeats 8000000 in
theorem ok_l_kinds (T : TX K mg A FD TK) : FnOk P w K mg base CX0 2 (A 56) (FD 56) ["_law_pool_here"] spKinds := by
  have G_l_take := ok_l_take (P := P) (w := w) (base := base) T
  refine T.f_l_kinds.ok (k := 1) sc_l_kinds (fun vs H Q E h => ?_) (fun cdv A' outer s H vs Q E hr h => ?_)
  · obtain ⟨p, c, rfl, _⟩ := h
    rfl
  · obtain ⟨p, c, rfl, hp, hc, q⟩ := h
    refine ⟨_, (pss_cons (ps_set (i := 1) sc_l_kinds.nd rfl (.inl rfl) (pe_lst (pa_cons pe_str (pa_cons pe_str (pa_cons pe_str (pa_cons pe_str (pa_cons pe_str (pa_cons pe_str (pa_cons pe_str (pa_cons pe_str (pa_cons pe_str pa_nil)))))))))))
      (pss_cons (ps_set (i := 2) sc_l_kinds.nd rfl (.inl rfl) (pe_call G_l_take hr (by rfl) T.g_l_take T.f_l_take.kp T.b_l_take .nil pass0 (pa_cons (pv 0) (pa_cons pe_int pa_nil))))
      (pss_one (ps_ret (pe_slice (slLK (K := K) rfl) (pe_op op_cat (pv 1) (pv 1)) (po_some (pv 2)) (po_some (pe_op op_add (pe_op op_add (pv 2) pe_int) (pe_call G_l_take hr (by rfl) T.g_l_take T.f_l_take.kp T.b_l_take .nil pass0 (pa_cons (pv 0) (pa_cons pe_int pa_nil)))))))))), ?_⟩
    refine ⟨by show 9 ≤ sizeLine; decide, fun s0 n0 => ?_⟩
    have e1 : Ex H (upd H s0 (.lst (nine.map V.str))) := Ex.new n0
    have hs1 : (upd H s0 (.lst (nine.map V.str))) s0 = some (.lst (nine.map V.str)) := upd_same
    have nsp : s0 ≠ p := by
      obtain ⟨xs, hx⟩ := hp.some
      exact (ne_of_none hx n0).symm
    refine ⟨.ref p, rfl, p, 9, c, rfl, hp.ex e1, by decide, by decide, by omega, fun d H2 d0 d1 hp2 f2 => ?_⟩
    have hs2 : H2 s0 = some (.lst (nine.map V.str)) := f2 _ _ nsp hs1
    refine ⟨.ref s0, rfl, .ref s0, rfl, s0, s0, _, _, rfl, rfl, hs2, hs2, by show 18 ≤ sizeLine; decide, fun r nr => ?_⟩
    have e3 : Ex H2 (upd H2 r (.lst (nine.map V.str ++ nine.map V.str))) := Ex.new nr
    have hr3 : (upd H2 r (.lst (nine.map V.str ++ nine.map V.str))) r = some (.lst (nine.map V.str ++ nine.map V.str)) := upd_same
    have nrp : r ≠ p := by
      obtain ⟨xs, hx⟩ := hp2.some
      exact (ne_of_none hx nr).symm
    refine ⟨.int d, rfl, d, rfl, .int d, rfl, d, 1, rfl, rfl, .ref p, rfl, p, 5, c + 1, rfl, hp2.ex e3, by decide, by decide, by omega, fun k H4 k0 k1 hp4 f4 => ?_⟩
    refine ⟨d + 1, k, rfl, rfl, d + 1 + k, rfl, r, _, rfl, SqL.of (f4 _ _ nrp hr3), fun l nl => ?_⟩
    obtain ⟨j, rfl⟩ := Int.eq_ofNat_of_zero_le d0
    obtain ⟨i, rfl⟩ := Int.eq_ofNat_of_zero_le k0
    obtain ⟨zs, ez, l1, l5, hw⟩ := nine_cut j i (by omega) (by omega)
    have fr : Fx p H H4 := ((Fx.ex e1).trans f2).trans ((Fx.ex e3).trans f4)
    refine q l zs _ (fx_free fr hp4 nl) ⟨?_, l1, l5, hw⟩ (hp4.ex (Ex.new nl)) (fr.trans (Fx.ex (Ex.new nl)))
    rw [upd_same, ez]

/-! ### codes of numbers: the mathematics -/
theorem ip_mulI {X : Cx} : PIp X .Mult (fun x y H Q => ∃ i j, x = .int i ∧ y = .int j ∧ CMul i j ∧ Q (.int (i * j)) H) := by
  intro pins s σ H x y v u Q I r1 r2 h
  obtain ⟨i, j, e1, e2, hc, q⟩ := h
  subst e1; subst e2
  obtain ⟨t, rfl⟩ := r1
  obtain ⟨t', rfl⟩ := r2
  exact imul_int ⟨.int _, H, I.tok _, ⟨_, rfl⟩, q⟩ hc.ok
theorem tlen (z : Str) : (tl z).length = z.length := by
  simp [tl, Str.length]
def one (c : Nat) : Str := ⟨#[c]⟩
def txt (l : List Nat) : Str := ⟨l.toArray⟩
theorem tl_txt (l : List Nat) : tl (txt l) = l := rfl
theorem txt_len (l : List Nat) : (txt l).length = l.length := List.size_toArray
theorem txt_tl (z : Str) : txt (tl z) = z := ext_tl rfl
theorem joinL_no : ∀ ps : List (List Nat), joinL [] ps = ps.flatten
  | [] => rfl
  | [p] => by simp [joinL]
  | p :: q :: r => by
    rw [joinL, joinL_no (q :: r)]
    rfl
theorem join_txts (ls : List (List Nat)) : Txt.join "" (ls.map txt) = txt ls.flatten := by
  refine ext_tl ?_
  rw [join_eq, tl_join, List.map_map]
  refine (joinL_no _).trans ?_
  rw [show (tl ∘ txt) = id from rfl, List.map_id]
  rfl
theorem flat_ones : ∀ cs : List Nat, (cs.map fun c => [c]).flatten = cs
  | [] => rfl
  | c :: r => by rw [List.map_cons, List.flatten_cons, flat_ones r]; rfl
theorem join_ones (cs : List Nat) : Txt.join "" (cs.map one) = txt cs := by
  have := join_txts (cs.map fun c => [c])
  rw [List.map_map, flat_ones] at this
  exact this
theorem sum_txts (ls : List (List Nat)) : ((ls.map txt).map (·.length)).sum = ls.flatten.length := by
  induction ls with
  | nil => rfl
  | cons l r ih =>
    rw [List.map_cons, List.map_cons, List.sum_cons, ih, List.flatten_cons, List.length_append]
    rfl
theorem sum_ones (cs : List Nat) : ((cs.map one).map (·.length)).sum = cs.length := by
  induction cs with
  | nil => rfl
  | cons c r ih =>
    rw [List.map_cons, List.map_cons, List.sum_cons, ih, List.length_cons]
    show 1 + r.length = r.length + 1
    omega
/-- the code of a number -/
def codeN (n : Nat) : List Nat := if n < 16 then [97 + n] else (65 + n % 16) :: codeN (n / 16)
termination_by n
decreasing_by omega
theorem codeN_low {n : Nat} (h : n < 16) : codeN n = [97 + n] := by rw [codeN, if_pos h]
theorem codeN_up {n : Nat} (h : ¬ n < 16) : codeN n = (65 + n % 16) :: codeN (n / 16) := by rw [codeN, if_neg h]
theorem codeN_len : ∀ (k n : Nat), n < 16 ^ (k + 1) → (codeN n).length ≤ k + 1
  | 0, n, h => by
    rw [codeN_low (by simpa using h)]
    exact Nat.le_refl _
  | k + 1, n, h => by
    by_cases l : n < 16
    · rw [codeN_low l]
      simp
    · rw [codeN_up l, List.length_cons]
      have := codeN_len k (n / 16) (Nat.div_lt_of_lt_mul (by rw [Nat.mul_comm, ← Nat.pow_succ]; exact h))
      omega
theorem codeN_pos (n : Nat) : 1 ≤ (codeN n).length := by
  by_cases l : n < 16
  · rw [codeN_low l]
    exact Nat.le_refl _
  · rw [codeN_up l]
    simp
def upS : Str := "ABCDEFGHIJKLMNOP"
def loS : Str := "abcdefghijklmnop"
theorem up_at (d : Nat) (h : d < 16) : atI upS.cps.toList (d : Int) = some (65 + d) := by
  refine atI_nat ?_
  have k : ∀ d, d < 16 → upS.cps.toList[d]? = some (65 + d) := by decide +kernel
  exact k d h
theorem lo_at (d : Nat) (h : d < 16) : atI loS.cps.toList (d : Int) = some (97 + d) := by
  refine atI_nat ?_
  have k : ∀ d, d < 16 → loS.cps.toList[d]? = some (97 + d) := by decide +kernel
  exact k d h
theorem lo_find (d : Nat) (h : d < 16) : Txt.find loS (one (97 + d)) = (d : Int) := by
  have k : ∀ d, d < 16 → Txt.find loS (one (97 + d)) = (d : Int) := by decide +kernel
  exact k d h
theorem lo_none (d : Nat) (h : d < 16) : Txt.find loS (one (65 + d)) = -1 := by
  have k : ∀ d, d < 16 → Txt.find loS (one (65 + d)) = -1 := by decide +kernel
  exact k d h
theorem up_find (d : Nat) (h : d < 16) : Txt.find upS (one (65 + d)) = (d : Int) := by
  have k : ∀ d, d < 16 → Txt.find upS (one (65 + d)) = (d : Int) := by decide +kernel
  exact k d h

/-! ### code, code_all -/
def spWhl : Sp := fun vs H Q _ => ∃ z : Int, vs = [.int z] ∧ Q (.bl true) H
set_option maxHeartbeats 4000000 in
theorem ok_whl (T : TX K mg A FD TK) : FnOk P w K mg base CX0 1 (A 12) (FD 12) ["thing"] spWhl := by
  refine T.f_is_whole.ok sc_is_whole (fun vs H Q E h => ?_) (fun cdv A' outer s H vs Q E hr h => ?_)
  · obtain ⟨z, rfl, _⟩ := h
    rfl
  · obtain ⟨i, rfl, q⟩ := h
    refine ⟨_, (pss_one (ps_ret (pe_and (pe_callB (isiK (K := K) rfl) (by rfl) T.m_isinstance (by decide +kernel) (pa_cons (pv 0) (pa_cons (pe_bltn (v := .ty "int") (by rfl) T.m_int (by decide +kernel) rfl) pa_nil))) (pe_one (pe_not (pe_callB (isiK (K := K) rfl) (by rfl) T.m_isinstance (by decide +kernel) (pa_cons (pv 0) (pa_cons (pe_bltn (v := .ty "bool") (by rfl) T.m_bool (by decide +kernel) rfl) pa_nil)))))))), ?_⟩
    refine ⟨.int i, rfl, .int i, .ty "int", .type "int", .type "int", true, rfl, .ty _, .base (.int i), kit_ty (by decide +kernel), true, rfl, ?_⟩
    exact ⟨.int i, rfl, .int i, .ty "bool", .type "int", .type "bool", false, rfl, .ty _, .base (.int i), kit_ty (by decide +kernel), false, rfl, q⟩
def spCnt : Sp := fun vs H Q _ => ∃ n : Nat, vs = [.int (n : Int)] ∧ Q (.bl true) H
set_option maxHeartbeats 4000000 in
theorem ok_cnt (T : TX K mg A FD TK) : FnOk P w K mg base CX0 2 (A 17) (FD 17) ["thing"] spCnt := by
  have G_is_whole := ok_whl (P := P) (w := w) (base := base) T
  refine T.f_is_count.ok (k := 1) sc_is_count (fun vs H Q E h => ?_) (fun cdv A' outer s H vs Q E hr h => ?_)
  · obtain ⟨n, rfl, _⟩ := h
    rfl
  · obtain ⟨n, rfl, q⟩ := h
    refine ⟨_, (pss_one (ps_ret (pe_and (pe_call G_is_whole hr (by rfl) T.g_is_whole T.f_is_whole.kp T.b_is_whole .nil pass0 (pa_cons (pv 0) pa_nil)) (pe_one (pe_cmpR op_ge (pv 0) pe_int (nomark _)))))), ?_⟩
    refine ⟨.int n, rfl, n, rfl, true, rfl, .int n, rfl, n, 0, rfl, rfl, ?_⟩
    show Q (.bl (decide ((0 : Int) ≤ (n : Int)))) H
    rw [decide_eq_true (show (0 : Int) ≤ (n : Int) by omega)]
    exact q
def muN : L2.St → Hp → Nat := fun σ _ => match σ with
  | some (.int r) :: _ => r.toNat
  | _ => 0
def spCode : Sp := fun vs H Q _ => ∃ n : Nat, vs = [.int (n : Int)] ∧ n < 16 ^ 100 ∧ ∀ H', Ex H H' → Q (.str (txt (codeN n))) H'
set_option maxHeartbeats 4000000 in
theorem ok_code (T : TX K mg A FD TK) : FnOk P w K mg base CX0 3 (A 18) (FD 18) ["number"] spCode := by
  have G_is_count := ok_cnt (P := P) (w := w) (base := base) T
  refine T.f_code.ok (k := 2) sc_code (fun vs H Q E h => ?_) (fun cdv A' outer s H vs Q E hr h => ?_)
  · obtain ⟨n, rfl, _⟩ := h
    rfl
  · obtain ⟨n, rfl, hn, q⟩ := h
    have hl := codeN_len 99 n hn
    refine ⟨_, (pss_cons (ps_if (pt_not (pt_val (pe_call G_is_count hr (by rfl) T.g_is_count T.f_is_count.kp T.b_is_count .nil pass0 (pa_cons (pv 0) pa_nil))))
      (pss_one ps_never)
      pss_nil)
      (pss_cons (ps_set (i := 1) sc_code.nd rfl (.inl rfl) (pe_lst pa_nil))
      (pss_cons (ps_while PassesOwn.never (pt_cmpR op_ge (pv 0) pe_int (nomark _))
      (pss_cons (ps_asg (pe_callB call_divmod (by rfl) T.m_divmod (by decide +kernel) (pa_cons (pv 0) (pa_cons pe_int pa_nil))) (pg_tup rfl (pgs_cons (pg_name (i := 0) sc_code.nd rfl (.inl rfl)) (pgs_cons (pg_name (i := 2) sc_code.nd rfl (.inl rfl)) pgs_nil))))
      (pss_one (ps_expr (pe_bm PySem.F.plainAttrs_list PySem.F.slot_list_append PySem.F.type_list_append mt_append (pv 1) (pa_cons (pe_ix ix_str (pe_glob (v := .str "ABCDEFGHIJKLMNOP") (by rfl) T.c_DIGITS_AHEAD ⟨_, rfl⟩) (pv 2) (fun _ _ => rfl)) pa_nil))))))
      (pss_cons (ps_expr (pe_bm PySem.F.plainAttrs_list PySem.F.slot_list_append PySem.F.type_list_append mt_append (pv 1) (pa_cons (pe_ix ix_str (pe_glob (v := .str "abcdefghijklmnop") (by rfl) T.c_LAST_DIGITS ⟨_, rfl⟩) (pv 0) (fun _ _ => rfl)) pa_nil)))
      (pss_one (ps_ret (pe_join pe_str (pv 1)))))))), ?_⟩
    refine ⟨.int n, rfl, n, rfl, _, rfl, ite2 (fun c => absurd c (by decide)) (fun _ => ?_)⟩
    refine ⟨Nat.zero_le _, fun D nD => ?_⟩
    refine while_by (fun σ' H' => ∃ (m : Nat) (cs : List Nat) (o : Option V), σ' = [some (.int (m : Int)), some (.ref D), o] ∧ H' D = some (.lst ((cs.map one).map V.str)) ∧ cs ++ codeN m = codeN n ∧ Ex H H') muN ⟨n, [], none, rfl, upd_same, rfl, Ex.new nD⟩ (fun σ' H' p => ?_) (fun σ' H' Q Q' m h => ?_)
    · obtain ⟨m, cs, o, rfl, hD, hc, x⟩ := p
      have lc : cs.length ≤ 100 := by
        have := congrArg List.length hc
        rw [List.length_append] at this
        omega
      refine ⟨.int m, rfl, m, 16, rfl, rfl, _, rfl, ite2 (fun e => ?_) (fun e => ?_)⟩
      · have e0 : (16 : Int) ≤ (m : Int) := of_decide_eq_true e
        refine ⟨.int m, rfl, m, 16, rfl, ⟨by decide, by decide⟩, fun t nt => ?_⟩
        have x2 := x.trans (Ex.new (o := .tup [.int ((m : Int) / 16), .int ((m : Int) % 16)]) nt)
        have hD2 := (Ex.new (o := .tup [.int ((m : Int) / 16), .int ((m : Int) % 16)]) nt) _ _ hD
        have ht := upd_same (H := H') (a := t) (o := .tup [.int ((m : Int) / 16), .int ((m : Int) % 16)])
        generalize upd H' t (.tup [.int ((m : Int) / 16), .int ((m : Int) % 16)]) = H2 at x2 hD2 ht ⊢
        have em : (m : Int) % 16 = ((m % 16 : Nat) : Int) := by omega
        have ed : (m : Int) / 16 = ((m / 16 : Nat) : Int) := by omega
        rw [em, ed] at ht
        have m16 : m % 16 < 16 := Nat.mod_lt _ (by decide)
        have ul : upS.length = 16 := by decide +kernel
        refine ⟨t, _, rfl, SqT.of ht, rfl, _, _, rfl, _, _, rfl, rfl, .ref D, rfl, .inl ⟨rfl, _, SqL.of hD2⟩, .int ((m % 16 : Nat) : Int), rfl, upS, _, _, rfl, rfl, sz (by omega), up_at _ m16, D, _, _, rfl, rfl, hD2, ?_, ?_, ?_⟩
        · rw [List.length_map, List.length_map]
          exact sz_lt (by omega)
        · refine ⟨m / 16, cs ++ [65 + m % 16], _, rfl, ?_, ?_, Ex.mut x2 nD⟩
          · rw [upd_same, List.map_append, List.map_append]
            rfl
          · rw [List.append_assoc, ← hc, codeN_up (n := m) (by omega)]
            rfl
        · show (((m / 16 : Nat) : Int)).toNat < (m : Int).toNat
          omega
      · have e0 : ¬ (16 : Int) ≤ (m : Int) := fun z => e (decide_eq_true z)
        have m16 : m < 16 := by omega
        have ll : loS.length = 16 := by decide +kernel
        refine ⟨.ref D, rfl, .inl ⟨rfl, _, SqL.of hD⟩, .int (m : Int), rfl, loS, _, _, rfl, rfl, sz (by omega), lo_at _ m16, D, _, _, rfl, rfl, hD, ?_, ?_⟩
        · rw [List.length_map, List.length_map]
          exact sz_lt (by omega)
        have hf : cs ++ [97 + m] = codeN n := by rw [← hc, codeN_low m16]
        have hD2 : (upd H' D (.lst ((cs.map one).map V.str ++ [.str ⟨#[97 + m]⟩]))) D = some (.lst (((codeN n).map one).map V.str)) := by
          rw [upd_same, ← hf, List.map_append, List.map_append]
          rfl
        refine ⟨⟨_, rfl⟩, .ref D, rfl, "", D, (codeN n).map one, rfl, rfl, .inl (SqL.of hD2), ?_, ?_⟩
        · rw [sum_ones]
          show _ + _ * 0 ≤ 16777216
          omega
        · rw [join_ones]
          exact q _ (Ex.mut x nD)
    · obtain ⟨v, hv, i, j, e1, e2, k, hk, hq⟩ := h
      exact ⟨v, hv, i, j, e1, e2, k, hk, m _ _ hq⟩

/-! ### code_all; rising numbers and their gaps -/
def nvs (ns : List Nat) : List V := ns.map fun (n : Nat) => V.int (n : Int)
theorem nvs_len (ns : List Nat) : (nvs ns).length = ns.length := List.length_map ..
theorem nvs_at {ns : List Nat} {i : Nat} {x : V} (g : (nvs ns)[i]? = some x) : ∃ n, ns[i]? = some n ∧ x = .int (n : Int) ∧ i < ns.length := by
  unfold nvs at g
  rw [List.getElem?_map] at g
  cases e : ns[i]? with
  | none => rw [e] at g; cases g
  | some n =>
    rw [e] at g
    cases g
    exact ⟨n, rfl, rfl, (List.getElem?_eq_some_iff.mp e).1⟩
theorem nvs_snoc (ns : List Nat) (n : Nat) : nvs (ns ++ [n]) = nvs ns ++ [.int (n : Int)] := by
  unfold nvs
  rw [List.map_append]
  rfl
theorem take_up {α : Type} {l : List α} {i : Nat} {x : α} (g : l[i]? = some x) : l.take (i + 1) = l.take i ++ [x] := by
  rw [List.take_add_one, g]
  rfl
def codeL (ns : List Nat) : List Nat := (ns.map codeN).flatten
theorem codeL_len {ns : List Nat} (h : ∀ n ∈ ns, n < 16 ^ 100) : (codeL ns).length ≤ ns.length * 100 := by
  induction ns with
  | nil => exact Nat.zero_le _
  | cons n r ih =>
    have a := codeN_len 99 n (h n (List.mem_cons_self ..))
    have b := ih fun m hm => h m (List.mem_cons_of_mem _ hm)
    unfold codeL at b ⊢
    rw [List.map_cons, List.flatten_cons, List.length_append, List.length_cons, Nat.add_mul]
    omega
def spCodeAll (K : PySem.W.Frag) : Sp := fun vs H Q _ => ∃ (a : Addr) (ns : List Nat), vs = [.ref a] ∧ H a = some (.lst (nvs ns)) ∧ ns.length ≤ 900 ∧ (∀ n ∈ ns, n < 16 ^ 100) ∧ ∀ H', Ex H H' → Q (.str (txt (codeL ns))) H'
set_option maxHeartbeats 4000000 in
theorem ok_code_all (T : TX K mg A FD TK) : FnOk P w K mg base CX0 4 (A 19) (FD 19) ["numbers"] (spCodeAll K) := by
  have G_is_count := (ok_cnt (P := P) (w := w) (base := base) T).mono (show 2 ≤ 3 by decide)
  have G_code := ok_code (P := P) (w := w) (base := base) T
  refine T.f_code_all.ok (k := 3) sc_code_all (fun vs H Q E h => ?_) (fun cdv A' outer s H vs Q E hr h => ?_)
  · obtain ⟨a, ns, rfl, _⟩ := h
    rfl
  · obtain ⟨a, ns, rfl, hS0, hn, hb, q⟩ := h
    have hS : SqL K H a (nvs ns) := SqL.of hS0
    refine ⟨_, (pss_cons (ps_if (pt_not (pt_val (pe_callB (isiK (K := K) rfl) (by rfl) T.m_isinstance (by decide +kernel) (pa_cons (pv 0) (pa_cons (pe_bltn (v := .ty "list") (by rfl) T.m_list (by decide +kernel) rfl) pa_nil)))))
      (pss_one ps_never)
      pss_nil)
      (pss_cons (ps_for PassesOwn.never rfl (pi_enum (by rfl) T.m_enumerate (pa_cons (pv 0) pa_nil)) (pg_tup rfl (pgs_cons (pg_name (i := 1) sc_code_all.nd rfl (.inl rfl)) (pgs_cons (pg_name (i := 2) sc_code_all.nd rfl (.inl rfl)) pgs_nil)))
      (pss_one (ps_if (pt_not (pt_val (pe_call G_is_count hr (by rfl) T.g_is_count T.f_is_count.kp T.b_is_count .nil pass0 (pa_cons (pv 2) pa_nil))))
      (pss_one ps_never)
      pss_nil)))
      (pss_one (ps_ret (pe_join pe_str (pe_lc (own := [("number", 2)])  rfl sc_code_all.nd (piLK (K := K) rfl (pv 0)) (blkOk_by (own := [("number", 2)]) (N := N_code_all) (sc := defScope (topS 19)) (by decide +kernel)) (fun _ _ _ _ _ => (pg_name (i := 2) sc_code_all.nd rfl (Or.inl rfl))) (fun _ _ _ _ _ => pts_nil) (fun _ _ _ _ _ => (pe_call G_code hr (by rfl) T.g_code T.f_code.kp T.b_code .nil pass0 (pa_cons (pv 2) pa_nil))))))))), ?_⟩
    refine ⟨.ref a, rfl, .ref a, .ty "list", .type "list", .type "list", true, rfl, .ty _, .base (.lst hS0), kit_ty (by decide +kernel), _, rfl, ite2 (fun c => absurd c (by decide)) (fun _ => ?_)⟩
    refine ⟨.ref a, rfl, a, _, rfl, hS, ?_⟩
    refine for_it (walk_enum (K := K) (a := a) (xs := nvs ns)) (fun i σ' H' => (∃ o1 o2, σ' = [some (.ref a), o1, o2]) ∧ Ex H H') ⟨⟨none, none, rfl⟩, Ex.refl H⟩ (fun i σ' H' _ p => ex_l p.2 hS) (fun i x σ' H1 H2 hi p y => ?_) (fun σ' H1 p => ?_)
    · obtain ⟨⟨o1, o2, rfl⟩, x1⟩ := p
      obtain ⟨Tt, u1, u2, rfl, nT, rfl, g1, g2⟩ := y
      cases g1
      obtain ⟨n, gn, rfl, _⟩ := nvs_at g2
      refine ⟨Tt, _, rfl, SqT.of upd_same, rfl, _, _, rfl, _, _, rfl, rfl, .int (n : Int), rfl, n, rfl, _, rfl, ite2 (fun c => absurd c (by decide)) (fun _ => ⟨⟨_, _, rfl⟩, x1.trans (Ex.new nT)⟩)⟩
    · obtain ⟨⟨o1, o2, rfl⟩, x1⟩ := p
      refine ⟨⟨_, rfl⟩, .ref a, rfl, a, rfl, ⟨_, ex_l x1 hS⟩, fun D hD => ?_⟩
      refine lc_list (K := K) (xs := nvs ns) (fun i H' => Ex H1 H' ∧ H' D = some (.lst ((((ns.take i).map codeN).map txt).map V.str))) ⟨Ex.new hD, upd_same⟩ (fun i H' _ p => ex_l p.1 (ex_l x1 hS)) (fun i x H2 hx p => ?_) (fun H2 p => ?_)
      · obtain ⟨p1, p2⟩ := p
        obtain ⟨n, gn, rfl, il⟩ := nvs_at hx
        refine ⟨rfl, .int (n : Int), rfl, n, rfl, hb n (List.mem_of_getElem? gn), fun H3 e3 => ⟨_, e3 _ _ p2, ?_, Ex.mut (p1.trans e3) hD, ?_⟩⟩
        · rw [List.length_map, List.length_map, List.length_map, List.length_take]
          exact sz_lt (by omega)
        · rw [upd_same, take_up gn, List.map_append, List.map_append, List.map_append]
          rfl
      · obtain ⟨p1, p2⟩ := p
        rw [nvs_len, List.take_length] at p2
        refine ⟨"", D, (ns.map codeN).map txt, rfl, rfl, .inl (SqL.of p2), ?_, ?_⟩
        · rw [sum_txts]
          have : (ns.map codeN).flatten.length ≤ ns.length * 100 := codeL_len hb
          show _ + _ * 0 ≤ 16777216
          omega
        · rw [join_txts]
          exact q _ (x1.trans p1)
/-- the number ahead of the i-th -/
def ah (xs : List Nat) : Nat → Int
  | 0 => -1
  | i + 1 => ((xs.getD i 0 : Nat) : Int)
def Ris (xs : List Nat) : Prop := ∀ (i x : Nat), xs[i]? = some x → ah xs i < (x : Int)
def gapI (xs : List Nat) (j : Nat) : Nat := (((xs.getD j 0 : Nat) : Int) - ah xs j - 1).toNat
def gapsL (xs : List Nat) : List Nat := (List.range xs.length).map (gapI xs)
theorem getD_at {xs : List Nat} {i x : Nat} (g : xs[i]? = some x) : xs.getD i 0 = x := by
  rw [List.getD_eq_getElem?_getD, g]
  rfl
theorem gap_is {xs : List Nat} (h : Ris xs) {i x : Nat} (g : xs[i]? = some x) : (x : Int) - ah xs i - 1 = ((gapI xs i : Nat) : Int) := by
  have := h i x g
  unfold gapI
  rw [getD_at g]
  omega
def spGaps (K : PySem.W.Frag) : Sp := fun vs H Q _ => ∃ (a : Addr) (xs : List Nat), vs = [.ref a] ∧ (SqL K H a (nvs xs) ∨ SqT K H a (nvs xs)) ∧ Ris xs ∧ xs.length ≤ 900 ∧ ∀ (l : Addr) (H' : Hp), H l = none → Ex H H' → H' l = some (.lst (nvs (gapsL xs))) → Q (.ref l) H'
set_option maxHeartbeats 4000000 in
theorem ok_gaps_of (T : TX K mg A FD TK) : FnOk P w K mg base CX0 1 (A 26) (FD 26) ["numbers"] (spGaps K) := by
  refine T.f_gaps_of.ok sc_gaps_of (fun vs H Q E h => ?_) (fun cdv A' outer s H vs Q E hr h => ?_)
  · obtain ⟨a, xs, rfl, _⟩ := h
    rfl
  · obtain ⟨a, xs, rfl, hS, hR, hn, q⟩ := h
    refine ⟨_, (pss_cons (ps_set (i := 1) sc_gaps_of.nd rfl (.inl rfl) (pe_lst pa_nil))
      (pss_cons (ps_set (i := 2) sc_gaps_of.nd rfl (.inl rfl) (pe_un un_neg pe_int))
      (pss_cons (ps_for PassesOwn.never rfl (piOr (piLK (K := K) rfl (pv 0)) (piTK (K := K) rfl (pv 0))) (pg_name (i := 3) sc_gaps_of.nd rfl (.inl rfl))
      (pss_cons (ps_expr (pe_bm PySem.F.plainAttrs_list PySem.F.slot_list_append PySem.F.type_list_append mt_append (pv 1) (pa_cons (pe_op op_sub (pe_op op_sub (pv 3) (pv 2)) pe_int) pa_nil)))
      (pss_one (ps_set (i := 2) sc_gaps_of.nd rfl (.inl rfl) (pv 3)))))
      (pss_one (ps_ret (pv 1)))))), ?_⟩
    refine ⟨Nat.zero_le _, fun D nD => ⟨1, rfl, ?_⟩⟩
    have e1 : Ex H (upd H D (.lst [])) := Ex.new nD
    rcases hS with hS | hS
    · refine .inl ⟨.ref a, rfl, a, rfl, ⟨_, ex_l e1 hS⟩, ?_⟩
      refine for_list (K := K) (xs := nvs xs) (fun i σ' H' => (∃ o, σ' = [some (.ref a), some (.ref D), some (.int (ah xs i)), o]) ∧ H' D = some (.lst (nvs ((List.range i).map (gapI xs)))) ∧ Ex H H') ⟨⟨none, rfl⟩, upd_same, e1⟩ (fun i σ' H' _ p => ex_l p.2.2 hS) (fun i x σ' H1 g p => ?_) (fun σ' H1 p => ?_)
      · obtain ⟨⟨o, rfl⟩, hD, x1⟩ := p
        obtain ⟨n, gn, rfl, il⟩ := nvs_at g
        refine ⟨.ref D, rfl, .inl ⟨rfl, _, SqL.of hD⟩, .int (n : Int), rfl, .int (ah xs i), rfl, _, _, rfl, rfl, _, 1, rfl, rfl, D, _, _, rfl, rfl, hD, ?_, .int (n : Int), rfl, ⟨some (.int (n : Int)), ?_⟩, ?_, Ex.mut x1 nD⟩
        · rw [nvs_len, List.length_map, List.length_range]
          exact sz_lt (by omega)
        · show [some (V.ref a), some (V.ref D), some (V.int (n : Int)), some (V.int (n : Int))] = [some (V.ref a), some (V.ref D), some (V.int (ah xs (i + 1))), some (V.int (n : Int))]
          rw [ah, getD_at gn]
        · rw [upd_same, List.range_succ, List.map_append]
          show some (HO.lst (nvs ((List.range i).map (gapI xs)) ++ [V.int ((n : Int) - ah xs i - 1)])) = some (HO.lst (nvs ((List.range i).map (gapI xs) ++ [gapI xs i])))
          rw [nvs_snoc, gap_is hR gn]
      · obtain ⟨⟨o, rfl⟩, hD, x1⟩ := p
        rw [nvs_len] at hD
        exact ⟨.ref D, rfl, q D H1 nD x1 hD⟩
    · refine .inr ⟨.ref a, rfl, a, rfl, ⟨_, ex_t e1 hS⟩, ?_⟩
      refine for_tup (K := K) (xs := nvs xs) (fun i σ' H' => (∃ o, σ' = [some (.ref a), some (.ref D), some (.int (ah xs i)), o]) ∧ H' D = some (.lst (nvs ((List.range i).map (gapI xs)))) ∧ Ex H H') ⟨⟨none, rfl⟩, upd_same, e1⟩ (fun i σ' H' _ p => ex_t p.2.2 hS) (fun i x σ' H1 g p => ?_) (fun σ' H1 p => ?_)
      · obtain ⟨⟨o, rfl⟩, hD, x1⟩ := p
        obtain ⟨n, gn, rfl, il⟩ := nvs_at g
        refine ⟨.ref D, rfl, .inl ⟨rfl, _, SqL.of hD⟩, .int (n : Int), rfl, .int (ah xs i), rfl, _, _, rfl, rfl, _, 1, rfl, rfl, D, _, _, rfl, rfl, hD, ?_, .int (n : Int), rfl, ⟨some (.int (n : Int)), ?_⟩, ?_, Ex.mut x1 nD⟩
        · rw [nvs_len, List.length_map, List.length_range]
          exact sz_lt (by omega)
        · show [some (V.ref a), some (V.ref D), some (V.int (n : Int)), some (V.int (n : Int))] = [some (V.ref a), some (V.ref D), some (V.int (ah xs (i + 1))), some (V.int (n : Int))]
          rw [ah, getD_at gn]
        · rw [upd_same, List.range_succ, List.map_append]
          show some (HO.lst (nvs ((List.range i).map (gapI xs)) ++ [V.int ((n : Int) - ah xs i - 1)])) = some (HO.lst (nvs ((List.range i).map (gapI xs) ++ [gapI xs i])))
          rw [nvs_snoc, gap_is hR gn]
      · obtain ⟨⟨o, rfl⟩, hD, x1⟩ := p
        rw [nvs_len] at hD
        exact ⟨.ref D, rfl, q D H1 nD x1 hD⟩
/-! ### entries -/
def spFall (K : PySem.W.Frag) : Sp := fun vs H Q _ => ∃ (a : Addr) (xs : List Nat), vs = [.ref a] ∧ SqT K H a (nvs xs) ∧ Ris xs ∧ ∀ H', Ex H H' → Q .non H'
set_option maxHeartbeats 4000000 in
theorem ok_first_fall (T : TX K mg A FD TK) : FnOk P w K mg base CX0 2 (A 25) (FD 25) ["things"] (spFall K) := by
  have G_is_whole := ok_whl (P := P) (w := w) (base := base) T
  refine T.f_first_fall.ok (k := 1) sc_first_fall (fun vs H Q E h => ?_) (fun cdv A' outer s H vs Q E hr h => ?_)
  · obtain ⟨a, xs, rfl, _⟩ := h
    rfl
  · obtain ⟨a, xs, rfl, hS, hR, q⟩ := h
    refine ⟨_, (pss_cons (ps_set (i := 1) sc_first_fall.nd rfl (.inl rfl) (pe_un un_neg pe_int))
      (pss_cons (ps_for PassesOwn.never rfl (EnT.pi_enumT (K := K) rfl (by rfl) T.m_enumerate (pa_cons (pv 0) pa_nil)) (pg_tup rfl (pgs_cons (pg_name (i := 2) sc_first_fall.nd rfl (.inl rfl)) (pgs_cons (pg_name (i := 3) sc_first_fall.nd rfl (.inl rfl)) pgs_nil)))
      (pss_cons (ps_if (PW.pt (pw_or (pt_not (pt_val (pe_call G_is_whole hr (by rfl) T.g_is_whole T.f_is_whole.kp T.b_is_whole .nil pass0 (pa_cons (pv 3) pa_nil)))) (pw_or1 (pt_cmpR op_le (pv 3) (pv 1) (nomark _)))))
      (pss_one (ps_ret (pv 2)))
      pss_nil)
      (pss_one (ps_set (i := 1) sc_first_fall.nd rfl (.inl rfl) (pv 3)))))
      (pss_one (ps_ret pe_non)))), ?_⟩
    refine ⟨1, rfl, .ref a, rfl, a, _, rfl, hS, ?_⟩
    refine for_it (EnT.walkT (K := K) (a := a) (xs := nvs xs)) (fun i σ' H' => (∃ o1 o2, σ' = [some (.ref a), some (.int (ah xs i)), o1, o2]) ∧ Ex H H') ⟨⟨none, none, rfl⟩, Ex.refl H⟩ (fun i σ' H' _ p => ex_t p.2 hS) (fun i x σ' H1 H2 hi p y => ?_) (fun σ' H1 p => ?_)
    · obtain ⟨⟨o1, o2, rfl⟩, x1⟩ := p
      obtain ⟨Tt, u1, u2, rfl, nT, rfl, g1, g2⟩ := y
      cases g1
      obtain ⟨n, gn, rfl, _⟩ := nvs_at g2
      have lt := hR i n gn
      refine ⟨Tt, _, rfl, SqT.of upd_same, rfl, _, _, rfl, _, _, rfl, rfl, .int (n : Int), rfl, n, rfl, _, rfl, ite2 (fun c => absurd c (by decide)) (fun _ => ?_)⟩
      refine ⟨.int (n : Int), rfl, .int (ah xs i), rfl, _, _, rfl, rfl, _, rfl, ite2 (fun c => ?_) (fun _ => ?_)⟩
      · have : (n : Int) ≤ ah xs i := of_decide_eq_true c
        omega
      · refine ⟨.int (n : Int), rfl, ⟨some (.int (i : Nat)), some (.int (n : Int)), ?_⟩, x1.trans (Ex.new nT)⟩
        show [some (V.ref a), some (V.int (n : Int)), some (V.int (i : Nat)), some (V.int (n : Int))] = [some (V.ref a), some (V.int (ah xs (i + 1))), some (V.int (i : Nat)), some (V.int (n : Int))]
        rw [ah, getD_at gn]
    · obtain ⟨⟨o1, o2, rfl⟩, x1⟩ := p
      exact q _ x1
def spArePl (K : PySem.W.Frag) : Sp := fun vs H Q _ => ∃ (a : Addr) (xs : List Nat), vs = [.ref a] ∧ H a = some (.tup (nvs xs)) ∧ Ris xs ∧ 0 < xs.length ∧ ∀ H', Ex H H' → Q (.bl true) H'
set_option maxHeartbeats 4000000 in
theorem ok_are_places (T : TX K mg A FD TK) : FnOk P w K mg base CX0 3 (A 24) (FD 24) ["thing"] (spArePl K) := by
  have G_first_fall := ok_first_fall (P := P) (w := w) (base := base) T
  refine T.f_are_places.ok (k := 2) sc_are_places (fun vs H Q E h => ?_) (fun cdv A' outer s H vs Q E hr h => ?_)
  · obtain ⟨a, xs, rfl, _⟩ := h
    rfl
  · obtain ⟨a, xs, rfl, hS, hR, h0, q⟩ := h
    refine ⟨_, (pss_one (ps_ret (pe_and (pe_callB (isiK (K := K) rfl) (by rfl) T.m_isinstance (by decide +kernel) (pa_cons (pv 0) (pa_cons (pe_bltn (v := .ty "tuple") (by rfl) T.m_tuple (by decide +kernel) rfl) pa_nil))) (pe_and (pe_cmpR op_gt (pe_callB (lenK (K := K) rfl) (by rfl) T.m_len (by decide +kernel) (pa_cons (pv 0) pa_nil)) pe_int (nomark _)) (pe_one (pe_cmpR op_isN (pe_call G_first_fall hr (by rfl) T.g_first_fall T.f_first_fall.kp T.b_first_fall .nil pass0 (pa_cons (pv 0) pa_nil)) pe_non (nomark _))))))), ?_⟩
    refine ⟨.ref a, rfl, .ref a, .ty "tuple", .type "tuple", .type "tuple", true, rfl, .ty _, .base (.tup hS), kit_ty (by decide +kernel), true, rfl, ?_⟩
    refine ⟨.ref a, rfl, a, _, rfl, .inr (SqT.of hS), _, 0, rfl, rfl, _, rfl, ite2 (fun _ => ?_) (fun c => ?_)⟩
    · refine ⟨.ref a, rfl, a, xs, rfl, SqT.of hS, hR, fun H1 e1 => ?_⟩
      refine ⟨rfl, ?_⟩
      exact q _ e1
    · refine absurd (decide_eq_true ?_) c
      rw [nvs_len]
      omega
/-- an entry at a: a slot and rising places -/
def EnA (H : Hp) (a : Addr) (e : Nat × List Nat) : Prop := ∃ t, H a = some (.tup [.int (e.1 : Int), .ref t]) ∧ H t = some (.tup (nvs e.2))
structure EnOk (e : Nat × List Nat) : Prop where
  ris : Ris e.2
  some : 0 < e.2.length
  few : e.2.length ≤ 120
  slot : e.1 < 16 ^ 100
  small : ∀ n ∈ e.2, n < 16 ^ 100
def EnsA (H : Hp) (xs : List V) (es : List (Nat × List Nat)) : Prop := xs.length = es.length ∧ ∀ (i : Nat) (e : Nat × List Nat), es[i]? = some e → ∃ a, xs[i]? = some (.ref a) ∧ EnA H a e
theorem EnA.ex {H H' : Hp} {a : Addr} {e : Nat × List Nat} (h : EnA H a e) (x : Ex H H') : EnA H' a e := by
  obtain ⟨t, h1, h2⟩ := h
  exact ⟨t, x _ _ h1, x _ _ h2⟩
theorem EnsA.ex {H H' : Hp} {xs : List V} {es : List (Nat × List Nat)} (h : EnsA H xs es) (x : Ex H H') : EnsA H' xs es := ⟨h.1, fun i e g => let ⟨a, h1, h2⟩ := h.2 i e g; ⟨a, h1, h2.ex x⟩⟩
theorem EnsA.at {H : Hp} {xs : List V} {es : List (Nat × List Nat)} (h : EnsA H xs es) {i : Nat} {v : V} (g : xs[i]? = .some v) : ∃ e a, es[i]? = .some e ∧ v = .ref a ∧ EnA H a e := by
  have hi : i < es.length := by rw [← h.1]; exact (List.getElem?_eq_some_iff.mp g).1
  obtain ⟨a, g1, g2⟩ := h.2 i es[i] (List.getElem?_eq_getElem hi)
  rw [g] at g1
  exact ⟨es[i], a, List.getElem?_eq_getElem hi, Option.some.inj g1, g2⟩
def spIsEn (K : PySem.W.Frag) : Sp := fun vs H Q _ => ∃ (a : Addr) (e : Nat × List Nat), vs = [.ref a] ∧ EnA H a e ∧ EnOk e ∧ ∀ H', Ex H H' → Q (.bl true) H'
set_option maxHeartbeats 4000000 in
theorem ok_is_entry (T : TX K mg A FD TK) : FnOk P w K mg base CX0 4 (A 23) (FD 23) ["thing"] (spIsEn K) := by
  have G_is_count := (ok_cnt (P := P) (w := w) (base := base) T).mono (show 2 ≤ 3 by decide)
  have G_are_places := ok_are_places (P := P) (w := w) (base := base) T
  refine T.f_is_entry.ok (k := 3) sc_is_entry (fun vs H Q E h => ?_) (fun cdv A' outer s H vs Q E hr h => ?_)
  · obtain ⟨a, e, rfl, _⟩ := h
    rfl
  · obtain ⟨a, e, rfl, ⟨t, ha, ht⟩, he, q⟩ := h
    refine ⟨_, (pss_one (ps_ret (pe_and (pe_callB (isiK (K := K) rfl) (by rfl) T.m_isinstance (by decide +kernel) (pa_cons (pv 0) (pa_cons (pe_bltn (v := .ty "tuple") (by rfl) T.m_tuple (by decide +kernel) rfl) pa_nil))) (pe_and (pe_cmpR op_eq (pe_callB (lenK (K := K) rfl) (by rfl) T.m_len (by decide +kernel) (pa_cons (pv 0) pa_nil)) pe_int (nomark _)) (pe_and (pe_call G_is_count hr (by rfl) T.g_is_count T.f_is_count.kp T.b_is_count .nil pass0 (pa_cons (pe_ix (ixTK (K := K) rfl) (pv 0) pe_int (fun _ _ => rfl)) pa_nil)) (pe_one (pe_call G_are_places hr (by rfl) T.g_are_places T.f_are_places.kp T.b_are_places .nil pass0 (pa_cons (pe_ix (ixTK (K := K) rfl) (pv 0) pe_int (fun _ _ => rfl)) pa_nil)))))))), ?_⟩
    refine ⟨.ref a, rfl, .ref a, .ty "tuple", .type "tuple", .type "tuple", true, rfl, .ty _, .base (.tup ha), kit_ty (by decide +kernel), true, rfl, ?_⟩
    refine ⟨.ref a, rfl, a, _, rfl, .inr (SqT.of ha), rfl, _, rfl, ite2 (fun _ => ?_) (fun c => absurd (decide_eq_true rfl) c)⟩
    refine ⟨.ref a, rfl, a, _, 0, _, rfl, rfl, SqT.of ha, atI_nat (j := 0) rfl, e.1, rfl, true, rfl, ?_⟩
    exact ⟨.ref a, rfl, a, _, 1, _, rfl, rfl, SqT.of ha, atI_nat (j := 1) rfl, t, e.2, rfl, ht, he.ris, he.some, q⟩
def slots (es : List (Nat × List Nat)) : List Nat := es.map (·.1)
def spChkEn (K : PySem.W.Frag) : Sp := fun vs H Q _ => ∃ (l : Addr) (xs : List V) (es : List (Nat × List Nat)), vs = [.ref l] ∧ H l = some (.lst xs) ∧ EnsA H xs es ∧ (∀ e ∈ es, EnOk e) ∧ Ris (slots es) ∧ ∀ H', Ex H H' → Q .non H'
theorem slots_at {es : List (Nat × List Nat)} {i : Nat} {e : Nat × List Nat} (g : es[i]? = some e) : (slots es)[i]? = some e.1 := by
  unfold slots
  rw [List.getElem?_map, g]
  rfl
set_option maxHeartbeats 4000000 in
theorem ok_check_entries (T : TX K mg A FD TK) : FnOk P w K mg base CX0 5 (A 22) (FD 22) ["entries"] (spChkEn K) := by
  have G_is_entry := ok_is_entry (P := P) (w := w) (base := base) T
  refine T.f_check_entries.ok (k := 4) sc_check_entries (fun vs H Q E h => ?_) (fun cdv A' outer s H vs Q E hr h => ?_)
  · obtain ⟨l, xs, es, rfl, _⟩ := h
    rfl
  · obtain ⟨l, xs, es, rfl, hl, hE, ho, hR, q⟩ := h
    refine ⟨_, (pss_cons (ps_if (pt_not (pt_val (pe_callB (isiK (K := K) rfl) (by rfl) T.m_isinstance (by decide +kernel) (pa_cons (pv 0) (pa_cons (pe_bltn (v := .ty "list") (by rfl) T.m_list (by decide +kernel) rfl) pa_nil)))))
      (pss_one ps_never)
      pss_nil)
      (pss_cons (ps_set (i := 1) sc_check_entries.nd rfl (.inl rfl) (pe_un un_neg pe_int))
      (pss_one (ps_for PassesOwn.never rfl (pi_enum (by rfl) T.m_enumerate (pa_cons (pv 0) pa_nil)) (pg_tup rfl (pgs_cons (pg_name (i := 2) sc_check_entries.nd rfl (.inl rfl)) (pgs_cons (pg_name (i := 3) sc_check_entries.nd rfl (.inl rfl)) pgs_nil)))
      (pss_cons (ps_if (PW.pt (pw_or (pt_not (pt_val (pe_call G_is_entry hr (by rfl) T.g_is_entry T.f_is_entry.kp T.b_is_entry .nil pass0 (pa_cons (pv 3) pa_nil)))) (pw_or1 (pt_cmpR op_le (pe_ix (ixTK (K := K) rfl) (pv 3) pe_int (fun _ _ => rfl)) (pv 1) (nomark _)))))
      (pss_one ps_never)
      pss_nil)
      (pss_one (ps_set (i := 1) sc_check_entries.nd rfl (.inl rfl) (pe_ix (ixTK (K := K) rfl) (pv 3) pe_int (fun _ _ => rfl))))))))), ?_⟩
    refine ⟨.ref l, rfl, .ref l, .ty "list", .type "list", .type "list", true, rfl, .ty _, .base (.lst hl), kit_ty (by decide +kernel), _, rfl, ite2 (fun c => absurd c (by decide)) (fun _ => ?_)⟩
    refine ⟨1, rfl, .ref l, rfl, l, _, rfl, SqL.of hl, ?_⟩
    refine for_it (walk_enum (K := K) (a := l) (xs := xs)) (fun i σ' H' => (∃ o1 o2, σ' = [some (.ref l), some (.int (ah (slots es) i)), o1, o2]) ∧ Ex H H') ⟨⟨none, none, rfl⟩, Ex.refl H⟩ (fun i σ' H' _ p => SqL.of (p.2 _ _ hl)) (fun i x σ' H1 H2 hi p y => ?_) (fun σ' H1 p => ?_)
    · obtain ⟨⟨o1, o2, rfl⟩, x1⟩ := p
      obtain ⟨Tt, u1, u2, rfl, nT, rfl, g1, g2⟩ := y
      cases g1
      obtain ⟨e, a, ge, rfl, hA⟩ := hE.at g2
      have eT := Ex.new (o := .tup [V.int (i : Nat), .ref a]) nT
      have hA2 := hA.ex (x1.trans eT)
      have lt := hR i e.1 (slots_at ge)
      obtain ⟨t, ha, ht⟩ := id hA2
      refine ⟨Tt, _, rfl, SqT.of upd_same, rfl, _, _, rfl, _, _, rfl, rfl, .ref a, rfl, a, e, rfl, hA2, ho e (List.mem_of_getElem? ge), fun H3 e3 => ⟨_, rfl, ite2 (fun c => absurd c (by decide)) (fun _ => ?_)⟩⟩
      refine ⟨.ref a, rfl, a, _, 0, _, rfl, rfl, SqT.of (e3 _ _ ha), atI_nat (j := 0) rfl, .int (ah (slots es) i), rfl, _, _, rfl, rfl, _, rfl, ite2 (fun c => ?_) (fun _ => ?_)⟩
      · have : (e.1 : Int) ≤ ah (slots es) i := of_decide_eq_true c
        omega
      · refine ⟨.ref a, rfl, a, _, 0, _, rfl, rfl, SqT.of (e3 _ _ ha), atI_nat (j := 0) rfl, ⟨some (.int (i : Nat)), some (.ref a), ?_⟩, (x1.trans eT).trans e3⟩
        show [some (V.ref l), some (V.int (e.1 : Int)), some (V.int (i : Nat)), some (V.ref a)] = [some (V.ref l), some (V.int (ah (slots es) (i + 1))), some (V.int (i : Nat)), some (V.ref a)]
        rw [ah, getD_at (slots_at ge)]
    · obtain ⟨⟨o1, o2, rfl⟩, x1⟩ := p
      exact q _ x1

/-! ### code_entries -/
theorem gaps_small {xs : List Nat} (h : ∀ n ∈ xs, n < 16 ^ 100) : ∀ g ∈ gapsL xs, g < 16 ^ 100 := fun g hg => by
  obtain ⟨j, hj, rfl⟩ := List.mem_map.mp hg
  have jl : j < xs.length := List.mem_range.mp hj
  have hx := h xs[j] (List.getElem_mem jl)
  have e : xs.getD j 0 = xs[j] := getD_at (List.getElem?_eq_getElem jl)
  have a1 : -1 ≤ ah xs j := by
    cases j with
    | zero => exact Int.le_refl _
    | succ i =>
      show (-1 : Int) ≤ ((xs.getD i 0 : Nat) : Int)
      omega
  unfold gapI
  rw [e]
  omega
theorem gapsL_len (xs : List Nat) : (gapsL xs).length = xs.length := by
  unfold gapsL
  rw [List.length_map, List.length_range]
/-- the code of an entry's places -/
def codeP (e : Nat × List Nat) : List (List Nat) := [codeN (e.2.length - 1), codeL (gapsL e.2)]
def codeE (es : List (Nat × List Nat)) : List (List Nat) := [codeN es.length, codeL (gapsL (slots es))] ++ (es.map codeP).flatten
structure Ens (es : List (Nat × List Nat)) : Prop where
  ok : ∀ e ∈ es, EnOk e
  ris : Ris (slots es)
  few : es.length ≤ 60
theorem slots_small {es : List (Nat × List Nat)} (h : ∀ e ∈ es, EnOk e) : ∀ n ∈ slots es, n < 16 ^ 100 := fun n hn => by
  obtain ⟨e, he, rfl⟩ := List.mem_map.mp hn
  exact (h e he).slot
theorem small_nat {n : Nat} (h : n ≤ 1000) : n < 16 ^ 100 := Nat.lt_of_le_of_lt h (by decide +kernel)
theorem codeP_flat_len {es : List (Nat × List Nat)} (h : ∀ e ∈ es, EnOk e) : ((es.map codeP).flatten).flatten.length ≤ es.length * 13000 := by
  induction es with
  | nil => exact Nat.zero_le _
  | cons e r ih =>
    have he := h e (List.mem_cons_self ..)
    have i := ih fun f hf => h f (List.mem_cons_of_mem _ hf)
    have a := codeN_len 99 (e.2.length - 1) (small_nat (by have := he.few; omega))
    have b := codeL_len (gaps_small he.small)
    rw [gapsL_len] at b
    have c := he.few
    have d : e.2.length * 100 ≤ 12000 := by omega
    rw [List.map_cons, List.flatten_cons, List.flatten_append, List.length_append, List.length_cons, Nat.add_mul]
    have k : (codeP e).flatten.length = (codeN (e.2.length - 1)).length + (codeL (gapsL e.2)).length := by
      unfold codeP
      simp
    omega
def spCodeE (K : PySem.W.Frag) : Sp := fun vs H Q _ => ∃ (l : Addr) (xs : List V) (es : List (Nat × List Nat)), vs = [.ref l] ∧ H l = some (.lst xs) ∧ EnsA H xs es ∧ Ens es ∧ ∀ H', Ex H H' → Q (.str (txt (codeE es).flatten)) H'
set_option maxHeartbeats 8000000 in
theorem ok_code_entries (T : TX K mg A FD TK) : FnOk P w K mg base CX0 6 (A 20) (FD 20) ["entries"] (spCodeE K) := by
  have G_check_entries := ok_check_entries (P := P) (w := w) (base := base) T
  have G_code := (ok_code (P := P) (w := w) (base := base) T).mono (show 3 ≤ 5 by decide)
  have G_code_all := (ok_code_all (P := P) (w := w) (base := base) T).mono (show 4 ≤ 5 by decide)
  have G_gaps_of := (ok_gaps_of (P := P) (w := w) (base := base) T).mono (show 1 ≤ 5 by decide)
  refine T.f_code_entries.ok (k := 5) sc_code_entries (fun vs H Q E h => ?_) (fun cdv A' outer s H vs Q E hr h => ?_)
  · obtain ⟨l, xs, es, rfl, _⟩ := h
    rfl
  · obtain ⟨l, xs, es, rfl, hl, hE, hs, q⟩ := h
    have few := hs.few
    refine ⟨_, (pss_cons (ps_expr (pe_call G_check_entries hr (by rfl) T.g_check_entries T.f_check_entries.kp T.b_check_entries .nil pass0 (pa_cons (pv 0) pa_nil)))
      (pss_cons (ps_set (i := 1) sc_code_entries.nd rfl (.inl rfl) (pe_lst (pa_cons (pe_call G_code hr (by rfl) T.g_code T.f_code.kp T.b_code .nil pass0 (pa_cons (pe_callB (lenK (K := K) rfl) (by rfl) T.m_len (by decide +kernel) (pa_cons (pv 0) pa_nil)) pa_nil)) (pa_cons (pe_call G_code_all hr (by rfl) T.g_code_all T.f_code_all.kp T.b_code_all .nil pass0 (pa_cons (pe_call G_gaps_of hr (by rfl) T.g_gaps_of T.f_gaps_of.kp T.b_gaps_of .nil pass0 (pa_cons (pe_lc (own := [("slot", 2), ("places", 3)])  rfl sc_code_entries.nd (piLK (K := K) rfl (pv 0)) (blkOk_by (own := [("slot", 2), ("places", 3)]) (N := N_code_entries) (sc := defScope (topS 20)) (by decide +kernel)) (fun _ _ _ _ _ => (tupGK (K := K) (n := 2) rfl rfl (pgs_cons (pg_name (i := 2) sc_code_entries.nd rfl (Or.inl rfl)) (pgs_cons (pg_name (i := 3) sc_code_entries.nd rfl (Or.inl rfl)) pgs_nil)))) (fun _ _ _ _ _ => pts_nil) (fun _ _ _ _ _ => (pv 2))) pa_nil)) pa_nil)) pa_nil))))
      (pss_cons (ps_for PassesOwn.never rfl (piLK (K := K) rfl (pv 0)) (pg_tup rfl (pgs_cons (pg_name (i := 2) sc_code_entries.nd rfl (.inl rfl)) (pgs_cons (pg_name (i := 3) sc_code_entries.nd rfl (.inl rfl)) pgs_nil)))
      (pss_cons (ps_expr (pe_bm PySem.F.plainAttrs_list PySem.F.slot_list_append PySem.F.type_list_append mt_append (pv 1) (pa_cons (pe_call G_code hr (by rfl) T.g_code T.f_code.kp T.b_code .nil pass0 (pa_cons (pe_op op_sub (pe_callB (lenK (K := K) rfl) (by rfl) T.m_len (by decide +kernel) (pa_cons (pv 3) pa_nil)) pe_int) pa_nil)) pa_nil)))
      (pss_one (ps_expr (pe_bm PySem.F.plainAttrs_list PySem.F.slot_list_append PySem.F.type_list_append mt_append (pv 1) (pa_cons (pe_call G_code_all hr (by rfl) T.g_code_all T.f_code_all.kp T.b_code_all .nil pass0 (pa_cons (pe_call G_gaps_of hr (by rfl) T.g_gaps_of T.f_gaps_of.kp T.b_gaps_of .nil pass0 (pa_cons (pv 3) pa_nil)) pa_nil)) pa_nil))))))
      (pss_one (ps_ret (pe_join pe_str (pv 1))))))), ?_⟩
    refine ⟨.ref l, rfl, l, xs, es, rfl, hl, hE, hs.ok, hs.ris, fun H1 e1 => ?_⟩
    have hl1 := e1 _ _ hl
    have hE1 := hE.ex e1
    refine ⟨.ref l, rfl, l, _, rfl, .inl (SqL.of hl1), es.length, ?_, small_nat (by omega), fun H2 e2 => ?_⟩
    · rw [hE.1]
      rfl
    have hl2 := e2 _ _ hl1
    have hE2 := hE1.ex e2
    refine ⟨.ref l, rfl, l, rfl, ⟨_, SqL.of hl2⟩, fun D nD => ?_⟩
    refine lc_list (K := K) (xs := xs) (fun i H' => Ex H2 H' ∧ H' D = some (.lst (nvs (slots (es.take i))))) ⟨Ex.new nD, upd_same⟩ (fun i H' _ z => SqL.of (z.1 _ _ hl2)) (fun i v H' gv z => ?_) (fun H3 z => ?_)
    · obtain ⟨z1, z2⟩ := z
      obtain ⟨e, a, ge, rfl, hA⟩ := hE2.at gv
      obtain ⟨t, ha, ht⟩ := hA.ex z1
      have il : i < es.length := (List.getElem?_eq_some_iff.mp ge).1
      refine ⟨a, _, rfl, SqT.of ha, rfl, _, _, rfl, _, _, rfl, rfl, rfl, .int (e.1 : Int), rfl, _, z2, ?_, Ex.mut z1 nD, ?_⟩
      · rw [nvs_len]
        unfold slots
        rw [List.length_map, List.length_take]
        exact sz_lt (by omega)
      · rw [upd_same, take_up ge]
        unfold slots nvs
        rw [List.map_append, List.map_append]
        rfl
    · obtain ⟨e3, hD⟩ := z
      rw [hE.1, List.take_length] at hD
      have sl : (slots es).length = es.length := List.length_map ..
      refine ⟨D, slots es, rfl, .inl (SqL.of hD), hs.ris, by omega, fun g H4 ng e4 hg => ?_⟩
      refine ⟨g, gapsL (slots es), rfl, hg, ?_, gaps_small (slots_small hs.ok), fun H5 e5 => ⟨by show 2 ≤ sizeLine; decide, fun TX nTX => ?_⟩⟩
      · rw [gapsL_len]
        omega
      have x5 : Ex H H5 := ((((e1.trans e2).trans e3).trans e4).trans e5)
      have nTX0 : H TX = none := fresh_back x5 nTX
      refine ⟨.ref l, rfl, l, rfl, ⟨_, SqL.of ((x5.trans (Ex.new nTX)) _ _ hl)⟩, ?_⟩
      refine for_list (K := K) (xs := xs) (fun i σ' H' => (∃ o1 o2, σ' = [some (.ref l), some (.ref TX), o1, o2]) ∧ H' TX = some (.lst ((([codeN es.length, codeL (gapsL (slots es))] ++ ((es.take i).map codeP).flatten).map txt).map V.str)) ∧ Ex H H') ⟨⟨none, none, rfl⟩, upd_same, x5.trans (Ex.new nTX)⟩ (fun i σ' H' _ p => SqL.of (p.2.2 _ _ hl)) (fun i v σ' H6 gv p => ?_) (fun σ' H6 p => ?_)
      · obtain ⟨⟨o1, o2, rfl⟩, hX, x6⟩ := p
        obtain ⟨e, a, ge, rfl, hA⟩ := hE.at gv
        obtain ⟨t, ha, ht⟩ := hA.ex x6
        have il : i < es.length := (List.getElem?_eq_some_iff.mp ge).1
        have he := hs.ok e (List.mem_of_getElem? ge)
        have hfew := he.few
        have hsome := he.some
        have lX : ((([codeN es.length, codeL (gapsL (slots es))] ++ ((es.take i).map codeP).flatten).map txt).map V.str).length ≤ 2 + 2 * i := by
          rw [List.length_map, List.length_map, List.length_append]
          have : ∀ fs : List (Nat × List Nat), ((fs.map codeP).flatten).length = 2 * fs.length := by
            intro fs
            induction fs with
            | nil => rfl
            | cons f r ih =>
              rw [List.map_cons, List.flatten_cons, List.length_append, ih, List.length_cons]
              show 2 + 2 * r.length = _
              omega
          rw [this, List.length_take]
          show 2 + _ ≤ _
          omega
        refine ⟨a, _, rfl, SqT.of ha, rfl, _, _, rfl, _, _, rfl, rfl, .ref TX, rfl, .inl ⟨rfl, _, SqL.of hX⟩, .ref t, rfl, t, _, rfl, .inr (SqT.of ht), _, 1, rfl, rfl, e.2.length - 1, ?_, small_nat (by omega), fun H7 e7 => ⟨TX, _, _, rfl, rfl, e7 _ _ hX, sz_lt (by omega), ?_⟩⟩
        · rw [nvs_len]
          show [V.int ((e.2.length : Int) - 1)] = [V.int ((e.2.length - 1 : Nat) : Int)]
          rw [show (e.2.length : Int) - 1 = ((e.2.length - 1 : Nat) : Int) by omega]
        have x8 := Ex.mut (o := .lst ((([codeN es.length, codeL (gapsL (slots es))] ++ ((es.take i).map codeP).flatten).map txt).map V.str ++ [.str (txt (codeN (e.2.length - 1)))])) (x6.trans e7) nTX0
        have h8 := upd_same (H := H7) (a := TX) (o := .lst ((([codeN es.length, codeL (gapsL (slots es))] ++ ((es.take i).map codeP).flatten).map txt).map V.str ++ [.str (txt (codeN (e.2.length - 1)))]))
        have ht8 : (upd H7 TX (.lst ((([codeN es.length, codeL (gapsL (slots es))] ++ ((es.take i).map codeP).flatten).map txt).map V.str ++ [.str (txt (codeN (e.2.length - 1)))]))) t = some (.tup (nvs e.2)) := by
          rw [upd_ne (ne_of ht hX (by intro z; cases z))]
          exact e7 _ _ ht
        generalize upd H7 TX (.lst ((([codeN es.length, codeL (gapsL (slots es))] ++ ((es.take i).map codeP).flatten).map txt).map V.str ++ [.str (txt (codeN (e.2.length - 1)))])) = H8 at x8 h8 ht8 ⊢
        refine ⟨.ref TX, rfl, .inl ⟨rfl, _, SqL.of h8⟩, .ref t, rfl, t, e.2, rfl, .inr (SqT.of ht8), he.ris, by omega, fun g2 H9 ng2 e9 hg2 => ⟨g2, gapsL e.2, rfl, hg2, ?_, gaps_small he.small, fun HA eA => ⟨TX, _, _, rfl, rfl, eA _ _ (e9 _ _ h8), ?_, ⟨_, _, rfl⟩, ?_, Ex.mut ((x8.trans e9).trans eA) nTX0⟩⟩⟩
        · rw [gapsL_len]
          omega
        · rw [List.length_append]
          exact sz_lt (by show _ + 1 < 100000; omega)
        · have ee : [codeN es.length, codeL (gapsL (slots es))] ++ ((es.take i ++ [e]).map codeP).flatten = ([codeN es.length, codeL (gapsL (slots es))] ++ ((es.take i).map codeP).flatten) ++ [codeN (e.2.length - 1), codeL (gapsL e.2)] := by simp [codeP]
          rw [upd_same, take_up ge, ee]
          generalize [codeN es.length, codeL (gapsL (slots es))] ++ ((es.take i).map codeP).flatten = bs
          rw [List.map_append, List.map_append, List.append_assoc]
          rfl
      · obtain ⟨⟨o1, o2, rfl⟩, hX, x6⟩ := p
        rw [hE.1, List.take_length] at hX
        refine ⟨⟨_, rfl⟩, .ref TX, rfl, "", TX, (codeE es).map txt, rfl, rfl, .inl (SqL.of hX), ?_, ?_⟩
        · rw [sum_txts]
          have a := codeP_flat_len hs.ok
          have b := codeN_len 99 es.length (small_nat (by omega))
          have c := codeL_len (gaps_small (slots_small hs.ok))
          rw [gapsL_len] at c
          have k : (codeE es).flatten.length = (codeN es.length).length + (codeL (gapsL (slots es))).length + ((es.map codeP).flatten).flatten.length := by
            unfold codeE
            rw [List.flatten_append, List.length_append]
            simp
          show _ + _ * 0 ≤ 16777216
          have d : es.length * 13000 ≤ 60 * 13000 := Nat.mul_le_mul few (Nat.le_refl _)
          omega
        · rw [join_txts]
          exact q _ x6

/-! ### read_number -/
def pw (i : Nat) : Nat := 16 ^ i
theorem pw_succ (i : Nat) : pw (i + 1) = pw i * 16 := Nat.pow_succ ..
theorem pw_pos (i : Nat) : 0 < pw i := Nat.pow_pos (by decide)
theorem div_succ (n i : Nat) : n / pw (i + 1) = n / pw i / 16 := by rw [pw_succ, Nat.div_div_eq_div_mul]
theorem mod_succ' (n i : Nat) : n % pw (i + 1) = n % pw i + (n / pw i % 16) * pw i := by
  rw [pw_succ, Nat.mod_mul, Nat.mul_comm (pw i)]
theorem split_at (n i : Nat) : n % pw i + (n / pw i) * pw i = n := by
  rw [Nat.mul_comm]
  exact Nat.mod_add_div n (pw i)
theorem codeN_drop (n : Nat) : ∀ i, i < (codeN n).length → (codeN n).drop i = codeN (n / pw i)
  | 0, _ => by rw [show pw 0 = 1 from rfl, Nat.div_one, List.drop_zero]
  | i + 1, h => by
    have a := codeN_drop n i (by omega)
    have l : ((codeN n).drop i).length = (codeN n).length - i := List.length_drop ..
    rw [a] at l
    have up : ¬ n / pw i < 16 := fun z => by
      rw [codeN_low z] at l
      have l : 1 = (codeN n).length - i := l
      omega
    have b : (codeN n).drop (i + 1) = ((codeN n).drop i).drop 1 := by rw [List.drop_drop]
    rw [b, a, codeN_up up, div_succ]
    rfl
theorem codeN_end (n i : Nat) (h : i < (codeN n).length) : (n / pw i < 16 ↔ (codeN n).length = i + 1) := by
  have l : ((codeN n).drop i).length = (codeN n).length - i := List.length_drop ..
  rw [codeN_drop n i h] at l
  constructor
  · intro z
    rw [codeN_low z] at l
    have l : 1 = (codeN n).length - i := l
    omega
  · intro z
    apply Classical.byContradiction
    intro up
    rw [codeN_up up, List.length_cons] at l
    have := codeN_pos (n / pw i / 16)
    omega
theorem codeN_head (n i : Nat) (h : i < (codeN n).length) : (codeN n)[i]? = some (if n / pw i < 16 then 97 + n / pw i else 65 + n / pw i % 16) := by
  have e : (codeN n)[i]? = ((codeN n).drop i)[0]? := by rw [List.getElem?_drop, Nat.add_zero]
  rw [e, codeN_drop n i h]
  by_cases z : n / pw i < 16
  · rw [codeN_low z, if_pos z]
    rfl
  · rw [codeN_up z, if_neg z]
    rfl
theorem pos_in (n : Nat) : ∀ i, i < (codeN n).length → i = 0 ∨ 0 < n / pw i
  | 0, _ => .inl rfl
  | i + 1, h => .inr (by
    have z : ¬ n / pw i < 16 := fun z => by
      have := (codeN_end n i (by omega)).mp z
      omega
    rw [div_succ]
    omega)
def spRead : Sp := fun vs H Q _ => ∃ (L rest : List Nat) (st n : Nat), vs = [.str (txt L), .int (st : Int)] ∧ L.length ≤ 90000 ∧ L.drop st = codeN n ++ rest ∧ st + (codeN n).length ≤ L.length ∧
  ∀ p, H p = none → Q (.ref p) (upd H p (.tup [.int (n : Int), .int ((st + (codeN n).length : Nat) : Int)]))
theorem L_at {L rest : List Nat} {st n : Nat} (h : L.drop st = codeN n ++ rest) {i : Nat} (hi : i < (codeN n).length) : L[st + i]? = (codeN n)[i]? := by
  rw [← List.getElem?_drop, h, List.getElem?_append_left hi]
set_option maxHeartbeats 8000000 in
theorem ok_read_number (T : TX K mg A FD TK) : FnOk P w K mg base CX0 1 (A 29) (FD 29) ["text", "start"] spRead := by
  refine T.f_read_number.ok sc_read_number (fun vs H Q E h => ?_) (fun cdv A' outer s H vs Q E hr h => ?_)
  · obtain ⟨L, rest, st, n, rfl, _⟩ := h
    rfl
  · obtain ⟨L, rest, st, n, rfl, hL, hd, hle, q⟩ := h
    have cp := codeN_pos n
    have tlL : (txt L).length = L.length := txt_len L
    refine ⟨_, (pss_cons (ps_set (i := 2) sc_read_number.nd rfl (.inl rfl) pe_int)
      (pss_cons (ps_set (i := 3) sc_read_number.nd rfl (.inl rfl) pe_int)
      (pss_cons (ps_for PassesOwn.never rfl (pi_range2 (by rfl) T.m_range (pa_cons (pv 1) (pa_cons (pe_callB call_len_str (by rfl) T.m_len (by decide +kernel) (pa_cons (pv 0) pa_nil)) pa_nil))) (pg_name (i := 4) sc_read_number.nd rfl (.inl rfl))
      (pss_cons (ps_set (i := 5) sc_read_number.nd rfl (.inl rfl) (pe_bm PySem.F.plainAttrs_str PySem.F.slot_str_find PySem.F.type_str_find mt_find (pe_glob (v := .str "abcdefghijklmnop") (by rfl) T.c_LAST_DIGITS ⟨_, rfl⟩) (pa_cons (pe_ix ix_str (pv 0) (pv 4) (fun _ _ => rfl)) pa_nil)))
      (pss_cons (ps_if (PW.pt (pw_or (pt_cmpR op_gt (pv 5) pe_int (nomark _)) (pw_or1 (PW.pt (pw_and (pt_cmpR op_eq (pv 5) pe_int (nomark _)) (pw_and1 (pt_cmpR op_eq (pv 4) (pv 1) (nomark _))))))))
      (pss_one (ps_ret (pe_tup (pa_cons (pe_op op_add (pv 2) (pe_op op_mul (pv 5) (pv 3))) (pa_cons (pe_op op_add (pv 4) pe_int) pa_nil)))))
      pss_nil)
      (pss_cons (ps_set (i := 6) sc_read_number.nd rfl (.inl rfl) (pe_bm PySem.F.plainAttrs_str PySem.F.slot_str_find PySem.F.type_str_find mt_find (pe_glob (v := .str "ABCDEFGHIJKLMNOP") (by rfl) T.c_DIGITS_AHEAD ⟨_, rfl⟩) (pa_cons (pe_ix ix_str (pv 0) (pv 4) (fun _ _ => rfl)) pa_nil)))
      (pss_cons (ps_if (pt_cmpR op_lt (pv 6) pe_int (nomark _))
      (pss_one ps_never)
      pss_nil)
      (pss_cons (ps_aug (i := 2) sc_read_number.nd rfl (.inl rfl) (pe_op op_mul (pv 6) (pv 3)) ip_add)
      (pss_one (ps_aug (i := 3) sc_read_number.nd rfl (.inl rfl) pe_int ip_mulI))))))))
      (pss_one ps_never)))), ?_⟩
    refine ⟨.int (st : Int), rfl, .str (txt L), rfl, txt L, rfl, sz (by omega), (st : Int), ((txt L).length : Int), rfl, by omega, ?_⟩
    refine for_range (lo := (st : Int)) (n := (((txt L).length : Int) - (st : Int)).toNat) (fun i σ' H' => H' = H ∧ i < (codeN n).length ∧ ∃ o4 o5 o6, σ' = [some (.str (txt L)), some (.int (st : Int)), some (.int ((n % pw i : Nat) : Int)), some (.int ((pw i : Nat) : Int)), o4, o5, o6]) ⟨rfl, by omega, none, none, none, ?_⟩ (fun i σ' H' hi p => ?_) (fun σ' H' p => ?_)
    · rw [show pw 0 = 1 from rfl, Nat.mod_one]
      rfl
    · obtain ⟨rfl, hi2, o4, o5, o6, rfl⟩ := p
      have g := (L_at hd hi2).trans (codeN_head n i hi2)
      have ga : atI (txt L).cps.toList ((st : Int) + (i : Int)) = some (if n / pw i < 16 then 97 + n / pw i else 65 + n / pw i % 16) := by
        rw [show (st : Int) + (i : Int) = ((st + i : Nat) : Int) by omega]
        exact atI_nat g
      refine ⟨rfl, .str (txt L), rfl, .int ((st : Int) + (i : Int)), rfl, txt L, _, _, rfl, rfl, sz (by omega), ga, loS, one _, rfl, rfl, ?_⟩
      by_cases z : n / pw i < 16
      · have zl := (codeN_end n i hi2).mp z
        rw [if_pos z, lo_find _ z]
        have fin : ∀ p, H' p = none → Q (.ref p) (upd H' p (.tup [.int (((n % pw i : Nat) : Int) + ((n / pw i : Nat) : Int) * ((pw i : Nat) : Int)), .int ((st : Int) + (i : Int) + 1)])) := fun p np => by
          have e1 : ((n % pw i : Nat) : Int) + ((n / pw i : Nat) : Int) * ((pw i : Nat) : Int) = (n : Int) := by
            rw [← Int.natCast_mul, ← Int.natCast_add, split_at]
          have e2 : (st : Int) + (i : Int) + 1 = ((st + (codeN n).length : Nat) : Int) := by omega
          rw [e1, e2]
          exact q p np
        have cm : CMul ((n / pw i : Nat) : Int) ((pw i : Nat) : Int) := .inl ⟨Int.lt_of_lt_of_le (by decide) (Int.natCast_nonneg _), Int.lt_trans (Int.ofNat_lt.mpr z) (by decide)⟩
        refine ⟨.int ((n / pw i : Nat) : Int), rfl, _, 0, rfl, rfl, _, rfl, ite2 (fun c => ?_) (fun c => ?_)⟩
        · exact ⟨.int _, rfl, .int ((n / pw i : Nat) : Int), rfl, .int ((pw i : Nat) : Int), rfl, _, _, rfl, rfl, cm, _, _, rfl, rfl, .int ((st : Int) + (i : Int)), rfl, _, 1, rfl, rfl, by show 2 ≤ sizeLine; decide, fin⟩
        · have m0 : n / pw i = 0 := by
            have : ¬ (0 : Int) < ((n / pw i : Nat) : Int) := fun y => c (decide_eq_true y)
            exact Nat.eq_zero_of_not_pos fun h => this (Int.ofNat_lt.mpr h)
          have i0 : i = 0 := by
            rcases pos_in n i hi2 with k | k
            · exact k
            · omega
          refine ⟨.int ((n / pw i : Nat) : Int), rfl, rfl, _, rfl, ite2 (fun _ => ?_) (fun c2 => ?_)⟩
          · refine ⟨.int ((st : Int) + (i : Int)), rfl, .int (st : Int), rfl, rfl, _, rfl, ite2 (fun _ => ?_) (fun c3 => ?_)⟩
            · exact ⟨.int _, rfl, .int ((n / pw i : Nat) : Int), rfl, .int ((pw i : Nat) : Int), rfl, _, _, rfl, rfl, cm, _, _, rfl, rfl, .int ((st : Int) + (i : Int)), rfl, _, 1, rfl, rfl, by show 2 ≤ sizeLine; decide, fin⟩
            · refine absurd (decide_eq_true ?_) c3
              rw [i0]
              show V.int ((st : Int) + 0) = V.int (st : Int)
              rw [Int.add_zero]
          · refine absurd (decide_eq_true ?_) c2
            rw [m0]
            rfl
      · have zl : (codeN n).length ≠ i + 1 := fun e => z ((codeN_end n i hi2).mpr e)
        have m16 : n / pw i % 16 < 16 := Nat.mod_lt _ (by decide)
        rw [if_neg z] at ga
        rw [if_neg z, lo_none _ m16]
        refine ⟨.int (-1), rfl, _, 0, rfl, rfl, _, rfl, ite2 (fun c => absurd c (by decide)) (fun _ => ?_)⟩
        refine ⟨.int (-1), rfl, rfl, _, rfl, ite2 (fun c => absurd c (by decide)) (fun _ => ?_)⟩
        refine ⟨rfl, .str (txt L), rfl, .int ((st : Int) + (i : Int)), rfl, txt L, _, _, rfl, rfl, sz (by omega), ga, upS, one _, rfl, rfl, ?_⟩
        rw [up_find _ m16]
        refine ⟨.int ((n / pw i % 16 : Nat) : Int), rfl, _, 0, rfl, rfl, _, rfl, ite2 (fun c => ?_) (fun _ => ?_)⟩
        · have : ((n / pw i % 16 : Nat) : Int) < 0 := of_decide_eq_true c
          omega
        have cm : CMul ((n / pw i % 16 : Nat) : Int) ((pw i : Nat) : Int) := .inl ⟨by omega, by omega⟩
        have cm2 : CMul ((pw i : Nat) : Int) 16 := .inr ⟨by decide, by decide⟩
        refine ⟨.int ((n % pw i : Nat) : Int), rfl, .int ((n / pw i % 16 : Nat) : Int), rfl, .int ((pw i : Nat) : Int), rfl, _, _, rfl, rfl, cm, _, _, rfl, rfl, .int ((pw i : Nat) : Int), rfl, _, 16, rfl, rfl, cm2, rfl, by omega, some (.int ((st : Int) + (i : Int))), some (.int (-1)), some (.int ((n / pw i % 16 : Nat) : Int)), ?_⟩
        have e1 : ((n % pw i : Nat) : Int) + ((n / pw i % 16 : Nat) : Int) * ((pw i : Nat) : Int) = ((n % pw (i + 1) : Nat) : Int) := by
          rw [mod_succ', Int.natCast_add, Int.natCast_mul]
        have e2 : ((pw i : Nat) : Int) * 16 = ((pw (i + 1) : Nat) : Int) := by
          rw [pw_succ, Int.natCast_mul]
          rfl
        rw [← e1, ← e2]
        rfl
    · obtain ⟨rfl, hi2, _⟩ := p
      exfalso
      omega
/-! ### read_numbers, risen -/
def spReads : Sp := fun vs H Q _ => ∃ (L rest : List Nat) (st : Nat) (ns : List Nat), vs = [.str (txt L), .int (st : Int), .int (ns.length : Int)] ∧ L.length ≤ 90000 ∧ ns.length ≤ 900 ∧ L.drop st = codeL ns ++ rest ∧ st + (codeL ns).length ≤ L.length ∧
  ∀ (l p : Addr) (H' : Hp), H l = none → H p = none → Ex H H' → H' l = some (.lst (nvs ns)) → H' p = some (.tup [.ref l, .int ((st + (codeL ns).length : Nat) : Int)]) → Q (.ref p) H'
def muR (k : Nat) (f : Hp → Nat) : L2.St → Hp → Nat := fun _ H => k - f H
theorem codeL_cons (n : Nat) (r : List Nat) : codeL (n :: r) = codeN n ++ codeL r := by
  unfold codeL
  rw [List.map_cons, List.flatten_cons]
theorem codeL_app (a b : List Nat) : codeL (a ++ b) = codeL a ++ codeL b := by
  unfold codeL
  rw [List.map_append, List.flatten_append]
def spRisen (K : PySem.W.Frag) : Sp := fun vs H Q _ => ∃ (a : Addr) (xs : List Nat), vs = [.ref a] ∧ SqL K H a (nvs (gapsL xs)) ∧ Ris xs ∧ xs.length ≤ 900 ∧ ∀ (l : Addr) (H' : Hp), H l = none → Ex H H' → H' l = some (.lst (nvs xs)) → Q (.ref l) H'
theorem gaps_at {xs : List Nat} {i g : Nat} (e : (gapsL xs)[i]? = some g) : i < xs.length ∧ g = gapI xs i := by
  have h := (List.getElem?_eq_some_iff.mp e).1
  rw [gapsL_len] at h
  refine ⟨h, ?_⟩
  unfold gapsL at e
  rw [List.getElem?_map, List.getElem?_range h] at e
  exact (Option.some.inj e).symm
set_option maxHeartbeats 4000000 in
theorem ok_risen (T : TX K mg A FD TK) : FnOk P w K mg base CX0 1 (A 27) (FD 27) ["gaps"] (spRisen K) := by
  refine T.f_risen.ok sc_risen (fun vs H Q E h => ?_) (fun cdv A' outer s H vs Q E hr h => ?_)
  · obtain ⟨a, xs, rfl, _⟩ := h
    rfl
  · obtain ⟨a, xs, rfl, hS, hR, hn, q⟩ := h
    refine ⟨_, (pss_cons (ps_set (i := 1) sc_risen.nd rfl (.inl rfl) (pe_lst pa_nil))
      (pss_cons (ps_set (i := 2) sc_risen.nd rfl (.inl rfl) (pe_un un_neg pe_int))
      (pss_cons (ps_for PassesOwn.never rfl (piLK (K := K) rfl (pv 0)) (pg_name (i := 3) sc_risen.nd rfl (.inl rfl))
      (pss_cons (ps_aug (i := 2) sc_risen.nd rfl (.inl rfl) (pe_op op_add (pv 3) pe_int) ip_add)
      (pss_one (ps_expr (pe_bm PySem.F.plainAttrs_list PySem.F.slot_list_append PySem.F.type_list_append mt_append (pv 1) (pa_cons (pv 2) pa_nil))))))
      (pss_one (ps_ret (pv 1)))))), ?_⟩
    refine ⟨Nat.zero_le _, fun D nD => ⟨1, rfl, ?_⟩⟩
    have e1 : Ex H (upd H D (.lst [])) := Ex.new nD
    refine ⟨.ref a, rfl, a, rfl, ⟨_, ex_l e1 hS⟩, ?_⟩
    refine for_list (K := K) (xs := nvs (gapsL xs)) (fun i σ' H' => (∃ o, σ' = [some (.ref a), some (.ref D), some (.int (ah xs i)), o]) ∧ H' D = some (.lst (nvs (xs.take i))) ∧ Ex H H') ⟨⟨none, rfl⟩, upd_same, e1⟩ (fun i σ' H' _ p => ex_l p.2.2 hS) (fun i x σ' H1 g p => ?_) (fun σ' H1 p => ?_)
    · obtain ⟨⟨o, rfl⟩, hD, x1⟩ := p
      obtain ⟨gg, gn, rfl, _⟩ := nvs_at g
      obtain ⟨il, rfl⟩ := gaps_at gn
      have gx : xs[i]? = some xs[i] := List.getElem?_eq_getElem il
      have gi := gap_is hR gx
      have e2 : ah xs i + (((gapI xs i : Nat) : Int) + 1) = ah xs (i + 1) := by
        rw [← gi, ah, getD_at gx]
        omega
      refine ⟨.int (ah xs i), rfl, .int ((gapI xs i : Nat) : Int), rfl, _, 1, rfl, rfl, _, _, rfl, rfl, .ref D, rfl, .inl ⟨rfl, _, SqL.of hD⟩, .int (ah xs (i + 1)), ?_, D, _, _, rfl, rfl, hD, ?_, ⟨some (.int ((gapI xs i : Nat) : Int)), ?_⟩, ?_, Ex.mut x1 nD⟩
      · rw [← e2]
        rfl
      · rw [nvs_len, List.length_take]
        exact sz_lt (by omega)
      · rw [← e2]
        rfl
      · rw [upd_same, take_up gx, nvs_snoc, ah, getD_at gx]
    · obtain ⟨⟨o, rfl⟩, hD, x1⟩ := p
      rw [nvs_len, gapsL_len, List.take_length] at hD
      exact ⟨.ref D, rfl, q D H1 nD x1 hD⟩

/-! ### read_numbers, decode_entries -/
def lenAt (D : Addr) (H : Hp) : Nat := match H D with
  | some (.lst xs) => xs.length
  | _ => 0
theorem lenAt_is {D : Addr} {H : Hp} {xs : List V} (h : H D = some (.lst xs)) : lenAt D H = xs.length := by
  unfold lenAt
  rw [h]
theorem drop_more {L a b : List Nat} {st : Nat} (h : L.drop st = a ++ b) : L.drop (st + a.length) = b := by
  rw [← List.drop_drop, h, List.drop_left' rfl]
set_option maxHeartbeats 8000000 in
theorem ok_read_numbers (T : TX K mg A FD TK) : FnOk P w K mg base CX0 2 (A 30) (FD 30) ["text", "at", "many"] spReads := by
  have G_read_number := ok_read_number (P := P) (w := w) (base := base) T
  refine T.f_read_numbers.ok (k := 1) sc_read_numbers (fun vs H Q E h => ?_) (fun cdv A' outer s H vs Q E hr h => ?_)
  · obtain ⟨L, rest, st, ns, rfl, _⟩ := h
    rfl
  · obtain ⟨L, rest, st, ns, rfl, hL, hn, hd, hle, q⟩ := h
    refine ⟨_, (pss_cons (ps_set (i := 3) sc_read_numbers.nd rfl (.inl rfl) (pe_lst pa_nil))
      (pss_cons (ps_while PassesOwn.never (pt_cmpR op_lt (pe_callB (lenK (K := K) rfl) (by rfl) T.m_len (by decide +kernel) (pa_cons (pv 3) pa_nil)) (pv 2) (nomark _))
      (pss_cons (ps_asg (pe_call G_read_number hr (by rfl) T.g_read_number T.f_read_number.kp T.b_read_number .nil pass0 (pa_cons (pv 0) (pa_cons (pv 1) pa_nil))) (pg_tup rfl (pgs_cons (pg_name (i := 4) sc_read_numbers.nd rfl (.inl rfl)) (pgs_cons (pg_name (i := 1) sc_read_numbers.nd rfl (.inl rfl)) pgs_nil))))
      (pss_one (ps_expr (pe_bm PySem.F.plainAttrs_list PySem.F.slot_list_append PySem.F.type_list_append mt_append (pv 3) (pa_cons (pv 4) pa_nil))))))
      (pss_one (ps_ret (pe_tup (pa_cons (pv 3) (pa_cons (pv 1) pa_nil))))))), ?_⟩
    refine ⟨Nat.zero_le _, fun D nD => ?_⟩
    refine while_by (fun σ' H' => ∃ (i : Nat) (o : Option V), i ≤ ns.length ∧ σ' = [some (.str (txt L)), some (.int ((st + (codeL (ns.take i)).length : Nat) : Int)), some (.int (ns.length : Int)), some (.ref D), o] ∧ H' D = some (.lst (nvs (ns.take i))) ∧ Ex H H') (fun _ H' => ns.length - lenAt D H') ⟨0, none, Nat.zero_le _, rfl, upd_same, Ex.new nD⟩ (fun σ' H' p => ?_) (fun σ' H' Q Q' m h => ?_)
    · obtain ⟨i, o, hi, rfl, hD, x⟩ := p
      have li : (nvs (ns.take i)).length = i := by
        rw [nvs_len, List.length_take]
        omega
      refine ⟨.ref D, rfl, D, _, rfl, .inl (SqL.of hD), .int (ns.length : Int), rfl, _, _, rfl, rfl, _, rfl, ite2 (fun c => ?_) (fun c => ?_)⟩
      · rw [li] at c
        have il : i < ns.length := by
          have : (i : Int) < (ns.length : Int) := of_decide_eq_true c
          omega
        have gi : ns[i]? = some ns[i] := List.getElem?_eq_getElem il
        have hsp : codeL ns = codeL (ns.take i) ++ (codeN ns[i] ++ codeL (ns.drop (i + 1))) := by
          rw [← codeL_cons, ← codeL_app, List.getElem_cons_drop, List.take_append_drop]
        have hd2 : L.drop (st + (codeL (ns.take i)).length) = codeN ns[i] ++ (codeL (ns.drop (i + 1)) ++ rest) := by
          refine drop_more (a := codeL (ns.take i)) ?_
          rw [hd, hsp]
          simp
        have hl2 : (codeL ns).length = (codeL (ns.take i)).length + ((codeN ns[i]).length + (codeL (ns.drop (i + 1))).length) := by
          rw [hsp, List.length_append, List.length_append]
        refine ⟨.str (txt L), rfl, .int ((st + (codeL (ns.take i)).length : Nat) : Int), rfl, L, _, _, ns[i], rfl, hL, hd2, by omega, fun t nt => ?_⟩
        have x2 := x.trans (Ex.new (o := .tup [.int (ns[i] : Int), .int ((st + (codeL (ns.take i)).length + (codeN ns[i]).length : Nat) : Int)]) nt)
        have hD2 := (Ex.new (o := .tup [.int (ns[i] : Int), .int ((st + (codeL (ns.take i)).length + (codeN ns[i]).length : Nat) : Int)]) nt) _ _ hD
        have ht := upd_same (H := H') (a := t) (o := .tup [.int (ns[i] : Int), .int ((st + (codeL (ns.take i)).length + (codeN ns[i]).length : Nat) : Int)])
        generalize upd H' t (.tup [.int (ns[i] : Int), .int ((st + (codeL (ns.take i)).length + (codeN ns[i]).length : Nat) : Int)]) = H2 at x2 hD2 ht ⊢
        refine ⟨t, _, rfl, SqT.of ht, rfl, _, _, rfl, _, _, rfl, rfl, .ref D, rfl, .inl ⟨rfl, _, SqL.of hD2⟩, .int (ns[i] : Int), rfl, D, _, _, rfl, rfl, hD2, sz_lt (by omega), ⟨i + 1, some (.int (ns[i] : Int)), by omega, ?_, ?_, Ex.mut x2 nD⟩, ?_⟩
        · have e : (codeL (ns.take (i + 1))).length = (codeL (ns.take i)).length + (codeN ns[i]).length := by
            rw [take_up gi, codeL_app, List.length_append]
            simp [codeL]
          rw [e, ← Nat.add_assoc]
          rfl
        · rw [upd_same, take_up gi, nvs_snoc]
        · show ns.length - lenAt D (upd H2 D _) < ns.length - lenAt D H'
          rw [lenAt_is upd_same, lenAt_is hD, List.length_append, li]
          show ns.length - (i + 1) < ns.length - i
          omega
      · rw [li] at c
        have ie : i = ns.length := by
          have : ¬ (i : Int) < (ns.length : Int) := fun z => c (decide_eq_true z)
          omega
        subst ie
        rw [List.take_length] at hD ⊢
        exact ⟨.ref D, rfl, .int ((st + (codeL ns).length : Nat) : Int), rfl, by show 2 ≤ sizeLine; decide, fun p np => q D p _ nD (fresh_back x np) (x.trans (Ex.new np)) ((Ex.new np) _ _ hD) upd_same⟩
    · obtain ⟨v, hv, a, xs, e, hS, w', hw, i, j, e1, e2, k, hk, hq⟩ := h
      exact ⟨v, hv, a, xs, e, hS, w', hw, i, j, e1, e2, k, hk, m _ _ hq⟩
def spCkT : Sp := fun vs H Q _ => ∃ z : Str, vs = [.str z] ∧ Q .non H
set_option maxHeartbeats 4000000 in
theorem ok_check_text (T : TX K mg A FD TK) : FnOk P w K mg base CX0 1 (A 28) (FD 28) ["text"] spCkT := by
  refine T.f_check_text.ok sc_check_text (fun vs H Q E h => ?_) (fun cdv A' outer s H vs Q E hr h => ?_)
  · obtain ⟨z, rfl, _⟩ := h
    rfl
  · obtain ⟨z, rfl, q⟩ := h
    refine ⟨_, (pss_one (ps_if (pt_not (pt_val (pe_callB (isiK (K := K) rfl) (by rfl) T.m_isinstance (by decide +kernel) (pa_cons (pv 0) (pa_cons (pe_bltn (v := .ty "str") (by rfl) T.m_str (by decide +kernel) rfl) pa_nil)))))
      (pss_one ps_never)
      pss_nil)), ?_⟩
    exact ⟨.str z, rfl, .str z, .ty "str", .type "str", .type "str", true, rfl, .ty _, .base (.str z), kit_ty (by decide +kernel), _, rfl, ite2 (fun c => absurd c (by decide)) (fun _ => q)⟩
def restE (es : List (Nat × List Nat)) : List Nat := ((es.map codeP).flatten).flatten
theorem codeE_flat (es : List (Nat × List Nat)) : (codeE es).flatten = codeN es.length ++ (codeL (gapsL (slots es)) ++ restE es) := by
  unfold codeE restE
  simp
theorem restE_app (a b : List (Nat × List Nat)) : restE (a ++ b) = restE a ++ restE b := by
  unfold restE
  rw [List.map_append, List.flatten_append, List.flatten_append]
theorem restE_one (e : Nat × List Nat) : restE [e] = codeN (e.2.length - 1) ++ codeL (gapsL e.2) := by
  unfold restE codeP
  simp
theorem restE_cons (e : Nat × List Nat) (r : List (Nat × List Nat)) : restE (e :: r) = codeN (e.2.length - 1) ++ (codeL (gapsL e.2) ++ restE r) := by
  have := restE_app [e] r
  rw [restE_one, List.append_assoc] at this
  exact this
theorem EnsA.mono {H H' : Hp} {xs : List V} {es : List (Nat × List Nat)} (h : EnsA H xs es) (k : ∀ b zs, H b = some (.tup zs) → H' b = some (.tup zs)) : EnsA H' xs es := ⟨h.1, fun i e g => by
  obtain ⟨a, h1, t, h2, h3⟩ := h.2 i e g
  exact ⟨a, h1, t, k _ _ h2, k _ _ h3⟩⟩
theorem EnsA.snoc {H : Hp} {xs : List V} {es : List (Nat × List Nat)} {a : Addr} {e : Nat × List Nat} (h : EnsA H xs es) (g : EnA H a e) : EnsA H (xs ++ [.ref a]) (es ++ [e]) := by
  refine ⟨by rw [List.length_append, List.length_append, h.1]; rfl, fun i f q => ?_⟩
  by_cases l : i < es.length
  · rw [List.getElem?_append_left l] at q
    obtain ⟨b, h1, h2⟩ := h.2 i f q
    exact ⟨b, by rw [List.getElem?_append_left (by rw [h.1]; exact l)]; exact h1, h2⟩
  · rw [List.getElem?_append_right (by omega)] at q
    have i0 : i - es.length = 0 := by
      have := (List.getElem?_eq_some_iff.mp q).1
      simp at this
      omega
    rw [i0] at q
    cases q
    exact ⟨a, by rw [List.getElem?_append_right (by rw [h.1]; omega), h.1, i0]; rfl, g⟩
def spDec (K : PySem.W.Frag) : Sp := fun vs H Q _ => ∃ es : List (Nat × List Nat), vs = [.str (txt (codeE es).flatten)] ∧ Ens es ∧ (codeE es).flatten.length ≤ 90000 ∧ ∀ (l : Addr) (xs : List V) (H' : Hp), H l = none → Ex H H' → H' l = some (.lst xs) → EnsA H' xs es → Q (.ref l) H'
set_option maxHeartbeats 16000000 in
theorem ok_decode_entries (T : TX K mg A FD TK) : FnOk P w K mg base CX0 3 (A 21) (FD 21) ["text"] (spDec K) := by
  have G_check_text := (ok_check_text (P := P) (w := w) (base := base) T).mono (show 1 ≤ 2 by decide)
  have G_read_number := (ok_read_number (P := P) (w := w) (base := base) T).mono (show 1 ≤ 2 by decide)
  have G_read_numbers := ok_read_numbers (P := P) (w := w) (base := base) T
  have G_risen := (ok_risen (P := P) (w := w) (base := base) T).mono (show 1 ≤ 2 by decide)
  refine T.f_decode_entries.ok (k := 2) sc_decode_entries (fun vs H Q E h => ?_) (fun cdv A' outer s H vs Q E hr h => ?_)
  · obtain ⟨es, rfl, _⟩ := h
    rfl
  · obtain ⟨es, rfl, hs, hL, q⟩ := h
    have few := hs.few
    have sl : (slots es).length = es.length := List.length_map ..
    have gl : (gapsL (slots es)).length = es.length := by rw [gapsL_len, sl]
    have fl := codeE_flat es
    have ll : (codeE es).flatten.length = (codeN es.length).length + ((codeL (gapsL (slots es))).length + (restE es).length) := by
      rw [fl, List.length_append, List.length_append]
    generalize hLL : (codeE es).flatten = L at fl ll hL ⊢
    refine ⟨_, (pss_cons (ps_expr (pe_call G_check_text hr (by rfl) T.g_check_text T.f_check_text.kp T.b_check_text .nil pass0 (pa_cons (pv 0) pa_nil)))
      (pss_cons (ps_asg (pe_call G_read_number hr (by rfl) T.g_read_number T.f_read_number.kp T.b_read_number .nil pass0 (pa_cons (pv 0) (pa_cons pe_int pa_nil))) (pg_tup rfl (pgs_cons (pg_name (i := 1) sc_decode_entries.nd rfl (.inl rfl)) (pgs_cons (pg_name (i := 2) sc_decode_entries.nd rfl (.inl rfl)) pgs_nil))))
      (pss_cons (ps_asg (pe_call G_read_numbers hr (by rfl) T.g_read_numbers T.f_read_numbers.kp T.b_read_numbers .nil pass0 (pa_cons (pv 0) (pa_cons (pv 2) (pa_cons (pv 1) pa_nil)))) (pg_tup rfl (pgs_cons (pg_name (i := 3) sc_decode_entries.nd rfl (.inl rfl)) (pgs_cons (pg_name (i := 2) sc_decode_entries.nd rfl (.inl rfl)) pgs_nil))))
      (pss_cons (ps_set (i := 4) sc_decode_entries.nd rfl (.inl rfl) (pe_lst pa_nil))
      (pss_cons (ps_for PassesOwn.never rfl (piLK (K := K) rfl (pe_call G_risen hr (by rfl) T.g_risen T.f_risen.kp T.b_risen .nil pass0 (pa_cons (pv 3) pa_nil))) (pg_name (i := 5) sc_decode_entries.nd rfl (.inl rfl))
      (pss_cons (ps_asg (pe_call G_read_number hr (by rfl) T.g_read_number T.f_read_number.kp T.b_read_number .nil pass0 (pa_cons (pv 0) (pa_cons (pv 2) pa_nil))) (pg_tup rfl (pgs_cons (pg_name (i := 6) sc_decode_entries.nd rfl (.inl rfl)) (pgs_cons (pg_name (i := 2) sc_decode_entries.nd rfl (.inl rfl)) pgs_nil))))
      (pss_cons (ps_asg (pe_call G_read_numbers hr (by rfl) T.g_read_numbers T.f_read_numbers.kp T.b_read_numbers .nil pass0 (pa_cons (pv 0) (pa_cons (pv 2) (pa_cons (pe_op op_add (pv 6) pe_int) pa_nil)))) (pg_tup rfl (pgs_cons (pg_name (i := 7) sc_decode_entries.nd rfl (.inl rfl)) (pgs_cons (pg_name (i := 2) sc_decode_entries.nd rfl (.inl rfl)) pgs_nil))))
      (pss_one (ps_expr (pe_bm PySem.F.plainAttrs_list PySem.F.slot_list_append PySem.F.type_list_append mt_append (pv 4) (pa_cons (pe_tup (pa_cons (pv 5) (pa_cons (pe_callTy (tupK (K := K) rfl) (by rfl) T.m_tuple (by decide +kernel) (pa_cons (pe_call G_risen hr (by rfl) T.g_risen T.f_risen.kp T.b_risen .nil pass0 (pa_cons (pv 7) pa_nil)) pa_nil)) pa_nil))) pa_nil)))))))
      (pss_cons (ps_if (pt_cmpR op_lt (pv 2) (pe_callB call_len_str (by rfl) T.m_len (by decide +kernel) (pa_cons (pv 0) pa_nil)) (nomark _))
      (pss_one ps_never)
      pss_nil)
      (pss_one (ps_ret (pv 4))))))))), ?_⟩
    refine ⟨.str (txt L), rfl, txt L, rfl, .str (txt L), rfl, L, codeL (gapsL (slots es)) ++ restE es, 0, es.length, rfl, hL, ?_, by omega, fun t1 nt1 => ?_⟩
    · rw [List.drop_zero]
      exact fl
    have e1 := Ex.new (o := .tup [.int (es.length : Int), .int ((0 + (codeN es.length).length : Nat) : Int)]) nt1
    have h1 := upd_same (H := H) (a := t1) (o := .tup [.int (es.length : Int), .int ((0 + (codeN es.length).length : Nat) : Int)])
    generalize upd H t1 (.tup [.int (es.length : Int), .int ((0 + (codeN es.length).length : Nat) : Int)]) = H1 at e1 h1 ⊢
    rw [Nat.zero_add] at h1
    refine ⟨t1, _, rfl, SqT.of h1, rfl, _, _, rfl, _, _, rfl, rfl, .str (txt L), rfl, .int (((codeN es.length).length : Nat) : Int), rfl, .int (es.length : Int), rfl, L, restE es, (codeN es.length).length, gapsL (slots es), ?_, hL, by omega, ?_, by omega, fun lg t2 H2 nlg nt2 e2 hlg h2 => ?_⟩
    · rw [gl]
      rfl
    · rw [fl, List.drop_left' rfl]
    refine ⟨t2, _, rfl, SqT.of h2, rfl, _, _, rfl, _, _, rfl, rfl, Nat.zero_le _, fun D nD => ?_⟩
    have x2 : Ex H H2 := e1.trans e2
    have nD0 : H D = none := fresh_back x2 nD
    refine ⟨.ref lg, rfl, lg, slots es, rfl, SqL.of ((Ex.new nD) _ _ hlg), hs.ris, by omega, fun ls H3 nls e3 hls => ?_⟩
    have x3 : Ex H H3 := (x2.trans (Ex.new nD)).trans e3
    have hD3 : H3 D = some (.lst []) := e3 _ _ upd_same
    have nlsD : ls ≠ D := (ne_of_none (upd_same (H := H2) (a := D) (o := .lst [])) nls).symm
    refine ⟨ls, rfl, ⟨_, SqL.of hls⟩, ?_⟩
    refine for_list (K := K) (xs := nvs (slots es)) (fun i σ' H' => (∃ o5 o6 o7, σ' = [some (.str (txt L)), some (.int (es.length : Int)), some (.int (((codeN es.length).length + (codeL (gapsL (slots es))).length + (restE (es.take i)).length : Nat) : Int)), some (.ref lg), some (.ref D), o5, o6, o7]) ∧ (∃ ys, H' D = some (.lst ys) ∧ EnsA H' ys (es.take i)) ∧ H' ls = some (.lst (nvs (slots es))) ∧ Ex H H')
      ⟨⟨none, none, none, rfl⟩, ⟨[], hD3, rfl, fun i e g => by simp at g⟩, hls, x3⟩ (fun i σ' H' _ p => SqL.of p.2.2.1) (fun i v σ' H4 gv p => ?_) (fun σ' H4 p => ?_)
    · obtain ⟨⟨o5, o6, o7, rfl⟩, ⟨ys, hD4, hE4⟩, hls4, x4⟩ := p
      obtain ⟨sn, gs, rfl, il⟩ := nvs_at gv
      have il2 : i < es.length := by omega
      have ge : es[i]? = some es[i] := List.getElem?_eq_getElem il2
      have es1 := slots_at ge
      rw [gs] at es1
      cases es1
      have he := hs.ok es[i] (List.getElem_mem il2)
      have hfew := he.few
      have hsome := he.some
      have hsp : restE es = restE (es.take i) ++ (codeN (es[i].2.length - 1) ++ (codeL (gapsL es[i].2) ++ restE (es.drop (i + 1)))) := by
        rw [← restE_cons, ← restE_app, List.getElem_cons_drop, List.take_append_drop]
      have hl2 := congrArg List.length hsp
      rw [List.length_append, List.length_append, List.length_append] at hl2
      have d0 : L.drop ((codeN es.length).length + (codeL (gapsL (slots es))).length + (restE (es.take i)).length) = codeN (es[i].2.length - 1) ++ (codeL (gapsL es[i].2) ++ restE (es.drop (i + 1))) := by
        refine drop_more (a := restE (es.take i)) ?_
        rw [← hsp]
        refine drop_more (a := codeL (gapsL (slots es))) ?_
        rw [fl, List.drop_left' rfl]
      generalize ha0 : (codeN es.length).length + (codeL (gapsL (slots es))).length + (restE (es.take i)).length = a0 at d0 ⊢
      refine ⟨.str (txt L), rfl, .int (a0 : Int), rfl, L, _, a0, es[i].2.length - 1, rfl, hL, d0, by omega, fun t5 nt5 => ?_⟩
      have e5 := Ex.new (o := .tup [.int ((es[i].2.length - 1 : Nat) : Int), .int ((a0 + (codeN (es[i].2.length - 1)).length : Nat) : Int)]) nt5
      have h5 := upd_same (H := H4) (a := t5) (o := .tup [.int ((es[i].2.length - 1 : Nat) : Int), .int ((a0 + (codeN (es[i].2.length - 1)).length : Nat) : Int)])
      generalize upd H4 t5 (.tup [.int ((es[i].2.length - 1 : Nat) : Int), .int ((a0 + (codeN (es[i].2.length - 1)).length : Nat) : Int)]) = H5 at e5 h5 ⊢
      have g2 : (gapsL es[i].2).length = es[i].2.length := gapsL_len _
      refine ⟨t5, _, rfl, SqT.of h5, rfl, _, _, rfl, _, _, rfl, rfl, .str (txt L), rfl, .int _, rfl, .int _, rfl, _, 1, rfl, rfl, L, restE (es.drop (i + 1)), a0 + (codeN (es[i].2.length - 1)).length, gapsL es[i].2, ?_, hL, by omega, drop_more d0, by omega, fun lp t6 H6 nlp nt6 e6 hlp h6 => ?_⟩
      · rw [g2]
        show [V.str (txt L), V.int ((a0 + (codeN (es[i].2.length - 1)).length : Nat) : Int), V.int (((es[i].2.length - 1 : Nat) : Int) + 1)] = _
        rw [show ((es[i].2.length - 1 : Nat) : Int) + 1 = (es[i].2.length : Int) by omega]
      have x6 : Ex H4 H6 := e5.trans e6
      refine ⟨t6, _, rfl, SqT.of h6, rfl, _, _, rfl, _, _, rfl, rfl, .ref D, rfl, .inl ⟨rfl, _, SqL.of (x6 _ _ hD4)⟩, .int _, rfl, .ref lp, rfl, lp, es[i].2, rfl, SqL.of hlp, he.ris, by omega, fun lr H7 nlr e7 hlr => ?_⟩
      refine ⟨lr, _, rfl, .inl ⟨SqL.of hlr, fun tp ntp => ?_⟩⟩
      have e8 := Ex.new (o := .tup (nvs es[i].2)) ntp
      have h8 := upd_same (H := H7) (a := tp) (o := .tup (nvs es[i].2))
      generalize upd H7 tp (.tup (nvs es[i].2)) = H8 at e8 h8 ⊢
      refine ⟨by show 2 ≤ sizeLine; decide, fun te nte => ?_⟩
      have e9 := Ex.new (o := .tup [.int (es[i].1 : Int), .ref tp]) nte
      have h9 := upd_same (H := H8) (a := te) (o := .tup [.int (es[i].1 : Int), .ref tp])
      have x9 : Ex H4 (upd H8 te (.tup [.int (es[i].1 : Int), .ref tp])) := ((x6.trans e7).trans e8).trans e9
      have h89 := e9 _ _ h8
      generalize upd H8 te (.tup [.int (es[i].1 : Int), .ref tp]) = H9 at e9 h9 x9 h89 ⊢
      have hD9 := x9 _ _ hD4
      have lys : ys.length ≤ 60 := by
        rw [hE4.1, List.length_take]
        omega
      refine ⟨D, _, _, rfl, rfl, hD9, sz_lt (by omega), ⟨some (.int (es[i].1 : Int)), some (.int ((es[i].2.length - 1 : Nat) : Int)), some (.ref lp), ?_⟩, ⟨ys ++ [.ref te], upd_same, ?_⟩, ?_, Ex.mut (x4.trans x9) nD0⟩
      · have e : (restE (es.take (i + 1))).length = (restE (es.take i)).length + ((codeN (es[i].2.length - 1)).length + (codeL (gapsL es[i].2)).length) := by
          rw [take_up ge, restE_app, restE_one, List.length_append, List.length_append]
        rw [e, show (codeN es.length).length + (codeL (gapsL (slots es))).length + ((restE (es.take i)).length + ((codeN (es[i].2.length - 1)).length + (codeL (gapsL es[i].2)).length)) = a0 + (codeN (es[i].2.length - 1)).length + (codeL (gapsL es[i].2)).length by omega]
        rfl
      · have k : ∀ b zs, H9 b = some (.tup zs) → (upd H9 D (.lst (ys ++ [.ref te]))) b = some (.tup zs) := fun b zs hb => by
          rw [upd_ne (ne_of hb hD9 (by intro z; cases z))]
          exact hb
        rw [take_up ge]
        exact ((hE4.ex x9).mono k).snoc ⟨tp, k _ _ h9, k _ _ h89⟩
      · rw [upd_ne nlsD]
        exact x9 _ _ hls4
    · obtain ⟨⟨o5, o6, o7, rfl⟩, ⟨ys, hD4, hE4⟩, hls4, x4⟩ := p
      rw [nvs_len, sl, List.take_length] at hE4
      refine ⟨.int _, rfl, .str (txt L), rfl, txt L, rfl, sz (by rw [txt_len]; omega), _, _, rfl, rfl, _, rfl, ite2 (fun c => ?_) (fun _ => ?_)⟩
      · rw [nvs_len, sl, List.take_length, txt_len] at c
        have := of_decide_eq_true c
        omega
      · exact ⟨.ref D, rfl, q D ys H4 nD0 x4 hD4 hE4⟩

/-! ### blocks: the mathematics -/
abbrev En := Nat × List Nat
def zsI (ns : List Nat) : List Int := ns.map fun (n : Nat) => (n : Int)
theorem nvs_zs (ns : List Nat) : nvs ns = (zsI ns).map V.int := by
  unfold nvs zsI
  rw [List.map_map]
  rfl
theorem zsI_len (ns : List Nat) : (zsI ns).length = ns.length := List.length_map ..
def mxL : List Nat → Nat
  | [] => 0
  | x :: r => max x (mxL r)
def mnL : List Nat → Nat
  | [] => 0
  | [x] => x
  | x :: y :: r => min x (mnL (y :: r))
theorem mxL_ge : ∀ {ns : List Nat} {n : Nat}, n ∈ ns → n ≤ mxL ns
  | x :: r, n, h => by
    rcases List.mem_cons.mp h with rfl | h
    · exact Nat.le_max_left ..
    · exact Nat.le_trans (mxL_ge h) (Nat.le_max_right ..)
theorem mxL_mem : ∀ {ns : List Nat}, ns ≠ [] → mxL ns ∈ ns
  | [x], _ => by simp [mxL]
  | x :: y :: r, _ => by
    have i := mxL_mem (ns := y :: r) (by simp)
    show max x (mxL (y :: r)) ∈ _
    rcases Nat.le_total x (mxL (y :: r)) with h | h
    · rw [Nat.max_eq_right h]
      exact List.mem_cons_of_mem _ i
    · rw [Nat.max_eq_left h]
      exact List.mem_cons_self ..
theorem mnL_le : ∀ {ns : List Nat} {n : Nat}, n ∈ ns → mnL ns ≤ n
  | [x], n, h => by
    rw [List.mem_singleton.mp h]
    exact Nat.le_refl _
  | x :: y :: r, n, h => by
    show min x (mnL (y :: r)) ≤ n
    rcases List.mem_cons.mp h with rfl | h
    · exact Nat.min_le_left ..
    · exact Nat.le_trans (Nat.min_le_right ..) (mnL_le h)
theorem mnL_mem : ∀ {ns : List Nat}, ns ≠ [] → mnL ns ∈ ns
  | [x], _ => by simp [mnL]
  | x :: y :: r, _ => by
    have i := mnL_mem (ns := y :: r) (by simp)
    show min x (mnL (y :: r)) ∈ _
    rcases Nat.le_total x (mnL (y :: r)) with h | h
    · rw [Nat.min_eq_left h]
      exact List.mem_cons_self ..
    · rw [Nat.min_eq_right h]
      exact List.mem_cons_of_mem _ i
theorem zs_mem {ns : List Nat} {m : Int} (h : m ∈ zsI ns) : ∃ n : Nat, n ∈ ns ∧ m = (n : Int) := by
  obtain ⟨n, hn, e⟩ := List.mem_map.mp h
  exact ⟨n, hn, e.symm⟩
theorem mem_zs {ns : List Nat} {n : Nat} (h : n ∈ ns) : (n : Int) ∈ zsI ns := List.mem_map.mpr ⟨n, h, rfl⟩
theorem ne_nil {α : Type} {l : List α} (h : 0 < l.length) : l ≠ [] := fun z => by
  rw [z] at h
  exact absurd h (by simp)
theorem mx_is {ns : List Nat} {m : Int} (hm : m ∈ zsI ns) (hx : ∀ y, y ∈ zsI ns → y ≤ m) : m = ((mxL ns : Nat) : Int) := by
  obtain ⟨n, hn, rfl⟩ := zs_mem hm
  have a := mxL_ge hn
  have b := hx _ (mem_zs (mxL_mem (fun z => by rw [z] at hn; cases hn)))
  omega
theorem mn_is {ns : List Nat} {m : Int} (hm : m ∈ zsI ns) (hx : ∀ y, y ∈ zsI ns → m ≤ y) : m = ((mnL ns : Nat) : Int) := by
  obtain ⟨n, hn, rfl⟩ := zs_mem hm
  have a := mnL_le hn
  have b := hx _ (mem_zs (mnL_mem (fun z => by rw [z] at hn; cases hn)))
  omega
/-- the i-th block of s entries -/
def cutE (es : List En) (s i : Nat) : List En := (es.drop (i * s)).take s
def nb (n s : Nat) : Nat := (n + s - 1) / s
theorem nb_lt {n s i : Nat} (hs : 0 < s) : i < nb n s ↔ i * s < n := by
  unfold nb
  rw [Nat.lt_div_iff_mul_lt hs]
  omega
theorem nb_mul {n s : Nat} (hs : 0 < s) : n ≤ nb n s * s := by
  rcases Nat.lt_or_ge (nb n s * s) n with h | h
  · exact absurd ((nb_lt hs).mpr h) (Nat.lt_irrefl _)
  · exact h
theorem nb_le {n s : Nat} (hs : 0 < s) : nb n s ≤ n := by
  rcases Nat.lt_or_ge n (nb n s) with h | h
  · have := (nb_lt hs).mp h
    have : n ≤ n * s := Nat.le_mul_of_pos_right _ hs
    omega
  · exact h
theorem cutE_len (es : List En) (s i : Nat) : (cutE es s i).length = min s (es.length - i * s) := by
  unfold cutE
  rw [List.length_take, List.length_drop]
theorem cutE_pos {es : List En} {s i : Nat} (hs : 0 < s) (hi : i < nb es.length s) : 0 < (cutE es s i).length := by
  have := (nb_lt hs).mp hi
  rw [cutE_len]
  omega
theorem cutE_mem {es : List En} {s i : Nat} {e : En} (h : e ∈ cutE es s i) : e ∈ es := List.mem_of_mem_drop (List.mem_of_mem_take h)
theorem cutE_at {es : List En} {s i j : Nat} {e : En} (h : (cutE es s i)[j]? = some e) : es[i * s + j]? = some e ∧ j < s := by
  unfold cutE at h
  rw [List.getElem?_take] at h
  by_cases hj : j < s
  · rw [if_pos hj, List.getElem?_drop] at h
    exact ⟨h, hj⟩
  · rw [if_neg hj] at h
    cases h
theorem ah_ge (xs : List Nat) (i : Nat) : -1 ≤ ah xs i := by
  cases i with
  | zero => exact Int.le_refl _
  | succ i =>
    show (-1 : Int) ≤ ((xs.getD i 0 : Nat) : Int)
    omega
theorem ris_drop {xs : List Nat} (h : Ris xs) (k : Nat) : Ris (xs.drop k) := fun i x g => by
  rw [List.getElem?_drop] at g
  cases i with
  | zero =>
    show (-1 : Int) < (x : Int)
    omega
  | succ i =>
    have := h _ _ g
    rw [show k + (i + 1) = (k + i) + 1 by omega] at this
    show ((((xs.drop k).getD i 0 : Nat)) : Int) < (x : Int)
    have e : (xs.drop k).getD i 0 = xs.getD (k + i) 0 := by
      rw [List.getD_eq_getElem?_getD, List.getElem?_drop, List.getD_eq_getElem?_getD]
    rw [e]
    exact this
theorem ris_take {xs : List Nat} (h : Ris xs) (k : Nat) : Ris (xs.take k) := fun i x g => by
  rw [List.getElem?_take] at g
  by_cases hi : i < k
  · rw [if_pos hi] at g
    have := h _ _ g
    cases i with
    | zero => exact this
    | succ i =>
      show ((((xs.take k).getD i 0 : Nat)) : Int) < (x : Int)
      have e : (xs.take k).getD i 0 = xs.getD i 0 := by
        rw [List.getD_eq_getElem?_getD, List.getElem?_take, if_pos (by omega), List.getD_eq_getElem?_getD]
      rw [e]
      exact this
  · rw [if_neg hi] at g
    cases g
theorem cutE_slots (es : List En) (s i : Nat) : slots (cutE es s i) = ((slots es).drop (i * s)).take s := by
  unfold slots cutE
  rw [List.map_take, List.map_drop]
theorem Ens.cut {es : List En} (h : Ens es) (s i : Nat) : Ens (cutE es s i) := ⟨fun e he => h.ok e (cutE_mem he), by rw [cutE_slots]; exact ris_take (ris_drop h.ris _) _, by
  have := h.few
  rw [cutE_len]
  omega⟩
/-- small entries: the code stays short -/
def Sml (es : List En) : Prop := ∀ e ∈ es, e.1 < 256 ∧ ∀ n ∈ e.2, n < 256
theorem Sml.cut {es : List En} (h : Sml es) (s i : Nat) : Sml (cutE es s i) := fun e he => h e (cutE_mem he)
theorem codeL_len2 {ns : List Nat} (h : ∀ n ∈ ns, n < 256) : (codeL ns).length ≤ ns.length * 2 := by
  induction ns with
  | nil => exact Nat.zero_le _
  | cons n r ih =>
    have a := codeN_len 1 n (h n (List.mem_cons_self ..))
    have b := ih fun m hm => h m (List.mem_cons_of_mem _ hm)
    unfold codeL at b ⊢
    rw [List.map_cons, List.flatten_cons, List.length_append, List.length_cons, Nat.add_mul]
    omega
theorem gaps_lt {xs : List Nat} {B : Nat} (h : ∀ n ∈ xs, n < B) : ∀ g ∈ gapsL xs, g < B := fun g hg => by
  obtain ⟨j, hj, rfl⟩ := List.mem_map.mp hg
  have jl : j < xs.length := List.mem_range.mp hj
  have hx := h xs[j] (List.getElem_mem jl)
  have e : xs.getD j 0 = xs[j] := getD_at (List.getElem?_eq_getElem jl)
  have a1 := ah_ge xs j
  unfold gapI
  rw [e]
  omega
theorem codeP_len2 {es : List En} (h : Ens es) (k : Sml es) : (restE es).length ≤ es.length * 242 := by
  have ok := h.ok
  clear h
  induction es with
  | nil => exact Nat.zero_le _
  | cons e r ih =>
    have he := ok e (List.mem_cons_self ..)
    have ke := k e (List.mem_cons_self ..)
    have i := ih (fun f hf => k f (List.mem_cons_of_mem _ hf)) (fun f hf => ok f (List.mem_cons_of_mem _ hf))
    have c := he.few
    have a := codeN_len 1 (e.2.length - 1) (show e.2.length - 1 < 256 by omega)
    have b := codeL_len2 (gaps_lt ke.2)
    rw [gapsL_len] at b
    rw [restE_cons, List.length_append, List.length_append, List.length_cons, Nat.add_mul]
    omega
theorem codeE_len2 {es : List En} (h : Ens es) (k : Sml es) : (codeE es).flatten.length ≤ 2 + es.length * 244 := by
  have f := h.few
  have a := codeN_len 1 es.length (show es.length < 256 by omega)
  have b := codeL_len2 (gaps_lt (xs := slots es) (B := 256) fun n hn => by
    obtain ⟨e, he, rfl⟩ := List.mem_map.mp hn
    exact (k e he).1)
  rw [gapsL_len] at b
  have l : (slots es).length = es.length := List.length_map ..
  have c := codeP_len2 h k
  rw [codeE_flat, List.length_append, List.length_append]
  omega
/-- the entries of the first i blocks -/
theorem take_more (es : List En) (s i : Nat) : es.take ((i + 1) * s) = es.take (i * s) ++ cutE es s i := by
  unfold cutE
  rw [Nat.add_mul, Nat.one_mul, List.take_add]
theorem EnsA.cut {H : Hp} {xs : List V} {es : List En} (h : EnsA H xs es) (s i : Nat) : EnsA H ((xs.drop (i * s)).take s) (cutE es s i) := by
  refine ⟨?_, fun j e g => ?_⟩
  · rw [cutE_len, List.length_take, List.length_drop, h.1]
  · obtain ⟨g1, hj⟩ := cutE_at g
    obtain ⟨a, h1, h2⟩ := h.2 _ _ g1
    exact ⟨a, by rw [List.getElem?_take, if_pos hj, List.getElem?_drop]; exact h1, h2⟩
theorem EnsA.app {H : Hp} {xs ys : List V} {es fs : List En} (h : EnsA H xs es) (k : EnsA H ys fs) : EnsA H (xs ++ ys) (es ++ fs) := by
  refine ⟨by rw [List.length_append, List.length_append, h.1, k.1], fun i e g => ?_⟩
  by_cases hi : i < es.length
  · rw [List.getElem?_append_left hi] at g
    obtain ⟨a, h1, h2⟩ := h.2 i e g
    exact ⟨a, by rw [List.getElem?_append_left (by rw [h.1]; exact hi)]; exact h1, h2⟩
  · rw [List.getElem?_append_right (by omega)] at g
    obtain ⟨a, h1, h2⟩ := k.2 _ e g
    exact ⟨a, by rw [List.getElem?_append_right (by rw [h.1]; omega), h.1]; exact h1, h2⟩
def fstE (es : List En) : Nat := (slots es).headD 0
def lstE (es : List En) : Nat := (slots es).getLastD 0
def mostE (es : List En) : Nat := mxL (es.map fun e => e.2.length)
def leastE (es : List En) (ls : List Nat) : Nat := mnL (es.map fun e => ls.getD e.1 0)
def headE (es : List En) (ls : List Nat) : List Nat := [fstE es, lstE es, es.length, mostE es, leastE es ls]
def blkF (es : List En) (ls : List Nat) : List (Str × V) := [("first", .int (fstE es : Nat)), ("last", .int (lstE es : Nat)), ("many", .int (es.length : Nat)), ("most", .int (mostE es : Nat)), ("least", .int (leastE es ls : Nat)), ("coded", .str (txt (codeE es).flatten))]
def BlkAt (C : Addr) (H : Hp) (b : Addr) (es : List En) (ls : List Nat) : Prop := ∃ dx, H b = some (.ins C dx (blkF es ls))
theorem BlkAt.ex {C : Addr} {H H' : Hp} {b : Addr} {es : List En} {ls : List Nat} (h : BlkAt C H b es ls) (x : Ex H H') : BlkAt C H' b es ls := by
  obtain ⟨dx, h⟩ := h
  exact ⟨dx, x _ _ h⟩
theorem fst_at {es : List En} {e : En} (g : es[0]? = some e) : fstE es = e.1 := by
  cases es with
  | nil => cases g
  | cons a r =>
    cases g
    rfl
theorem lst_at {es : List En} {e : En} (g : es[es.length - 1]? = some e) : lstE es = e.1 := by
  unfold lstE
  rw [List.getLastD_eq_getLast?, List.getLast?_eq_getElem?]
  have l : (slots es).length = es.length := List.length_map ..
  rw [l, slots_at g]
  rfl
theorem atI_end {α : Type} {xs : List α} {x : α} (g : xs[xs.length - 1]? = some x) : atI xs (-1) = some x := by
  have hl := (List.getElem?_eq_some_iff.mp g).1
  have e : ixN xs.length (-1) = some (xs.length - 1) := by
    unfold ixN
    rw [if_neg (by decide), if_pos (by omega)]
    congr 1
    omega
  unfold atI
  rw [e]
  exact g
/-- entries and the lengths of pages that fit -/
structure Fit (es : List En) (ls : List Nat) : Prop where
  few : ls.length ≤ 60
  most : ∀ n ∈ ls, n ≤ 120
  fit : ∀ e ∈ es, e.1 < ls.length ∧ ∀ n ∈ e.2, n < ls.getD e.1 0
theorem getD_mem {ls : List Nat} {i : Nat} (h : i < ls.length) : ls.getD i 0 ∈ ls := by
  rw [getD_at (List.getElem?_eq_getElem h)]
  exact List.getElem_mem h
theorem Fit.sml {es : List En} {ls : List Nat} (h : Fit es ls) : Sml es := fun e he => by
  obtain ⟨a, b⟩ := h.fit e he
  have := h.few
  refine ⟨by omega, fun n hn => ?_⟩
  have c := b n hn
  have d := h.most _ (getD_mem a)
  omega
theorem Fit.cut {es : List En} {ls : List Nat} (h : Fit es ls) (s i : Nat) : Fit (cutE es s i) ls := ⟨h.few, h.most, fun e he => h.fit e (cutE_mem he)⟩

/-! ### check_word, check_lengths, check_size, check_fit -/
def spCkWd : Sp := fun vs H Q _ => ∃ z : Str, vs = [.str z] ∧ isW z = true ∧ ∀ H', Ex H H' → Q .non H'
set_option maxHeartbeats 4000000 in
theorem ok_check_word (T : TX K mg A FD TK) : FnOk P w K mg base CX0 2 (A 43) (FD 43) ["word"] spCkWd := by
  have G_is_word := ok_is_word (P := P) (w := w) (base := base) T
  refine T.f_check_word.ok sc_check_word (fun vs H Q E h => ?_) (fun cdv A' outer s H vs Q E hr h => ?_)
  · obtain ⟨z, rfl, _⟩ := h
    rfl
  · obtain ⟨z, rfl, hz, q⟩ := h
    refine ⟨_, (pss_one (ps_if (pt_not (pt_val (pe_call G_is_word hr (by rfl) T.g_is_word T.f_is_word.kp T.b_is_word .nil pass0 (pa_cons (pv 0) pa_nil))))
      (pss_one ps_never)
      pss_nil)), ?_⟩
    refine ⟨.str z, rfl, z, rfl, by have := isW_len hz; omega, fun H1 e1 => ⟨_, rfl, ?_⟩⟩
    rw [hz]
    exact iteF (q _ e1)
def spCkSz : Sp := fun vs H Q _ => ∃ n : Nat, vs = [.int (n : Int)] ∧ 1 ≤ n ∧ n ≤ 8 ∧ ∀ H', Ex H H' → Q .non H'
set_option maxHeartbeats 4000000 in
theorem ok_check_size (T : TX K mg A FD TK) : FnOk P w K mg base CX0 3 (A 51) (FD 51) ["size"] spCkSz := by
  have G_is_within := ok_is_within (P := P) (w := w) (base := base) T
  refine T.f_check_size.ok sc_check_size (fun vs H Q E h => ?_) (fun cdv A' outer s H vs Q E hr h => ?_)
  · obtain ⟨n, rfl, _⟩ := h
    rfl
  · obtain ⟨n, rfl, h1, h2, q⟩ := h
    refine ⟨_, (pss_one (ps_if (pt_not (pt_val (pe_call G_is_within hr (by rfl) T.g_is_within T.f_is_within.kp T.b_is_within .nil pass0 (pa_cons (pv 0) (pa_cons pe_int (pa_cons (pe_glob (v := .int 8) (by rfl) T.c_MOST_SIZE ⟨_, rfl⟩) pa_nil))))))
      (pss_one ps_never)
      pss_nil)), ?_⟩
    refine ⟨.int (n : Int), rfl, n, 1, 8, rfl, fun H1 e1 => ⟨_, rfl, ?_⟩⟩
    rw [decide_eq_true (show (1 : Int) ≤ n by omega), decide_eq_true (show (n : Int) ≤ 8 by omega)]
    exact q _ e1
def spCkLn : Sp := fun vs H Q _ => ∃ (m : Addr) (ls : List Nat), vs = [.ref m] ∧ H m = some (.lst (nvs ls)) ∧ ls.length ≤ 60 ∧ (∀ n ∈ ls, n ≤ 120) ∧ ∀ H', Ex H H' → Q .non H'
set_option maxHeartbeats 4000000 in
theorem ok_check_lengths (T : TX K mg A FD TK) : FnOk P w K mg base CX0 3 (A 50) (FD 50) ["lengths"] spCkLn := by
  have G_is_within := ok_is_within (P := P) (w := w) (base := base) T
  refine T.f_check_lengths.ok sc_check_lengths (fun vs H Q E h => ?_) (fun cdv A' outer s H vs Q E hr h => ?_)
  · obtain ⟨m, ls, rfl, _⟩ := h
    rfl
  · obtain ⟨m, ls, rfl, hm, hl, hb, q⟩ := h
    refine ⟨_, (pss_cons (ps_if (PW.pt (pw_or (pt_not (pt_val (pe_callB (isiK (K := K) rfl) (by rfl) T.m_isinstance (by decide +kernel) (pa_cons (pv 0) (pa_cons (pe_bltn (v := .ty "list") (by rfl) T.m_list (by decide +kernel) rfl) pa_nil))))) (pw_or1 (pt_cmpR op_gt (pe_callB (lenK (K := K) rfl) (by rfl) T.m_len (by decide +kernel) (pa_cons (pv 0) pa_nil)) (pe_glob (v := .int 60) (by rfl) T.c_MOST_LENGTHS ⟨_, rfl⟩) (nomark _)))))
      (pss_one ps_never)
      pss_nil)
      (pss_one (ps_if (pt_not (pt_val (pe_callB (allK (K := K) rfl rfl) (by rfl) T.m_all (by decide +kernel) (pa_cons (pe_lc (own := [("length", 1)])  rfl sc_check_lengths.nd (piLK (K := K) rfl (pv 0)) (blkOk_by (own := [("length", 1)]) (N := N_check_lengths) (sc := defScope (topS 50)) (by decide +kernel)) (fun _ _ _ _ _ => (pg_name (i := 1) sc_check_lengths.nd rfl (Or.inl rfl))) (fun _ _ _ _ _ => pts_nil) (fun _ _ _ _ _ => (pe_call G_is_within hr (by rfl) T.g_is_within T.f_is_within.kp T.b_is_within .nil pass0 (pa_cons (pv 1) (pa_cons pe_int (pa_cons (pe_glob (v := .int 120) (by rfl) T.c_MOST_WORDS ⟨_, rfl⟩) pa_nil)))))) pa_nil))))
      (pss_one ps_never)
      pss_nil))), ?_⟩
    refine ⟨.ref m, rfl, .ref m, .ty "list", .type "list", .type "list", true, rfl, .ty _, .base (.lst hm), kit_ty (by decide +kernel), true, rfl, ?_⟩
    refine ⟨.ref m, rfl, m, _, rfl, .inl (SqL.of hm), _, 60, rfl, rfl, _, rfl, ite2 (fun c => ?_) (fun _ => ?_)⟩
    · have c : (60 : Int) < ((nvs ls).length : Int) := of_decide_eq_true c
      rw [nvs_len] at c
      omega
    refine ⟨.ref m, rfl, m, rfl, ⟨_, SqL.of hm⟩, fun D hD => ?_⟩
    refine lc_list (K := K) (xs := nvs ls) (fun i H' => Ex H H' ∧ H' D = some (.lst ((List.replicate i true).map V.bl))) ⟨Ex.new hD, upd_same⟩ (fun i H' _ p => ex_l p.1 (SqL.of hm)) (fun i x H2 hx p => ?_) (fun H2 p => ?_)
    · obtain ⟨p1, p2⟩ := p
      obtain ⟨n, gn, rfl, il⟩ := nvs_at hx
      have bn := hb n (List.mem_of_getElem? gn)
      refine ⟨rfl, .int (n : Int), rfl, n, 0, 120, rfl, fun H3 e3 => ⟨_, e3 _ _ p2, ?_, Ex.mut (p1.trans e3) hD, ?_⟩⟩
      · rw [List.length_map, List.length_replicate]
        exact sz_lt (by omega)
      · rw [upd_same, List.replicate_succ', List.map_append, decide_eq_true (show (0 : Int) ≤ n by omega), decide_eq_true (show (n : Int) ≤ 120 by omega)]
        rfl
    · obtain ⟨p1, p2⟩ := p
      refine ⟨D, _, rfl, SqL.of p2, _, rfl, ?_⟩
      rw [show (List.replicate (nvs ls).length true).all id = true by simp]
      exact q _ p1
def spCkFt (K : PySem.W.Frag) : Sp := fun vs H Q _ => ∃ (l m : Addr) (xs : List V) (es : List En) (ls : List Nat), vs = [.ref l, .ref m] ∧ H l = some (.lst xs) ∧ EnsA H xs es ∧ Ens es ∧ H m = some (.lst (nvs ls)) ∧ Fit es ls ∧ ∀ H', Ex H H' → Q .non H'
set_option maxHeartbeats 4000000 in
theorem ok_check_fit (T : TX K mg A FD TK) : FnOk P w K mg base CX0 1 (A 52) (FD 52) ["entries", "lengths"] (spCkFt K) := by
  refine T.f_check_fit.ok sc_check_fit (fun vs H Q E h => ?_) (fun cdv A' outer s H vs Q E hr h => ?_)
  · obtain ⟨l, m, xs, es, ls, rfl, _⟩ := h
    rfl
  · obtain ⟨l, m, xs, es, ls, rfl, hl, hE, hN, hm, hF, q⟩ := h
    refine ⟨_, (pss_one (ps_for PassesOwn.never rfl (pi_enum (by rfl) T.m_enumerate (pa_cons (pv 0) pa_nil)) (pg_tup rfl (pgs_cons (pg_name (i := 2) sc_check_fit.nd rfl (.inl rfl)) (pgs_cons (pg_tup rfl (pgs_cons (pg_name (i := 3) sc_check_fit.nd rfl (.inl rfl)) (pgs_cons (pg_name (i := 4) sc_check_fit.nd rfl (.inl rfl)) pgs_nil))) pgs_nil)))
      (pss_one (ps_if (PW.pt (pw_or (pt_cmpR op_ge (pv 3) (pe_callB (lenK (K := K) rfl) (by rfl) T.m_len (by decide +kernel) (pa_cons (pv 1) pa_nil)) (nomark _)) (pw_or1 (pt_cmpR op_ge (pe_ix (ixTK (K := K) rfl) (pv 4) (pe_un un_neg pe_int) (fun _ _ => rfl)) (pe_ix (ixLK (K := K) rfl) (pv 1) (pv 3) (fun _ _ => rfl)) (nomark _)))))
      (pss_one ps_never)
      pss_nil)))), ?_⟩
    refine ⟨.ref l, rfl, l, _, rfl, SqL.of hl, ?_⟩
    refine for_it (walk_enum (K := K) (a := l) (xs := xs)) (fun i σ' H' => (∃ o1 o2 o3, σ' = [some (.ref l), some (.ref m), o1, o2, o3]) ∧ Ex H H') ⟨⟨none, none, none, rfl⟩, Ex.refl H⟩ (fun i σ' H' _ p => SqL.of (p.2 _ _ hl)) (fun i x σ' H1 H2 hi p y => ?_) (fun σ' H1 p => ?_)
    · obtain ⟨⟨o1, o2, o3, rfl⟩, x1⟩ := p
      obtain ⟨Tt, u1, u2, rfl, nT, rfl, g1, g2⟩ := y
      cases g1
      obtain ⟨e, a, ge, rfl, hA⟩ := hE.at g2
      have eT := Ex.new (o := .tup [V.int (i : Nat), .ref a]) nT
      have em := List.mem_of_getElem? ge
      obtain ⟨t, ha, ht⟩ := hA.ex (x1.trans eT)
      obtain ⟨f1, f2⟩ := hF.fit e em
      have hm2 := (x1.trans eT) _ _ hm
      have h0 := (hN.ok e em).some
      have last := f2 (e.2[e.2.length - 1]'(by omega)) (List.getElem_mem _)
      have gl : e.2[e.2.length - 1]? = some (e.2[e.2.length - 1]'(by omega)) := List.getElem?_eq_getElem _
      generalize e.2[e.2.length - 1]'(by omega) = y at last gl
      have gls : (nvs ls)[e.1]? = some (.int ((ls.getD e.1 0 : Nat) : Int)) := by
        unfold nvs
        rw [List.getElem?_map, List.getElem?_eq_getElem f1, getD_at (List.getElem?_eq_getElem f1)]
        rfl
      have gy : (nvs e.2)[(nvs e.2).length - 1]? = some (.int (y : Int)) := by
        rw [nvs_len]
        unfold nvs
        rw [List.getElem?_map, gl]
        rfl
      refine ⟨Tt, _, rfl, SqT.of upd_same, rfl, _, _, rfl, _, _, rfl, a, _, rfl, SqT.of ha, rfl, _, _, rfl, _, _, rfl, rfl, rfl, ?_⟩
      refine ⟨.int (e.1 : Int), rfl, .ref m, rfl, m, _, rfl, .inl (SqL.of hm2), _, _, rfl, rfl, _, rfl, ite2 (fun c => ?_) (fun _ => ?_)⟩
      · have c : ((nvs ls).length : Int) ≤ (e.1 : Int) := of_decide_eq_true c
        rw [nvs_len] at c
        omega
      refine ⟨.ref t, rfl, 1, rfl, t, _, -1, _, rfl, rfl, SqT.of ht, atI_end gy, .ref m, rfl, .int (e.1 : Int), rfl, m, _, _, _, rfl, rfl, SqL.of hm2, atI_nat gls, _, _, rfl, rfl, _, rfl, ite2 (fun c => ?_) (fun _ => ?_)⟩
      · have c : ((ls.getD e.1 0 : Nat) : Int) ≤ (y : Int) := of_decide_eq_true c
        omega
      · exact ⟨⟨_, _, _, rfl⟩, x1.trans eT⟩
    · obtain ⟨⟨o1, o2, o3, rfl⟩, x1⟩ := p
      exact q _ x1

/-! ### Block -/
/-- all but x stays -/
def ExI (x : Addr) (H H' : Hp) : Prop := ∀ b o, b ≠ x → H b = some o → H' b = some o
theorem ExI.new {H H' : Hp} {x dx : Addr} {o u : HO} (nx : H x = none) (nd : H dx = none) (i : ExI x (upd (upd H dx o) x u) H') : Ex H H' := fun c q h => by
  refine i c q (ne_of_none h nx) ?_
  rw [upd_ne (ne_of_none h nx), upd_ne (ne_of_none h nd)]
  exact h
theorem EnsA.keep {H H' : Hp} {xs : List V} {es : List En} {C x dx : Addr} {fs : List (Str × V)} (h : EnsA H xs es) (hx : H x = some (.ins C dx fs)) (i : ExI x H H') : EnsA H' xs es := h.mono fun b zs hb => i b _ (ne_of hb hx (by intro z; cases z)) hb
theorem lst_keep {H H' : Hp} {C x dx l : Addr} {fs : List (Str × V)} {xs : List V} (h : H l = some (.lst xs)) (hx : H x = some (.ins C dx fs)) (i : ExI x H H') : H' l = some (.lst xs) := i l _ (ne_of h hx (by intro z; cases z)) h
def spBIn (C : Addr) : Sp := fun vs H Q _ => ∃ (x dx l m : Addr) (xs : List V) (es : List En) (ls : List Nat), vs = [.ref x, .ref l, .ref m] ∧ H x = some (.ins C dx []) ∧ H l = some (.lst xs) ∧ EnsA H xs es ∧ Ens es ∧ 0 < es.length ∧ H m = some (.lst (nvs ls)) ∧ Fit es ls ∧
  ∀ H', ExI x H H' → H' x = some (.ins C dx (blkF es ls)) → Q .non H'
theorem fld_step {H0 : Hp} {H H1 : Hp} {C x dx : Addr} {fs : List (Str × V)} {f : Str} {v : V} (i : ExI x H0 H) (e : Ex H H1) (hx : H x = some (.ins C dx fs)) : ExI x H0 (upd H1 x (.ins C dx (putF f v fs))) ∧ (upd H1 x (.ins C dx (putF f v fs))) x = some (.ins C dx (putF f v fs)) :=
  ⟨fun b o nb h => by rw [upd_ne nb]; exact e _ _ (i _ _ nb h), upd_same⟩
set_option maxHeartbeats 8000000 in
theorem ok_binit (T : TX K mg A FD TK) : FnOk P w K mg base CX0 7 (A 62) (FD 62) ["self", "entries", "lengths"] (spBIn (A 48)) := by
  have G_code_entries := ok_code_entries (P := P) (w := w) (base := base) T
  refine T.f_Block_init.ok (k := 6) sc_Block_init (fun vs H Q E h => ?_) (fun cdv A' outer s H vs Q E hr h => ?_)
  · obtain ⟨x, dx, l, m, xs, es, ls, rfl, _⟩ := h
    rfl
  · obtain ⟨x, dx, l, m, xs, es, ls, rfl, hx, hl, hE, hN, h0, hm, hF, q⟩ := h
    refine ⟨_, (pss_cons (ps_fld (pv 0) (pe_ix (ixTK (K := K) rfl) (pe_ix (ixLK (K := K) rfl) (pv 1) pe_int (fun _ _ => rfl)) pe_int (fun _ _ => rfl)) rfl)
      (pss_cons (ps_fld (pv 0) (pe_ix (ixTK (K := K) rfl) (pe_ix (ixLK (K := K) rfl) (pv 1) (pe_un un_neg pe_int) (fun _ _ => rfl)) pe_int (fun _ _ => rfl)) rfl)
      (pss_cons (ps_fld (pv 0) (pe_callB (lenK (K := K) rfl) (by rfl) T.m_len (by decide +kernel) (pa_cons (pv 1) pa_nil)) rfl)
      (pss_cons (ps_fld (pv 0) (pe_callB (maxK (K := K) rfl rfl) (by rfl) T.m_max (by decide +kernel) (pa_cons (pe_lc (own := [("slot", 3), ("places", 4)])  rfl sc_Block_init.nd (piLK (K := K) rfl (pv 1)) (blkOk_by (own := [("slot", 3), ("places", 4)]) (N := N_Block_init) (sc := defScope (inClass (topS 48) 0)) (by decide +kernel)) (fun _ _ _ _ _ => (tupGK (K := K) (n := 2) rfl rfl (pgs_cons (pg_name (i := 3) sc_Block_init.nd rfl (Or.inl rfl)) (pgs_cons (pg_name (i := 4) sc_Block_init.nd rfl (Or.inl rfl)) pgs_nil)))) (fun _ _ _ _ _ => pts_nil) (fun _ _ _ _ _ => (pe_callB (lenK (K := K) rfl) (by rfl) T.m_len (by decide +kernel) (pa_cons (pv 4) pa_nil)))) pa_nil)) rfl)
      (pss_cons (ps_fld (pv 0) (pe_callB (minK (K := K) rfl rfl) (by rfl) T.m_min (by decide +kernel) (pa_cons (pe_lc (own := [("slot", 3), ("places", 4)])  rfl sc_Block_init.nd (piLK (K := K) rfl (pv 1)) (blkOk_by (own := [("slot", 3), ("places", 4)]) (N := N_Block_init) (sc := defScope (inClass (topS 48) 0)) (by decide +kernel)) (fun _ _ _ _ _ => (tupGK (K := K) (n := 2) rfl rfl (pgs_cons (pg_name (i := 3) sc_Block_init.nd rfl (Or.inl rfl)) (pgs_cons (pg_name (i := 4) sc_Block_init.nd rfl (Or.inl rfl)) pgs_nil)))) (fun _ _ _ _ _ => pts_nil) (fun _ _ _ _ _ => (pe_ix (ixLK (K := K) rfl) (pv 2) (pv 3) (fun _ _ => rfl)))) pa_nil)) rfl)
      (pss_one (ps_fld (pv 0) (pe_call G_code_entries hr (by rfl) T.g_code_entries T.f_code_entries.kp T.b_code_entries .nil pass0 (pa_cons (pv 1) pa_nil)) rfl))))))), ?_⟩
    have few := hN.few
    have ge0 : es[0]? = some es[0] := List.getElem?_eq_getElem h0
    have geL : es[es.length - 1]? = some (es[es.length - 1]'(by omega)) := List.getElem?_eq_getElem _
    obtain ⟨a0, g0, hA0⟩ := hE.2 _ _ ge0
    obtain ⟨aL, gL, hAL⟩ := hE.2 _ _ geL
    obtain ⟨t0, ha0, _⟩ := id hA0
    -- first
    refine ⟨.ref l, rfl, l, _, 0, _, rfl, rfl, SqL.of hl, atI_nat (j := 0) g0, a0, _, 0, _, rfl, rfl, SqT.of ha0, atI_nat (j := 0) rfl, .ref x, rfl, x, A 48, dx, [], rfl, hx, T.cl_Block, T.n_Block_first, (by show 0 < 1000; decide), ?_⟩
    obtain ⟨i1, hx1⟩ := fld_step (f := "first") (v := .int (es[0].1 : Nat)) (fun b o _ h => h) (Ex.refl H) hx
    generalize (upd H x (.ins (A 48) dx (putF "first" (.int (es[0].1 : Nat)) []))) = H1 at i1 hx1 ⊢
    -- last
    obtain ⟨tL, haL, _⟩ := id (show EnA H1 aL _ from ((hE.keep hx i1).2 _ _ geL).elim fun a h => by rw [gL] at h; cases h.1; exact h.2)
    refine ⟨.ref l, rfl, 1, rfl, l, _, -1, _, rfl, rfl, SqL.of (lst_keep hl hx i1), atI_end (by rw [hE.1]; exact gL), aL, _, 0, _, rfl, rfl, SqT.of haL, atI_nat (j := 0) rfl, .ref x, rfl, x, A 48, dx, _, rfl, hx1, T.cl_Block, T.n_Block_last, (by show 1 < 1000; decide), ?_⟩
    obtain ⟨i2, hx2⟩ := fld_step (f := "last") (v := .int ((es[es.length - 1]'(by omega)).1 : Nat)) i1 (Ex.refl H1) hx1
    generalize (upd H1 x (.ins (A 48) dx (putF "last" (.int ((es[es.length - 1]'(by omega)).1 : Nat)) (putF "first" (.int (es[0].1 : Nat)) [])))) = H2 at i2 hx2 ⊢
    -- many
    have hl2 := lst_keep hl hx i2
    refine ⟨.ref l, rfl, l, _, rfl, .inl (SqL.of hl2), .ref x, rfl, x, A 48, dx, _, rfl, hx2, T.cl_Block, T.n_Block_many, (by show 2 < 1000; decide), ?_⟩
    rw [hE.1]
    obtain ⟨i3, hx3⟩ := fld_step (f := "many") (v := .int (es.length : Nat)) i2 (Ex.refl H2) hx2
    generalize (upd H2 x (.ins (A 48) dx (putF "many" (.int (es.length : Nat)) _))) = H3 at i3 hx3 ⊢
    -- most
    have hl3 := lst_keep hl hx i3
    have hE3 := hE.keep hx i3
    refine ⟨.ref l, rfl, l, rfl, ⟨_, SqL.of hl3⟩, fun D nD => ?_⟩
    refine lc_list (K := K) (xs := xs) (fun i H' => Ex H3 H' ∧ H' D = some (.lst (nvs ((es.take i).map fun e => e.2.length)))) ⟨Ex.new nD, upd_same⟩ (fun i H' _ p => ex_l p.1 (SqL.of hl3)) (fun i v H4 hv p => ?_) (fun H4 p => ?_)
    · obtain ⟨p1, p2⟩ := p
      obtain ⟨e, a, ge, rfl, hA⟩ := hE3.at hv
      obtain ⟨t, ha, ht⟩ := hA.ex p1
      refine ⟨a, _, rfl, SqT.of ha, rfl, _, _, rfl, _, _, rfl, rfl, rfl, .ref t, rfl, t, _, rfl, .inr (SqT.of ht), _, p2, ?_, Ex.mut p1 nD, ?_⟩
      · rw [nvs_len, List.length_map, List.length_take]
        exact sz_lt (by omega)
      · rw [upd_same, take_up ge, List.map_append, nvs_len]
        exact congrArg (fun z => some (HO.lst z)) (nvs_snoc _ _).symm
    obtain ⟨e4, p2⟩ := p
    rw [hE.1, List.take_length, nvs_zs] at p2
    refine ⟨D, _, rfl, SqL.of p2, by rw [zsI_len, List.length_map]; exact h0, fun mm hmm hmx => ?_⟩
    rw [show mm = ((mostE es : Nat) : Int) from mx_is hmm hmx]
    have hx4 := e4 _ _ hx3
    refine ⟨.ref x, rfl, x, A 48, dx, _, rfl, hx4, T.cl_Block, T.n_Block_most, (by show 3 < 1000; decide), ?_⟩
    obtain ⟨i5, hx5⟩ := fld_step (f := "most") (v := .int (mostE es : Nat)) i3 e4 hx3
    generalize (upd H4 x (.ins (A 48) dx (putF "most" (.int (mostE es : Nat)) _))) = H5 at i5 hx5 ⊢
    -- least
    have hl5 := lst_keep hl hx i5
    have hE5 := hE.keep hx i5
    have hm5 := lst_keep hm hx i5
    refine ⟨.ref l, rfl, l, rfl, ⟨_, SqL.of hl5⟩, fun D2 nD2 => ?_⟩
    refine lc_list (K := K) (xs := xs) (fun i H' => Ex H5 H' ∧ H' D2 = some (.lst (nvs ((es.take i).map fun e => ls.getD e.1 0)))) ⟨Ex.new nD2, upd_same⟩ (fun i H' _ p => ex_l p.1 (SqL.of hl5)) (fun i v H6 hv p => ?_) (fun H6 p => ?_)
    · obtain ⟨p1, p2⟩ := p
      obtain ⟨e, a, ge, rfl, hA⟩ := hE5.at hv
      obtain ⟨t, ha, ht⟩ := hA.ex p1
      have f1 := (hF.fit e (List.mem_of_getElem? ge)).1
      have gls : (nvs ls)[e.1]? = some (.int ((ls.getD e.1 0 : Nat) : Int)) := by
        unfold nvs
        rw [List.getElem?_map, List.getElem?_eq_getElem f1, getD_at (List.getElem?_eq_getElem f1)]
        rfl
      refine ⟨a, _, rfl, SqT.of ha, rfl, _, _, rfl, _, _, rfl, rfl, rfl, .ref m, rfl, .int (e.1 : Int), rfl, m, _, _, _, rfl, rfl, SqL.of (p1 _ _ hm5), atI_nat gls, _, p2, ?_, Ex.mut p1 nD2, ?_⟩
      · rw [nvs_len, List.length_map, List.length_take]
        exact sz_lt (by omega)
      · rw [upd_same, take_up ge, List.map_append]
        exact congrArg (fun z => some (HO.lst z)) (nvs_snoc _ _).symm
    obtain ⟨e6, p2⟩ := p
    rw [hE.1, List.take_length, nvs_zs] at p2
    refine ⟨D2, _, rfl, SqL.of p2, by rw [zsI_len, List.length_map]; exact h0, fun mm hmm hmx => ?_⟩
    rw [show mm = ((leastE es ls : Nat) : Int) from mn_is hmm hmx]
    have hx6 := e6 _ _ hx5
    refine ⟨.ref x, rfl, x, A 48, dx, _, rfl, hx6, T.cl_Block, T.n_Block_least, (by show 4 < 1000; decide), ?_⟩
    obtain ⟨i7, hx7⟩ := fld_step (f := "least") (v := .int (leastE es ls : Nat)) i5 e6 hx5
    generalize (upd H6 x (.ins (A 48) dx (putF "least" (.int (leastE es ls : Nat)) _))) = H7 at i7 hx7 ⊢
    -- coded
    refine ⟨.ref l, rfl, l, xs, es, rfl, lst_keep hl hx i7, hE.keep hx i7, hN, fun H8 e8 => ?_⟩
    have hx8 := e8 _ _ hx7
    refine ⟨.ref x, rfl, x, A 48, dx, _, rfl, hx8, T.cl_Block, T.n_Block_coded, (by show 5 < 1000; decide), ?_⟩
    obtain ⟨i9, hx9⟩ := fld_step (f := "coded") (v := .str (txt (codeE es).flatten)) i7 e8 hx7
    refine q _ i9 (hx9.trans ?_)
    unfold blkF
    rw [fst_at ge0, lst_at geL]
    rfl

/-! ### Row -/
theorem rgc_of {n s : Nat} (h1 : 1 ≤ s) (h2 : s ≤ 1000) (h3 : n ≤ 100000) : RgC 0 (n : Int) (s : Int) (nb n s) := by
  have e : Builtin.Range.rangeSize 0 (n : Int) (s : Int) = ((nb n s : Nat) : Int) := by
    rw [rangeSize_pos (by omega) (by omega)]
    unfold nb
    rw [Int.natCast_ediv]
    congr 1
    omega
  have l := nb_le (n := n) (s := s) h1
  refine ⟨by omega, by omega, ?_, e⟩
  unfold Builtin.Range.small
  rw [e]
  simp only [Builtin.Range.rangeFitsLong, Bool.and_eq_true, Bool.or_eq_true, decide_eq_true_eq, beq_iff_eq]
  rw [if_pos (by omega)]
  refine ⟨⟨⟨⟨⟨by decide, by decide⟩, by omega, by omega⟩, by omega, by omega⟩, by omega, by omega⟩, .inr ?_⟩
  simp only [Bool.and_eq_true, decide_eq_true_eq]
  omega
theorem cutV_at {xs : List V} {i s : Nat} : cutV xs (some ((0 : Int) + (i : Nat) * (s : Int))) (some ((0 : Int) + (i : Nat) * (s : Int) + (s : Int))) = (xs.drop (i * s)).take s := by
  unfold cutV
  have e1 : (0 : Int) + (i : Nat) * (s : Int) = ((i * s : Nat) : Int) := by
    rw [Int.natCast_mul]
    omega
  rw [e1, show ((i * s : Nat) : Int) + (s : Int) = ((i * s + s : Nat) : Int) by omega, HT.sIx_nat, HT.sIx_nat]
  rcases Nat.le_total xs.length (i * s) with h | h
  · rw [Nat.min_eq_right h, Nat.min_eq_right (by omega), List.drop_of_length_le h, List.drop_of_length_le (Nat.le_refl _), List.take_nil, List.take_nil]
  · rw [Nat.min_eq_left h]
    rcases Nat.le_total xs.length (i * s + s) with k | k
    · rw [Nat.min_eq_right k, List.take_of_length_le (by rw [List.length_drop]; omega), List.take_of_length_le (by rw [List.length_drop]; omega)]
    · rw [Nat.min_eq_left k, show i * s + s - i * s = s by omega]
/-- the blocks at bs are those of es -/
def BlksAt (CB : Addr) (H : Hp) (bs : List Addr) (s : Nat) (es : List En) (ls : List Nat) : Prop := bs.length = nb es.length s ∧ ∀ (i : Nat) (b : Addr), bs[i]? = some b → BlkAt CB H b (cutE es s i) ls
structure RowIs (z : Str) (s : Nat) (es : List En) (ls : List Nat) : Prop where
  word : isW z = true
  lo : 1 ≤ s
  hi : s ≤ 8
  ens : Ens es
  fit : Fit es ls
def rowF (z : Str) (s : Nat) (t : Addr) : List (Str × V) := [("word", .str z), ("size", .int (s : Nat)), ("cut", .ref t)]
def RowAt (CR CB : Addr) (H : Hp) (r : Addr) (z : Str) (s : Nat) (es : List En) (ls : List Nat) : Prop := ∃ (dx t : Addr) (bs : List Addr), H r = some (.ins CR dx (rowF z s t)) ∧ H t = some (.tup (bs.map V.ref)) ∧ BlksAt CB H bs s es ls
theorem BlksAt.ex {CB : Addr} {H H' : Hp} {bs : List Addr} {s : Nat} {es : List En} {ls : List Nat} (h : BlksAt CB H bs s es ls) (x : Ex H H') : BlksAt CB H' bs s es ls := ⟨h.1, fun i b g => (h.2 i b g).ex x⟩
theorem RowAt.ex {CR CB : Addr} {H H' : Hp} {r : Addr} {z : Str} {s : Nat} {es : List En} {ls : List Nat} (h : RowAt CR CB H r z s es ls) (x : Ex H H') : RowAt CR CB H' r z s es ls := by
  obtain ⟨dx, t, bs, h1, h2, h3⟩ := h
  exact ⟨dx, t, bs, x _ _ h1, x _ _ h2, h3.ex x⟩
theorem refs_at {bs : List Addr} {i : Nat} {v : V} (g : (bs.map V.ref)[i]? = some v) : ∃ b, bs[i]? = some b ∧ v = .ref b ∧ i < bs.length := by
  rw [List.getElem?_map] at g
  cases e : bs[i]? with
  | none => rw [e] at g; cases g
  | some b =>
    rw [e] at g
    cases g
    exact ⟨b, rfl, rfl, (List.getElem?_eq_some_iff.mp e).1⟩
theorem ex2 {H : Hp} {x dx : Addr} {o u : HO} (nx : H x = none) (nd : H dx = none) : Ex H (upd (upd H dx o) x u) := fun c q h => by
  rw [upd_ne (ne_of_none h nx), upd_ne (ne_of_none h nd)]
  exact h
theorem BlkAt.updL {C D : Addr} {H : Hp} {b : Addr} {es : List En} {ls : List Nat} {xs : List V} {o : HO} (h : BlkAt C H b es ls) (hD : H D = some (.lst xs)) : BlkAt C (upd H D o) b es ls := by
  obtain ⟨dx, h⟩ := h
  exact ⟨dx, by rw [upd_ne (ne_of h hD (by intro z; cases z))]; exact h⟩
theorem snoc_at {α : Type} {l : List α} {x y : α} {j : Nat} (g : (l ++ [x])[j]? = some y) : (l[j]? = some y) ∨ (j = l.length ∧ y = x) := by
  by_cases h : j < l.length
  · rw [List.getElem?_append_left h] at g
    exact .inl g
  · rw [List.getElem?_append_right (by omega)] at g
    have : j - l.length = 0 := by
      have := (List.getElem?_eq_some_iff.mp g).1
      rw [List.length_singleton] at this
      omega
    rw [this] at g
    cases g
    exact .inr ⟨by omega, rfl⟩
def spRIn (CR CB : Addr) : Sp := fun vs H Q _ => ∃ (x dx l m : Addr) (xs : List V) (z : Str) (s : Nat) (es : List En) (ls : List Nat), vs = [.ref x, .str z, .ref l, .ref m, .int (s : Nat)] ∧ H x = some (.ins CR dx []) ∧ H l = some (.lst xs) ∧ EnsA H xs es ∧ H m = some (.lst (nvs ls)) ∧ RowIs z s es ls ∧
  ∀ (H' : Hp) (t : Addr) (bs : List Addr), ExI x H H' → H' x = some (.ins CR dx (rowF z s t)) → H' t = some (.tup (bs.map V.ref)) → BlksAt CB H' bs s es ls → Q .non H'
set_option maxHeartbeats 8000000 in
theorem ok_rinit (T : TX K mg A FD TK) : FnOk P w K mg base CX0 9 (A 63) (FD 63) ["self", "word", "entries", "lengths", "size"] (spRIn (A 49) (A 48)) := by
  have G_check_word := (ok_check_word (P := P) (w := w) (base := base) T).mono (show 2 ≤ 8 by decide)
  have G_check_entries := (ok_check_entries (P := P) (w := w) (base := base) T).mono (show 5 ≤ 8 by decide)
  have G_check_lengths := (ok_check_lengths (P := P) (w := w) (base := base) T).mono (show 3 ≤ 8 by decide)
  have G_check_size := (ok_check_size (P := P) (w := w) (base := base) T).mono (show 3 ≤ 8 by decide)
  have G_check_fit := (ok_check_fit (P := P) (w := w) (base := base) T).mono (show 1 ≤ 8 by decide)
  have G_Block := ok_binit (P := P) (w := w) (base := base) T
  have B2_Block := T.b_Block_init
  have R2_Block : Vals [] [] := .nil
  refine T.f_Row_init.ok (k := 8) sc_Row_init (fun vs H Q E h => ?_) (fun cdv A' outer s H vs Q E hr h => ?_)
  · obtain ⟨x, dx, l, m, xs, z, s, es, ls, rfl, _⟩ := h
    rfl
  · obtain ⟨x, dx, l, m, xs, z, s, es, ls, rfl, hx, hl, hE, hm, hR, q⟩ := h
    refine ⟨_, PSs.nox (pss_cons (ps_expr (pe_call G_check_word hr (by rfl) T.g_check_word T.f_check_word.kp T.b_check_word .nil pass0 (pa_cons (pv 1) pa_nil)))
      (pss_cons (ps_expr (pe_call G_check_entries hr (by rfl) T.g_check_entries T.f_check_entries.kp T.b_check_entries .nil pass0 (pa_cons (pv 2) pa_nil)))
      (pss_cons (ps_expr (pe_call G_check_lengths hr (by rfl) T.g_check_lengths T.f_check_lengths.kp T.b_check_lengths .nil pass0 (pa_cons (pv 3) pa_nil)))
      (pss_cons (ps_expr (pe_call G_check_size hr (by rfl) T.g_check_size T.f_check_size.kp T.b_check_size .nil pass0 (pa_cons (pv 4) pa_nil)))
      (pss_cons (ps_expr (pe_call G_check_fit hr (by rfl) T.g_check_fit T.f_check_fit.kp T.b_check_fit .nil pass0 (pa_cons (pv 2) (pa_cons (pv 3) pa_nil))))
      (pss_cons (ps_fld (pv 0) (pv 1) rfl)
      (pss_cons (ps_fld (pv 0) (pv 4) rfl)
      (pss_one (ps_fld (pv 0) (pe_callTy (tupK (K := K) rfl) (by rfl) T.m_tuple (by decide +kernel) (pa_cons (pe_lc (own := [("at", 5)])  rfl sc_Row_init.nd (pi_range3 (by rfl) T.m_range (pa_cons pe_int (pa_cons (pe_callB (lenK (K := K) rfl) (by rfl) T.m_len (by decide +kernel) (pa_cons (pv 2) pa_nil)) (pa_cons (pv 4) pa_nil)))) (blkOk_by (own := [("at", 5)]) (N := N_Row_init) (sc := defScope (inClass (topS 49) 0)) (by decide +kernel)) (fun _ _ _ _ _ => (pg_name (i := 5) sc_Row_init.nd rfl (Or.inl rfl))) (fun _ _ _ _ _ => pts_nil) (fun _ _ _ _ _ => (pe_make T.M_Block G_Block hr (by rfl) T.k_Block B2_Block R2_Block pass0 (pa_cons (pe_slice (slLK (K := K) rfl) (pv 2) (po_some (pv 5)) (po_some (pe_op op_add (pv 5) (pv 4)))) (pa_cons (pv 3) pa_nil))))) pa_nil)) rfl))))))))), ?_⟩
    have few := hR.ens.few
    have s1 := hR.lo
    have s8 := hR.hi
    refine ⟨.str z, rfl, z, rfl, hR.word, fun H1 e1 => ?_⟩
    refine ⟨.ref l, rfl, l, xs, es, rfl, e1 _ _ hl, hE.ex e1, hR.ens.ok, hR.ens.ris, fun H2 e2 => ?_⟩
    have x2 := e1.trans e2
    refine ⟨.ref m, rfl, m, ls, rfl, x2 _ _ hm, hR.fit.few, hR.fit.most, fun H3 e3 => ?_⟩
    have x3 := x2.trans e3
    refine ⟨.int (s : Nat), rfl, s, rfl, s1, s8, fun H4 e4 => ?_⟩
    have x4 := x3.trans e4
    refine ⟨.ref l, rfl, .ref m, rfl, l, m, xs, es, ls, rfl, x4 _ _ hl, hE.ex x4, hR.ens, x4 _ _ hm, hR.fit, fun H5 e5 => ?_⟩
    have x5 := x4.trans e5
    clear e1 e2 e3 e4 e5 x2 x3 x4 H1 H2 H3 H4
    refine ⟨.str z, rfl, .ref x, rfl, x, A 49, dx, [], rfl, x5 _ _ hx, T.cl_Row, T.n_Row_word, (by show 0 < 1000; decide), ?_⟩
    obtain ⟨i6, hx6⟩ := fld_step (f := "word") (v := .str z) (fun b o _ h => x5 _ _ h) (Ex.refl H5) (x5 _ _ hx)
    generalize (upd H5 x (.ins (A 49) dx (putF "word" (.str z) []))) = H6 at i6 hx6 ⊢
    refine ⟨.int (s : Nat), rfl, .ref x, rfl, x, A 49, dx, _, rfl, hx6, T.cl_Row, T.n_Row_size, (by show 1 < 1000; decide), ?_⟩
    obtain ⟨i7, hx7⟩ := fld_step (f := "size") (v := .int (s : Nat)) i6 (Ex.refl H6) hx6
    generalize (upd H6 x (.ins (A 49) dx (putF "size" (.int (s : Nat)) _))) = H7 at i7 hx7 ⊢
    have hl7 := lst_keep hl hx i7
    have hm7 := lst_keep hm hx i7
    have hE7 := hE.keep hx i7
    refine ⟨.ref l, rfl, l, _, rfl, .inl (SqL.of hl7), .int (s : Nat), rfl, 0, _, _, _, rfl, (by rw [hE.1]; exact rgc_of s1 (by omega) (by omega)), fun D nD => ?_⟩
    refine lc_it (walk_rangeC (lo := 0) (c := (s : Int)) (n := nb es.length s)) (fun i H' => Ex H7 H' ∧ ∃ bs : List Addr, bs.length = i ∧ H' D = some (.lst (bs.map V.ref)) ∧ ∀ (j : Nat) (b : Addr), bs[j]? = some b → BlkAt (A 48) H' b (cutE es s j) ls) ⟨Ex.new nD, [], rfl, upd_same, fun j b g => nomatch g⟩ (fun _ _ _ _ => True.intro) (fun i v H8 H9 hi p y => ?_) (fun H8 p => ?_)
    · obtain ⟨p1, bs, bl, p2, p3⟩ := p
      obtain ⟨rfl, rfl⟩ := y
      refine ⟨rfl, .ref l, rfl, _, rfl, _, rfl, _, rfl, .int (s : Nat), rfl, _, _, rfl, rfl, _, rfl, l, _, rfl, SqL.of (p1 _ _ hl7), fun c nc => ?_⟩
      rw [cutV_at]
      have eC := Ex.new (o := .lst ((xs.drop (i * s)).take s)) nc
      have hc := upd_same (H := H9) (a := c) (o := .lst ((xs.drop (i * s)).take s))
      generalize (upd H9 c (.lst ((xs.drop (i * s)).take s))) = Hc at eC hc ⊢
      have p1c := p1.trans eC
      refine ⟨.ref m, rfl, fun b d2 nb nd _ => ?_⟩
      have e2 := ex2 (o := .own b) (u := .ins (A 48) d2 []) nb nd
      refine ⟨b, d2, c, m, _, cutE es s i, ls, rfl, upd_same, e2 _ _ hc, ((hE7.ex (p1c.trans e2)).cut s i), hR.ens.cut s i, cutE_pos s1 hi, (p1c.trans e2) _ _ hm7, hR.fit.cut s i, fun H' iE hb => ⟨rfl, ?_⟩⟩
      have eH := ExI.new nb nd iE
      have hD := eH _ _ (eC _ _ p2)
      refine ⟨_, hD, ?_, Ex.mut (p1c.trans eH) nD, bs ++ [b], ?_, ?_, fun j b' g => ?_⟩
      · rw [List.length_map]
        exact sz_lt (by have := nb_le (n := es.length) (s := s) s1; omega)
      · rw [List.length_append, bl]
        rfl
      · rw [upd_same, List.map_append]
        rfl
      · rcases snoc_at g with g | ⟨rfl, rfl⟩
        · exact ((p3 j b' g).ex (eC.trans eH)).updL hD
        · rw [bl]
          exact BlkAt.updL ⟨d2, hb⟩ hD
    · obtain ⟨p1, bs, bl, p2, p3⟩ := p
      refine ⟨D, _, rfl, .inl ⟨SqL.of p2, fun t nt => ?_⟩⟩
      have eT := Ex.new (o := .tup (bs.map V.ref)) nt
      have ht := upd_same (H := H8) (a := t) (o := .tup (bs.map V.ref))
      generalize (upd H8 t (.tup (bs.map V.ref))) = H9 at eT ht ⊢
      have hx9 := eT _ _ (p1 _ _ hx7)
      refine ⟨.ref x, rfl, x, A 49, dx, _, rfl, hx9, T.cl_Row, T.n_Row_cut, (by show 2 < 1000; decide), ?_⟩
      obtain ⟨iF, hxF⟩ := fld_step (f := "cut") (v := .ref t) i7 (p1.trans eT) hx7
      refine q _ t bs iF hxF ?_ ⟨bl, fun j b g => ?_⟩
      · rw [upd_ne (ne_of ht hx9 (by intro z; cases z))]
        exact ht
      · obtain ⟨db, hb⟩ := (p3 j b g).ex eT
        refine ⟨db, ?_⟩
        by_cases hbx : b = x
        · subst hbx
          rw [hx9] at hb
          exact absurd (Option.some.inj hb) (fun z => by
            have := congrArg (fun o => match o with | HO.ins _ _ fs => fs.length | _ => 0) z
            exact absurd (show (2 : Nat) = 6 from this) (by decide))
        · rw [upd_ne hbx]
          exact hb
theorem sum_cut (es : List En) (s : Nat) : ∀ i, (zsI ((List.range i).map fun j => (cutE es s j).length)).sum = (((es.take (i * s)).length : Nat) : Int)
  | 0 => by simp [zsI]
  | i + 1 => by
    have h := sum_cut es s i
    rw [List.range_succ, List.map_append, take_more, List.length_append]
    unfold zsI at h ⊢
    rw [List.map_append, List.sum_append, h]
    simp
theorem all_cut {es : List En} {s : Nat} (hs : 0 < s) : es.take (nb es.length s * s) = es := List.take_of_length_le (nb_mul hs)
def spRBlk (CR CB : Addr) : Sp := fun vs H Q _ => ∃ (r : Addr) (z : Str) (s : Nat) (es : List En) (ls : List Nat), vs = [.ref r] ∧ RowAt CR CB H r z s es ls ∧ ∀ (l : Addr) (bs : List Addr) (H' : Hp), H l = none → Ex H H' → H' l = some (.lst (bs.map V.ref)) → BlksAt CB H' bs s es ls → Q (.ref l) H'
set_option maxHeartbeats 4000000 in
theorem ok_rblocks (T : TX K mg A FD TK) : FnOk P w K mg base CX0 1 (A 64) (FD 64) ["self"] (spRBlk (A 49) (A 48)) := by
  refine T.f_Row_blocks.ok sc_Row_blocks (fun vs H Q E h => ?_) (fun cdv A' outer s H vs Q E hr h => ?_)
  · obtain ⟨r, z, s, es, ls, rfl, _⟩ := h
    rfl
  · obtain ⟨r, z, s, es, ls, rfl, ⟨dx, t, bs, h1, h2, h3⟩, q⟩ := h
    refine ⟨_, (pss_one (ps_ret (pe_callTy (listK (K := K) rfl) (by rfl) T.m_list (by decide +kernel) (pa_cons (fldK (K := K) rfl (pv 0) rfl) pa_nil)))), ?_⟩
    exact ⟨.ref r, rfl, r, A 49, dx, _, _, rfl, h1, T.cl_Row, T.n_Row_cut, rfl, t, _, rfl, .inr (SqT.of h2), fun l nl => q l bs _ nl (Ex.new nl) upd_same (h3.ex (Ex.new nl))⟩

def spREnt (CR CB : Addr) : Sp := fun vs H Q _ => ∃ (r : Addr) (z : Str) (s : Nat) (es : List En) (ls : List Nat), vs = [.ref r] ∧ RowAt CR CB H r z s es ls ∧ RowIs z s es ls ∧ ∀ (l : Addr) (xs : List V) (H' : Hp), H l = none → Ex H H' → H' l = some (.lst xs) → EnsA H' xs es → Q (.ref l) H'
/-- a loop by its invariant, whatever its body asks -/
theorem loopIt {J : It} {n : Nat} {G : Hp → Prop} {Y : Nat → Hp → V → Hp → Prop} {B : V → Hp → (Hp → Prop) → Prop} {H0 : Hp} {Qd : Hp → Prop} (wk : Walk J n G Y) (Pv : Nat → Hp → Prop) (h0 : Pv 0 H0) (hG : ∀ i H, i ≤ n → Pv i H → G H)
    (hs : ∀ i x H H', i < n → Pv i H → Y i H x H' → B x H' (Pv (i + 1))) (hd : ∀ H, Pv n H → Qd H) :
    ∃ W : Nat → Nat → Hp → Prop, (∃ m, W 0 m H0) ∧ ∀ i m H, W i m H → (J.stop i H ∧ Qd H) ∨ (J.go i H ∧ ∃ Nx : Hp → Prop, (∀ H', Nx H' → ∃ m', m' < m ∧ W (i + 1) m' H') ∧ ∀ x H', J.yld i H x H' → B x H' Nx) := by
  refine ⟨fun i m H => i ≤ n ∧ m = n - i ∧ Pv i H, ⟨n, Nat.zero_le n, rfl, h0⟩, fun i m H ⟨hi, e, p⟩ => ?_⟩
  have q := hG i H hi p
  rcases Nat.lt_or_ge i n with lt | ge
  · exact .inr ⟨wk.goes i H lt q, Pv (i + 1), fun H' p' => ⟨n - (i + 1), by omega, lt, rfl, p'⟩, fun x H' y => hs i x H H' lt p (wk.yields i H x H' lt q y)⟩
  · obtain rfl : i = n := by omega
    exact .inl ⟨wk.stops H q, hd H p⟩
set_option maxHeartbeats 8000000 in
theorem ok_rentries (T : TX K mg A FD TK) : FnOk P w K mg base CX0 4 (A 65) (FD 65) ["self"] (spREnt (A 49) (A 48)) := by
  have G_decode_entries := ok_decode_entries (P := P) (w := w) (base := base) T
  refine T.f_Row_entries.ok (k := 3) sc_Row_entries (fun vs H Q E h => ?_) (fun cdv A' outer s H vs Q E hr h => ?_)
  · obtain ⟨r, z, s, es, ls, rfl, _⟩ := h
    rfl
  · obtain ⟨r, z, s, es, ls, rfl, ⟨dx, t, bs, h1, h2, h3⟩, hR, q⟩ := h
    refine ⟨_, (pss_one (ps_ret (pe_lc2 (own := [("block", 1), ("entry", 2)]) (wi1 := iList K _)  (vs1 := [2]) rfl sc_Row_entries.nd (piTK (K := K) rfl (fldK (K := K) rfl (pv 0) rfl)) (blkOk_by (own := [("block", 1), ("entry", 2)]) (N := N_Row_entries) (sc := defScope (inClass (topS 49) 4)) (by decide +kernel)) (by decide) (fun _ _ _ _ _ => (pg_name (i := 1) sc_Row_entries.nd rfl (Or.inl rfl))) (fun _ _ _ _ _ => pts_nil) (fun _ _ _ _ _ => by exact (piLK (K := K) rfl (pe_call G_decode_entries hr (by rfl) T.g_decode_entries T.f_decode_entries.kp T.b_decode_entries .nil pass0 (pa_cons (fldK (K := K) rfl (pv 1) rfl) pa_nil)))) (fun _ _ _ _ _ => (pg_name (i := 2) sc_Row_entries.nd rfl (Or.inl rfl))) (fun _ _ _ _ _ => pts_nil) (fun _ _ _ _ _ => (pv 2))))), ?_⟩
    have few := hR.ens.few
    refine ⟨.ref r, rfl, r, A 49, dx, _, _, rfl, h1, T.cl_Row, T.n_Row_cut, rfl, t, rfl, ⟨_, SqT.of h2⟩, fun D nD => ?_⟩
    refine loopIt (walk_tup (K := K) (a := t) (xs := bs.map V.ref)) (fun i H' => Ex H H' ∧ ∃ xs, H' D = some (.lst xs) ∧ EnsA H' xs (es.take (i * s))) ⟨Ex.new nD, [], upd_same, ⟨by simp, fun i e g => by simp at g⟩⟩ (fun i H' _ p => ex_t p.1 (SqT.of h2)) (fun i v H1 H2 hi p y => ?_) (fun H1 p => ?_)
    · obtain ⟨p1, xs, p2, p3⟩ := p
      obtain ⟨rfl, hv⟩ := y
      obtain ⟨b, gb, rfl, ib⟩ := refs_at hv
      obtain ⟨db, hb⟩ := (h3.2 i b gb).ex p1
      have hc := codeE_len2 (hR.ens.cut s i) (hR.fit.cut s i).sml
      have hcl := (hR.ens.cut s i).few
      refine ⟨rfl, .ref b, rfl, b, A 48, db, _, _, rfl, hb, T.cl_Block, T.n_Block_coded, rfl, cutE es s i, rfl, hR.ens.cut s i, by omega, fun l ys H3 nl e3 hl hE => ?_⟩
      refine ⟨l, rfl, ⟨_, SqL.of hl⟩, ?_⟩
      have hDl : D ≠ l := ne_of_none p2 nl
      refine loopIt (walk_list (K := K) (a := l) (xs := ys)) (fun j H' => (∀ c o, c ≠ D → H3 c = some o → H' c = some o) ∧ Ex H H' ∧ H' D = some (.lst (xs ++ ys.take j))) ⟨fun c o _ h => h, p1.trans e3, by rw [List.take_zero, List.append_nil]; exact e3 _ _ p2⟩ (fun j H' _ p => SqL.of (p.1 _ _ hDl.symm hl)) (fun j v H4 H5 hj p y => ?_) (fun H4 p => ?_)
      · obtain ⟨k1, k2, k3⟩ := p
        obtain ⟨rfl, hv2⟩ := y
        refine ⟨rfl, v, rfl, _, k3, ?_, fun c o nc h => ?_, Ex.mut k2 nD, ?_⟩
        · have a1 := p3.1
          have a2 := hE.1
          rw [List.length_append, List.length_take, a1, List.length_take]
          exact sz_lt (by omega)
        · rw [upd_ne nc]
          exact k1 c o nc h
        · rw [upd_same, take_up hv2, List.append_assoc]
      · obtain ⟨k1, k2, k3⟩ := p
        rw [List.take_length] at k3
        refine ⟨k2, _, k3, ?_⟩
        rw [take_more]
        have tt : ∀ c zs, H3 c = some (.tup zs) → H4 c = some (.tup zs) := fun c zs h => k1 c _ (ne_of h (e3 _ _ p2) (by intro z; cases z)) h
        exact ((p3.ex e3).mono tt).app (hE.mono tt)
    · obtain ⟨p1, xs, p2, p3⟩ := p
      rw [List.length_map, h3.1, all_cut hR.lo] at p3
      exact q D xs H1 nD p1 p2 p3

/-! ### walkers: the mathematics -/
/-- where one who stands at the n-th entry stands: the block, and the entry in it -/
def stA (es : List En) (s n : Nat) : Nat := if n < es.length then n / s else nb es.length s
def stE (es : List En) (s n : Nat) : Nat := if n < es.length then n % s else 0
theorem stA_in {es : List En} {s n : Nat} (hs : 0 < s) (h : n < es.length) : stA es s n < nb es.length s ∧ stE es s n < (cutE es s (stA es s n)).length ∧ stA es s n * s + stE es s n = n := by
  have e1 : n / s * s + n % s = n := by rw [Nat.mul_comm]; exact Nat.div_add_mod n s
  have m := Nat.mod_lt n hs
  unfold stA stE
  rw [if_pos h, if_pos h]
  refine ⟨(nb_lt hs).mpr (by omega), ?_, e1⟩
  rw [cutE_len]
  omega
theorem stA_end {es : List En} {s n : Nat} (h : ¬ n < es.length) : stA es s n = nb es.length s ∧ stE es s n = 0 := by
  unfold stA stE
  rw [if_neg h, if_neg h]
  exact ⟨rfl, rfl⟩
theorem stA_le {es : List En} {s n : Nat} (hs : 0 < s) : stA es s n ≤ nb es.length s := by
  by_cases h : n < es.length
  · exact Nat.le_of_lt (stA_in hs h).1
  · rw [(stA_end h).1]
    exact Nat.le_refl _
theorem stA_is {es : List En} {s n : Nat} (hs : 0 < s) : stA es s n = nb es.length s ↔ ¬ n < es.length := by
  constructor
  · intro e h
    have := (stA_in hs h).1
    omega
  · exact fun h => (stA_end h).1
theorem st_of {es : List En} {s a c : Nat} (hs : 0 < s) (ha : a < nb es.length s) (hc : c < (cutE es s a).length) : stA es s (a * s + c) = a ∧ stE es s (a * s + c) = c := by
  rw [cutE_len] at hc
  have hlt : a * s + c < es.length := by omega
  have c' : c < s := by omega
  unfold stA stE
  rw [if_pos hlt, if_pos hlt]
  exact ⟨by rw [Nat.mul_comm, Nat.mul_add_div hs, Nat.div_eq_of_lt c', Nat.add_zero], by rw [Nat.mul_comm, Nat.mul_add_mod, Nat.mod_eq_of_lt c']⟩
theorem cutE_get {es : List En} {s a c : Nat} (hc : c < (cutE es s a).length) : (cutE es s a)[c]? = es[a * s + c]? := by
  rw [cutE_len] at hc
  unfold cutE
  rw [List.getElem?_take, if_pos (by omega), List.getElem?_drop]
/-- slots rise -/
theorem wslot_lt {es : List En} (hr : Ris (slots es)) : ∀ {i j : Nat} {x y : En}, i < j → es[i]? = some x → es[j]? = some y → x.1 < y.1 := by
  have step : ∀ {j : Nat} {x y : En}, es[j]? = some x → es[j + 1]? = some y → x.1 < y.1 := fun {j x y} gx gy => by
    have := hr (j + 1) y.1 (slots_at gy)
    rw [ah, getD_at (slots_at gx)] at this
    omega
  intro i j x y h gx gy
  induction j generalizing y with
  | zero => omega
  | succ j ih =>
    have hj : j < es.length := by have := (List.getElem?_eq_some_iff.mp gy).1; omega
    have gz := List.getElem?_eq_getElem hj
    have l2 := step gz gy
    rcases Nat.lt_succ_iff_lt_or_eq.mp h with h | rfl
    · have := ih h gz
      omega
    · rw [gx] at gz
      cases gz
      exact l2
theorem wslot_le {es : List En} (hr : Ris (slots es)) {i j : Nat} {x y : En} (h : i ≤ j) (gx : es[i]? = some x) (gy : es[j]? = some y) : x.1 ≤ y.1 := by
  rcases Nat.lt_or_eq_of_le h with h | rfl
  · exact Nat.le_of_lt (wslot_lt hr h gx gy)
  · rw [gx] at gy
    cases gy
    exact Nat.le_refl _
/-- m is the first one from n on whose slot is no less than z -/
structure Sought (es : List En) (z : Int) (n m : Nat) : Prop where
  ge : n ≤ m
  le : m ≤ es.length
  less : ∀ i, n ≤ i → i < m → ∀ e, es[i]? = some e → (e.1 : Int) < z
  stop : ∀ e, es[m]? = some e → z ≤ (e.1 : Int)
theorem Sought.uniq {es : List En} {z : Int} {n m k : Nat} (h : Sought es z n m) (g : Sought es z n k) : m = k := by
  have half : ∀ {m k : Nat}, Sought es z n m → Sought es z n k → ¬ m < k := fun {m k} h g l => by
    have hm : m < es.length := by have := g.le; omega
    have e := List.getElem?_eq_getElem hm
    have a := h.stop _ e
    have b := g.less m h.ge l _ e
    omega
  have a := half h g
  have b := half g h
  omega
theorem sought_at {es : List En} {z : Int} {n : Nat} {e : En} (g : es[n]? = some e) (h : z ≤ (e.1 : Int)) : Sought es z n n := ⟨Nat.le_refl _, Nat.le_of_lt (List.getElem?_eq_some_iff.mp g).1, fun i h1 h2 => by omega, fun f gf => by
  rw [g] at gf
  cases gf
  exact h⟩
theorem sought_end {es : List En} {z : Int} {n : Nat} (hn : n = es.length) : Sought es z n n := ⟨Nat.le_refl _, by omega, fun i h1 h2 => by omega, fun f gf => by
  have := (List.getElem?_eq_some_iff.mp gf).1
  omega⟩
/-- the first block from a on whose last slot is no less than z -/
structure Reach (es : List En) (s : Nat) (z : Int) (a b : Nat) : Prop where
  ge : a ≤ b
  le : b ≤ nb es.length s
  less : ∀ j, a ≤ j → j < b → (lstE (cutE es s j) : Int) < z
  stop : b < nb es.length s → z ≤ (lstE (cutE es s b) : Int)
theorem last_is {es : List En} {s j : Nat} (hs : 0 < s) (hj : j < nb es.length s) : ∃ (k : Nat) (e : En), es[k]? = some e ∧ lstE (cutE es s j) = e.1 ∧ j * s ≤ k ∧ k < (j + 1) * s ∧ (∀ i, j * s ≤ i → i < (j + 1) * s → i < es.length → i ≤ k) := by
  have hp := cutE_pos hs hj
  have g : (cutE es s j)[(cutE es s j).length - 1]? = some ((cutE es s j)[(cutE es s j).length - 1]'(by omega)) := List.getElem?_eq_getElem _
  have l := lst_at g
  rw [cutE_get (by omega)] at g
  refine ⟨_, _, g, l, by omega, ?_, fun i h1 h2 h3 => ?_⟩
  · rw [Nat.add_mul, cutE_len]
    omega
  · rw [Nat.add_mul] at h2
    rw [cutE_len]
    omega
theorem first_is {es : List En} {s j : Nat} (hs : 0 < s) (hj : j < nb es.length s) : ∃ e : En, es[j * s]? = some e ∧ fstE (cutE es s j) = e.1 := by
  have hp := cutE_pos hs hj
  have g : (cutE es s j)[0]? = some ((cutE es s j)[0]'hp) := List.getElem?_eq_getElem _
  have l := fst_at g
  rw [cutE_get hp, Nat.add_zero] at g
  exact ⟨_, g, l⟩
def lessN (B : List En) (z : Int) : Nat := (B.filter fun e => decide ((e.1 : Int) < z)).length
theorem lessN_ok (z : Int) : ∀ (B : List En), (∀ (i j : Nat) (x y : En), i < j → B[i]? = some x → B[j]? = some y → x.1 < y.1) → (∀ i, i < lessN B z → ∀ e, B[i]? = some e → (e.1 : Int) < z) ∧ (∀ e, B[lessN B z]? = some e → z ≤ (e.1 : Int)) ∧ lessN B z ≤ B.length
  | [], _ => ⟨fun i h => absurd h (Nat.not_lt_zero _), fun e h => by simp at h, Nat.le_refl _⟩
  | b :: r, h => by
    have ih := lessN_ok z r fun i j x y l gx gy => h (i + 1) (j + 1) x y (by omega) gx gy
    unfold lessN at ih ⊢
    by_cases c : (b.1 : Int) < z
    · rw [List.filter_cons_of_pos (by simpa using c), List.length_cons]
      refine ⟨fun i hi e g => ?_, fun e g => ih.2.1 e g, by rw [List.length_cons]; omega⟩
      cases i with
      | zero =>
        cases g
        exact c
      | succ i => exact ih.1 i (by omega) e g
    · have none : r.filter (fun e => decide ((e.1 : Int) < z)) = [] := by
        rw [List.filter_eq_nil_iff]
        intro e he
        obtain ⟨j, hj, ej⟩ := List.getElem_of_mem he
        have := h 0 (j + 1) b e (by omega) rfl (by rw [List.getElem?_cons_succ, List.getElem?_eq_getElem hj, ej])
        simp only [decide_eq_true_eq]
        omega
      rw [List.filter_cons_of_neg (by simpa using c), none]
      refine ⟨fun i hi => absurd hi (Nat.not_lt_zero _), fun e g => ?_, Nat.zero_le _⟩
      cases g
      omega
theorem blk_of {es : List En} {s i : Nat} (hs : 0 < s) (hi : i < es.length) : i / s < nb es.length s ∧ i / s * s ≤ i ∧ i < (i / s + 1) * s := by
  have e1 : i / s * s + i % s = i := by rw [Nat.mul_comm]; exact Nat.div_add_mod i s
  have m := Nat.mod_lt i hs
  refine ⟨(nb_lt hs).mpr (by omega), by omega, ?_⟩
  rw [Nat.add_mul]
  omega
/-- all entries ahead of the reached block are less -/
theorem reach_less {es : List En} {s a b n : Nat} {z : Int} (hr : Ris (slots es)) (hs : 0 < s) (h : Reach es s z a b) (ha : a = n / s) : ∀ i, n ≤ i → i < b * s → ∀ e, es[i]? = some e → (e.1 : Int) < z := fun i h1 h2 e g => by
  have hi := (List.getElem?_eq_some_iff.mp g).1
  obtain ⟨q1, q2, q3⟩ := blk_of hs hi
  have jb : i / s < b := (Nat.div_lt_iff_lt_mul hs).mpr h2
  have ja : a ≤ i / s := by rw [ha]; exact Nat.div_le_div_right h1
  obtain ⟨k, f, gk, l, k1, k2, k3⟩ := last_is hs q1
  have := h.less (i / s) ja jb
  rw [l] at this
  have le := wslot_le hr (k3 i q2 q3 hi) g gk
  omega
theorem nb_end {n s : Nat} (hs : 0 < s) : n ≤ nb n s * s := nb_mul hs
theorem sought_none {es : List En} {s n : Nat} {z : Int} (hr : Ris (slots es)) (hs : 0 < s) (hn : n ≤ es.length) (h : Reach es s z (n / s) (nb es.length s)) : Sought es z n es.length :=
  ⟨hn, Nat.le_refl _, fun i h1 h2 e g => reach_less hr hs h rfl i h1 (Nat.lt_of_lt_of_le h2 (nb_end hs)) e g, fun e g => by
    have := (List.getElem?_eq_some_iff.mp g).1
    omega⟩
theorem sought_first {es : List En} {s n b : Nat} {z : Int} {e : En} (hr : Ris (slots es)) (hs : 0 < s) (hn : es[n]? = some e) (hz : (e.1 : Int) < z) (h : Reach es s z (n / s) b) (hb : b < nb es.length s) (hf : z ≤ (fstE (cutE es s b) : Int)) : Sought es z n (b * s) := by
  obtain ⟨f, gf, ef⟩ := first_is hs hb
  rw [ef] at hf
  have hbs := (nb_lt hs).mp hb
  refine ⟨?_, by omega, reach_less hr hs h rfl, fun e' g => ?_⟩
  · rcases Nat.lt_or_ge (b * s) n with l | l
    · have := wslot_lt hr l gf hn
      omega
    · exact l
  · rw [gf] at g
    cases g
    exact hf
theorem cut_rise {es : List En} {s b : Nat} (hr : Ris (slots es)) : ∀ (i j : Nat) (x y : En), i < j → (cutE es s b)[i]? = some x → (cutE es s b)[j]? = some y → x.1 < y.1 := fun i j x y l gx gy => wslot_lt hr (show b * s + i < b * s + j by omega) (cutE_at gx).1 (cutE_at gy).1
theorem sought_in {es : List En} {s n b : Nat} {z : Int} {e : En} (hr : Ris (slots es)) (hs : 0 < s) (hn : es[n]? = some e) (hz : (e.1 : Int) < z) (h : Reach es s z (n / s) b) (hb : b < nb es.length s) (hf : (fstE (cutE es s b) : Int) < z) : Sought es z n (b * s + lessN (cutE es s b) z) ∧ lessN (cutE es s b) z < (cutE es s b).length ∧ 0 < lessN (cutE es s b) z := by
  obtain ⟨p1, p2, p3⟩ := lessN_ok z (cutE es s b) (cut_rise hr)
  have hp := cutE_pos hs hb
  have gl : (cutE es s b)[(cutE es s b).length - 1]? = some ((cutE es s b)[(cutE es s b).length - 1]'(by omega)) := List.getElem?_eq_getElem _
  have ll := lst_at gl
  have st := h.stop hb
  rw [ll] at st
  have c1 : lessN (cutE es s b) z < (cutE es s b).length := by
    rcases Nat.lt_or_ge (lessN (cutE es s b) z) (cutE es s b).length with l | l
    · exact l
    · have := p1 ((cutE es s b).length - 1) (by omega) _ gl
      omega
  have g0 : (cutE es s b)[0]? = some ((cutE es s b)[0]'hp) := List.getElem?_eq_getElem _
  have f0 := fst_at g0
  have c0 : 0 < lessN (cutE es s b) z := by
    rcases Nat.eq_zero_or_pos (lessN (cutE es s b) z) with q | q
    · rw [q] at p2
      have := p2 _ g0
      omega
    · exact q
  have gc : (cutE es s b)[lessN (cutE es s b) z]? = some ((cutE es s b)[lessN (cutE es s b) z]'c1) := List.getElem?_eq_getElem _
  have zc := p2 _ gc
  have gce := cutE_get c1
  rw [gc] at gce
  have hlt : b * s + lessN (cutE es s b) z < es.length := (List.getElem?_eq_some_iff.mp gce.symm).1
  refine ⟨⟨?_, by omega, fun i h1 h2 e' g => ?_, fun e' g => ?_⟩, c1, c0⟩
  · rcases Nat.lt_or_ge (b * s + lessN (cutE es s b) z) n with l | l
    · have := wslot_lt hr l gce.symm hn
      omega
    · exact l
  · rcases Nat.lt_or_ge i (b * s) with l | l
    · exact reach_less hr hs h rfl i h1 l e' g
    · have hc : i - b * s < lessN (cutE es s b) z := by omega
      have := cutE_get (es := es) (s := s) (a := b) (c := i - b * s) (by omega)
      rw [show b * s + (i - b * s) = i by omega, g] at this
      exact p1 _ hc e' this
  · rw [g] at gce
    cases gce
    exact zc

/-! ### walkers: the object -/
theorem nodup_few : ∀ (n : Nat) (O : List Nat), O.Nodup → (∀ j ∈ O, j < n) → O.length ≤ n
  | 0, O, _, h => by
    cases O with
    | nil => exact Nat.le_refl _
    | cons a r => exact absurd (h a (.head _)) (by omega)
  | n + 1, O, hn, h => by
    by_cases c : n ∈ O
    · have h2 := nodup_few n (O.erase n) (hn.erase n) (fun j hj => by
        have h1 := h j (List.mem_of_mem_erase hj)
        have h3 : j ≠ n := ((List.Nodup.mem_erase_iff hn).mp hj).1
        omega)
      rw [List.length_erase_of_mem c] at h2
      omega
    · exact Nat.le_succ_of_le (nodup_few n O hn fun j hj => by
        have h1 := h j hj
        have h3 : j ≠ n := fun e => c (e ▸ hj)
        omega)
/-- the blocks that are open when j is opened -/
def addO (O : List Nat) (j : Nat) : List Nat := if j ∈ O then O else O ++ [j]
theorem addO_in {O : List Nat} {j : Nat} (h : j ∈ O) : addO O j = O := if_pos h
theorem addO_new {O : List Nat} {j : Nat} (h : ¬ j ∈ O) : addO O j = O ++ [j] := if_neg h
theorem mem_addO {O : List Nat} {i j : Nat} : i ∈ addO O j ↔ i ∈ O ∨ i = j := by
  by_cases c : j ∈ O
  · rw [addO_in c]
    exact ⟨.inl, fun h => h.elim id fun e => e ▸ c⟩
  · rw [addO_new c, List.mem_append, List.mem_singleton]
def kN (j : Nat) : Key := .inl (j : Int)
theorem kN_inj {i j : Nat} (h : kN i = kN j) : i = j := by
  have := Sum.inl.inj h
  omega
structure DecAt (N : Addr → Prop) (H : Hp) (kvs : List (Key × V)) (O : List Nat) (s : Nat) (es : List En) : Prop where
  keys : kvs.map (·.1) = O.map kN
  nd : O.Nodup
  lt : ∀ j ∈ O, j < nb es.length s
  has : ∀ j ∈ O, ∃ (l : Addr) (xs : List V), valV kvs (kN j) = some (.ref l) ∧ H l = some (.lst xs) ∧ EnsA H xs (cutE es s j)
  no : ∀ j, ¬ j ∈ O → valV kvs (kN j) = none
  av : ∀ j ∈ O, ∀ l, valV kvs (kN j) = some (.ref l) → ¬ N l
theorem DecAt.mono {N : Addr → Prop} {H H' : Hp} {kvs : List (Key × V)} {O : List Nat} {s : Nat} {es : List En} (h : DecAt N H kvs O s es) (kl : ∀ b zs, H b = some (.lst zs) → H' b = some (.lst zs)) (kt : ∀ b zs, H b = some (.tup zs) → H' b = some (.tup zs)) : DecAt N H' kvs O s es :=
  ⟨h.keys, h.nd, h.lt, fun j hj => let ⟨l, xs, h1, h2, h3⟩ := h.has j hj; ⟨l, xs, h1, kl _ _ h2, h3.mono kt⟩, h.no, h.av⟩
theorem DecAt.len {N : Addr → Prop} {H : Hp} {kvs : List (Key × V)} {O : List Nat} {s : Nat} {es : List En} (h : DecAt N H kvs O s es) : kvs.length = O.length ∧ kvs.length ≤ nb es.length s := by
  have e : kvs.length = O.length := by
    have := congrArg List.length h.keys
    rwa [List.length_map, List.length_map] at this
  exact ⟨e, e ▸ nodup_few _ _ h.nd h.lt⟩
theorem DecAt.nil {N : Addr → Prop} {H : Hp} {s : Nat} {es : List En} : DecAt N H [] [] s es := ⟨rfl, .nil, (fun j h => nomatch h), (fun j h => nomatch h), (fun j _ => rfl), (fun j h => nomatch h)⟩
theorem DecAt.put {N : Addr → Prop} {H : Hp} {kvs : List (Key × V)} {O : List Nat} {s j : Nat} {es : List En} {l : Addr} {xs : List V} (h : DecAt N H kvs O s es) (hj : ¬ j ∈ O) (hb : j < nb es.length s) (hl : H l = some (.lst xs)) (hE : EnsA H xs (cutE es s j)) (hv : ¬ N l) : DecAt N H (putK kvs (kN j) (.ref l)) (O ++ [j]) s es := by
  have e := putK_new (.ref l) (h.no j hj)
  refine ⟨?_, ?_, fun i hi => ?_, fun i hi => ?_, fun i hi => ?_, fun i hi l' gl => ?_⟩
  · rw [e, List.map_append, List.map_append, h.keys]
    rfl
  · refine List.nodup_append.mpr ⟨h.nd, by simp, fun a ha b hb2 => ?_⟩
    rw [List.mem_singleton] at hb2
    exact fun e2 => hj (hb2 ▸ e2 ▸ ha)
  · rw [List.mem_append, List.mem_singleton] at hi
    exact hi.elim (h.lt i) fun e => e ▸ hb
  · rw [valV_put]
    by_cases c : kN i = kN j
    · rw [if_pos c, kN_inj c]
      exact ⟨l, xs, rfl, hl, hE⟩
    · rw [if_neg c]
      rw [List.mem_append, List.mem_singleton] at hi
      exact hi.elim (h.has i) fun e => absurd (congrArg kN e) c
  · rw [valV_put, if_neg (fun c => hi (List.mem_append.mpr (.inr (List.mem_singleton.mpr (kN_inj c)))))]
    exact h.no i fun c => hi (List.mem_append.mpr (.inl c))
  · rw [valV_put] at gl
    by_cases c : kN i = kN j
    · rw [if_pos c] at gl
      cases gl
      exact hv
    · rw [if_neg c] at gl
      rw [List.mem_append, List.mem_singleton] at hi
      exact hi.elim (fun k => h.av i k l' gl) fun e => absurd (congrArg kN e) c
def walkF (hl d t : Addr) : List (Str × V) := [("heads", .ref hl), ("decoded", .ref d), ("standing", .ref t)]
/-- a walker over a row with its open blocks O, its standing at t -/
structure WkD (N : Addr → Prop) (CW CB : Addr) (H : Hp) (x d t : Addr) (s : Nat) (es : List En) (ls : List Nat) (O : List Nat) (dx hl : Addr) (bs : List Addr) (kvs : List (Key × V)) : Prop where
  ix : H x = some (.ins CW dx (walkF hl d t))
  ih : H hl = some (.lst (bs.map V.ref))
  ib : BlksAt CB H bs s es ls
  id : H d = some (.dK kvs)
  io : DecAt N H kvs O s es
  ah : ¬ N hl
  nn : ∀ a, N a → H a ≠ none
def StAt (H : Hp) (t : Addr) (s : Nat) (es : List En) (n : Nat) : Prop := H t = some (.tup [.int (stA es s n : Nat), .int (stE es s n : Nat)])
def WkH (N : Addr → Prop) (CW CB : Addr) (H : Hp) (x d t : Addr) (s : Nat) (es : List En) (ls : List Nat) (O : List Nat) : Prop := ∃ (dx hl : Addr) (bs : List Addr) (kvs : List (Key × V)), WkD N CW CB H x d t s es ls O dx hl bs kvs
theorem BlksAt.mono {CB : Addr} {H H' : Hp} {bs : List Addr} {s : Nat} {es : List En} {ls : List Nat} (h : BlksAt CB H bs s es ls) (k : ∀ b dx, H b = some (.ins CB dx (blkF (cutE es s 0) ls)) ∨ True → ∀ i, H b = some (.ins CB dx (blkF (cutE es s i) ls)) → H' b = some (.ins CB dx (blkF (cutE es s i) ls))) : BlksAt CB H' bs s es ls := ⟨h.1, fun i b g => let ⟨dx, h2⟩ := h.2 i b g; ⟨dx, k b dx (.inr True.intro) i h2⟩⟩
/-- what may change where the dictionary at d alone is written -/
theorem WkD.keepD {N : Addr → Prop} {CW CB : Addr} {H H' : Hp} {x d t dx hl : Addr} {s : Nat} {es : List En} {ls O : List Nat} {bs : List Addr} {kvs : List (Key × V)} (h : WkD N CW CB H x d t s es ls O dx hl bs kvs) (i : ExI d H H') : H' x = some (.ins CW dx (walkF hl d t)) ∧ H' hl = some (.lst (bs.map V.ref)) ∧ BlksAt CB H' bs s es ls ∧ DecAt N H' kvs O s es := by
  have ne : ∀ {b : Addr} {o : HO}, H b = some o → (∀ kvs', o ≠ .dK kvs') → b ≠ d := fun {b o} hb hn e => by
    subst e
    rw [h.id] at hb
    exact hn _ (Option.some.inj hb).symm
  refine ⟨i _ _ (ne h.ix (by intro _ z; cases z)) h.ix, i _ _ (ne h.ih (by intro _ z; cases z)) h.ih, ⟨h.ib.1, fun j b g => ?_⟩, h.io.mono (fun b zs hb => i _ _ (ne hb (by intro _ z; cases z)) hb) fun b zs hb => i _ _ (ne hb (by intro _ z; cases z)) hb⟩
  obtain ⟨db, hb⟩ := h.ib.2 j b g
  exact ⟨db, i _ _ (ne hb (by intro _ z; cases z)) hb⟩
theorem nn_ex {H H' : Hp} {a : Addr} (i : Ex H H') (h : H a ≠ none) : H' a ≠ none := by
  cases e : H a with
  | none => exact absurd e h
  | some o =>
    rw [i _ _ e]
    intro z
    cases z
theorem WkD.ex {N : Addr → Prop} {CW CB : Addr} {H H' : Hp} {x d t dx hl : Addr} {s : Nat} {es : List En} {ls O : List Nat} {bs : List Addr} {kvs : List (Key × V)} (h : WkD N CW CB H x d t s es ls O dx hl bs kvs) (i : Ex H H') : WkD N CW CB H' x d t s es ls O dx hl bs kvs := ⟨i _ _ h.ix, i _ _ h.ih, h.ib.ex i, i _ _ h.id, h.io.mono (fun b zs hb => i _ _ hb) (fun b zs hb => i _ _ hb), h.ah, fun a ha e => nn_ex i (h.nn a ha) e⟩
theorem nn_of {H H' : Hp} {d a : Addr} {o : HO} (hd : H' d = some o) (i : ∀ b o, b ≠ d → H b = some o → H' b = some o) (h : H a ≠ none) : H' a ≠ none := by
  by_cases c : a = d
  · rw [c, hd]
    intro z
    cases z
  · cases e : H a with
    | none => exact absurd e h
    | some o =>
      rw [i _ _ c e]
      intro z
      cases z
theorem tup_keep {H H' : Hp} {d a : Addr} {kvs : List (Key × V)} {zs : List V} (h : H a = some (.tup zs)) (hd : H d = some (.dK kvs)) (i : ExI d H H') : H' a = some (.tup zs) := i _ _ (ne_of h hd (by intro z; cases z)) h
theorem ExI.refl {x : Addr} {H : Hp} : ExI x H H := fun b o _ h => h
theorem ExI.trans {x : Addr} {H H' H2 : Hp} (a : ExI x H H') (b : ExI x H' H2) : ExI x H H2 := fun c o n h => b c o n (a c o n h)
theorem ExI.ofEx {x : Addr} {H H' : Hp} (a : Ex H H') : ExI x H H' := fun c o _ h => a c o h
theorem ExI.mut {x : Addr} {H H' : Hp} {o : HO} (a : ExI x H H') : ExI x H (upd H' x o) := fun c q n h => by
  rw [upd_ne n]
  exact a c q n h
/-- a row's walker's facts that no call changes -/
structure WkR (s : Nat) (es : List En) (ls : List Nat) : Prop where
  lo : 1 ≤ s
  hi : s ≤ 8
  ens : Ens es
  fit : Fit es ls
theorem WkR.nb60 {s : Nat} {es : List En} {ls : List Nat} (h : WkR s es ls) : nb es.length s ≤ 60 := Nat.le_trans (nb_le h.lo) h.ens.few
/-! ### entries_in -/
def spEin (CW CB : Addr) : Sp := fun vs H Q _ => ∃ (N : Addr → Prop) (x d t : Addr) (s : Nat) (es : List En) (ls O : List Nat) (j : Nat), vs = [.ref x, .int (j : Int)] ∧ WkH N CW CB H x d t s es ls O ∧ WkR s es ls ∧ j < nb es.length s ∧
  ∀ (l : Addr) (xs : List V) (H' : Hp), ExI d H H' → WkH N CW CB H' x d t s es ls (addO O j) → H' l = some (.lst xs) → EnsA H' xs (cutE es s j) → Q (.ref l) H'
set_option maxHeartbeats 8000000 in
theorem ok_entries_in (T : TX K mg A FD TK) : FnOk P w K mg base CX0 4 (A 71) (FD 71) ["self", "at"] (spEin (A 32) (A 48)) := by
  have G_decode_entries := ok_decode_entries (P := P) (w := w) (base := base) T
  refine T.f_Walker_entries_in.ok (k := 3) sc_Walker_entries_in (fun vs H Q E h => ?_) (fun cdv A' outer s H vs Q E hr h => ?_)
  · obtain ⟨N, x, d, t, s, es, ls, O, j, rfl, _⟩ := h
    rfl
  · obtain ⟨N, x, d, t, s, es, ls, O, j, rfl, ⟨dx, hl, bs, kvs, hW⟩, hR, hj, q⟩ := h
    refine ⟨_, (pss_cons (ps_if (pt_cmp (pc_dnotin (hu_of hr) (pv 1) (fldK (K := K) rfl (pv 0) rfl)))
      (pss_one (ps_dput (hu_of hr) (fldK (K := K) rfl (pv 0) rfl) (pv 1) (pe_call G_decode_entries hr (by rfl) T.g_decode_entries T.f_decode_entries.kp T.b_decode_entries .nil pass0 (pa_cons (fldK (K := K) rfl (pe_ix (ixLK (K := K) rfl) (fldK (K := K) rfl (pv 0) rfl) (pv 1) (fun _ _ => rfl)) rfl) pa_nil)) rfl))
      pss_nil)
      (pss_one (ps_ret (pe_dget (hu_of hr) (fldK (K := K) rfl (pv 0) rfl) (pv 1) (fun _ _ => rfl))))), ?_⟩
    refine ⟨.int (j : Int), rfl, .ref x, rfl, x, A 32, dx, _, _, rfl, hW.ix, T.cl_Walker, T.n_Walker_decoded, rfl, d, _, rfl, DGet.k (k := kN j) hW.id, ?_⟩
    by_cases c : j ∈ O
    · obtain ⟨l, xs, g1, g2, g3⟩ := hW.io.has j c
      rw [g1]
      refine ⟨_, rfl, ite2 (fun h => absurd (show false = true from h) Bool.false_ne_true) (fun _ => ?_)⟩
      refine ⟨.ref x, rfl, x, A 32, dx, _, _, rfl, hW.ix, T.cl_Walker, T.n_Walker_decoded, rfl, .int (j : Int), rfl, d, _, rfl, (g1 ▸ DGet.k (k := kN j) hW.id), ?_⟩
      rw [addO_in c] at q
      exact q l xs H ExI.refl ⟨_, _, _, _, hW⟩ g2 g3
    · rw [hW.io.no j c]
      refine ⟨_, rfl, ite2 (fun _ => ?_) (fun h => absurd rfl h)⟩
      have hjb : j < bs.length := by rw [hW.ib.1]; exact hj
      have gb : bs[j]? = some bs[j] := List.getElem?_eq_getElem hjb
      obtain ⟨db, hb⟩ := hW.ib.2 j _ gb
      have gv : (bs.map V.ref)[j]? = some (.ref bs[j]) := by rw [List.getElem?_map, gb]; rfl
      have hEc := hR.ens.cut s j
      refine ⟨.ref x, rfl, x, A 32, dx, _, _, rfl, hW.ix, T.cl_Walker, T.n_Walker_heads, rfl, .int (j : Int), rfl, hl, _, _, _, rfl, rfl, SqL.of hW.ih, atI_nat gv, bs[j], A 48, db, _, _, rfl, hb, T.cl_Block, T.n_Block_coded, rfl, cutE es s j, rfl, hEc, ?_, fun l xs H2 nl e2 hl2 hE2 => ?_⟩
      · have l1 := codeE_len2 hEc (hR.fit.sml.cut s j)
        have l2 := hEc.few
        omega
      have hW2 := hW.ex e2
      have len := hW2.io.len
      have h60 := hR.nb60
      refine ⟨.ref x, rfl, x, A 32, dx, _, _, rfl, hW2.ix, T.cl_Walker, T.n_Walker_decoded, rfl, .int (j : Int), rfl, d, _, rfl, DPut.k (k := kN j) hW2.id (sz_lt (by omega)), ?_⟩
      have iU : ExI d H2 (upd H2 d (.dK (putK kvs (kN j) (.ref l)))) := ExI.mut ExI.refl
      have hU := upd_same (H := H2) (a := d) (o := .dK (putK kvs (kN j) (.ref l)))
      generalize (upd H2 d (.dK (putK kvs (kN j) (.ref l)))) = H3 at iU hU ⊢
      obtain ⟨k1, k2, k3, k4⟩ := hW2.keepD iU
      have hl3 : H3 l = some (.lst xs) := iU _ _ (ne_of hl2 hW2.id (by intro z; cases z)) hl2
      have hE3 := hE2.mono (H' := H3) fun b zs hb => iU _ _ (ne_of hb hW2.id (by intro z; cases z)) hb
      have hP := k4.put c hj hl3 hE3 (fun hn => hW.nn l hn nl)
      have hW3 : WkD N (A 32) (A 48) H3 x d t s es ls (O ++ [j]) dx hl bs _ := ⟨k1, k2, k3, hU, hP, hW.ah, fun a ha => nn_of hU iU (hW2.nn a ha)⟩
      have g1 : valV (putK kvs (kN j) (.ref l)) (kN j) = some (.ref l) := by rw [valV_put, if_pos rfl]
      refine ⟨.ref x, rfl, x, A 32, dx, _, _, rfl, k1, T.cl_Walker, T.n_Walker_decoded, rfl, .int (j : Int), rfl, d, _, rfl, (g1 ▸ DGet.k (k := kN j) hU), ?_⟩
      rw [addO_new c] at q
      exact q l xs H3 ((ExI.ofEx e2).trans iU) ⟨_, _, _, _, hW3⟩ hl3 hE3

theorem WkD.blk {N : Addr → Prop} {CW CB : Addr} {H : Hp} {x d t dx hl : Addr} {s j : Nat} {es : List En} {ls O : List Nat} {bs : List Addr} {kvs : List (Key × V)} (h : WkD N CW CB H x d t s es ls O dx hl bs kvs) (hj : j < nb es.length s) : ∃ b db, (bs.map V.ref)[j]? = some (.ref b) ∧ H b = some (.ins CB db (blkF (cutE es s j) ls)) := by
  have hjb : j < bs.length := by rw [h.ib.1]; exact hj
  have gb : bs[j]? = some bs[j] := List.getElem?_eq_getElem hjb
  obtain ⟨db, hb⟩ := h.ib.2 j _ gb
  exact ⟨_, db, by rw [List.getElem?_map, gb]; rfl, hb⟩
theorem WkD.len {N : Addr → Prop} {CW CB : Addr} {H : Hp} {x d t dx hl : Addr} {s : Nat} {es : List En} {ls O : List Nat} {bs : List Addr} {kvs : List (Key × V)} (h : WkD N CW CB H x d t s es ls O dx hl bs kvs) : (bs.map V.ref).length = nb es.length s := by rw [List.length_map]; exact h.ib.1
theorem vi_eq {a b : Nat} (h : decide (V.int (a : Int) = V.int (b : Int)) = true) : a = b := by
  have := V.int.inj (of_decide_eq_true h)
  omega
theorem vi_ne {a b : Nat} (h : ¬ decide (V.int (a : Int) = V.int (b : Int)) = true) : ¬ a = b := fun e => h (decide_eq_true (by rw [e]))
def opS (O : List Nat) (es : List En) (s n : Nat) : List Nat := if stE es s n = 0 then O else addO O (stA es s n)
def slotV (es : List En) (n : Nat) : V := match es[n]? with
  | some e => .int (e.1 : Nat)
  | none => .non
theorem slotV_in {es : List En} {n : Nat} {e : En} (h : es[n]? = some e) : slotV es n = .int (e.1 : Nat) := by unfold slotV; rw [h]
theorem slotV_end {es : List En} {n : Nat} (h : ¬ n < es.length) : slotV es n = .non := by unfold slotV; rw [List.getElem?_eq_none (by omega)]
/-! ### slot_at, slot -/
def spSat (CW CB : Addr) : Sp := fun vs H Q _ => ∃ (N : Addr → Prop) (x d t u : Addr) (s : Nat) (es : List En) (ls O : List Nat) (n : Nat), vs = [.ref x, .ref u] ∧ WkH N CW CB H x d t s es ls O ∧ WkR s es ls ∧ StAt H u s es n ∧
  ∀ H', ExI d H H' → WkH N CW CB H' x d t s es ls (opS O es s n) → Q (slotV es n) H'
set_option maxHeartbeats 8000000 in
theorem ok_slot_at (T : TX K mg A FD TK) : FnOk P w K mg base CX0 5 (A 72) (FD 72) ["self", "standing"] (spSat (A 32) (A 48)) := by
  have G_Walker_entries_in := ok_entries_in (P := P) (w := w) (base := base) T
  refine T.f_Walker_slot_at.ok (k := 4) sc_Walker_slot_at (fun vs H Q E h => ?_) (fun cdv A' outer s H vs Q E hr h => ?_)
  · obtain ⟨N, x, d, t, u, s, es, ls, O, n, rfl, _⟩ := h
    rfl
  · obtain ⟨N, x, d, t, u, s, es, ls, O, n, rfl, ⟨dx, hl, bs, kvs, hW⟩, hR, hu, q⟩ := h
    refine ⟨_, (pss_cons (ps_asg (pv 1) (pg_tup rfl (pgs_cons (pg_name (i := 2) sc_Walker_slot_at.nd rfl (.inl rfl)) (pgs_cons (pg_name (i := 3) sc_Walker_slot_at.nd rfl (.inl rfl)) pgs_nil))))
      (pss_cons (ps_if (pt_cmpR op_eq (pv 2) (pe_callB (lenK (K := K) rfl) (by rfl) T.m_len (by decide +kernel) (pa_cons (fldK (K := K) rfl (pv 0) rfl) pa_nil)) (nomark _))
      (pss_one (ps_ret pe_non))
      pss_nil)
      (pss_one (ps_ret (pe_ifExp (pt_cmpR op_eq (pv 3) pe_int (nomark _)) (fldK (K := K) rfl (pe_ix (ixLK (K := K) rfl) (fldK (K := K) rfl (pv 0) rfl) (pv 2) (fun _ _ => rfl)) rfl) (pe_ix (ixTK (K := K) rfl) (pe_ix (ixLK (K := K) rfl) (pe_meth (pv 0) T.cl_Walker T.M_Walker_entries_in G_Walker_entries_in hr T.b_Walker_entries_in .nil pass0 (pa_cons (pv 2) pa_nil)) (pv 3) (fun _ _ => rfl)) pe_int (fun _ _ => rfl))))))), ?_⟩
    refine ⟨.ref u, rfl, u, _, rfl, SqT.of hu, rfl, _, _, rfl, _, _, rfl, rfl, ?_⟩
    refine ⟨.int (stA es s n : Nat), rfl, .ref x, rfl, x, A 32, dx, _, _, rfl, hW.ix, T.cl_Walker, T.n_Walker_heads, rfl, hl, _, rfl, .inl (SqL.of hW.ih), rfl, _, rfl, ite2 (fun c => ?_) (fun c => ?_)⟩
    · rw [hW.len] at c
      have hn := (stA_is (es := es) hR.lo).mp (vi_eq c)
      have hq := q H ExI.refl
      rw [opS, if_pos (stA_end hn).2, slotV_end hn] at hq
      exact hq ⟨_, _, _, _, hW⟩
    · rw [hW.len] at c
      have hn : n < es.length := by
        apply Classical.byContradiction
        exact fun h => vi_ne c (stA_end h).1
      obtain ⟨n1, n2, n3⟩ := stA_in hR.lo hn
      have gn : es[n]? = some es[n] := List.getElem?_eq_getElem hn
      rw [slotV_in gn] at q
      have gc := cutE_get (es := es) (s := s) n2
      rw [n3, gn] at gc
      refine ⟨.int (stE es s n : Nat), rfl, rfl, _, rfl, ite2 (fun c2 => ?_) (fun c2 => ?_)⟩
      · have e0 : stE es s n = 0 := vi_eq (b := 0) c2
        obtain ⟨b, db, gb, hb⟩ := hW.blk n1
        have hq := q H ExI.refl
        rw [opS, if_pos e0] at hq
        rw [e0] at gc
        refine ⟨.ref x, rfl, x, A 32, dx, _, _, rfl, hW.ix, T.cl_Walker, T.n_Walker_heads, rfl, .int (stA es s n : Nat), rfl, hl, _, _, _, rfl, rfl, SqL.of hW.ih, atI_nat gb, b, A 48, db, _, _, rfl, hb, T.cl_Block, T.n_Block_first, rfl, ?_⟩
        rw [fst_at gc]
        exact hq ⟨_, _, _, _, hW⟩
      · have e0 : ¬ stE es s n = 0 := fun e => c2 (decide_eq_true (by rw [e]; rfl))
        rw [opS, if_neg e0] at q
        refine ⟨.ref x, rfl, x, dx, _, rfl, hW.ix, rfl, .int (stA es s n : Nat), rfl, N, x, d, t, s, es, ls, O, stA es s n, rfl, ⟨_, _, _, _, hW⟩, hR, n1, fun l xs H' i hW' hl' hE' => ?_⟩
        obtain ⟨a, ga, ta, ha, _⟩ := hE'.2 _ _ gc
        exact ⟨.int (stE es s n : Nat), rfl, l, _, _, _, rfl, rfl, SqL.of hl', atI_nat ga, a, _, 0, _, rfl, rfl, SqT.of ha, atI_nat (j := 0) rfl, q H' i hW'⟩
/-- where the walker stands -/
def WkAt (N : Addr → Prop) (CW CB : Addr) (H : Hp) (x d : Addr) (s : Nat) (es : List En) (ls O : List Nat) (n : Nat) : Prop := ∃ t, WkH N CW CB H x d t s es ls O ∧ StAt H t s es n ∧ n ≤ es.length
theorem WkH.hd {N : Addr → Prop} {CW CB : Addr} {H : Hp} {x d t : Addr} {s : Nat} {es : List En} {ls O : List Nat} (h : WkH N CW CB H x d t s es ls O) : ∃ kvs, H d = some (.dK kvs) := let ⟨_, _, _, kvs, h⟩ := h; ⟨kvs, h.id⟩
theorem StAt.keep {H H' : Hp} {d t : Addr} {s n : Nat} {es : List En} (h : StAt H t s es n) (hd : ∃ kvs, H d = some (.dK kvs)) (i : ExI d H H') : StAt H' t s es n := let ⟨_, hd⟩ := hd; tup_keep h hd i
def spSlo (CW CB : Addr) : Sp := fun vs H Q _ => ∃ (N : Addr → Prop) (x d : Addr) (s : Nat) (es : List En) (ls O : List Nat) (n : Nat), vs = [.ref x] ∧ WkAt N CW CB H x d s es ls O n ∧ WkR s es ls ∧
  ∀ H', ExI d H H' → WkAt N CW CB H' x d s es ls (opS O es s n) n → Q (slotV es n) H'
set_option maxHeartbeats 4000000 in
theorem ok_slot (T : TX K mg A FD TK) : FnOk P w K mg base CX0 6 (A 68) (FD 68) ["self"] (spSlo (A 32) (A 48)) := by
  have G_Walker_slot_at := ok_slot_at (P := P) (w := w) (base := base) T
  refine T.f_Walker_slot.ok (k := 5) sc_Walker_slot (fun vs H Q E h => ?_) (fun cdv A' outer s H vs Q E hr h => ?_)
  · obtain ⟨N, x, d, s, es, ls, O, n, rfl, _⟩ := h
    rfl
  · obtain ⟨N, x, d, s, es, ls, O, n, rfl, ⟨t, hH, hS, hn⟩, hR, q⟩ := h
    obtain ⟨dx, hl, bs, kvs, hW⟩ := id hH
    refine ⟨_, (pss_one (ps_ret (pe_meth (pv 0) T.cl_Walker T.M_Walker_slot_at G_Walker_slot_at hr T.b_Walker_slot_at .nil pass0 (pa_cons (fldK (K := K) rfl (pv 0) rfl) pa_nil)))), ?_⟩
    exact ⟨.ref x, rfl, x, dx, _, rfl, hW.ix, rfl, .ref x, rfl, x, A 32, dx, _, _, rfl, hW.ix, T.cl_Walker, T.n_Walker_standing, rfl, N, x, d, t, t, s, es, ls, O, n, rfl, hH, hR, hS, fun H' i h' => q H' i ⟨t, h', hS.keep ⟨_, hW.id⟩ i, hn⟩⟩
/-! ### reaching -/
def spRea (CW CB : Addr) : Sp := fun vs H Q _ => ∃ (N : Addr → Prop) (x d t : Addr) (s : Nat) (es : List En) (ls O : List Nat) (z : Int) (a : Nat), vs = [.ref x, .int z, .int (a : Int)] ∧ WkH N CW CB H x d t s es ls O ∧ WkR s es ls ∧ a ≤ nb es.length s ∧
  ∀ b, Reach es s z a b → Q (.int (b : Int)) H
set_option maxHeartbeats 8000000 in
theorem ok_reaching (T : TX K mg A FD TK) : FnOk P w K mg base CX0 1 (A 73) (FD 73) ["self", "slot", "at"] (spRea (A 32) (A 48)) := by
  refine T.f_Walker_reaching.ok (k := 0) sc_Walker_reaching (fun vs H Q E h => ?_) (fun cdv A' outer s H vs Q E hr h => ?_)
  · obtain ⟨N, x, d, t, s, es, ls, O, z, a, rfl, _⟩ := h
    rfl
  · obtain ⟨N, x, d, t, s, es, ls, O, z, a, rfl, ⟨dx, hl, bs, kvs, hW⟩, hR, ha, q⟩ := h
    refine ⟨_, (pss_cons (ps_while PassesOwn.never (PW.pt (pw_and (pt_cmpR op_lt (pv 2) (pe_callB (lenK (K := K) rfl) (by rfl) T.m_len (by decide +kernel) (pa_cons (fldK (K := K) rfl (pv 0) rfl) pa_nil)) (nomark _)) (pw_and1 (pt_cmpR op_lt (fldK (K := K) rfl (pe_ix (ixLK (K := K) rfl) (fldK (K := K) rfl (pv 0) rfl) (pv 2) (fun _ _ => rfl)) rfl) (pv 1) (nomark _)))))
      (pss_one (ps_aug (i := 2) sc_Walker_reaching.nd rfl (.inl rfl) pe_int ip_add)))
      (pss_one (ps_ret (pv 2)))), ?_⟩
    refine ⟨fun m σ' H' => H' = H ∧ ∃ b : Nat, σ' = [some (.ref x), some (.int z), some (.int (b : Int))] ∧ m = nb es.length s - b ∧ a ≤ b ∧ b ≤ nb es.length s ∧ ∀ j, a ≤ j → j < b → (lstE (cutE es s j) : Int) < z, ⟨_, rfl, a, rfl, rfl, Nat.le_refl _, ha, fun j h1 h2 => by omega⟩, fun m σ' H' p => ?_⟩
    obtain ⟨rfl, b, rfl, rfl, b1, b2, b3⟩ := p
    refine ⟨.int (b : Int), rfl, .ref x, rfl, x, A 32, dx, _, _, rfl, hW.ix, T.cl_Walker, T.n_Walker_heads, rfl, hl, _, rfl, .inl (SqL.of hW.ih), _, _, rfl, rfl, _, rfl, ite2 (fun c => ?_) (fun c => ?_)⟩
    · rw [hW.len] at c
      have hb : b < nb es.length s := by
        have : (b : Int) < (nb es.length s : Nat) := of_decide_eq_true c
        omega
      obtain ⟨bb, db, gb, hbb⟩ := hW.blk hb
      refine ⟨.ref x, rfl, x, A 32, dx, _, _, rfl, hW.ix, T.cl_Walker, T.n_Walker_heads, rfl, .int (b : Int), rfl, hl, _, _, _, rfl, rfl, SqL.of hW.ih, atI_nat gb, bb, A 48, db, _, _, rfl, hbb, T.cl_Block, T.n_Block_last, rfl, .int z, rfl, _, _, rfl, rfl, _, rfl, ite2 (fun c2 => ?_) (fun c2 => ?_)⟩
      · have hz : (lstE (cutE es s b) : Int) < z := of_decide_eq_true c2
        refine ⟨fun σ' H1 => σ' = [some (.ref x), some (.int z), some (.int ((b + 1 : Nat) : Int))] ∧ H1 = H', fun σ' H1 e => ?_, .int (b : Int), rfl, _, _, rfl, rfl, rfl, rfl⟩
        obtain ⟨rfl, rfl⟩ := e
        refine ⟨_, (by omega : nb es.length s - (b + 1) < _), rfl, b + 1, rfl, rfl, by omega, by omega, fun j h1 h2 => ?_⟩
        by_cases e : j = b
        · exact e ▸ hz
        · exact b3 j h1 (by omega)
      · exact ⟨.int (b : Int), rfl, q b ⟨b1, b2, b3, fun _ => by
          have : ¬ (lstE (cutE es s b) : Int) < z := fun h => c2 (decide_eq_true h)
          omega⟩⟩
    · rw [hW.len] at c
      have hb : ¬ b < nb es.length s := fun h => c (decide_eq_true (by omega))
      exact ⟨.int (b : Int), rfl, q b ⟨b1, b2, b3, fun h => absurd h hb⟩⟩

/-! ### head_at, opened -/
theorem WkH.ex {N : Addr → Prop} {CW CB : Addr} {H H' : Hp} {x d t : Addr} {s : Nat} {es : List En} {ls O : List Nat} (h : WkH N CW CB H x d t s es ls O) (i : Ex H H') : WkH N CW CB H' x d t s es ls O := let ⟨a, b, c, e, h⟩ := h; ⟨a, b, c, e, h.ex i⟩
theorem StAt.ex {H H' : Hp} {t : Addr} {s n : Nat} {es : List En} (h : StAt H t s es n) (i : Ex H H') : StAt H' t s es n := i _ _ h
theorem WkAt.ex {N : Addr → Prop} {CW CB : Addr} {H H' : Hp} {x d : Addr} {s n : Nat} {es : List En} {ls O : List Nat} (h : WkAt N CW CB H x d s es ls O n) (i : Ex H H') : WkAt N CW CB H' x d s es ls O n := let ⟨t, h1, h2, h3⟩ := h; ⟨t, h1.ex i, h2.ex i, h3⟩
def spCkN : Sp := fun vs H Q _ => ∃ z : Int, vs = [.int z] ∧ RetV .non H Q
theorem ok_check_number (T : TX K mg A FD TK) : FnOk P w K mg base CX0 2 (A 33) (FD 33) ["slot"] spCkN := by
  have G_is_whole := ok_is_whole (P := P) (w := w) (base := base) T
  refine T.f_check_number.ok (k := 1) sc_check_number (fun vs H Q E h => ?_) (fun cdv A' outer s H vs Q E hr h => ?_)
  · obtain ⟨z, rfl, _⟩ := h
    rfl
  · obtain ⟨z, rfl, q⟩ := h
    refine ⟨_, (pss_one (ps_if (pt_not (pt_val (pe_call G_is_whole hr (by rfl) T.g_is_whole T.f_is_whole.kp T.b_is_whole .nil pass0 (pa_cons (pv 0) pa_nil))))
      (pss_one ps_never)
      pss_nil)), ?_⟩
    exact ⟨.int z, rfl, z, rfl, fun H1 e1 => ⟨true, rfl, ite2 (fun h => absurd (show false = true from h) Bool.false_ne_true) (fun _ => q H1 e1)⟩⟩

theorem opS_idem {O : List Nat} {es : List En} {s n : Nat} : opS (opS O es s n) es s n = opS O es s n := by
  unfold opS
  by_cases c : stE es s n = 0
  · rw [if_pos c, if_pos c]
  · rw [if_neg c, if_neg c]
    exact addO_in (mem_addO.mpr (.inr rfl))
theorem st_next {es : List En} {s n : Nat} (hs : 0 < s) (hn : n < es.length) (h : ¬ stE es s n + 1 < (cutE es s (stA es s n)).length) : stA es s (n + 1) = stA es s n + 1 ∧ stE es s (n + 1) = 0 := by
  obtain ⟨n1, n2, n3⟩ := stA_in hs hn
  generalize stA es s n = a at n1 n2 n3 h ⊢
  generalize stE es s n = e at n2 n3 h ⊢
  rw [cutE_len] at n2 h
  have l1 := (nb_lt (n := es.length) hs).mp n1
  have ea : (a + 1) * s = a * s + s := by rw [Nat.add_mul, Nat.one_mul]
  by_cases c : n + 1 < es.length
  · have e1 : n + 1 = (a + 1) * s + 0 := by omega
    have l2 : a + 1 < nb es.length s := (nb_lt hs).mpr (by omega)
    have := st_of hs l2 (cutE_pos hs l2)
    rw [← e1] at this
    exact this
  · obtain ⟨k1, k2⟩ := stA_end (s := s) c
    rw [k1]
    refine ⟨?_, k2⟩
    have l2 : ¬ a + 1 < nb es.length s := fun z => by
      have := (nb_lt hs).mp z
      omega
    omega
theorem st_zero {es : List En} {s : Nat} (hs : 0 < s) : stA es s 0 = 0 ∧ stE es s 0 = 0 := by
  by_cases c : 0 < es.length
  · unfold stA stE
    rw [if_pos c, if_pos c]
    exact ⟨Nat.zero_div _, Nat.zero_mod _⟩
  · obtain ⟨k1, k2⟩ := stA_end (s := s) c
    refine ⟨?_, k2⟩
    rw [k1, show es.length = 0 by omega]
    unfold nb
    exact Nat.div_eq_of_lt (by omega)
/-! ### sought -/
def spSou (CW CB : Addr) : Sp := fun vs H Q _ => ∃ (N : Addr → Prop) (x d t u : Addr) (s : Nat) (es : List En) (ls O : List Nat) (n : Nat) (z : Int), vs = [.ref x, .int z, .ref u] ∧ WkH N CW CB H x d t s es ls O ∧ WkR s es ls ∧ StAt H u s es n ∧ n ≤ es.length ∧
  ∀ (m : Nat) (t' : Addr) (H' : Hp), Sought es z n m → ExI d H H' → WkH N CW CB H' x d t s es ls (opS (opS O es s n) es s m) → StAt H' t' s es m → Q (.ref t') H'
set_option maxHeartbeats 16000000 in
theorem ok_sought (T : TX K mg A FD TK) : FnOk P w K mg base CX0 6 (A 74) (FD 74) ["self", "slot", "standing"] (spSou (A 32) (A 48)) := by
  have G_Walker_slot_at := ok_slot_at (P := P) (w := w) (base := base) T
  have G_Walker_entries_in := (ok_entries_in (P := P) (w := w) (base := base) T).mono (show 4 ≤ 5 by decide)
  have G_Walker_reaching := (ok_reaching (P := P) (w := w) (base := base) T).mono (show 1 ≤ 5 by decide)
  refine T.f_Walker_sought.ok (k := 5) sc_Walker_sought (fun vs H Q E h => ?_) (fun cdv A' outer s H vs Q E hr h => ?_)
  · obtain ⟨N, x, d, t, u, s, es, ls, O, n, z, rfl, _⟩ := h
    rfl
  · obtain ⟨N, x, d, t, u, s, es, ls, O, n, z, rfl, hH, hR, hu, hn, q⟩ := h
    obtain ⟨dx0, hl0, bs0, kvs0, hW0⟩ := id hH
    refine ⟨_, (pss_cons (ps_set (i := 3) sc_Walker_sought.nd rfl (.inl rfl) (pe_meth (pv 0) T.cl_Walker T.M_Walker_slot_at G_Walker_slot_at hr T.b_Walker_slot_at .nil pass0 (pa_cons (pv 2) pa_nil)))
      (pss_cons (ps_if (PW.pt (pw_or (pt_cmpR op_isN (pv 3) pe_non (nomark _)) (pw_or1 (pt_cmpR op_le (pv 1) (pv 3) (nomark _)))))
      (pss_one (ps_ret (pv 2)))
      pss_nil)
      (pss_cons (ps_set (i := 4) sc_Walker_sought.nd rfl (.inl rfl) (pe_meth (pv 0) T.cl_Walker T.M_Walker_reaching G_Walker_reaching hr T.b_Walker_reaching .nil pass0 (pa_cons (pv 1) (pa_cons (pe_ix (ixTK (K := K) rfl) (pv 2) pe_int (fun _ _ => rfl)) pa_nil))))
      (pss_cons (ps_if (PW.pt (pw_or (pt_cmpR op_eq (pv 4) (pe_callB (lenK (K := K) rfl) (by rfl) T.m_len (by decide +kernel) (pa_cons (fldK (K := K) rfl (pv 0) rfl) pa_nil)) (nomark _)) (pw_or1 (pt_cmpR op_le (pv 1) (fldK (K := K) rfl (pe_ix (ixLK (K := K) rfl) (fldK (K := K) rfl (pv 0) rfl) (pv 4) (fun _ _ => rfl)) rfl) (nomark _)))))
      (pss_one (ps_ret (pe_tup (pa_cons (pv 4) (pa_cons pe_int pa_nil)))))
      pss_nil)
      (pss_one (ps_ret (pe_tup (pa_cons (pv 4) (pa_cons (pe_callB (lenK (K := K) rfl) (by rfl) T.m_len (by decide +kernel) (pa_cons (pe_lc (own := [("one", 5), ("places", 6)])  rfl sc_Walker_sought.nd (piLK (K := K) rfl (pe_meth (pv 0) T.cl_Walker T.M_Walker_entries_in G_Walker_entries_in hr T.b_Walker_entries_in .nil pass0 (pa_cons (pv 4) pa_nil))) (blkOk_by (own := [("one", 5), ("places", 6)]) (N := N_Walker_sought) (sc := defScope (inClass (topS 32) 13)) (by decide +kernel)) (fun _ _ _ _ _ => (tupGK (K := K) (n := 2) rfl rfl (pgs_cons (pg_name (i := 5) sc_Walker_sought.nd rfl (Or.inl rfl)) (pgs_cons (pg_name (i := 6) sc_Walker_sought.nd rfl (Or.inl rfl)) pgs_nil)))) (fun _ _ _ _ _ => (pts_one (pt_cmpR op_lt (pv 5) (pv 1) (nomark _)))) (fun _ _ _ _ _ => (pv 5))) pa_nil)) pa_nil))))))))), ?_⟩
    refine ⟨.ref x, rfl, x, dx0, _, rfl, hW0.ix, rfl, .ref u, rfl, N, x, d, t, u, s, es, ls, O, n, rfl, hH, hR, hu, fun H1 i1 hH1 => ?_⟩
    have hu1 := hu.keep ⟨_, hW0.id⟩ i1
    have same : Sought es z n n → Q (.ref u) H1 := fun hs => q n u H1 hs i1 (by rw [opS_idem]; exact hH1) hu1
    obtain ⟨dx, hl, bs, kvs, hW⟩ := id hH1
    generalize hO1 : opS O es s n = O1 at hH1 hW q
    by_cases c : n < es.length
    · have gn : es[n]? = some es[n] := List.getElem?_eq_getElem c
      rw [slotV_in gn]
      refine ⟨.int (es[n].1 : Nat), rfl, rfl, _, rfl, ite2 (fun c1 => absurd (of_decide_eq_true c1) (by intro z; cases z)) (fun _ => ?_)⟩
      refine ⟨.int z, rfl, .int (es[n].1 : Nat), rfl, _, _, rfl, rfl, _, rfl, ite2 (fun c1 => ?_) (fun c1 => ?_)⟩
      · exact ⟨.ref u, rfl, same (sought_at gn (of_decide_eq_true c1))⟩
      · have hz : (es[n].1 : Int) < z := by
          have : ¬ z ≤ (es[n].1 : Nat) := fun h => c1 (decide_eq_true h)
          omega
        obtain ⟨n1, n2, n3⟩ := stA_in hR.lo c
        have eA : stA es s n = n / s := if_pos c
        refine ⟨.ref x, rfl, x, dx, _, rfl, hW.ix, rfl, .int z, rfl, .ref u, rfl, u, _, 0, _, rfl, rfl, SqT.of hu1, atI_nat (j := 0) rfl, N, x, d, t, s, es, ls, O1, z, _, rfl, hH1, hR, Nat.le_of_lt n1, fun b hb => ?_⟩
        rw [eA] at hb
        refine ⟨.int (b : Int), rfl, .ref x, rfl, x, A 32, dx, _, _, rfl, hW.ix, T.cl_Walker, T.n_Walker_heads, rfl, hl, _, rfl, .inl (SqL.of hW.ih), rfl, _, rfl, ite2 (fun c2 => ?_) (fun c2 => ?_)⟩
        · rw [hW.len] at c2
          have eb := vi_eq c2
          rw [eb] at hb ⊢
          refine ⟨.int (nb es.length s : Nat), rfl, by show 2 ≤ sizeLine; decide, fun p np => ?_⟩
          have eN := Ex.new (o := .tup [.int (nb es.length s : Nat), .int 0]) np
          have k := stA_end (es := es) (s := s) (n := es.length) (Nat.lt_irrefl _)
          refine q es.length p _ (sought_none hR.ens.ris hR.lo hn hb) (i1.trans (ExI.ofEx eN)) ?_ ?_
          · rw [opS, if_pos k.2]
            exact hH1.ex eN
          · unfold StAt
            rw [k.1, k.2]
            exact upd_same
        · rw [hW.len] at c2
          have nb1 : b < nb es.length s := Nat.lt_of_le_of_ne hb.le (fun e => vi_ne c2 e)
          obtain ⟨bb, db, gb, hbb⟩ := hW.blk nb1
          have cp := cutE_pos (es := es) hR.lo nb1
          refine ⟨.int z, rfl, .ref x, rfl, x, A 32, dx, _, _, rfl, hW.ix, T.cl_Walker, T.n_Walker_heads, rfl, .int (b : Int), rfl, hl, _, _, _, rfl, rfl, SqL.of hW.ih, atI_nat gb, bb, A 48, db, _, _, rfl, hbb, T.cl_Block, T.n_Block_first, rfl, _, _, rfl, rfl, _, rfl, ite2 (fun c3 => ?_) (fun c3 => ?_)⟩
          · have hf : z ≤ (fstE (cutE es s b) : Int) := of_decide_eq_true c3
            refine ⟨.int (b : Int), rfl, by show 2 ≤ sizeLine; decide, fun p np => ?_⟩
            have eN := Ex.new (o := .tup [.int (b : Int), .int 0]) np
            have k := st_of hR.lo nb1 cp
            refine q (b * s + 0) p _ (sought_first hR.ens.ris hR.lo gn hz hb nb1 hf) (i1.trans (ExI.ofEx eN)) ?_ ?_
            · rw [opS, if_pos k.2]
              exact hH1.ex eN
            · unfold StAt
              rw [k.1, k.2]
              exact upd_same
          · have hf : (fstE (cutE es s b) : Int) < z := by
              have : ¬ z ≤ (fstE (cutE es s b) : Int) := fun h => c3 (decide_eq_true h)
              omega
            obtain ⟨s1, s2, s3⟩ := sought_in hR.ens.ris hR.lo gn hz hb nb1 hf
            have k := st_of hR.lo nb1 s2
            have k0 : ¬ stE es s (b * s + lessN (cutE es s b) z) = 0 := by rw [k.2]; omega
            refine ⟨.int (b : Int), rfl, .ref x, rfl, x, dx, _, rfl, hW.ix, rfl, .int (b : Int), rfl, N, x, d, t, s, es, ls, O1, b, rfl, hH1, hR, nb1, fun l xs H2 i2 hH2 hl2 hE2 => ?_⟩
            refine ⟨l, rfl, ⟨_, SqL.of hl2⟩, fun D nD => ?_⟩
            have few := (hR.ens.cut s b).few
            refine lc_list (K := K) (xs := xs) (fun i H' => Ex H2 H' ∧ H' D = some (.lst (nvs ((((cutE es s b).take i).filter fun e => decide ((e.1 : Int) < z)).map (·.1))))) ⟨Ex.new nD, upd_same⟩ (fun i H' _ p => ex_l p.1 (SqL.of hl2)) (fun i v H4 hv p => ?_) (fun H4 p => ?_)
            · obtain ⟨p1, p2⟩ := p
              obtain ⟨e, a, ge, rfl, hA⟩ := hE2.at hv
              obtain ⟨ta, ha, _⟩ := hA.ex p1
              refine ⟨a, _, rfl, SqT.of ha, rfl, _, _, rfl, _, _, rfl, rfl, rfl, .int (e.1 : Nat), rfl, .int z, rfl, _, _, rfl, rfl, _, rfl, ite2 (fun cc => ?_) (fun cc => ?_)⟩
              · refine ⟨.int (e.1 : Nat), rfl, _, p2, ?_, Ex.mut p1 nD, ?_⟩
                · rw [nvs_len, List.length_map]
                  have := List.length_filter_le (fun e : En => decide ((e.1 : Int) < z)) ((cutE es s b).take i)
                  rw [List.length_take] at this
                  exact sz_lt (by omega)
                · rw [upd_same, take_up ge, List.filter_append, List.map_append, show List.filter (fun f : En => decide ((f.1 : Int) < z)) [e] = [e] from List.filter_cons_of_pos (p := fun f : En => decide ((f.1 : Int) < z)) cc]
                  exact congrArg (fun z => some (HO.lst z)) (nvs_snoc _ _).symm
              · refine ⟨p1, ?_⟩
                rw [p2, take_up ge, List.filter_append, show List.filter (fun f : En => decide ((f.1 : Int) < z)) [e] = [] from List.filter_cons_of_neg (p := fun f : En => decide ((f.1 : Int) < z)) cc, List.append_nil]
            · obtain ⟨p1, p2⟩ := p
              rw [hE2.1, List.take_length] at p2
              refine ⟨D, _, rfl, .inl (SqL.of p2), by show 2 ≤ sizeLine; decide, fun p np => ?_⟩
              rw [nvs_len, List.length_map]
              have eN := Ex.new (o := .tup [.int (b : Int), .int (lessN (cutE es s b) z : Nat)]) np
              have hH4 := hH2.ex (p1.trans eN)
              refine q (b * s + lessN (cutE es s b) z) p _ s1 ((i1.trans i2).trans (ExI.ofEx (p1.trans eN))) ?_ ?_
              · rw [opS, if_neg k0, k.1]
                exact hH4
              · unfold StAt
                rw [k.1, k.2]
                exact upd_same
    · rw [slotV_end c]
      exact ⟨.non, rfl, rfl, _, rfl, ite2 (fun _ => ⟨.ref u, rfl, same (sought_end (by omega))⟩) (fun c1 => absurd rfl c1)⟩

/-! ### seek, step, places, Walker -/
/-- all but x and d stays -/
def ExW (x d : Addr) (H H' : Hp) : Prop := ∀ b o, b ≠ x → b ≠ d → H b = some o → H' b = some o
theorem ExI.toW {x d : Addr} {H H' : Hp} (h : ExI d H H') : ExW x d H H' := fun b o _ n2 g => h b o n2 g
theorem ExW.trans {x d : Addr} {H H' H2 : Hp} (a : ExW x d H H') (b : ExW x d H' H2) : ExW x d H H2 := fun c o n1 n2 h => b c o n1 n2 (a c o n1 n2 h)
theorem ExW.ofEx {x d : Addr} {H H' : Hp} (a : Ex H H') : ExW x d H H' := fun c o _ _ h => a c o h
theorem ExW.mutx {x d : Addr} {H : Hp} {o : HO} : ExW x d H (upd H x o) := fun b q n _ h => by
  rw [upd_ne n]
  exact h
theorem WkD.stand {N : Addr → Prop} {CW CB : Addr} {H : Hp} {x d t t' dx hl : Addr} {s : Nat} {es : List En} {ls O : List Nat} {bs : List Addr} {kvs : List (Key × V)} (h : WkD N CW CB H x d t s es ls O dx hl bs kvs) : WkD N CW CB (upd H x (.ins CW dx (putF "standing" (.ref t') (walkF hl d t)))) x d t' s es ls O dx hl bs kvs := by
  have ne : ∀ {b : Addr} {o : HO}, H b = some o → o ≠ .ins CW dx (walkF hl d t) → b ≠ x := fun {b o} hb hn e => by
    subst e
    rw [h.ix] at hb
    exact hn (Option.some.inj hb).symm
  refine ⟨upd_same, ?_, ⟨h.ib.1, fun j b g => ?_⟩, ?_, h.io.mono (fun b zs hb => ?_) (fun b zs hb => ?_), h.ah, fun a ha => nn_of (d := x) upd_same (fun b o nb g => by rw [upd_ne nb]; exact g) (h.nn a ha)⟩
  · rw [upd_ne (ne h.ih (by intro z; cases z))]
    exact h.ih
  · obtain ⟨db, hb⟩ := h.ib.2 j b g
    refine ⟨db, ?_⟩
    rw [upd_ne (ne hb (fun z => by
      have := congrArg (fun o => match o with | HO.ins _ _ fs => fs.length | _ => 0) z
      exact absurd (show (6 : Nat) = 3 from this) (by decide)))]
    exact hb
  · rw [upd_ne (ne h.id (by intro z; cases z))]
    exact h.id
  · rw [upd_ne (ne hb (by intro z; cases z))]
    exact hb
  · rw [upd_ne (ne hb (by intro z; cases z))]
    exact hb
theorem StAt.stand {H : Hp} {x C dx t : Addr} {s n : Nat} {es : List En} {fs gs : List (Str × V)} (h : StAt H t s es n) (hx : H x = some (.ins C dx fs)) : StAt (upd H x (.ins C dx gs)) t s es n := by
  unfold StAt
  rw [upd_ne (ne_of h hx (by intro z; cases z))]
  exact h
def spSek (CW CB : Addr) : Sp := fun vs H Q _ => ∃ (N : Addr → Prop) (x d : Addr) (s : Nat) (es : List En) (ls O : List Nat) (n : Nat) (z : Int), vs = [.ref x, .int z] ∧ WkAt N CW CB H x d s es ls O n ∧ WkR s es ls ∧
  ∀ (m : Nat) (H' : Hp), Sought es z n m → ExW x d H H' → WkAt N CW CB H' x d s es ls (opS (opS O es s n) es s m) m → Q (slotV es m) H'
set_option maxHeartbeats 4000000 in
theorem ok_seek (T : TX K mg A FD TK) : FnOk P w K mg base CX0 7 (A 70) (FD 70) ["self", "slot"] (spSek (A 32) (A 48)) := by
  have G_Walker_slot := ok_slot (P := P) (w := w) (base := base) T
  have G_Walker_sought := ok_sought (P := P) (w := w) (base := base) T
  have G_check_number := (ok_check_number (P := P) (w := w) (base := base) T).mono (show 2 ≤ 6 by decide)
  refine T.f_Walker_seek.ok (k := 6) sc_Walker_seek (fun vs H Q E h => ?_) (fun cdv A' outer s H vs Q E hr h => ?_)
  · obtain ⟨N, x, d, s, es, ls, O, n, z, rfl, _⟩ := h
    rfl
  · obtain ⟨N, x, d, s, es, ls, O, n, z, rfl, ⟨t, hH, hS, hn⟩, hR, q⟩ := h
    refine ⟨_, (pss_cons (ps_expr (pe_call G_check_number hr (by rfl) T.g_check_number T.f_check_number.kp T.b_check_number .nil pass0 (pa_cons (pv 1) pa_nil)))
      (pss_cons (ps_fld (pv 0) (pe_meth (pv 0) T.cl_Walker T.M_Walker_sought G_Walker_sought hr T.b_Walker_sought .nil pass0 (pa_cons (pv 1) (pa_cons (fldK (K := K) rfl (pv 0) rfl) pa_nil))) rfl)
      (pss_one (ps_ret (pe_meth0 (pv 0) T.cl_Walker T.M_Walker_slot G_Walker_slot hr T.b_Walker_slot .nil pass0))))), ?_⟩
    refine ⟨.int z, rfl, z, rfl, fun H1 e1 => ?_⟩
    have hH1 := hH.ex e1
    have hS1 := hS.ex e1
    obtain ⟨dx, hl, bs, kvs, hW⟩ := id hH1
    refine ⟨.ref x, rfl, x, dx, _, rfl, hW.ix, rfl, .int z, rfl, .ref x, rfl, x, A 32, dx, _, _, rfl, hW.ix, T.cl_Walker, T.n_Walker_standing, rfl, N, x, d, t, t, s, es, ls, O, n, z, rfl, hH1, hR, hS1, hn, fun m t' H2 hs i2 hH2 hS2 => ?_⟩
    obtain ⟨dx2, hl2, bs2, kvs2, hW2⟩ := id hH2
    refine ⟨.ref x, rfl, x, A 32, dx2, _, rfl, hW2.ix, T.cl_Walker, T.n_Walker_standing, (by show 3 < 1000; decide), ?_⟩
    have hW3 := hW2.stand (t' := t')
    have hS3 := hS2.stand (gs := putF "standing" (.ref t') (walkF hl2 d t)) hW2.ix
    have w3 : ExW x d H2 (upd H2 x (.ins (A 32) dx2 (putF "standing" (.ref t') (walkF hl2 d t)))) := ExW.mutx
    generalize (upd H2 x (.ins (A 32) dx2 (putF "standing" (.ref t') (walkF hl2 d t)))) = H3 at hW3 hS3 w3 ⊢
    refine ⟨.ref x, rfl, x, dx2, _, rfl, hW3.ix, rfl, N, x, d, s, es, ls, _, m, rfl, ⟨t', ⟨_, _, _, _, hW3⟩, hS3, hs.le⟩, hR, fun H4 i4 h4 => ?_⟩
    rw [opS_idem] at h4
    exact q m H4 hs (((ExW.ofEx e1).trans i2.toW).trans (w3.trans i4.toW)) h4
def nxt (es : List En) (n : Nat) : Nat := if n < es.length then n + 1 else n
def spStp (CW CB : Addr) : Sp := fun vs H Q _ => ∃ (N : Addr → Prop) (x d : Addr) (s : Nat) (es : List En) (ls O : List Nat) (n : Nat), vs = [.ref x] ∧ WkAt N CW CB H x d s es ls O n ∧ WkR s es ls ∧
  ∀ H' : Hp, ExW x d H H' → WkAt N CW CB H' x d s es ls (opS O es s (nxt es n)) (nxt es n) → Q (slotV es (nxt es n)) H'
set_option maxHeartbeats 4000000 in
theorem ok_step (T : TX K mg A FD TK) : FnOk P w K mg base CX0 7 (A 69) (FD 69) ["self"] (spStp (A 32) (A 48)) := by
  have G_Walker_slot := ok_slot (P := P) (w := w) (base := base) T
  refine T.f_Walker_step.ok (k := 6) sc_Walker_step (fun vs H Q E h => ?_) (fun cdv A' outer s H vs Q E hr h => ?_)
  · obtain ⟨N, x, d, s, es, ls, O, n, rfl, _⟩ := h
    rfl
  · obtain ⟨N, x, d, s, es, ls, O, n, rfl, ⟨t, hH, hS, hn⟩, hR, q⟩ := h
    refine ⟨_, (pss_cons (ps_asg (fldK (K := K) rfl (pv 0) rfl) (pg_tup rfl (pgs_cons (pg_name (i := 1) sc_Walker_step.nd rfl (.inl rfl)) (pgs_cons (pg_name (i := 2) sc_Walker_step.nd rfl (.inl rfl)) pgs_nil))))
      (pss_cons (ps_if (pt_cmpR op_lt (pv 1) (pe_callB (lenK (K := K) rfl) (by rfl) T.m_len (by decide +kernel) (pa_cons (fldK (K := K) rfl (pv 0) rfl) pa_nil)) (nomark _))
      (pss_cons (ps_set (i := 3) sc_Walker_step.nd rfl (.inl rfl) (pe_cmpR op_lt (pe_op op_add (pv 2) pe_int) (fldK (K := K) rfl (pe_ix (ixLK (K := K) rfl) (fldK (K := K) rfl (pv 0) rfl) (pv 1) (fun _ _ => rfl)) rfl) (nomark _)))
      (pss_one (ps_fld (pv 0) (pe_ifExp (pt_val (pv 3)) (pe_tup (pa_cons (pv 1) (pa_cons (pe_op op_add (pv 2) pe_int) pa_nil))) (pe_tup (pa_cons (pe_op op_add (pv 1) pe_int) (pa_cons pe_int pa_nil)))) rfl)))
      pss_nil)
      (pss_one (ps_ret (pe_meth0 (pv 0) T.cl_Walker T.M_Walker_slot G_Walker_slot hr T.b_Walker_slot .nil pass0))))), ?_⟩
    obtain ⟨dx, hl, bs, kvs, hW⟩ := id hH
    refine ⟨.ref x, rfl, x, A 32, dx, _, _, rfl, hW.ix, T.cl_Walker, T.n_Walker_standing, rfl, t, _, rfl, SqT.of hS, rfl, _, _, rfl, _, _, rfl, rfl, ?_⟩
    refine ⟨.int (stA es s n : Nat), rfl, .ref x, rfl, x, A 32, dx, _, _, rfl, hW.ix, T.cl_Walker, T.n_Walker_heads, rfl, hl, _, rfl, .inl (SqL.of hW.ih), _, _, rfl, rfl, _, rfl, ite2 (fun c => ?_) (fun c => ?_)⟩
    · rw [hW.len] at c
      have n1 : stA es s n < nb es.length s := by
        have : (stA es s n : Int) < (nb es.length s : Nat) := of_decide_eq_true c
        omega
      have hlt : n < es.length := by
        apply Classical.byContradiction
        intro h
        have := (stA_end (s := s) h).1
        omega
      obtain ⟨_, n2, n3⟩ := stA_in hR.lo hlt
      have en : nxt es n = n + 1 := if_pos hlt
      rw [en] at q
      obtain ⟨b, db, gb, hb⟩ := hW.blk n1
      refine ⟨.int (stE es s n : Nat), rfl, _, _, rfl, rfl, .ref x, rfl, x, A 32, dx, _, _, rfl, hW.ix, T.cl_Walker, T.n_Walker_heads, rfl, .int (stA es s n : Nat), rfl, hl, _, _, _, rfl, rfl, SqL.of hW.ih, atI_nat gb, b, A 48, db, _, _, rfl, hb, T.cl_Block, T.n_Block_many, rfl, _, _, rfl, rfl, ?_⟩
      have last : ∀ (t' : Addr) (H1 : Hp), Ex H H1 → StAt H1 t' s es (n + 1) → H1 x = some (.ins (A 32) dx (walkF hl d t)) ∧ ((∀ H4, ExI d (upd H1 x (.ins (A 32) dx (putF "standing" (.ref t') (walkF hl d t)))) H4 → WkAt N (A 32) (A 48) H4 x d s es ls (opS O es s (n + 1)) (n + 1) → Q (slotV es (n + 1)) H4) ∧ WkAt N (A 32) (A 48) (upd H1 x (.ins (A 32) dx (putF "standing" (.ref t') (walkF hl d t)))) x d s es ls O (n + 1)) := fun t' H1 e1 hS1 => by
        have hW1 := hW.ex e1
        exact ⟨hW1.ix, fun H4 i4 h4 => q H4 ((ExW.ofEx e1).trans (ExW.mutx.trans i4.toW)) h4, t', ⟨_, _, _, _, hW1.stand⟩, hS1.stand hW1.ix, hlt⟩
      by_cases cc : stE es s n + 1 < (cutE es s (stA es s n)).length
      · have k := st_of hR.lo n1 cc
        rw [show stA es s n * s + (stE es s n + 1) = n + 1 by omega] at k
        refine ⟨_, rfl, _, rfl, ite2 (fun _ => ?_) (fun c2 => absurd (decide_eq_true (by omega)) c2)⟩
        refine ⟨.int (stA es s n : Nat), rfl, .int (stE es s n : Nat), rfl, _, _, rfl, rfl, by show 2 ≤ sizeLine; decide, fun p np => ?_⟩
        obtain ⟨hx1, q1, h1⟩ := last p _ (Ex.new np) (by unfold StAt; rw [k.1, k.2]; exact upd_same)
        refine ⟨.ref x, rfl, x, A 32, dx, _, rfl, hx1, T.cl_Walker, T.n_Walker_standing, (by show 3 < 1000; decide), ?_⟩
        obtain ⟨t1, ⟨dx1, hl1, bs1, kvs1, hW1⟩, _⟩ := id h1
        exact ⟨.ref x, rfl, x, dx1, _, rfl, hW1.ix, rfl, N, x, d, s, es, ls, O, n + 1, rfl, h1, hR, q1⟩
      · have k := st_next hR.lo hlt cc
        refine ⟨_, rfl, _, rfl, ite2 (fun c2 => absurd (of_decide_eq_true c2) (by omega)) (fun _ => ?_)⟩
        refine ⟨.int (stA es s n : Nat), rfl, _, _, rfl, rfl, by show 2 ≤ sizeLine; decide, fun p np => ?_⟩
        obtain ⟨hx1, q1, h1⟩ := last p _ (Ex.new np) (by unfold StAt; rw [k.1, k.2]; exact upd_same)
        refine ⟨.ref x, rfl, x, A 32, dx, _, rfl, hx1, T.cl_Walker, T.n_Walker_standing, (by show 3 < 1000; decide), ?_⟩
        obtain ⟨t1, ⟨dx1, hl1, bs1, kvs1, hW1⟩, _⟩ := id h1
        exact ⟨.ref x, rfl, x, dx1, _, rfl, hW1.ix, rfl, N, x, d, s, es, ls, O, n + 1, rfl, h1, hR, q1⟩
    · rw [hW.len] at c
      have hlt : ¬ n < es.length := fun h => c (decide_eq_true (by have := (stA_in hR.lo h).1; omega))
      have en : nxt es n = n := if_neg hlt
      rw [en] at q
      exact ⟨.ref x, rfl, x, dx, _, rfl, hW.ix, rfl, N, x, d, s, es, ls, O, n, rfl, ⟨t, hH, hS, hn⟩, hR, fun H4 i4 h4 => q H4 i4.toW h4⟩
theorem lst_x {H : Hp} {C x dx l : Addr} {fs : List (Str × V)} {xs : List V} {o : HO} (h : H l = some (.lst xs)) (hx : H x = some (.ins C dx fs)) : (upd H x o) l = some (.lst xs) := by
  rw [upd_ne (ne_of h hx (by intro z; cases z))]
  exact h
theorem BlksAt.updx {CB : Addr} {H : Hp} {bs : List Addr} {s : Nat} {es : List En} {ls : List Nat} {C x dx : Addr} {fs : List (Str × V)} {o : HO} (h : BlksAt CB H bs s es ls) (hx : H x = some (.ins C dx fs)) (hf : fs.length ≠ 6) : BlksAt CB (upd H x o) bs s es ls := ⟨h.1, fun j b g => by
  obtain ⟨db, hb⟩ := h.2 j b g
  refine ⟨db, ?_⟩
  rw [upd_ne (ne_of hb hx (fun z => by
    have := congrArg (fun o => match o with | HO.ins _ _ fs => fs.length | _ => 0) z
    exact hf (show (6 : Nat) = fs.length from this).symm))]
  exact hb⟩
def spWIn (CW CR CB : Addr) : Sp := fun vs H Q _ => ∃ (N : Addr → Prop) (x dx r : Addr) (z : Str) (s : Nat) (es : List En) (ls : List Nat), vs = [.ref x, .ref r] ∧ H x = some (.ins CW dx []) ∧ RowAt CR CB H r z s es ls ∧ WkR s es ls ∧ (∀ a, N a → H a ≠ none) ∧
  ∀ (d : Addr) (H' : Hp), H d = none → ExI x H H' → WkAt N CW CB H' x d s es ls [] 0 → Q .non H'
set_option maxHeartbeats 4000000 in
theorem ok_winit (T : TX K mg A FD TK) : FnOk P w K mg base CX0 2 (A 67) (FD 67) ["self", "row"] (spWIn (A 32) (A 49) (A 48)) := by
  have G_Row_blocks := ok_rblocks (P := P) (w := w) (base := base) T
  refine T.f_Walker_init.ok (k := 1) sc_Walker_init (fun vs H Q E h => ?_) (fun cdv A' outer s H vs Q E hr h => ?_)
  · obtain ⟨N, x, dx, r, z, s, es, ls, rfl, _⟩ := h
    rfl
  · obtain ⟨N, x, dx, r, z, s, es, ls, rfl, hx, hRow, hR, hnn, q⟩ := h
    refine ⟨_, (pss_cons (ps_fld (pv 0) (pe_meth0 (pv 1) T.cl_Row T.M_Row_blocks G_Row_blocks hr T.b_Row_blocks .nil pass0) rfl)
      (pss_cons (ps_fld (pv 0) pe_dnewK rfl)
      (pss_one (ps_fld (pv 0) (pe_tup (pa_cons pe_int (pa_cons pe_int pa_nil))) rfl)))), ?_⟩
    obtain ⟨dr, tr, br, hr0, _⟩ := id hRow
    refine ⟨.ref r, rfl, r, dr, _, rfl, hr0, rfl, r, z, s, es, ls, rfl, hRow, fun l bs H1 nl e1 hl1 hb1 => ?_⟩
    refine ⟨.ref x, rfl, x, A 32, dx, [], rfl, e1 _ _ hx, T.cl_Walker, T.n_Walker_heads, (by show 0 < 1000; decide), ?_⟩
    obtain ⟨i1, hx1⟩ := fld_step (f := "heads") (v := .ref l) (fun b o _ h => h) e1 hx
    have hl2 := lst_x (o := .ins (A 32) dx (putF "heads" (.ref l) [])) hl1 (e1 _ _ hx)
    have hb2 := hb1.updx (o := .ins (A 32) dx (putF "heads" (.ref l) [])) (e1 _ _ hx) (by decide)
    generalize (upd H1 x (.ins (A 32) dx (putF "heads" (.ref l) []))) = H2 at i1 hx1 hl2 hb2 ⊢
    intro d nd
    have eD := Ex.new (o := .dK []) nd
    have hd := upd_same (H := H2) (a := d) (o := .dK [])
    have nd0 : H d = none := by
      cases e : H d with
      | none => rfl
      | some o =>
        by_cases c : d = x
        · rw [c, hx1] at nd
          cases nd
        · rw [i1 d o c e] at nd
          cases nd
    generalize (upd H2 d (.dK [])) = H3 at eD hd ⊢
    refine ⟨.ref x, rfl, x, A 32, dx, _, rfl, eD _ _ hx1, T.cl_Walker, T.n_Walker_decoded, (by show 1 < 1000; decide), ?_⟩
    obtain ⟨i4, hx4⟩ := fld_step (f := "decoded") (v := .ref d) i1 eD hx1
    have hl4 := lst_x (o := .ins (A 32) dx (putF "decoded" (.ref d) (putF "heads" (.ref l) []))) (eD _ _ hl2) (eD _ _ hx1)
    have hb4 := (hb2.ex eD).updx (o := .ins (A 32) dx (putF "decoded" (.ref d) (putF "heads" (.ref l) []))) (eD _ _ hx1) (show (1 : Nat) ≠ 6 by decide)
    have hd4 : (upd H3 x (.ins (A 32) dx (putF "decoded" (.ref d) (putF "heads" (.ref l) [])))) d = some (.dK []) := by
      rw [upd_ne (ne_of hd (eD _ _ hx1) (by intro z; cases z))]
      exact hd
    generalize (upd H3 x (.ins (A 32) dx (putF "decoded" (.ref d) (putF "heads" (.ref l) [])))) = H4 at i4 hx4 hl4 hb4 hd4 ⊢
    refine ⟨by show 2 ≤ sizeLine; decide, fun t nt => ?_⟩
    have eT := Ex.new (o := .tup [.int 0, .int 0]) nt
    have ht := upd_same (H := H4) (a := t) (o := .tup [.int 0, .int 0])
    generalize (upd H4 t (.tup [.int 0, .int 0])) = H5 at eT ht ⊢
    have hx5 := eT _ _ hx4
    refine ⟨.ref x, rfl, x, A 32, dx, _, rfl, hx5, T.cl_Walker, T.n_Walker_standing, (by show 2 < 1000; decide), ?_⟩
    obtain ⟨i6, hx6⟩ := fld_step (f := "standing") (v := .ref t) i4 eT hx4
    have hl6 := lst_x (o := .ins (A 32) dx (putF "standing" (.ref t) (putF "decoded" (.ref d) (putF "heads" (.ref l) [])))) (eT _ _ hl4) hx5
    have hb6 := (hb4.ex eT).updx (o := .ins (A 32) dx (putF "standing" (.ref t) (putF "decoded" (.ref d) (putF "heads" (.ref l) [])))) hx5 (show (2 : Nat) ≠ 6 by decide)
    refine q d _ nd0 i6 ⟨t, ⟨dx, l, bs, [], hx6, hl6, hb6, ?_, DecAt.nil, fun hn => hnn l hn nl, fun a ha => nn_of hx6 i6 (hnn a ha)⟩, ?_, Nat.zero_le _⟩
    · rw [upd_ne (ne_of (eT _ _ hd4) hx5 (by intro z; cases z))]
      exact eT _ _ hd4
    · unfold StAt
      rw [upd_ne (ne_of ht hx5 (by intro z; cases z)), (st_zero hR.lo).1, (st_zero hR.lo).2]
      exact ht

/-! ### what stays -/
theorem WkAt.keep {N N' : Addr → Prop} {CW CB : Addr} {H H' : Hp} {x d : Addr} {s n : Nat} {es : List En} {ls O : List Nat} (h : WkAt N CW CB H x d s es ls O n) (ki : ∀ b C dx fs, (fs.length = 6 ∨ b = x) → H b = some (.ins C dx fs) → H' b = some (.ins C dx fs)) (kd : ∀ kvs, H d = some (.dK kvs) → H' d = some (.dK kvs)) (kt : ∀ b zs, H b = some (.tup zs) → H' b = some (.tup zs))
    (kl : ∀ b zs, ¬ N b → H b = some (.lst zs) → H' b = some (.lst zs)) (kv : ∀ b, H b ≠ none → ¬ N b → ¬ N' b) (kn : ∀ a, N' a → H' a ≠ none) : WkAt N' CW CB H' x d s es ls O n := by
  obtain ⟨t, ⟨dx, hl, bs, kvs, hW⟩, hS, hn⟩ := h
  have ex : ∀ {b : Addr} {o : HO}, H b = some o → H b ≠ none := fun {b o} e z => by
    rw [z] at e
    cases e
  refine ⟨t, ⟨dx, hl, bs, kvs, ki _ _ _ _ (.inr rfl) hW.ix, kl _ _ hW.ah hW.ih, ⟨hW.ib.1, fun j b g => ?_⟩, kd _ hW.id, ⟨hW.io.keys, hW.io.nd, hW.io.lt, fun j hj => ?_, hW.io.no, fun j hj l gl => ?_⟩, kv _ (ex hW.ih) hW.ah, kn⟩, kt _ _ hS, hn⟩
  · obtain ⟨db, hb⟩ := hW.ib.2 j b g
    exact ⟨db, ki _ _ _ _ (.inl rfl) hb⟩
  · obtain ⟨l, xs, h1, h2, h3⟩ := hW.io.has j hj
    exact ⟨l, xs, h1, kl _ _ (hW.io.av j hj l h1) h2, h3.mono kt⟩
  · obtain ⟨l', xs, h1, h2, h3⟩ := hW.io.has j hj
    rw [h1] at gl
    cases gl
    exact kv _ (ex h2) (hW.io.av j hj _ h1)
section
variable {N : Addr → Prop} {CW CB : Addr} {H H' : Hp} {x d p D : Addr} {s n c : Nat} {es : List En} {ls O : List Nat} {o : HO} {ys : List V}
theorem WkAt.ixd (h : WkAt N CW CB H x d s es ls O n) : ∃ dx hl t kvs, H x = some (.ins CW dx (walkF hl d t)) ∧ H d = some (.dK kvs) ∧ O.length ≤ nb es.length s ∧ n ≤ es.length := by
  obtain ⟨t, ⟨dx, hl, bs, kvs, hW⟩, hS, hn⟩ := h
  have l := hW.io.len
  exact ⟨dx, hl, t, kvs, hW.ix, hW.id, by omega, hn⟩
theorem WkAt.nn (h : WkAt N CW CB H x d s es ls O n) : ∀ a, N a → H a ≠ none := let ⟨_, ⟨_, _, _, _, hW⟩, _⟩ := h; hW.nn
/-- a list to keep out of is written -/
theorem WkAt.updN (h : WkAt N CW CB H x d s es ls O n) (hD : N D) (hl : H D = some (.lst ys)) : WkAt N CW CB (upd H D o) x d s es ls O n :=
  h.keep (fun b C dx fs _ g => by rw [upd_ne (ne_of g hl (by intro z; cases z))]; exact g) (fun kvs g => by rw [upd_ne (ne_of g hl (by intro z; cases z))]; exact g) (fun b zs g => by rw [upd_ne (ne_of g hl (by intro z; cases z))]; exact g)
    (fun b zs hb g => by rw [upd_ne (fun e : b = D => hb (by rw [e]; exact hD))]; exact g) (fun b _ h => h) fun a ha => nn_of (d := D) upd_same (fun b o nb g => by rw [upd_ne nb]; exact g) (h.nn a ha)
/-- a new one is kept out of too -/
theorem WkAt.more (h : WkAt N CW CB H x d s es ls O n) (nD : H D = none) : WkAt (fun a => N a ∨ a = D) CW CB (upd H D o) x d s es ls O n := by
  have e := Ex.new (o := o) nD
  refine h.keep (fun b C dx fs _ g => e _ _ g) (fun kvs g => e _ _ g) (fun b zs g => e _ _ g) (fun b zs _ g => e _ _ g) (fun b hb h => ?_) fun a ha => ?_
  · exact fun z => z.elim h fun e => hb (e ▸ nD)
  · rcases ha with ha | rfl
    · exact nn_ex e (h.nn a ha)
    · rw [upd_same]
      intro z
      cases z
theorem WkAt.less {N' : Addr → Prop} (h : WkAt N CW CB H x d s es ls O n) (k : ∀ a, N' a → N a) : WkAt N' CW CB H x d s es ls O n :=
  h.keep (fun b C dx fs _ g => g) (fun kvs g => g) (fun b zs g => g) (fun b zs _ g => g) (fun b _ h z => h (k b z)) fun a ha => h.nn a (k a ha)
theorem WkAt.fx (h : WkAt N CW CB H x d s es ls O n) (hN : N p) (hp : Pl H p c) {c2 : Nat} (f : Fx p H H') (hp' : Pl H' p c2) : WkAt N CW CB H' x d s es ls O n := by
  obtain ⟨g, b, k, x1, x2⟩ := hp
  obtain ⟨g', b', k', y1, y2⟩ := hp'
  exact h.keep (fun b C dx fs _ hb => f _ _ (ne_of hb x1 (by intro z; cases z)) hb) (fun kvs hb => f _ _ (ne_of hb x1 (by intro z; cases z)) hb) (fun b zs hb => f _ _ (ne_of hb x1 (by intro z; cases z)) hb)
    (fun b zs hz hb => f _ _ (fun e : _ = p => hz (by rw [e]; exact hN)) hb) (fun b _ h => h) fun a ha => nn_of (d := p) y1 (fun b o nb g => f b o nb g) (h.nn a ha)
/-- another walker's deed -/
theorem WkAt.other {x' d' dx' h' t' : Addr} {CW' : Addr} {kv' : List (Key × V)} (h : WkAt N CW CB H x d s es ls O n) (hx' : H x' = some (.ins CW' dx' (walkF h' d' t'))) (hd' : H d' = some (.dK kv')) (nx : x ≠ x') (nd : d ≠ d') (i : ExW x' d' H H') (kn : ∀ a, N a → H' a ≠ none) : WkAt N CW CB H' x d s es ls O n :=
  h.keep (fun b C dx fs hk g => i _ _ (fun e => by
      rcases hk with hk | hk
      · rw [e, hx'] at g
        cases g
        exact absurd (show (3 : Nat) = 6 from hk) (by decide)
      · exact nx (hk.symm.trans e)) (ne_of g hd' (by intro z; cases z)) g) (fun kvs g => i _ _ (ne_of g hx' (by intro z; cases z)) nd g) (fun b zs g => i _ _ (ne_of g hx' (by intro z; cases z)) (ne_of g hd' (by intro z; cases z)) g)
    (fun b zs _ g => i _ _ (ne_of g hx' (by intro z; cases z)) (ne_of g hd' (by intro z; cases z)) g) (fun b _ h => h) kn
end
theorem WkH.at {N : Addr → Prop} {CW CB : Addr} {H : Hp} {x d t : Addr} {s n : Nat} {es : List En} {ls O : List Nat} (h : WkH N CW CB H x d t s es ls O) (hS : StAt H t s es n) (hn : n ≤ es.length) : WkAt N CW CB H x d s es ls O n := ⟨t, h, hS, hn⟩
/-! ### glance, the walk through a row -/
theorem sub_len : ∀ (n : Nat) (O : List Nat), (∀ j, j < n → j ∈ O) → n ≤ O.length
  | 0, O, _ => Nat.zero_le _
  | n + 1, O, h => by
    have h1 := h n (Nat.lt_succ_self n)
    have h2 := sub_len n (O.erase n) fun j hj => (List.mem_erase_of_ne (by omega)).mpr (h j (by omega))
    rw [List.length_erase_of_mem h1] at h2
    have := List.length_pos_of_mem h1
    omega
theorem opS_sub {O : List Nat} {es : List En} {s n i : Nat} (h : i ∈ O) : i ∈ opS O es s n := by
  unfold opS
  split
  · exact h
  · exact mem_addO.mpr (.inl h)
theorem ExI.mutn {x D : Addr} {H H' : Hp} {o : HO} (a : ExI x H H') (n : H D = none) : ExI x H (upd H' D o) := fun b q nb h => by
  rw [upd_ne (ne_of_none h n)]
  exact a b q nb h
theorem stand_of {N : Addr → Prop} {CW CB : Addr} {H : Hp} {x d t dx hl : Addr} {s : Nat} {es : List En} {ls O : List Nat} (h : WkH N CW CB H x d t s es ls O) (t2 dx2 hl2 : Addr) (e : H x = some (.ins CW dx2 (walkF hl2 d t2))) : t2 = t := by
  obtain ⟨dx1, hl1, bs, kvs, hW⟩ := h
  rw [hW.ix] at e
  unfold walkF at e
  cases e
  rfl

/-! ### slots of rows -/
theorem ex_W8 {x d : Addr} {H0 H H' : Hp} (e : Ex H0 H) (x0 : H0 x = none) (d0 : H0 d = none) (i : ExW x d H H') : Ex H0 H' := fun b o g => i _ _ (ne_of_none g x0) (ne_of_none g d0) (e _ _ g)
/-- all entries ahead of n are less than z -/
def Lows (es : List En) (n : Nat) (z : Int) : Prop := ∀ (i : Nat) (e : En), i < n → es[i]? = some e → (e.1 : Int) < z
theorem Sought.lows {es : List En} {n m : Nat} {z : Int} (h : Sought es z n m) (l : Lows es n z) : Lows es m z := fun i e hi g => by
  by_cases c : i < n
  · exact l i e c g
  · exact h.less i (by omega) hi e g
theorem Lows.mono {es : List En} {n : Nat} {z y : Int} (h : Lows es n z) (l : z ≤ y) : Lows es n y := fun i e hi g => by
  have := h i e hi g
  omega
theorem Lows.zero {es : List En} {z : Int} : Lows es 0 z := fun i e hi _ => absurd hi (Nat.not_lt_zero _)
/-- whether a row has the slot that was sought -/
theorem sought_mem {es : List En} {n m c : Nat} (hr : Ris (slots es)) (h : Sought es (c : Int) n m) (l : Lows es n (c : Int)) : slotV es m = .int (c : Int) ↔ c ∈ slots es := by
  have lm := h.lows l
  constructor
  · intro e
    cases g : es[m]? with
    | none =>
      unfold slotV at e
      rw [g] at e
      cases e
    | some x =>
      rw [slotV_in g] at e
      have : x.1 = c := by
        have := V.int.inj e
        omega
      exact List.mem_map.mpr ⟨x, List.mem_of_getElem? g, this⟩
  · intro hm
    obtain ⟨x, hx, e⟩ := List.mem_map.mp hm
    obtain ⟨i, hi, ei⟩ := List.getElem_of_mem hx
    have gi : es[i]? = some x := by rw [List.getElem?_eq_getElem hi, ei]
    have ge : m ≤ i := by
      apply Classical.byContradiction
      intro q
      have := lm i x (by omega) gi
      omega
    have hm2 : m < es.length := by omega
    have gm : es[m]? = some es[m] := List.getElem?_eq_getElem hm2
    have s1 := h.stop _ gm
    have s2 := wslot_le hr ge gm gi
    rw [slotV_in gm]
    congr 1
    omega
/-- where the sought slot isn't there, none lies between it and the one that is reached -/
theorem sought_gap {es : List En} {n m c s : Nat} (hr : Ris (slots es)) (h : Sought es (c : Int) n m) (l : Lows es n (c : Int)) (hs : s ∈ slots es) (hc : c ≤ s) : ∃ e, es[m]? = some e ∧ e.1 ≤ s := by
  obtain ⟨x, hx, e⟩ := List.mem_map.mp hs
  obtain ⟨i, hi, ei⟩ := List.getElem_of_mem hx
  have gi : es[i]? = some x := by rw [List.getElem?_eq_getElem hi, ei]
  have lm := h.lows l
  have ge : m ≤ i := by
    apply Classical.byContradiction
    intro q
    have := lm i x (by omega) gi
    omega
  have gm : es[m]? = some (es[m]'(by omega)) := List.getElem?_eq_getElem _
  have := wslot_le hr ge gm gi
  exact ⟨_, gm, by omega⟩
def spSlf (CR CB : Addr) : Sp := fun vs H Q _ => ∃ (r : Addr) (z : Str) (s : Nat) (es : List En) (ls : List Nat), vs = [.ref r] ∧ RowAt CR CB H r z s es ls ∧ RowIs z s es ls ∧ ∀ (l : Addr) (H' : Hp), H l = none → Ex H H' → H' l = some (.lst (nvs (slots es))) → Q (.ref l) H'
set_option maxHeartbeats 4000000 in
theorem ok_slots_of (T : TX K mg A FD TK) : FnOk P w K mg base CX0 5 (A 38) (FD 38) ["row"] (spSlf (A 49) (A 48)) := by
  have G_Row_entries := ok_rentries (P := P) (w := w) (base := base) T
  refine T.f_slots_of.ok (k := 4) sc_slots_of (fun vs H Q E h => ?_) (fun cdv A' outer s H vs Q E hr h => ?_)
  · obtain ⟨r, z, s, es, ls, rfl, _⟩ := h
    rfl
  · obtain ⟨r, z, s, es, ls, rfl, hRow, hR, q⟩ := h
    refine ⟨_, (pss_one (ps_ret (pe_lc (own := [("slot", 1), ("places", 2)])  rfl sc_slots_of.nd (piLK (K := K) rfl (pe_meth0 (pv 0) T.cl_Row T.M_Row_entries G_Row_entries hr T.b_Row_entries .nil pass0)) (blkOk_by (own := [("slot", 1), ("places", 2)]) (N := N_slots_of) (sc := defScope (topS 38)) (by decide +kernel)) (fun _ _ _ _ _ => (tupGK (K := K) (n := 2) rfl rfl (pgs_cons (pg_name (i := 1) sc_slots_of.nd rfl (Or.inl rfl)) (pgs_cons (pg_name (i := 2) sc_slots_of.nd rfl (Or.inl rfl)) pgs_nil)))) (fun _ _ _ _ _ => pts_nil) (fun _ _ _ _ _ => (pv 1))))), ?_⟩
    obtain ⟨dr, tr, br, gr, _⟩ := id hRow
    have few := hR.ens.few
    refine ⟨.ref r, rfl, r, dr, _, rfl, gr, rfl, r, z, s, es, ls, rfl, hRow, hR, fun l xs H1 nl e1 hl hE => ?_⟩
    refine ⟨l, rfl, ⟨_, SqL.of hl⟩, fun D nD => ?_⟩
    refine lc_list (K := K) (xs := xs) (fun i H' => Ex H1 H' ∧ H' D = some (.lst (nvs ((slots es).take i)))) ⟨Ex.new nD, upd_same⟩ (fun i H' _ p => ex_l p.1 (SqL.of hl)) (fun i v H2 hv p => ?_) (fun H2 p => ?_)
    · obtain ⟨p1, p2⟩ := p
      obtain ⟨e, a, ge, rfl, hA⟩ := hE.at hv
      obtain ⟨t, ha, _⟩ := hA.ex p1
      have sl : (slots es).length = es.length := List.length_map ..
      refine ⟨a, _, rfl, SqT.of ha, rfl, _, _, rfl, _, _, rfl, rfl, rfl, .int (e.1 : Nat), rfl, _, p2, ?_, Ex.mut p1 nD, ?_⟩
      · rw [nvs_len, List.length_take]
        exact sz_lt (by omega)
      · rw [upd_same, take_up (slots_at ge), nvs_snoc]
    · obtain ⟨p1, p2⟩ := p
      rw [List.take_of_length_le (by rw [hE.1]; simp [slots])] at p2
      exact q D H2 (fresh_back e1 nD) (e1.trans p1) p2
/-- the slots of the one that the other hasn't -/
def outL (a b : List Nat) : List Nat := a.filter fun s => decide (¬ s ∈ b)
def spWth (CR CB : Addr) : Sp := fun vs H Q _ => ∃ (r o : Addr) (z y : Str) (s u : Nat) (es fs : List En) (ls ks : List Nat), vs = [.ref r, .ref o] ∧ RowAt CR CB H r z s es ls ∧ RowIs z s es ls ∧ RowAt CR CB H o y u fs ks ∧ RowIs y u fs ks ∧ ∀ (l : Addr) (H' : Hp), H l = none → Ex H H' → H' l = some (.lst (nvs (outL (slots es) (slots fs)))) → Q (.ref l) H'
set_option maxHeartbeats 8000000 in
theorem ok_without (T : TX K mg A FD TK) : FnOk P w K mg base CX0 8 (A 37) (FD 37) ["row", "other"] (spWth (A 49) (A 48)) := by
  have G_Walker := (ok_winit (P := P) (w := w) (base := base) T).mono (show 2 ≤ 6 by decide)
  have G_Walker_seek := ok_seek (P := P) (w := w) (base := base) T
  have G_slots_of := (ok_slots_of (P := P) (w := w) (base := base) T).mono (show 5 ≤ 7 by decide)
  have B1_Walker := T.b_Walker_init
  have R1_Walker : Vals [] [] := .nil
  refine T.f_without.ok (k := 7) sc_without (fun vs H Q E h => ?_) (fun cdv A' outer s H vs Q E hr h => ?_)
  · obtain ⟨r, o, z, y, s, u, es, fs, ls, ks, rfl, _⟩ := h
    rfl
  · obtain ⟨r, o, z, y, s, u, es, fs, ls, ks, rfl, hRr, hIr, hRo, hIo, q⟩ := h
    refine ⟨_, (pss_cons (ps_set (i := 2) sc_without.nd rfl (.inr rfl) (pe_make T.M_Walker G_Walker hr (by rfl) T.k_Walker B1_Walker R1_Walker pass0 (pa_cons (pv 1) pa_nil)))
      (pss_one (ps_ret (pe_lc (own := [("slot", 3)])  rfl sc_without.nd (piLK (K := K) rfl (pe_call G_slots_of hr (by rfl) T.g_slots_of T.f_slots_of.kp T.b_slots_of .nil pass0 (pa_cons (pv 0) pa_nil))) (blkOk_by (own := [("slot", 3)]) (N := N_without) (sc := defScope (topS 37)) (by decide +kernel)) (fun _ _ _ _ _ => (pg_name (i := 3) sc_without.nd rfl (Or.inl rfl))) (fun _ _ _ _ _ => (pts_one (pt_cmpR op_ne (pe_meth (pv 2) T.cl_Walker T.M_Walker_seek G_Walker_seek hr T.b_Walker_seek .nil pass0 (pa_cons (pv 3) pa_nil)) (pv 3) (nomark _)))) (fun _ _ _ _ _ => (pv 3)))))), ?_⟩
    have hR : WkR u fs ks := ⟨hIo.lo, hIo.hi, hIo.ens, hIo.fit⟩
    refine ⟨.ref o, rfl, fun x dx nx nd _ => ?_⟩
    have e1 := ex2 (o := .own x) (u := .ins (A 32) dx []) nx nd
    refine ⟨fun _ => False, x, dx, o, y, u, fs, ks, rfl, upd_same, hRo.ex e1, hR, fun _ h => h.elim, fun d H2 nd2 i2 h2 => ⟨rfl, ?_⟩⟩
    have e2 : Ex H H2 := ExI.new nx nd i2
    have d0 : H d = none := fresh_back e1 nd2
    refine ⟨.ref r, rfl, r, z, s, es, ls, rfl, hRr.ex e2, hIr, fun l H3 nl e3 hl => ?_⟩
    refine ⟨l, rfl, ⟨_, SqL.of hl⟩, fun D nD => ?_⟩
    have h3 := (h2.ex e3).more (o := .lst []) nD
    have few := hIr.ens.few
    have sl : (slots es).length = es.length := List.length_map ..
    have nlD : l ≠ D := ne_of_none hl nD
    have D0 : H D = none := fresh_back (e2.trans e3) nD
    generalize hN : (fun a : Addr => False ∨ a = D) = N at h3
    have ND : N D := by rw [← hN]; exact .inr rfl
    refine lc_list (K := K) (xs := nvs (slots es)) (fun i H' => ∃ (n : Nat) (O : List Nat), WkAt N (A 32) (A 48) H' x d u fs ks O n ∧ (∀ c, (slots es)[i]? = some c → Lows fs n (c : Int)) ∧ H' l = some (.lst (nvs (slots es))) ∧ H' D = some (.lst (nvs (outL ((slots es).take i) (slots fs)))) ∧ Ex H H')
      ⟨0, [], h3, fun _ _ => Lows.zero, by rw [upd_ne nlD]; exact hl, upd_same, (e2.trans e3).trans (Ex.new nD)⟩ (fun i H' _ p => SqL.of (let ⟨_, _, _, _, k, _⟩ := p; k)) (fun i v H4 hv p => ?_) (fun H4 p => ?_)
    · obtain ⟨n, O, p1, p2, p3, p4, p5⟩ := p
      obtain ⟨c, gc, rfl, ic⟩ := nvs_at hv
      obtain ⟨dx4, h0, t4, kv4, gx, gd, _⟩ := p1.ixd
      have lw := p2 c gc
      refine ⟨rfl, .ref x, rfl, x, dx4, _, rfl, gx, rfl, .int (c : Int), rfl, N, x, d, u, fs, ks, O, n, (c : Int), rfl, p1, hR, fun m H5 hm w5 h5 => ?_⟩
      have gl5 := w5 _ _ (ne_of p3 gx (by intro z; cases z)) (ne_of p3 gd (by intro z; cases z)) p3
      have gD5 := w5 _ _ (ne_of p4 gx (by intro z; cases z)) (ne_of p4 gd (by intro z; cases z)) p4
      have x5 := ex_W8 p5 nx d0 w5
      have nxt' : ∀ c', (slots es)[i + 1]? = some c' → Lows fs m (c' : Int) := fun c' g' => by
        have i3 := hIr.ens.ris (i + 1) c' g'
        rw [ah, getD_at gc] at i3
        exact (hm.lows lw).mono (by omega)
      have mem := sought_mem hIo.ens.ris hm lw
      have sc : scal (slotV fs m) (.int (c : Int)) = true := by
        unfold slotV
        split <;> rfl
      refine ⟨.int (c : Int), rfl, sc, _, rfl, ite2 (fun k => ?_) (fun k => ?_)⟩
      · have nm : ¬ c ∈ slots fs := fun h => by
          rw [decide_eq_true (mem.mpr h)] at k
          cases k
        refine ⟨.int (c : Int), rfl, _, gD5, ?_, m, _, h5.updN ND gD5, nxt', by rw [upd_ne nlD]; exact gl5, ?_, Ex.mut x5 D0⟩
        · rw [nvs_len]
          have := List.length_filter_le (fun s => decide (¬ s ∈ slots fs)) ((slots es).take i)
          rw [List.length_take] at this
          unfold outL
          exact sz_lt (by omega)
        · rw [upd_same, take_up gc]
          unfold outL
          rw [List.filter_append, show List.filter (fun s => decide (¬ s ∈ slots fs)) [c] = [c] from List.filter_cons_of_pos (p := fun s => decide (¬ s ∈ slots fs)) (decide_eq_true nm), nvs_snoc]
      · have nm : c ∈ slots fs := by
          apply Classical.byContradiction
          intro h
          refine k ?_
          rw [decide_eq_false (fun e => h (mem.mp e))]
          rfl
        refine ⟨m, _, h5, nxt', gl5, ?_, x5⟩
        rw [gD5, take_up gc]
        unfold outL
        rw [List.filter_append, show List.filter (fun s => decide (¬ s ∈ slots fs)) [c] = [] from List.filter_cons_of_neg (p := fun s => decide (¬ s ∈ slots fs)) (fun h => of_decide_eq_true h nm), List.append_nil]
    · obtain ⟨n, O, p1, p2, p3, p4, p5⟩ := p
      rw [nvs_len, List.take_length] at p4
      exact q D H4 D0 p5 p4

/-! ### many walkers -/
structure Wm where
  x : Addr
  d : Addr
  s : Nat
  es : List En
  ls : List Nat
  n : Nat
def Wm.go (w : Wm) (m : Nat) : Wm := ⟨w.x, w.d, w.s, w.es, w.ls, m⟩
structure WsAt (N : Addr → Prop) (CW CB : Addr) (H : Hp) (ws : List Wm) : Prop where
  wk : ∀ (i : Nat) (w : Wm), ws[i]? = some w → ∃ O, WkAt N CW CB H w.x w.d w.s w.es w.ls O w.n
  R : ∀ (i : Nat) (w : Wm), ws[i]? = some w → WkR w.s w.es w.ls
  dj : ∀ (i j : Nat) (w v : Wm), ws[i]? = some w → ws[j]? = some v → i ≠ j → w.x ≠ v.x ∧ w.d ≠ v.d
/-- all but the walkers' own stays -/
def ExM (ws : List Wm) (H H' : Hp) : Prop := ∀ b o, (∀ w ∈ ws, b ≠ w.x ∧ b ≠ w.d) → H b = some o → H' b = some o
theorem set_at {α : Type} {l : List α} {i j : Nat} {a b : α} (g : (l.set i a)[j]? = some b) : (j = i ∧ b = a) ∨ (j ≠ i ∧ l[j]? = some b) := by
  by_cases c : i = j
  · subst c
    have hi := (List.getElem?_eq_some_iff.mp g).1
    rw [List.length_set] at hi
    rw [List.getElem?_set_self hi] at g
    cases g
    exact .inl ⟨rfl, rfl⟩
  · rw [List.getElem?_set_ne c] at g
    exact .inr ⟨fun e => c e.symm, g⟩
section
variable {N : Addr → Prop} {CW CB : Addr} {H H' : Hp} {ws : List Wm} {i m : Nat} {w : Wm} {O' : List Nat}
theorem WsAt.ex (t : WsAt N CW CB H ws) (e : Ex H H') : WsAt N CW CB H' ws := ⟨fun i w g => let ⟨O, h⟩ := t.wk i w g; ⟨O, h.ex e⟩, t.R, t.dj⟩
theorem WsAt.deed (t : WsAt N CW CB H ws) (g : ws[i]? = some w) (f : ExW w.x w.d H H') (h' : WkAt N CW CB H' w.x w.d w.s w.es w.ls O' m) : WsAt N CW CB H' (ws.set i (w.go m)) := by
  obtain ⟨O, hw⟩ := t.wk i w g
  obtain ⟨dx, h0, t0, kv, gx, gd, _⟩ := hw.ixd
  have old : ∀ {j : Nat} {v : Wm}, (ws.set i (w.go m))[j]? = some v → ∃ u, ws[j]? = some u ∧ u.x = v.x ∧ u.d = v.d := fun {j v} gj => by
    rcases set_at gj with ⟨rfl, rfl⟩ | ⟨_, k⟩
    · exact ⟨w, g, rfl, rfl⟩
    · exact ⟨v, k, rfl, rfl⟩
  refine ⟨fun j v gj => ?_, fun j v gj => ?_, fun j k v u gj gk ne => ?_⟩
  · rcases set_at gj with ⟨rfl, rfl⟩ | ⟨ne, k⟩
    · exact ⟨O', h'⟩
    · obtain ⟨O2, h2⟩ := t.wk j v k
      have := t.dj j i v w k g ne
      exact ⟨O2, h2.other gx gd this.1 this.2 f h'.nn⟩
  · rcases set_at gj with ⟨rfl, rfl⟩ | ⟨ne, k⟩
    · exact t.R _ w g
    · exact t.R _ v k
  · obtain ⟨a1, b1, c1, d1⟩ := old gj
    obtain ⟨a2, b2, c2, d2⟩ := old gk
    rw [← c1, ← d1, ← c2, ← d2]
    exact t.dj j k a1 a2 b1 b2 ne
theorem ExW.toM (f : ExW w.x w.d H H') (g : ws[i]? = some w) : ExM ws H H' := fun b o k h => f b o (k w (List.mem_of_getElem? g)).1 (k w (List.mem_of_getElem? g)).2 h
theorem set_xs (g : ws[i]? = some w) : (ws.set i (w.go m)).map (fun (v : Wm) => V.ref v.x) = ws.map fun (v : Wm) => V.ref v.x := by
  apply List.ext_getElem?
  intro j
  rw [List.getElem?_map, List.getElem?_map]
  by_cases c : i = j
  · subst c
    rw [List.getElem?_set_self (List.getElem?_eq_some_iff.mp g).1, g]
    rfl
  · rw [List.getElem?_set_ne c]
end
/-- the same walkers, standing elsewhere -/
def Likes (ws vs : List Wm) : Prop := vs.length = ws.length ∧ ∀ (i : Nat) (w : Wm), ws[i]? = some w → ∃ m, vs[i]? = some (w.go m)
theorem Likes.refl {ws : List Wm} : Likes ws ws := ⟨rfl, fun _ w g => ⟨w.n, g⟩⟩
theorem Likes.set {ws vs : List Wm} {i m k : Nat} {w : Wm} (h : Likes ws vs) (g : ws[i]? = some w) (gv : vs[i]? = some (w.go k)) : Likes ws (vs.set i (w.go m)) := by
  refine ⟨by rw [List.length_set]; exact h.1, fun j v gj => ?_⟩
  by_cases c : i = j
  · subst c
    rw [g] at gj
    cases gj
    exact ⟨m, List.getElem?_set_self (List.getElem?_eq_some_iff.mp gv).1⟩
  · rw [List.getElem?_set_ne c]
    exact h.2 j v gj
theorem Likes.xs {ws vs : List Wm} (h : Likes ws vs) : vs.map (fun (v : Wm) => V.ref v.x) = ws.map fun (v : Wm) => V.ref v.x := by
  apply List.ext_getElem?
  intro j
  rw [List.getElem?_map, List.getElem?_map]
  by_cases c : j < ws.length
  · obtain ⟨m, k⟩ := h.2 j _ (List.getElem?_eq_getElem c)
    rw [k, List.getElem?_eq_getElem c]
    rfl
  · rw [List.getElem?_eq_none (by rw [h.1]; omega), List.getElem?_eq_none (by omega)]
theorem Likes.mem {ws vs : List Wm} (h : Likes ws vs) {b : Addr} (k : ∀ w ∈ ws, b ≠ w.x ∧ b ≠ w.d) : ∀ v ∈ vs, b ≠ v.x ∧ b ≠ v.d := fun v hv => by
  obtain ⟨j, hj, e⟩ := List.getElem_of_mem hv
  have hw : j < ws.length := by rw [← h.1]; exact hj
  obtain ⟨m, g⟩ := h.2 j _ (List.getElem?_eq_getElem hw)
  rw [List.getElem?_eq_getElem hj, e] at g
  cases g
  have := k _ (List.getElem_mem hw)
  exact this
/-- what is answered: the slot, all have it; or another one, that a row comes to that hasn't the slot -/
def RchAll (vs : List Wm) (c : Nat) (v : V) : Prop := (v = .int (c : Int) ∧ ∀ w ∈ vs, slotV w.es w.n = .int (c : Int)) ∨ (v ≠ .int (c : Int) ∧ ∃ w ∈ vs, v = slotV w.es w.n ∧ ∃ k, Sought w.es (c : Int) k w.n ∧ Lows w.es k (c : Int))
def spRba (CW CB : Addr) : Sp := fun vs H Q _ => ∃ (N : Addr → Prop) (wl : Addr) (ws : List Wm) (c : Nat), vs = [.ref wl, .int (c : Int)] ∧ H wl = some (.lst (ws.map fun (w : Wm) => V.ref w.x)) ∧ WsAt N CW CB H ws ∧ (∀ w ∈ ws, Lows w.es w.n (c : Int)) ∧
  ∀ (us : List Wm) (v : V) (H' : Hp), Likes ws us → WsAt N CW CB H' us → ExM ws H H' → (∀ w ∈ us, Lows w.es w.n (c : Int)) → RchAll us c v → Q v H'
set_option maxHeartbeats 8000000 in
theorem ok_reached (T : TX K mg A FD TK) : FnOk P w K mg base CX0 8 (A 35) (FD 35) ["walkers", "slot"] (spRba (A 32) (A 48)) := by
  have G_Walker_seek := ok_seek (P := P) (w := w) (base := base) T
  refine T.f_reached_by_all.ok (k := 7) sc_reached_by_all (fun vs H Q E h => ?_) (fun cdv A' outer s H vs Q E hr h => ?_)
  · obtain ⟨N, wl, ws, c, rfl, _⟩ := h
    rfl
  · obtain ⟨N, wl, ws, c, rfl, gw, hW, hL, q⟩ := h
    refine ⟨_, (pss_cons (ps_for PassesOwn.never rfl (piLK (K := K) rfl (pv 0)) (pg_name (i := 2) sc_reached_by_all.nd rfl (.inl rfl))
      (pss_cons (ps_set (i := 3) sc_reached_by_all.nd rfl (.inl rfl) (pe_meth (pv 2) T.cl_Walker T.M_Walker_seek G_Walker_seek hr T.b_Walker_seek .nil pass0 (pa_cons (pv 1) pa_nil)))
      (pss_one (ps_if (pt_cmpR op_ne (pv 3) (pv 1) (nomark _))
      (pss_one (ps_ret (pv 3)))
      pss_nil))))
      (pss_one (ps_ret (pv 1)))), ?_⟩
    refine ⟨.ref wl, rfl, wl, rfl, ⟨_, SqL.of gw⟩, ?_⟩
    refine for_list (K := K) (xs := ws.map fun (w : Wm) => V.ref w.x) (fun i σ' H' => (∃ o2 o3, σ' = [some (.ref wl), some (.int (c : Int)), o2, o3]) ∧ H' wl = some (.lst (ws.map fun (w : Wm) => V.ref w.x)) ∧ ∃ us : List Wm, Likes ws us ∧ WsAt N (A 32) (A 48) H' us ∧ ExM ws H H' ∧ (∀ w ∈ us, Lows w.es w.n (c : Int)) ∧ ∀ (j : Nat) (w : Wm), j < i → us[j]? = some w → slotV w.es w.n = .int (c : Int))
      ⟨⟨none, none, rfl⟩, gw, ws, Likes.refl, hW, fun b o _ h => h, hL, fun j w h => absurd h (Nat.not_lt_zero _)⟩ (fun i σ' H' _ p => SqL.of p.2.1) (fun i v σ' H1 gv p => ?_) (fun σ' H1 p => ?_)
    · obtain ⟨⟨o2, o3, rfl⟩, gw1, us, k1, k2, k3, k4, k5⟩ := p
      have hi : i < ws.length := by
        have := (List.getElem?_eq_some_iff.mp gv).1
        rwa [List.length_map] at this
      have g0 : ws[i]? = some ws[i] := List.getElem?_eq_getElem hi
      obtain ⟨n, gu⟩ := k1.2 i _ g0
      rw [List.getElem?_map, g0] at gv
      cases gv
      obtain ⟨O, hw⟩ := k2.wk i _ gu
      obtain ⟨dx, h0, t0, kv, gx, gd, _⟩ := hw.ixd
      have hRi := k2.R i _ gu
      have lw := k4 _ (List.mem_of_getElem? gu)
      refine ⟨.ref (ws[i]).x, rfl, (ws[i]).x, dx, _, rfl, gx, rfl, .int (c : Int), rfl, N, (ws[i]).x, (ws[i]).d, (ws[i]).s, (ws[i]).es, (ws[i]).ls, O, n, (c : Int), rfl, hw, hRi, fun m H2 hm w2 h2 => ?_⟩
      have gw2 := w2 _ _ (ne_of gw1 gx (by intro z; cases z)) (ne_of gw1 gd (by intro z; cases z)) gw1
      have d2 := k2.deed (w := (ws[i]).go n) gu w2 h2
      have l2 : Likes ws (us.set i ((ws[i]).go m)) := k1.set g0 gu
      have e2 : ExM ws H H2 := fun b o k h => (w2 b o (k _ (List.mem_of_getElem? g0)).1 (k _ (List.mem_of_getElem? g0)).2) (k3 b o k h)
      have lo2 : ∀ w ∈ us.set i ((ws[i]).go m), Lows w.es w.n (c : Int) := fun w hw => by
        obtain ⟨j, hj, ej⟩ := List.getElem_of_mem hw
        rcases set_at (show (us.set i ((ws[i]).go m))[j]? = some w by rw [List.getElem?_eq_getElem hj, ej]) with ⟨rfl, rfl⟩ | ⟨_, k⟩
        · exact hm.lows lw
        · exact k4 _ (List.mem_of_getElem? k)
      have hiu : i < us.length := (List.getElem?_eq_some_iff.mp gu).1
      have gi : (us.set i ((ws[i]).go m))[i]? = some ((ws[i]).go m) := List.getElem?_set_self hiu
      have sc : scal (slotV (ws[i]).es m) (.int (c : Int)) = true := by
        unfold slotV
        split <;> rfl
      refine ⟨slotV (ws[i]).es m, rfl, .int (c : Int), rfl, sc, _, rfl, ite2 (fun k => ?_) (fun k => ?_)⟩
      · refine ⟨_, rfl, q _ _ H2 l2 d2 e2 lo2 (.inr ⟨fun e => ?_, (ws[i]).go m, List.mem_of_getElem? gi, rfl, n, hm, lw⟩)⟩
        rw [decide_eq_true e] at k
        cases k
      · refine ⟨⟨_, _, rfl⟩, gw2, _, l2, d2, e2, lo2, fun j w hj g => ?_⟩
        rcases set_at g with ⟨rfl, rfl⟩ | ⟨ne, g⟩
        · apply Classical.byContradiction
          intro e
          exact k (by rw [show decide (slotV ws[j].es m = V.int (c : Int)) = false from decide_eq_false e]; rfl)
        · exact k5 j w (by omega) g
    · obtain ⟨⟨o2, o3, rfl⟩, gw1, us, k1, k2, k3, k4, k5⟩ := p
      refine ⟨.int (c : Int), rfl, q us _ H1 k1 k2 k3 k4 (.inl ⟨rfl, fun w hw => ?_⟩)⟩
      obtain ⟨j, hj, ej⟩ := List.getElem_of_mem hw
      refine k5 j w ?_ (by rw [List.getElem?_eq_getElem hj, ej])
      rw [List.length_map, ← k1.1]
      exact hj

/-! ### common -/
def allIn (ess : List (List En)) (s : Nat) : Bool := ess.all fun es => decide (s ∈ slots es)
def comB (ess : List (List En)) (b : Nat) : List Nat := (List.range b).filter (allIn ess)
theorem comB_same {ess : List (List En)} {b : Nat} : ∀ d, (∀ s, b ≤ s → s < b + d → allIn ess s = false) → comB ess (b + d) = comB ess b
  | 0, _ => rfl
  | d + 1, k => by
    have ih := comB_same d fun s h1 h2 => k s h1 (by omega)
    unfold comB at ih ⊢
    rw [← Nat.add_assoc, List.range_succ, List.filter_append, ih, List.filter_cons_of_neg (by rw [k (b + d) (by omega) (by omega)]; exact Bool.false_ne_true), List.filter_nil, List.append_nil]
theorem comB_to {ess : List (List En)} {b c : Nat} (h : b ≤ c) (k : ∀ s, b ≤ s → s < c → allIn ess s = false) : comB ess c = comB ess b := by
  have := comB_same (ess := ess) (b := b) (c - b) fun s h1 h2 => k s h1 (by omega)
  rwa [show b + (c - b) = c by omega] at this
theorem comB_put {ess : List (List En)} {b c : Nat} (h : b < c) (hb : allIn ess b = true) (k : ∀ s, b < s → s < c → allIn ess s = false) : comB ess c = comB ess b ++ [b] := by
  rw [comB_to (b := b + 1) h fun s h1 h2 => k s (by omega) h2]
  unfold comB
  rw [List.range_succ, List.filter_append, List.filter_cons_of_pos hb, List.filter_nil]
theorem allIn_not {ess : List (List En)} {es : List En} {s : Nat} (h : es ∈ ess) (n : ¬ s ∈ slots es) : allIn ess s = false := by
  cases e : allIn ess s with
  | false => rfl
  | true =>
    unfold allIn at e
    exact absurd (of_decide_eq_true (List.all_eq_true.mp e es h)) n
/-- the number that a slot told is: beyond all, where there is none -/
def numV : V → Nat
  | .int c => c.toNat
  | _ => 60
/-- behind a walker's step none lies between -/
theorem step_gap {es : List En} {n c s : Nat} (hr : Ris (slots es)) (hn : slotV es n = .int (c : Int)) (hs : s ∈ slots es) (hc : c < s) : ∃ e, es[n + 1]? = some e ∧ e.1 ≤ s := by
  obtain ⟨x, hx, e⟩ := List.mem_map.mp hs
  obtain ⟨i, hi, ei⟩ := List.getElem_of_mem hx
  have gi : es[i]? = some x := by rw [List.getElem?_eq_getElem hi, ei]
  have hlt : n < es.length := by
    apply Classical.byContradiction
    intro h
    rw [slotV_end h] at hn
    cases hn
  have gn : es[n]? = some es[n] := List.getElem?_eq_getElem hlt
  rw [slotV_in gn] at hn
  have cn : es[n].1 = c := by
    have := V.int.inj hn
    omega
  have ge : n + 1 ≤ i := by
    apply Classical.byContradiction
    intro q
    have := wslot_le hr (show i ≤ n by omega) gi gn
    omega
  have gm : es[n + 1]? = some (es[n + 1]'(by omega)) := List.getElem?_eq_getElem _
  have := wslot_le hr ge gm gi
  exact ⟨_, gm, by omega⟩
theorem slotV_cases (es : List En) (n : Nat) : slotV es n = .non ∨ ∃ c : Nat, slotV es n = .int (c : Int) ∧ ∃ e, es[n]? = some e ∧ e.1 = c := by
  cases g : es[n]? with
  | none => exact .inl (by unfold slotV; rw [g])
  | some e => exact .inr ⟨e.1, slotV_in g, e, rfl, rfl⟩
theorem WsAt.more {N : Addr → Prop} {CW CB : Addr} {H : Hp} {ws : List Wm} {D : Addr} {o : HO} (t : WsAt N CW CB H ws) (nD : H D = none) : WsAt (fun a => N a ∨ a = D) CW CB (upd H D o) ws := ⟨fun i w g => let ⟨O, h⟩ := t.wk i w g; ⟨O, h.more nD⟩, t.R, t.dj⟩
theorem WsAt.updN {N : Addr → Prop} {CW CB : Addr} {H : Hp} {ws : List Wm} {D : Addr} {ys : List V} {o : HO} (t : WsAt N CW CB H ws) (hD : N D) (hl : H D = some (.lst ys)) : WsAt N CW CB (upd H D o) ws := ⟨fun i w g => let ⟨O, h⟩ := t.wk i w g; ⟨O, h.updN hD hl⟩, t.R, t.dj⟩
structure Rw where
  r : Addr
  z : Str
  s : Nat
  es : List En
  ls : List Nat
structure RsAt (CR CB : Addr) (H : Hp) (rs : List Rw) : Prop where
  at' : ∀ w ∈ rs, RowAt CR CB H w.r w.z w.s w.es w.ls
  is : ∀ w ∈ rs, RowIs w.z w.s w.es w.ls
  few : rs.length ≤ 60
theorem RsAt.ex {CR CB : Addr} {H H' : Hp} {rs : List Rw} (h : RsAt CR CB H rs) (e : Ex H H') : RsAt CR CB H' rs := ⟨fun w hw => (h.at' w hw).ex e, h.is, h.few⟩
def comR (rs : List Rw) : List Nat := if rs = [] then [] else comB (rs.map Rw.es) 60
def spCom (CR CB : Addr) : Sp := fun vs H Q _ => ∃ (rl : Addr) (rs : List Rw), vs = [.ref rl] ∧ H rl = some (.lst (rs.map fun (w : Rw) => V.ref w.r)) ∧ RsAt CR CB H rs ∧ ∀ (l : Addr) (H' : Hp), H l = none → Ex H H' → H' l = some (.lst (nvs (comR rs))) → Q (.ref l) H'

theorem exM_new {H0 H H' : Hp} {ws : List Wm} (e : Ex H0 H) (h0 : ∀ w ∈ ws, H0 w.x = none ∧ H0 w.d = none) (f : ExM ws H H') : Ex H0 H' := fun b o g => f b o (fun w hw => ⟨ne_of_none g (h0 w hw).1, ne_of_none g (h0 w hw).2⟩) (e _ _ g)
theorem Likes.trans {ws us vs : List Wm} (a : Likes ws us) (b : Likes us vs) : Likes ws vs := ⟨b.1.trans a.1, fun i w g => by
  obtain ⟨m, k⟩ := a.2 i w g
  obtain ⟨m', k'⟩ := b.2 i _ k
  exact ⟨m', k'⟩⟩
theorem Likes.all {ws us : List Wm} {P : Addr → Addr → Prop} (a : Likes ws us) (h : ∀ w ∈ ws, P w.x w.d) : ∀ v ∈ us, P v.x v.d := fun v hv => by
  obtain ⟨j, hj, e⟩ := List.getElem_of_mem hv
  have hw : j < ws.length := by rw [← a.1]; exact hj
  obtain ⟨m, g⟩ := a.2 j _ (List.getElem?_eq_getElem hw)
  rw [List.getElem?_eq_getElem hj, e] at g
  cases g
  have := h _ (List.getElem_mem hw)
  exact this
theorem WsAt.kl {N : Addr → Prop} {CW CB : Addr} {H H' : Hp} {us : List Wm} (t : WsAt N CW CB H us) (f : ExM us H H') {b : Addr} {zs : List V} (g : H b = some (.lst zs)) : H' b = some (.lst zs) := f b _ (fun v hv => by
  obtain ⟨j, hj, e⟩ := List.getElem_of_mem hv
  obtain ⟨O, h⟩ := t.wk j v (by rw [List.getElem?_eq_getElem hj, e])
  obtain ⟨_, _, _, _, gx, gd, _⟩ := h.ixd
  exact ⟨ne_of g gx (by intro z; cases z), ne_of g gd (by intro z; cases z)⟩) g
set_option maxHeartbeats 16000000 in
theorem ok_common (T : TX K mg A FD TK) : FnOk P w K mg base CX0 9 (A 34) (FD 34) ["rows"] (spCom (A 49) (A 48)) := by
  have G_Walker := (ok_winit (P := P) (w := w) (base := base) T).mono (show 2 ≤ 7 by decide)
  have G_Walker_slot := (ok_slot (P := P) (w := w) (base := base) T).mono (show 6 ≤ 8 by decide)
  have G_Walker_step := (ok_step (P := P) (w := w) (base := base) T).mono (show 7 ≤ 8 by decide)
  have G_reached_by_all := ok_reached (P := P) (w := w) (base := base) T
  have B1_Walker := T.b_Walker_init
  have R1_Walker : Vals [] [] := .nil
  refine T.f_common.ok (k := 8) sc_common (fun vs H Q E h => ?_) (fun cdv A' outer s H vs Q E hr h => ?_)
  · obtain ⟨rl, rs, rfl, _⟩ := h
    rfl
  · obtain ⟨rl, rs, rfl, grl, hRs, q⟩ := h
    refine ⟨_, (pss_cons (ps_setLc (i := 1) (own := [("row", 5)])  rfl sc_common.nd rfl rfl (sw_true rfl rfl rfl (by decide +kernel)) (piLK (K := K) rfl (pv 0)) (blkOk_by (own := [("row", 5)]) (N := N_common) (sc := defScope (topS 34)) (by decide +kernel)) (fun _ _ _ _ _ => (pg_name (i := 5) sc_common.nd rfl (Or.inl rfl))) (fun _ _ _ _ _ => pts_nil) (fun _ _ _ _ _ => (pe_make T.M_Walker G_Walker hr (by rfl) T.k_Walker B1_Walker R1_Walker pass0 (pa_cons (pv 5) pa_nil))))
      (pss_cons (ps_set (i := 2) sc_common.nd rfl (.inl rfl) (pe_lst pa_nil))
      (pss_cut (ps_set (i := 3) sc_common.nd rfl (.inl rfl) (pe_ifExp (pt_truth (pv 1) (by intro _; rfl)) (pe_meth0 (pe_ix (ixLK (K := K) rfl) (pv 1) pe_int (fun _ _ => rfl)) T.cl_Walker T.M_Walker_slot G_Walker_slot hr T.b_Walker_slot .nil pass0) pe_non))
      (pss_cons (ps_while PassesOwn.never (pt_cmpR op_notN (pv 3) pe_non (nomark _))
      (pss_cons (ps_set (i := 4) sc_common.nd rfl (.inl rfl) (pe_call G_reached_by_all hr (by rfl) T.g_reached_by_all T.f_reached_by_all.kp T.b_reached_by_all .nil pass0 (pa_cons (pv 1) (pa_cons (pv 3) pa_nil))))
      (pss_cons (ps_if (pt_cmpR op_eq (pv 4) (pv 3) (nomark _))
      (pss_cons (ps_expr (pe_bm PySem.F.plainAttrs_list PySem.F.slot_list_append PySem.F.type_list_append mt_append (pv 2) (pa_cons (pv 3) pa_nil)))
      (pss_one (ps_set (i := 4) sc_common.nd rfl (.inl rfl) (pe_meth0 (pe_ix (ixLK (K := K) rfl) (pv 1) pe_int (fun _ _ => rfl)) T.cl_Walker T.M_Walker_step G_Walker_step hr T.b_Walker_step .nil pass0))))
      pss_nil)
      (pss_one (ps_set (i := 3) sc_common.nd rfl (.inl rfl) (pv 4))))))
      (pss_one (ps_ret (pv 2))))))), ?_⟩
    have few := hRs.few
    refine ⟨.ref rl, rfl, rl, rfl, ⟨_, SqL.of grl⟩, fun wl nwl => ?_⟩
    refine lc_list (K := K) (xs := rs.map fun (w : Rw) => V.ref w.r) (fun i H' => Ex H H' ∧ ∃ ws : List Wm, H' wl = some (.lst (ws.map fun (w : Wm) => V.ref w.x)) ∧ ws.length = i ∧ WsAt (fun b => b = wl) (A 32) (A 48) H' ws ∧ (∀ w ∈ ws, H w.x = none ∧ H w.d = none ∧ H' w.x ≠ none ∧ H' w.d ≠ none) ∧ ∀ (j : Nat) (v : Wm), ws[j]? = some v → v.n = 0 ∧ ∃ r, rs[j]? = some r ∧ r.es = v.es)
      ⟨Ex.new nwl, [], upd_same, rfl, ⟨fun i w g => (nomatch g), fun i w g => (nomatch g), fun i j w v g => (nomatch g)⟩, fun w hw => (nomatch hw), fun j v g => (nomatch g)⟩ (fun i H' _ p => ex_l p.1 (SqL.of grl)) (fun i v H1 hv p => ?_) (fun H1 p => ?_)
    · obtain ⟨p1, ws, p2, p3, p4, p5, p6⟩ := p
      rw [List.getElem?_map] at hv
      have hi : i < rs.length := by
        apply Classical.byContradiction
        intro h
        rw [List.getElem?_eq_none (by omega)] at hv
        cases hv
      have gr : rs[i]? = some rs[i] := List.getElem?_eq_getElem hi
      rw [gr] at hv
      cases hv
      have mr := List.mem_of_getElem? gr
      have hRow := (hRs.at' _ mr).ex p1
      have hI := hRs.is _ mr
      have hR : WkR rs[i].s rs[i].es rs[i].ls := ⟨hI.lo, hI.hi, hI.ens, hI.fit⟩
      refine ⟨rfl, .ref (rs[i]).r, rfl, fun x dx nx nd _ => ?_⟩
      have eB := ex2 (o := .own x) (u := .ins (A 32) dx []) nx nd
      have wn : H1 wl ≠ none := fun e => by
        rw [p2] at e
        cases e
      refine ⟨fun b => b = wl, x, dx, (rs[i]).r, (rs[i]).z, (rs[i]).s, (rs[i]).es, (rs[i]).ls, rfl, upd_same, hRow.ex eB, hR, fun b hb => by rw [hb]; exact nn_ex eB wn, fun d H2 nd2 i2 h2 => ⟨rfl, ?_⟩⟩
      have e2 : Ex H1 H2 := ExI.new nx nd i2
      have fd : H1 d = none := fresh_back eB nd2
      have g2 := e2 _ _ p2
      obtain ⟨dx2, hl2, t2, kv2, gx2, gd2, _⟩ := h2.ixd
      have sx : (⟨x, d, (rs[i]).s, (rs[i]).es, (rs[i]).ls, 0⟩ : Wm).x = x := rfl
      have base : WsAt (fun b => b = wl) (A 32) (A 48) H2 (ws ++ [⟨x, d, (rs[i]).s, (rs[i]).es, (rs[i]).ls, 0⟩]) := by
        refine ⟨fun j w g => ?_, fun j w g => ?_, fun j k w v gj gk ne => ?_⟩
        · rcases snoc_at g with g | ⟨rfl, rfl⟩
          · obtain ⟨O, h⟩ := p4.wk j w g
            exact ⟨O, h.ex e2⟩
          · exact ⟨_, h2⟩
        · rcases snoc_at g with g | ⟨rfl, rfl⟩
          · exact p4.R j w g
          · exact hR
        · have nw : ∀ {j : Nat} {w : Wm}, ws[j]? = some w → w.x ≠ x ∧ w.d ≠ d := fun {j w} g => by
            obtain ⟨_, _, a1, a2⟩ := p5 w (List.mem_of_getElem? g)
            exact ⟨fun e => a1 (e ▸ nx), fun e => a2 (e ▸ fd)⟩
          rcases snoc_at gj with gj | ⟨rfl, rfl⟩
          · rcases snoc_at gk with gk | ⟨rfl, rfl⟩
            · exact p4.dj j k w v gj gk ne
            · exact nw gj
          · rcases snoc_at gk with gk | ⟨rfl, rfl⟩
            · exact ⟨(nw gk).1.symm, (nw gk).2.symm⟩
            · exact absurd rfl ne
      refine ⟨_, g2, ?_, Ex.mut (p1.trans e2) nwl, ws ++ [⟨x, d, (rs[i]).s, (rs[i]).es, (rs[i]).ls, 0⟩], ?_, ?_, base.updN rfl g2, fun w hw => ?_, fun j v g => ?_⟩
      · rw [List.length_map]
        exact sz_lt (by omega)
      · rw [upd_same, List.map_append]
        rfl
      · rw [List.length_append, p3]
        rfl
      · have up : ∀ {b : Addr}, H2 b ≠ none → (upd H2 wl (.lst (ws.map (fun (w : Wm) => V.ref w.x) ++ [V.ref x]))) b ≠ none := fun {b} hb => nn_of (d := wl) upd_same (fun c o nc g => by rw [upd_ne nc]; exact g) hb
        rcases List.mem_append.mp hw with hw | hw
        · obtain ⟨a1, a2, a3, a4⟩ := p5 w hw
          exact ⟨a1, a2, up (nn_ex e2 a3), up (nn_ex e2 a4)⟩
        · rw [List.mem_singleton.mp hw]
          exact ⟨fresh_back p1 nx, fresh_back p1 fd, up (fun e => by rw [gx2] at e; cases e), up (fun e => by rw [gd2] at e; cases e)⟩
      · rcases snoc_at g with g | ⟨rfl, rfl⟩
        · exact p6 j v g
        · rw [p3]
          exact ⟨rfl, _, gr, rfl⟩
    obtain ⟨p1, ws, p2, p3, p4, p5, p6⟩ := p
    rw [List.length_map] at p3
    refine ⟨Nat.zero_le _, fun D nD => ?_⟩
    have eD := Ex.new (o := .lst []) nD
    have gD := upd_same (H := H1) (a := D) (o := .lst [])
    have gw2 := eD _ _ p2
    have w2 := p4.more (o := .lst []) nD
    have nDw : wl ≠ D := ne_of_none p2 nD
    have D0 : H D = none := fresh_back p1 nD
    generalize (upd H1 D (.lst [])) = H2 at eD gD gw2 w2 ⊢
    generalize hN : (fun a : Addr => a = wl ∨ a = D) = N at w2
    have ND : N D := by rw [← hN]; exact .inr rfl
    have x2 : Ex H H2 := p1.trans eD
    have w0 : ∀ w ∈ ws, H w.x = none ∧ H w.d = none := fun w hw => ⟨(p5 w hw).1, (p5 w hw).2.1⟩
    -- each walker's row
    have rowof : ∀ (us : List Wm), Likes ws us → ∀ (j : Nat) (v : Wm), us[j]? = some v → v.es ∈ rs.map Rw.es ∧ Ris (slots v.es) := fun us lk j v g => by
      have hj : j < ws.length := by
        rw [← lk.1]
        exact (List.getElem?_eq_some_iff.mp g).1
      obtain ⟨m, k⟩ := lk.2 j _ (List.getElem?_eq_getElem hj)
      rw [g] at k
      cases k
      obtain ⟨_, r, gr, e⟩ := p6 j _ (List.getElem?_eq_getElem hj)
      have mr := List.mem_of_getElem? gr
      refine ⟨List.mem_map.mpr ⟨r, mr, e⟩, ?_⟩
      show Ris (slots ws[j].es)
      rw [← e]
      exact (hRs.is r mr).ens.ris
    have lt60 : ∀ {es : List En} {n c : Nat}, es ∈ rs.map Rw.es → slotV es n = .int (c : Int) → c < 60 := fun {es n c} he hc => by
      obtain ⟨r, mr, rfl⟩ := List.mem_map.mp he
      have hf := (hRs.is r mr).fit
      rcases slotV_cases r.es n with h | ⟨c', h, e, ge, ec⟩
      · rw [h] at hc
        cases hc
      · rw [h] at hc
        have := V.int.inj hc
        have := (hf.fit e (List.mem_of_getElem? ge)).1
        have := hf.few
        omega
    generalize hess : rs.map Rw.es = ess at rowof lt60
    have allw : ∀ (us : List Wm), Likes ws us → ∀ c, (∀ w ∈ us, c ∈ slots w.es) → allIn ess c = true := fun us lk c h => by
      rw [← hess]
      refine List.all_eq_true.mpr fun es he => ?_
      obtain ⟨r, mr, rfl⟩ := List.mem_map.mp he
      obtain ⟨j, hj, ej⟩ := List.getElem_of_mem mr
      have hjw : j < ws.length := by omega
      obtain ⟨_, r', gr', e'⟩ := p6 j _ (List.getElem?_eq_getElem hjw)
      rw [List.getElem?_eq_getElem hj, ej] at gr'
      cases gr'
      obtain ⟨m, k⟩ := lk.2 j _ (List.getElem?_eq_getElem hjw)
      have := h _ (List.mem_of_getElem? k)
      refine decide_eq_true ?_
      rw [e']
      exact this
    refine ⟨fun σ' H' => ∃ (us : List Wm) (cur : V) (o4 o5 : Option V) (T : List Nat), σ' = [some (.ref rl), some (.ref wl), some (.ref D), some cur, o4, o5] ∧ Likes ws us ∧ WsAt N (A 32) (A 48) H' us ∧ H' wl = some (.lst (ws.map fun (w : Wm) => V.ref w.x)) ∧ H' D = some (.lst (nvs T)) ∧ Ex H H' ∧
      ((cur = .non ∧ T = comR rs) ∨ (rs ≠ [] ∧ ∃ c : Nat, cur = .int (c : Int) ∧ c < 60 ∧ T = comB ess c ∧ ∀ w ∈ us, Lows w.es w.n (c : Int))), ?_, fun σ' H' ph => ?_⟩
    · refine ⟨.ref wl, rfl, _, .inl ⟨_, SqL.of gw2, rfl⟩, ?_⟩
      match hws : ws with
      | [] =>
        have er : rs = [] := List.length_eq_zero_iff.mp p3.symm
        exact ⟨[], .non, _, _, [], rfl, Likes.refl, w2, gw2, gD, x2, .inl ⟨rfl, by unfold comR; rw [if_pos er]⟩⟩
      | u :: us' =>
        have g0 : (u :: us')[0]? = some u := rfl
        have nr : rs ≠ [] := fun e => by
          rw [e] at p3
          cases p3
        obtain ⟨O, hw⟩ := w2.wk 0 u g0
        obtain ⟨dx, h0, t0, kv, gx, gd, _⟩ := hw.ixd
        have un : u.n = 0 := (p6 0 u g0).1
        have ru := rowof _ Likes.refl 0 u g0
        refine ⟨.ref wl, rfl, wl, _, 0, _, rfl, rfl, SqL.of gw2, atI_nat (j := 0) rfl, u.x, dx, _, rfl, gx, rfl, N, u.x, u.d, u.s, u.es, u.ls, O, u.n, rfl, hw, w2.R 0 u g0, fun H3 i3 h3 => ?_⟩
        have d3 := w2.deed g0 i3.toW h3
        rw [show (u :: us').set 0 (u.go u.n) = u :: us' from rfl] at d3
        have kl : ∀ {b : Addr} {zs : List V}, H2 b = some (.lst zs) → H3 b = some (.lst zs) := fun {b zs} g => i3 _ _ (ne_of g gd (by intro z; cases z)) g
        have x3 : Ex H H3 := exM_new x2 w0 (i3.toW.toM g0)
        have lows0 : ∀ (c : Nat), ∀ w ∈ u :: us', Lows w.es w.n (c : Int) := fun c w hw => by
          obtain ⟨j, hj, ej⟩ := List.getElem_of_mem hw
          rw [(p6 j w (by rw [List.getElem?_eq_getElem hj, ej])).1]
          exact Lows.zero
        refine ⟨u :: us', slotV u.es u.n, _, _, [], rfl, Likes.refl, d3, kl gw2, kl gD, x3, ?_⟩
        rw [un]
        rcases slotV_cases u.es 0 with h | ⟨c, h, e, ge, ec⟩
        · refine .inl ⟨h, ?_⟩
          unfold comR
          rw [if_neg nr, hess]
          refine (comB_to (b := 0) (Nat.zero_le _) fun s _ _ => allIn_not ru.1 fun hs => ?_).symm
          obtain ⟨y, hy, _⟩ := List.mem_map.mp hs
          have : u.es[0]? = some (u.es[0]'(List.length_pos_of_mem hy)) := List.getElem?_eq_getElem _
          rw [slotV_in this] at h
          cases h
        · refine .inr ⟨nr, c, h, lt60 ru.1 h, ?_, lows0 c⟩
          refine (comB_to (b := 0) (Nat.zero_le _) fun s _ hs => allIn_not ru.1 fun hm => ?_).symm
          obtain ⟨y, hy, ey⟩ := List.mem_map.mp hm
          obtain ⟨j, hj, ej⟩ := List.getElem_of_mem hy
          have := wslot_le ru.2 (Nat.zero_le j) ge (show u.es[j]? = some y by rw [List.getElem?_eq_getElem hj, ej])
          omega
    obtain ⟨us, cur, o4, o5, T', rfl, lk, wa, gw, gT, x, inv⟩ := ph
    refine ⟨fun m σ H' => ∃ (us : List Wm) (cur : V) (o4 o5 : Option V) (T : List Nat), σ = [some (.ref rl), some (.ref wl), some (.ref D), some cur, o4, o5] ∧ Likes ws us ∧ WsAt N (A 32) (A 48) H' us ∧ H' wl = some (.lst (ws.map fun (w : Wm) => V.ref w.x)) ∧ H' D = some (.lst (nvs T)) ∧ Ex H H' ∧
      ((cur = .non ∧ T = comR rs ∧ m = 0) ∨ (rs ≠ [] ∧ ∃ c : Nat, cur = .int (c : Int) ∧ c < 60 ∧ T = comB ess c ∧ (∀ w ∈ us, Lows w.es w.n (c : Int)) ∧ m = 61 - c)), ?_, ?_⟩
    · rcases inv with ⟨a1, a2⟩ | ⟨a1, c, a2, a3, a4, a5⟩
      · exact ⟨0, us, cur, o4, o5, T', rfl, lk, wa, gw, gT, x, .inl ⟨a1, a2, rfl⟩⟩
      · exact ⟨61 - c, us, cur, o4, o5, T', rfl, lk, wa, gw, gT, x, .inr ⟨a1, c, a2, a3, a4, a5, rfl⟩⟩
    clear inv x gT gw wa lk us cur o4 o5 T'
    intro m σ H3 ph
    obtain ⟨us, cur, o4, o5, T', rfl, lk, wa, gw, gT, x, inv⟩ := ph
    rcases inv with ⟨rfl, rfl, rfl⟩ | ⟨nr, c, rfl, c60, rfl, lows, rfl⟩
    · exact ⟨.non, rfl, rfl, _, rfl, ite2 (fun h => absurd (show false = true from h) Bool.false_ne_true) (fun _ => ⟨.ref D, rfl, q D H3 D0 x gT⟩)⟩
    refine ⟨.int (c : Int), rfl, rfl, _, rfl, ite2 (fun _ => ?_) (fun h => absurd (by rfl) h)⟩
    refine ⟨fun σ' H' => ∃ (us : List Wm) (cur : V) (o4 o5 : Option V) (T : List Nat), σ' = [some (.ref rl), some (.ref wl), some (.ref D), some cur, o4, o5] ∧ Likes ws us ∧ WsAt N (A 32) (A 48) H' us ∧ H' wl = some (.lst (ws.map fun (w : Wm) => V.ref w.x)) ∧ H' D = some (.lst (nvs T)) ∧ Ex H H' ∧
      ((cur = .non ∧ T = comR rs) ∨ (∃ r : Nat, c < r ∧ cur = .int (r : Int) ∧ r < 60 ∧ T = comB ess r ∧ ∀ w ∈ us, Lows w.es w.n (r : Int))), fun σ' H' ph => ?_, ?_⟩
    · obtain ⟨us, cur, o4, o5, T, k1, k2, k3, k4, k5, k6, k7⟩ := ph
      rcases k7 with ⟨a1, a2⟩ | ⟨r, a1, a2, a3, a4, a5⟩
      · exact ⟨0, by omega, us, cur, o4, o5, T, k1, k2, k3, k4, k5, k6, .inl ⟨a1, a2, rfl⟩⟩
      · exact ⟨61 - r, by omega, us, cur, o4, o5, T, k1, k2, k3, k4, k5, k6, .inr ⟨nr, r, a2, a3, a4, a5, rfl⟩⟩
    have cr : comR rs = comB ess 60 := by
      unfold comR
      rw [if_neg nr, hess]
    refine ⟨.ref wl, rfl, .int (c : Int), rfl, N, wl, us, c, rfl, (by rw [lk.xs]; exact gw), wa, lows, fun us2 v H4 lk2 wa2 f2 lows2 rch => ?_⟩
    have lk3 := lk.trans lk2
    have gw4 := wa.kl f2 gw
    have gT4 := wa.kl f2 gT
    have x4 : Ex H H4 := exM_new x (lk.all (P := fun a b => H a = none ∧ H b = none) w0) f2
    rcases rch with ⟨rfl, all⟩ | ⟨nv, w, hw, rfl, k, sk, lw⟩
    · refine ⟨.int (c : Int), rfl, .int (c : Int), rfl, rfl, _, rfl, ite2 (fun _ => ?_) (fun h => absurd (decide_eq_true rfl) h)⟩
      have nw : 0 < us2.length := by
        rw [lk3.1, p3]
        exact List.length_pos_iff.mpr nr
      have g0 : us2[0]? = some us2[0] := List.getElem?_eq_getElem nw
      generalize us2[0] = u at g0
      have mu := List.mem_of_getElem? g0
      have ru := rowof us2 lk3 0 u g0
      have hc := all u mu
      have ha : allIn ess c = true := allw us2 lk3 c fun w hw => by
        rcases slotV_cases w.es w.n with h | ⟨c', h, e, ge, ec⟩
        · rw [all w hw] at h
          cases h
        · rw [all w hw] at h
          have := V.int.inj h
          exact List.mem_map.mpr ⟨e, List.mem_of_getElem? ge, by omega⟩
      have hlt : u.n < u.es.length := by
        apply Classical.byContradiction
        intro h
        rw [slotV_end h] at hc
        cases hc
      refine ⟨.ref D, rfl, .inl ⟨rfl, _, SqL.of gT4⟩, .int (c : Int), rfl, D, _, _, rfl, rfl, gT4, ?_, ?_⟩
      · rw [nvs_len]
        have := List.length_filter_le (allIn ess) (List.range c)
        rw [List.length_range] at this
        unfold comB
        exact sz_lt (by omega)
      have wa5 := wa2.updN (o := .lst (nvs (comB ess c) ++ [V.int (c : Int)])) ND gT4
      have gT5 := upd_same (H := H4) (a := D) (o := .lst (nvs (comB ess c) ++ [V.int (c : Int)]))
      have gw5 : (upd H4 D (.lst (nvs (comB ess c) ++ [V.int (c : Int)]))) wl = some (.lst (ws.map fun (w : Wm) => V.ref w.x)) := by
        rw [upd_ne nDw]
        exact gw4
      have x5 : Ex H (upd H4 D (.lst (nvs (comB ess c) ++ [V.int (c : Int)]))) := Ex.mut x4 D0
      generalize (upd H4 D (.lst (nvs (comB ess c) ++ [V.int (c : Int)]))) = H5 at wa5 gT5 gw5 x5 ⊢
      obtain ⟨O, hw⟩ := wa5.wk 0 u g0
      obtain ⟨dx, h0, t0, kv, gx, gd, _⟩ := hw.ixd
      have gi : (ws.map fun (w : Wm) => V.ref w.x)[0]? = some (.ref u.x) := by
        rw [← lk3.xs, List.getElem?_map, g0]
        rfl
      refine ⟨.ref wl, rfl, wl, _, 0, _, rfl, rfl, SqL.of gw5, atI_nat (j := 0) gi, u.x, dx, _, rfl, gx, rfl, N, u.x, u.d, u.s, u.es, u.ls, O, u.n, rfl, hw, wa5.R 0 u g0, fun H6 w6 h6 => ?_⟩
      have en : nxt u.es u.n = u.n + 1 := if_pos hlt
      rw [en] at h6 ⊢
      have wa6 := wa5.deed g0 w6 h6
      have f6 : ExM us2 H5 H6 := w6.toM g0
      have lk6 : Likes ws (us2.set 0 (u.go (u.n + 1))) := by
        have hw0 : 0 < ws.length := by rw [← lk3.1]; exact nw
        obtain ⟨k, gk⟩ := lk3.2 0 _ (List.getElem?_eq_getElem hw0)
        have : u = ws[0].go k := Option.some.inj (g0.symm.trans gk)
        subst this
        show Likes ws (us2.set 0 (ws[0].go (k + 1)))
        exact lk3.set (List.getElem?_eq_getElem hw0) gk
      refine ⟨slotV u.es (u.n + 1), rfl, us2.set 0 (u.go (u.n + 1)), slotV u.es (u.n + 1), _, _, comB ess c ++ [c], rfl, lk6, wa6, wa5.kl f6 gw5, ?_, exM_new x5 (lk3.all (P := fun a b => H a = none ∧ H b = none) w0) f6, ?_⟩
      · rw [nvs_snoc]
        exact wa5.kl f6 gT5
      have gn : u.es[u.n]? = some u.es[u.n] := List.getElem?_eq_getElem hlt
      have cn : u.es[u.n].1 = c := by
        rw [slotV_in gn] at hc
        have := V.int.inj hc
        omega
      rcases slotV_cases u.es (u.n + 1) with h | ⟨r, h, e, ge, er⟩
      · refine .inl ⟨h, ?_⟩
        rw [cr]
        refine (comB_put c60 ha fun s s1 s2 => allIn_not ru.1 fun hm => ?_).symm
        obtain ⟨e, ge, _⟩ := step_gap ru.2 hc hm s1
        rw [slotV_in ge] at h
        cases h
      · have rc : c < r := by
          have := wslot_lt ru.2 (Nat.lt_succ_self u.n) gn ge
          omega
        refine .inr ⟨r, rc, h, lt60 ru.1 h, ?_, fun w' hw' => ?_⟩
        · refine (comB_put rc ha fun s s1 s2 => allIn_not ru.1 fun hm => ?_).symm
          obtain ⟨e', ge', le⟩ := step_gap ru.2 hc hm s1
          rw [ge] at ge'
          cases ge'
          omega
        · obtain ⟨j, hj, ej⟩ := List.getElem_of_mem hw'
          rcases set_at (show (us2.set 0 (u.go (u.n + 1)))[j]? = some w' by rw [List.getElem?_eq_getElem hj, ej]) with ⟨rfl, rfl⟩ | ⟨_, g⟩
          · intro i e' hi g'
            have := wslot_le ru.2 (show i ≤ u.n from Nat.lt_succ_iff.mp hi) g' gn
            omega
          · exact (lows2 w' (List.mem_of_getElem? g)).mono (by omega)
    · have hm := List.getElem_of_mem hw
      obtain ⟨j, hj, ej⟩ := hm
      have ru := rowof us2 lk3 j w (by rw [List.getElem?_eq_getElem hj, ej])
      have sc : scal (slotV w.es w.n) (.int (c : Int)) = true := by
        unfold slotV
        split <;> rfl
      refine ⟨slotV w.es w.n, rfl, .int (c : Int), rfl, sc, _, rfl, ite2 (fun h => absurd (of_decide_eq_true h) nv) (fun _ => ?_)⟩
      refine ⟨slotV w.es w.n, rfl, us2, _, _, _, _, rfl, lk3, wa2, gw4, gT4, x4, ?_⟩
      rcases slotV_cases w.es w.n with h | ⟨r, h, e, ge, er⟩
      · refine .inl ⟨h, ?_⟩
        rw [cr]
        refine (comB_to (Nat.le_of_lt c60) fun s s1 s2 => allIn_not ru.1 fun hm => ?_).symm
        obtain ⟨e, ge, _⟩ := sought_gap ru.2 sk lw hm s1
        rw [slotV_in ge] at h
        cases h
      · have rc : c < r := by
          have := sk.stop e ge
          have : r ≠ c := fun z => nv (by rw [h, z])
          omega
        refine .inr ⟨r, rc, h, lt60 ru.1 h, ?_, fun w' hw' => (lows2 w' hw').mono (by omega)⟩
        refine (comB_to (Nat.le_of_lt rc) fun s s1 s2 => allIn_not ru.1 fun hm => ?_).symm
        obtain ⟨e', ge', le⟩ := sought_gap ru.2 sk lw hm s1
        rw [ge] at ge'
        cases ge'
        omega

/-! ### {y for x in l for y in f(x)}: l a list, f(x) a new list of numbers -/
theorem nodup_below : ∀ (N : Nat) (ds : List Int), ds.Nodup → (∀ k ∈ ds, 0 ≤ k ∧ k < (N : Int)) → ds.length ≤ N
  | 0, [], _, _ => Nat.le_refl _
  | 0, d :: ds, _, h => by
    have := h d List.mem_cons_self
    omega
  | N + 1, ds, nd, h => by
    by_cases m : (N : Int) ∈ ds
    · have l := List.length_erase_of_mem m
      have := List.length_pos_of_mem m
      have ih := nodup_below N (ds.erase (N : Int)) (nd.erase _) fun k hk => by
        obtain ⟨ne, hm⟩ := nd.mem_erase_iff.mp hk
        have := h k hm
        omega
      omega
    · have ih := nodup_below N ds nd fun k hk => by
        have := h k hk
        have : k ≠ (N : Int) := fun e => m (e ▸ hk)
        omega
      omega
/-- the set at D has just the numbers ms -/
def SetIs (w : World) (H : Hp) (D : Addr) (ms : List Nat) : Prop := ∃ (S : Int → Bool) (n : Nat) (ds : List Int), H D = some (SetO w D S n) ∧ ds.Nodup ∧ ds.length = n ∧ (∀ k, S k = true ↔ k ∈ ds) ∧ ∀ k, k ∈ ds ↔ ∃ m ∈ ms, k = ((m : Nat) : Int)
theorem SetIs.few {w : World} {H : Hp} {D : Addr} {S : Int → Bool} {n : Nat} {ds : List Int} {ms : List Nat} (nd : ds.Nodup) (l : ds.length = n) (h : ∀ k, k ∈ ds ↔ ∃ m ∈ ms, k = ((m : Nat) : Int)) (hb : ∀ m ∈ ms, m < 63) : n ≤ 63 := by
  have := nodup_below 63 ds nd fun k hk => by
    obtain ⟨m, hm, rfl⟩ := (h k).mp hk
    have := hb m hm
    omega
  omega
theorem SetIs.add {w : World} {H : Hp} {D : Addr} {S : Int → Bool} {n : Nat} {ds : List Int} {ms : List Nat} {m : Nat} (nd : ds.Nodup) (l : ds.length = n) (hS : ∀ k, S k = true ↔ k ∈ ds) (h : ∀ k, k ∈ ds ↔ ∃ m ∈ ms, k = ((m : Nat) : Int)) :
    SetIs w (upd H D (SetO w D (fun j => S j || decide (j = (m : Int))) (if S (m : Int) = true then n else n + 1))) D (ms ++ [m]) := by
  by_cases c : S (m : Int) = true
  · refine ⟨_, _, ds, upd_same, nd, by rw [if_pos c]; exact l, fun k => ?_, fun k => ?_⟩
    · rw [Bool.or_eq_true, hS k, decide_eq_true_eq]
      exact ⟨fun z => z.elim id fun e => e ▸ (hS _).mp c, .inl⟩
    · rw [h k]
      constructor
      · rintro ⟨a, ha, e⟩
        exact ⟨a, List.mem_append_left _ ha, e⟩
      · rintro ⟨a, ha, e⟩
        rcases List.mem_append.mp ha with ha | ha
        · exact ⟨a, ha, e⟩
        · rw [List.mem_singleton.mp ha] at e
          rw [e]
          exact (h _).mp ((hS _).mp c)
  · have nm : (m : Int) ∉ ds := fun z => c ((hS _).mpr z)
    refine ⟨_, _, (m : Int) :: ds, upd_same, List.nodup_cons.mpr ⟨nm, nd⟩, by rw [if_neg c, List.length_cons, l], fun k => ?_, fun k => ?_⟩
    · rw [Bool.or_eq_true, hS k, decide_eq_true_eq, List.mem_cons]
      exact Or.comm
    · rw [List.mem_cons, h k]
      constructor
      · rintro (e | ⟨a, ha, e⟩)
        · exact ⟨m, List.mem_append_right _ (List.mem_singleton.mpr rfl), e⟩
        · exact ⟨a, List.mem_append_left _ ha, e⟩
      · rintro ⟨a, ha, e⟩
        rcases List.mem_append.mp ha with ha | ha
        · exact .inr ⟨a, ha, e⟩
        · rw [List.mem_singleton.mp ha] at e
          exact .inl e
theorem SetIs.new {w : World} {H : Hp} {D : Addr} : SetIs w (upd H D (SetO w D (fun _ => false) 0)) D [] := ⟨_, _, [], upd_same, List.nodup_nil, rfl, fun k => ⟨fun e => (nomatch e), fun e => (nomatch e)⟩, fun k => ⟨fun e => (nomatch e), fun ⟨_, e, _⟩ => (nomatch e)⟩⟩
theorem nvs_g2 {ms : List Nat} {i v : Nat} (g : ms[i]? = some v) : (nvs ms)[i]? = some (.int (v : Int)) := by
  unfold nvs
  rw [List.getElem?_map, g]
  rfl
theorem flat_take {α : Type} {yss : List (List α)} {i : Nat} {ys : List α} (h : yss[i]? = some ys) : (yss.take (i + 1)).flatten = (yss.take i).flatten ++ ys := by
  rw [List.take_add_one, h, List.flatten_append]
  show _ ++ [ys].flatten = _
  rw [List.flatten_cons, List.flatten_nil, List.append_nil]
set_option maxHeartbeats 4000000 in
theorem sc2_ll {w : World} {K K' : PySem.W.Frag} {σ : L2.St} {H : Hp} {Q : VK} {te0 te1 : TE} {j j1 : Nat} {vs vs1 : List Nat} {xs : List V} {yss : List (List Nat)} {a : Addr}
    (h0 : ∀ R : VK, R (.ref a) H → te0 σ H R) (hx : H a = some (.lst xs)) (hlen : xs.length = yss.length) (hb : ∀ m ∈ yss.flatten, m < 63)
    (h1 : ∀ (i : Nat) (x : V) (ys : List Nat) (H' : Hp), xs[i]? = some x → yss[i]? = some ys → Ex H H' → ∀ R : VK, (∀ p H2, H' p = none → Ex H' H2 → H2 p = some (.lst (nvs ys)) → R (.ref p) H2) → te1 ((wipe σ vs).set j (some x)) H' R)
    (hw : ∀ x : V, wipe ((wipe σ vs).set j (some x)) vs = wipe σ vs)
    (hw1 : ∀ x y : V, wipe ((wipe ((wipe σ vs).set j (some x)) vs1).set j1 (some y)) vs1 = wipe ((wipe σ vs).set j (some x)) vs1)
    (hv : ∀ x y : V, ((wipe ((wipe σ vs).set j (some x)) vs1).set j1 (some y))[j1]? = some (some y))
    (q : ∀ D S n H', H D = none → Ex H H' → H' D = some (SetO w D S n) → n < 64 → (∀ k : Int, S k = true ↔ ∃ m ∈ yss.flatten, k = ((m : Nat) : Int)) → Q (.ref D) H') : ScT.tSc2 w (iList K te0) (gName j) tYes (iList K' te1) (gName j1) tYes (tVar j1) vs vs1 σ H Q := by
  refine h0 _ ⟨a, rfl, ⟨_, SqL.of hx⟩, fun D hD => ?_⟩
  refine ⟨fun i m H' => m = xs.length - i ∧ i ≤ xs.length ∧ Ex H H' ∧ SetIs w H' D (yss.take i).flatten, ⟨xs.length, by simp, Nat.zero_le _, Ex.new hD, SetIs.new⟩, ?_⟩
  rintro i m H1 ⟨rfl, hi, e1, d1⟩
  have hx1 : SqL K H1 a xs := ex_l e1 (SqL.of hx)
  by_cases hlt : i < xs.length
  · obtain ⟨ys, gy⟩ : ∃ ys, yss[i]? = some ys := ⟨_, List.getElem?_eq_getElem (by omega)⟩
    refine .inr ⟨⟨xs, xs[i], hx1, by simp [hlt]⟩, fun H' => Ex H H' ∧ SetIs w H' D (yss.take (i + 1)).flatten, fun H' n => ⟨xs.length - (i + 1), by omega, rfl, hlt, n⟩, fun x H' y => ?_⟩
    obtain ⟨e, y⟩ := y
    subst e
    have gx := y xs hx1
    refine ⟨hw x, ?_⟩
    obtain ⟨S0, n0, ds0, d0, r0⟩ := id d1
    refine h1 i x ys _ gx gy e1 _ fun p H2 np e2 hp => ⟨p, rfl, ⟨_, SqL.of hp⟩, ?_⟩
    have nD : p ≠ D := (ne_of_none d0 np).symm
    refine ⟨fun jj k H3 => k = ys.length - jj ∧ jj ≤ ys.length ∧ Ex H H3 ∧ H3 p = some (.lst (nvs ys)) ∧ SetIs w H3 D ((yss.take i).flatten ++ ys.take jj), ⟨ys.length, by simp, Nat.zero_le _, e1.trans e2, hp, ⟨S0, n0, ds0, e2 _ _ d0, by rw [List.take_zero, List.append_nil]; exact r0⟩⟩, ?_⟩
    rintro jj k H3 ⟨rfl, hj, e3, p3, d3⟩
    have sp3 : SqL K' H3 p (nvs ys) := SqL.of p3
    by_cases hjl : jj < ys.length
    · have gj : ys[jj]? = some ys[jj] := List.getElem?_eq_getElem hjl
      refine .inr ⟨⟨nvs ys, .int ((ys[jj] : Nat) : Int), sp3, nvs_g2 gj⟩, fun H4 => Ex H H4 ∧ H4 p = some (.lst (nvs ys)) ∧ SetIs w H4 D ((yss.take i).flatten ++ ys.take (jj + 1)), fun H4 n => ⟨ys.length - (jj + 1), by omega, rfl, hjl, n⟩, fun y' H4 yy => ?_⟩
      obtain ⟨e, yy⟩ := yy
      subst e
      have gj2 := yy (nvs ys) sp3
      rw [nvs_g2 gj] at gj2
      cases gj2
      obtain ⟨S, n, ds, k1, k2, k3, k4, k5⟩ := d3
      have few : n ≤ 63 := SetIs.few (w := w) (H := H) (D := D) (S := S) k2 k3 k5 fun m hm => hb m (by
        rcases List.mem_append.mp hm with hm | hm
        · obtain ⟨l, hl, hm⟩ := List.mem_flatten.mp hm
          exact List.mem_flatten.mpr ⟨l, List.mem_of_mem_take hl, hm⟩
        · exact List.mem_flatten.mpr ⟨ys, List.mem_of_getElem? gy, List.mem_of_mem_take hm⟩)
      refine ⟨hw1 x _, .int ((ys[jj] : Nat) : Int), hv x _, _, S, n, rfl, k1, ?_, ?_, ?_, ?_⟩
      · show n + 1 < 4096
        omega
      · exact Ex.mut e3 hD
      · rw [upd_ne nD]
        exact p3
      · rw [List.take_add_one, gj, ← List.append_assoc]
        exact SetIs.add k2 k3 k4 k5
    · have ej : jj = ys.length := by omega
      subst ej
      refine .inl ⟨⟨nvs ys, sp3, by rw [nvs_len]; exact Nat.le_refl _⟩, e3, ?_⟩
      rw [flat_take gy]
      rw [List.take_length] at d3
      exact d3
  · have ei : i = xs.length := by omega
    subst ei
    refine .inl ⟨⟨xs, hx1, Nat.le_refl _⟩, ?_⟩
    rw [hlen, List.take_length] at d1
    obtain ⟨S, n, ds, k1, k2, k3, k4, k5⟩ := d1
    have few : n ≤ 63 := SetIs.few (w := w) (H := H) (D := D) (S := S) k2 k3 k5 hb
    exact q D S n _ hD e1 k1 (by omega) fun k => (k4 k).trans (k5 k)

/-! ### either -/
def anyIn (ess : List (List En)) (s : Nat) : Bool := ess.any fun es => decide (s ∈ slots es)
def anyR (rs : List Rw) : List Nat := (List.range 60).filter (anyIn (rs.map Rw.es))
theorem ris_one : ∀ (l m : List Int), l.Pairwise (· < ·) → m.Pairwise (· < ·) → (∀ k, k ∈ l ↔ k ∈ m) → l = m
  | [], [], _, _, _ => rfl
  | [], b :: m, _, _, h => nomatch (h b).mpr List.mem_cons_self
  | a :: l, [], _, _, h => nomatch (h a).mp List.mem_cons_self
  | a :: l, b :: m, pl, pm, h => by
    obtain ⟨l1, l2⟩ := List.pairwise_cons.mp pl
    obtain ⟨m1, m2⟩ := List.pairwise_cons.mp pm
    have e : a = b := by
      rcases List.mem_cons.mp ((h a).mp List.mem_cons_self) with e | e
      · exact e
      · rcases List.mem_cons.mp ((h b).mpr List.mem_cons_self) with f | f
        · exact f.symm
        · have := m1 a e
          have := l1 b f
          omega
    subst e
    congr 1
    refine ris_one l m l2 m2 fun k => ⟨fun hk => ?_, fun hk => ?_⟩
    · rcases List.mem_cons.mp ((h k).mp (List.mem_cons_of_mem _ hk)) with e | e
      · have := l1 k hk
        omega
      · exact e
    · rcases List.mem_cons.mp ((h k).mpr (List.mem_cons_of_mem _ hk)) with e | e
      · have := m1 k hk
        omega
      · exact e
theorem any_ris (rs : List Rw) : ((anyR rs).map fun (n : Nat) => (n : Int)).Pairwise (· < ·) := by
  rw [List.pairwise_map]
  refine List.Pairwise.imp (R := fun a b : Nat => a < b) (fun h => by omega) ?_
  exact List.Pairwise.sublist List.filter_sublist List.pairwise_lt_range
theorem RsAt.lt60 {CR CB : Addr} {H : Hp} {rs : List Rw} (h : RsAt CR CB H rs) {r : Rw} (m : r ∈ rs) {s : Nat} (hs : s ∈ slots r.es) : s < 60 := by
  obtain ⟨e, he, rfl⟩ := List.mem_map.mp hs
  have hf := (h.is r m).fit
  have := (hf.fit e he).1
  have := hf.few
  omega
theorem any_mem {rs : List Rw} {s : Nat} : anyIn (rs.map Rw.es) s = true ↔ ∃ r ∈ rs, s ∈ slots r.es := by
  unfold anyIn
  rw [List.any_eq_true]
  constructor
  · rintro ⟨es, h, d⟩
    obtain ⟨r, hr, rfl⟩ := List.mem_map.mp h
    exact ⟨r, hr, of_decide_eq_true d⟩
  · rintro ⟨r, hr, d⟩
    exact ⟨r.es, List.mem_map.mpr ⟨r, hr, rfl⟩, decide_eq_true d⟩
def spEit (CR CB : Addr) : Sp := fun vs H Q _ => ∃ (rl : Addr) (rs : List Rw), vs = [.ref rl] ∧ H rl = some (.lst (rs.map fun (w : Rw) => V.ref w.r)) ∧ RsAt CR CB H rs ∧ ∀ (l : Addr) (H' : Hp), H l = none → Ex H H' → H' l = some (.lst (nvs (anyR rs))) → Q (.ref l) H'
set_option maxHeartbeats 8000000 in
theorem ok_either (T : TX K mg A FD TK) : FnOk P w K mg base CX0 6 (A 36) (FD 36) ["rows"] (spEit (A 49) (A 48)) := by
  have G_slots_of := ok_slots_of (P := P) (w := w) (base := base) T
  refine T.f_either.ok (k := 5) sc_either (fun vs H Q E h => ?_) (fun cdv A' outer s H vs Q E hr h => ?_)
  · obtain ⟨rl, rs, rfl, _⟩ := h
    rfl
  · obtain ⟨rl, rs, rfl, grl, hRs, q⟩ := h
    refine ⟨_, (pss_one (ps_ret (pe_callB (cr_sortedSet rfl) (by rfl) T.m_sorted (by decide +kernel) (pa_cons (ScT.pe_sc2 (own := [("row", 1), ("slot", 2)]) (wj := iList K _)  (vb := [2]) rfl sc_either.nd (piLK (K := K) rfl (pv 0)) (blkOk_by (own := [("row", 1), ("slot", 2)]) (N := N_either) (sc := defScope (topS 36)) (by decide +kernel)) (by decide) (fun _ _ _ _ _ => (pg_name (i := 1) sc_either.nd rfl (Or.inl rfl))) (fun _ _ _ _ _ => pts_nil) (fun _ _ _ _ _ => by exact (piLK (K := K) rfl (pe_call G_slots_of hr (by rfl) T.g_slots_of T.f_slots_of.kp T.b_slots_of .nil pass0 (pa_cons (pv 1) pa_nil)))) (fun _ _ _ _ _ => (pg_name (i := 2) sc_either.nd rfl (Or.inl rfl))) (fun _ _ _ _ _ => pts_nil) (fun _ _ _ _ _ => (pv 2))) pa_nil)))), ?_⟩
    have fl : ∀ m, m ∈ (rs.map fun (r : Rw) => slots r.es).flatten ↔ ∃ r ∈ rs, m ∈ slots r.es := fun m => by
      rw [List.mem_flatten]
      constructor
      · rintro ⟨l, hl, hm⟩
        obtain ⟨r, hr, rfl⟩ := List.mem_map.mp hl
        exact ⟨r, hr, hm⟩
      · rintro ⟨r, hr, hm⟩
        exact ⟨_, List.mem_map.mpr ⟨r, hr, rfl⟩, hm⟩
    show ScT.tSc2 w (iList K (tVar 0)) (gName 1) tYes (iList K (tCall (spSlf (A 49) (A 48)) [] E0 (tCons (tVar 1) tNil))) (gName 2) tYes (tVar 2) [1, 2] [2] [some (.ref rl), none, none] H fun x H1 => rSortedSet w [x] H1 Q
    refine sc2_ll (w := w) (K := K) (K' := K) (xs := rs.map fun (w : Rw) => V.ref w.r) (yss := rs.map fun (r : Rw) => slots r.es) (fun R r => ⟨_, rfl, r⟩) grl (by simp) (fun m hm => ?_) (fun i x ys H' gx gy e R r => ?_) ?_ ?_ ?_ (fun D S n H' nD e1 gD few hS => ?_)
    · obtain ⟨r, hr, hm⟩ := (fl m).mp hm
      have := hRs.lt60 hr hm
      omega
    · have hi : i < rs.length := by
        have := (List.getElem?_eq_some_iff.mp gx).1
        rwa [List.length_map] at this
      have g : rs[i]? = some rs[i] := List.getElem?_eq_getElem hi
      rw [List.getElem?_map, g] at gx gy
      cases gx
      cases gy
      have mr := List.mem_of_getElem? g
      exact ⟨_, rfl, (rs[i]).r, (rs[i]).z, (rs[i]).s, (rs[i]).es, (rs[i]).ls, rfl, (hRs.at' _ mr).ex e, hRs.is _ mr, r⟩
    · exact fun _ => rfl
    · exact fun _ _ => rfl
    · exact fun _ _ => rfl
    · refine ⟨D, S, n, rfl, gD, few, fun ns p hp hm hl np => ?_⟩
      have e : ns = (anyR rs).map fun (n : Nat) => (n : Int) := by
        refine ris_one _ _ hp (any_ris rs) fun k => (hm k).trans ((hS k).trans ?_)
        rw [List.mem_map]
        constructor
        · rintro ⟨m, hm, rfl⟩
          obtain ⟨r, hr, hs⟩ := (fl m).mp hm
          exact ⟨m, List.mem_filter.mpr ⟨List.mem_range.mpr (hRs.lt60 hr hs), any_mem.mpr ⟨r, hr, hs⟩⟩, rfl⟩
        · rintro ⟨m, hm, rfl⟩
          exact ⟨m, (fl m).mpr (any_mem.mp (List.mem_filter.mp hm).2), rfl⟩
      have np' : H p = none := fresh_back e1 np
      refine q p _ np' (e1.trans (Ex.new np)) ?_
      rw [upd_same, e, List.map_map]
      rfl

/-! ### numbers, entries, tuples of numbers as data -/
def dV (ns : List Nat) : List PyData := ns.map fun (n : Nat) => .int (n : Int)
def dE (e : En) : PyData := .tuple [.int (e.1 : Int), .tuple (dV e.2)]
def dEs (es : List En) : List PyData := es.map dE
def dTs (nss : List (List Nat)) : List PyData := nss.map fun ns => .tuple (dV ns)
theorem dpV {K : PySem.W.Frag} {H : Hp} : ∀ ns : List Nat, DpAll K H (nvs ns) (dV ns)
  | [] => .nil
  | n :: r => .cons (.int _) (dpV r)
theorem dp_all {K : PySem.W.Frag} {H : Hp} {α : Type} {f : α → PyData} : ∀ {xs : List V} {as : List α}, xs.length = as.length → (∀ (i : Nat) (a : α), as[i]? = some a → ∃ v, xs[i]? = some v ∧ Dp K H v (f a)) → DpAll K H xs (as.map f)
  | [], [], _, _ => .nil
  | v :: xs, a :: as, hl, h => by
    obtain ⟨u, e, d⟩ := h 0 a rfl
    cases e
    exact .cons d (dp_all (by simpa using hl) fun i a g => h (i + 1) a g)
  | [], _ :: _, hl, _ => by simp at hl
  | _ :: _, [], hl, _ => by simp at hl
theorem dpE {K : PySem.W.Frag} {H : Hp} {a : Addr} {e : En} (h : EnA H a e) : Dp K H (.ref a) (dE e) := by
  obtain ⟨t, h1, h2⟩ := h
  exact .tup (SqT.of h1) (.cons (.int _) (.cons (.tup (SqT.of h2) (dpV _)) .nil))
theorem dpEs {K : PySem.W.Frag} {H : Hp} {xs : List V} {es : List En} (h : EnsA H xs es) : DpAll K H xs (dEs es) := dp_all h.1 fun i e g => let ⟨a, h1, h2⟩ := h.2 i e g; ⟨_, h1, dpE h2⟩
/-- tuples of numbers at hs -/
def TupsA (H : Hp) (hs : List Addr) (nss : List (List Nat)) : Prop := hs.length = nss.length ∧ ∀ (i : Nat) (ns : List Nat), nss[i]? = some ns → ∃ b, hs[i]? = some b ∧ H b = some (.tup (nvs ns))
theorem TupsA.ex {H H' : Hp} {hs : List Addr} {nss : List (List Nat)} (h : TupsA H hs nss) (x : Ex H H') : TupsA H' hs nss := ⟨h.1, fun i ns g => let ⟨b, h1, h2⟩ := h.2 i ns g; ⟨b, h1, x _ _ h2⟩⟩
theorem TupsA.updL {H : Hp} {D : Addr} {o : HO} {hs : List Addr} {ys : List V} {nss : List (List Nat)} (h : TupsA H hs nss) (hD : H D = some (.lst ys)) : TupsA (upd H D o) hs nss := ⟨h.1, fun i ns g => let ⟨b, h1, h2⟩ := h.2 i ns g; ⟨b, h1, by rw [upd_ne (ne_of h2 hD (by intro z; cases z))]; exact h2⟩⟩
theorem TupsA.snoc {H : Hp} {hs : List Addr} {nss : List (List Nat)} {b : Addr} {ns : List Nat} (h : TupsA H hs nss) (hb : H b = some (.tup (nvs ns))) : TupsA H (hs ++ [b]) (nss ++ [ns]) := by
  refine ⟨by rw [List.length_append, List.length_append, h.1]; rfl, fun i ms g => ?_⟩
  rcases snoc_at g with g | ⟨rfl, rfl⟩
  · obtain ⟨c, h1, h2⟩ := h.2 i ms g
    exact ⟨c, by rw [List.getElem?_append_left (List.getElem?_eq_some_iff.mp h1).1]; exact h1, h2⟩
  · exact ⟨b, by rw [← h.1, List.getElem?_append_right (Nat.le_refl _)]; simp, hb⟩
theorem dpTs {K : PySem.W.Frag} {H : Hp} {hs : List Addr} {nss : List (List Nat)} (h : TupsA H hs nss) : DpAll K H (hs.map V.ref) (dTs nss) := dp_all (by rw [List.length_map]; exact h.1) fun i ns g => by
  obtain ⟨b, h1, h2⟩ := h.2 i ns g
  exact ⟨.ref b, by rw [List.getElem?_map, h1]; rfl, .tup (SqT.of h2) (dpV _)⟩
theorem shV (ns : List Nat) : PyData.canLayAll0 (dV ns) = true ∧ PyData.depthAll (dV ns) = 0 := by
  unfold dV
  induction ns with
  | nil => exact ⟨rfl, rfl⟩
  | cons n r ih => exact ⟨by rw [List.map_cons, PyData.canLayAll0, ih.1]; rfl, by rw [List.map_cons, PyData.depthAll, ih.2, PyData.depth]; rfl⟩
theorem sh_all {α : Type} {f : α → PyData} {k : Nat} (h : ∀ a, PyData.canLay0 (f a) = true ∧ PyData.depth (f a) ≤ k) : ∀ as : List α, PyData.canLayAll0 (as.map f) = true ∧ PyData.depthAll (as.map f) ≤ k
  | [] => ⟨rfl, Nat.zero_le _⟩
  | a :: r => by
    have i := sh_all h r
    exact ⟨by rw [List.map_cons, PyData.canLayAll0, (h a).1, i.1]; rfl, by rw [List.map_cons, PyData.depthAll]; exact Nat.max_le.mpr ⟨(h a).2, i.2⟩⟩
theorem sh_list {ds : List PyData} {k : Nat} (hk : k ≤ 60) (h : PyData.canLayAll0 ds = true ∧ PyData.depthAll ds ≤ k) : SeqAt.shaped (.list ds) = true := by
  unfold SeqAt.shaped
  rw [PyData.canLay0, PyData.depth, h.1, Bool.true_and]
  have := h.2
  exact decide_eq_true (by omega)
theorem shT (ns : List Nat) : PyData.canLay0 (.tuple (dV ns)) = true ∧ PyData.depth (.tuple (dV ns)) ≤ 1 := ⟨by rw [PyData.canLay0]; exact (shV ns).1, by rw [PyData.depth, (shV ns).2]; exact Nat.le_refl _⟩
theorem shE (e : En) : PyData.canLay0 (dE e) = true ∧ PyData.depth (dE e) ≤ 2 := by
  unfold dE
  refine ⟨?_, ?_⟩
  · rw [PyData.canLay0, PyData.canLayAll0, PyData.canLayAll0, (shT e.2).1]
    rfl
  · rw [PyData.depth, PyData.depthAll, PyData.depthAll]
    have := (shT e.2).2
    simp only [PyData.depthAll, PyData.depth] at this ⊢
    omega
theorem shTs (nss : List (List Nat)) : SeqAt.shaped (.list (dTs nss)) = true := sh_list (k := 1) (by decide) (sh_all shT nss)
theorem shEs (es : List En) : SeqAt.shaped (.list (dEs es)) = true := sh_list (k := 2) (by decide) (sh_all shE es)
theorem eqv_self {d : PyData} (h : SeqAt.shaped d = true) : PyData.eqv d d = true := SeqAt.eqv_refl _ (SeqAt.canLay_of_shaped h)
/-! ### _law_whole, _law_heads -/
set_option maxHeartbeats 4000000 in
theorem ok_l_whole (T : TX K mg A FD TK) : FnOk P w K mg base CX0 1 (A 57) (FD 57) ["_law_thing"] spWhl := by
  refine T.f_l_whole.ok sc_l_whole (fun vs H Q E h => ?_) (fun cdv A' outer s H vs Q E hr h => ?_)
  · obtain ⟨z, rfl, _⟩ := h
    rfl
  · obtain ⟨i, rfl, q⟩ := h
    refine ⟨_, (pss_one (ps_ret (pe_and (pe_callB (isiK (K := K) rfl) (by rfl) T.m_isinstance (by decide +kernel) (pa_cons (pv 0) (pa_cons (pe_bltn (v := .ty "int") (by rfl) T.m_int (by decide +kernel) rfl) pa_nil))) (pe_one (pe_not (pe_callB (isiK (K := K) rfl) (by rfl) T.m_isinstance (by decide +kernel) (pa_cons (pv 0) (pa_cons (pe_bltn (v := .ty "bool") (by rfl) T.m_bool (by decide +kernel) rfl) pa_nil)))))))), ?_⟩
    refine ⟨.int i, rfl, .int i, .ty "int", .type "int", .type "int", true, rfl, .ty _, .base (.int i), kit_ty (by decide +kernel), true, rfl, ?_⟩
    exact ⟨.int i, rfl, .int i, .ty "bool", .type "int", .type "bool", false, rfl, .ty _, .base (.int i), kit_ty (by decide +kernel), false, rfl, q⟩

/-! ### _law_right -/
theorem inV_nvs {s : Nat} : ∀ {ns : List Nat}, inV (.int (s : Int)) (nvs ns) = decide (s ∈ ns)
  | [] => rfl
  | n :: r => by
    have ih := inV_nvs (s := s) (ns := r)
    unfold inV nvs at ih ⊢
    rw [List.map_cons, List.any_cons, ih]
    have e : eqV (V.int (n : Int)) (.int (s : Int)) = decide (n = s) := by
      by_cases h : n = s
      · subst h
        rw [decide_eq_true rfl]
        exact decide_eq_true rfl
      · rw [decide_eq_false h]
        exact decide_eq_false fun z => h (by omega)
    rw [e, Bool.eq_iff_iff, Bool.or_eq_true, decide_eq_true_eq, decide_eq_true_eq, decide_eq_true_eq, List.mem_cons]
    exact ⟨fun z => z.imp Eq.symm id, fun z => z.imp Eq.symm id⟩
theorem flat_nvs (ns : List Nat) : (nvs ns).all flatV = true := by
  unfold nvs
  rw [List.all_map]
  exact List.all_eq_true.mpr fun _ _ => rfl
/-- the rows' lists of slots -/
def SlsA (H : Hp) (as : List Addr) (rs : List Rw) : Prop := as.length = rs.length ∧ ∀ (i : Nat) (r : Rw), rs[i]? = some r → ∃ a, as[i]? = some a ∧ H a = some (.lst (nvs (slots r.es)))
theorem SlsA.ex {H H' : Hp} {as : List Addr} {rs : List Rw} (h : SlsA H as rs) (e : Ex H H') : SlsA H' as rs := ⟨h.1, fun i r g => let ⟨a, h1, h2⟩ := h.2 i r g; ⟨a, h1, e _ _ h2⟩⟩
def dSl (rs : List Rw) : List PyData := rs.map fun r => .list (dV (slots r.es))
theorem SlsA.dp {K : PySem.W.Frag} {H : Hp} {as : List Addr} {rs : List Rw} (h : SlsA H as rs) : DpAll K H (as.map V.ref) (dSl rs) := dp_all (by rw [List.length_map]; exact h.1) fun i r g => by
  obtain ⟨a, h1, h2⟩ := h.2 i r g
  exact ⟨.ref a, by rw [List.getElem?_map, h1]; rfl, .lst (SqL.of h2) (dpV _)⟩
theorem shL1 (ns : List Nat) : PyData.canLay0 (.list (dV ns)) = true ∧ PyData.depth (.list (dV ns)) ≤ 1 := ⟨by rw [PyData.canLay0]; exact (shV ns).1, by rw [PyData.depth, (shV ns).2]; exact Nat.le_refl _⟩
theorem shSl (rs : List Rw) : SeqAt.shaped (.list (dSl rs)) = true := sh_list (k := 1) (by decide) (sh_all (fun r : Rw => shL1 (slots r.es)) rs)
theorem shNs (nss : List (List Nat)) : SeqAt.shaped (.list (nss.map fun ns => .list (dV ns))) = true := sh_list (k := 1) (by decide) (sh_all shL1 nss)
theorem shN (ns : List Nat) : SeqAt.shaped (.list (dV ns)) = true := sh_list (k := 0) (by decide) ⟨(shV ns).1, Nat.le_of_eq (shV ns).2⟩
theorem range_more {f : Nat → Bool} {i : Nat} : (List.range (i + 1)).filter f = (List.range i).filter f ++ (if f i = true then [i] else []) := by
  rw [List.range_succ, List.filter_append]
  congr 1
  by_cases h : f i = true
  · rw [if_pos h]
    exact List.filter_cons_of_pos h
  · rw [if_neg h]
    exact List.filter_cons_of_neg h
theorem range_few {f : Nat → Bool} {i : Nat} (h : i < 60) : ((List.range i).filter f).length < 60 := by
  have := List.length_filter_le f (List.range i)
  rw [List.length_range] at this
  omega
def fE (rs : List Rw) (s : Nat) : Bool := allIn (rs.map Rw.es) s && !rs.isEmpty
theorem comR_fE (rs : List Rw) : comR rs = (List.range 60).filter (fE rs) := by
  unfold comR
  cases rs with
  | nil =>
    rw [if_pos rfl]
    exact (List.filter_eq_nil_iff.mpr fun a _ => by unfold fE; simp).symm
  | cons r l =>
    rw [if_neg (by simp)]
    unfold comB
    congr 1
    funext s
    unfold fE
    simp
def bsI (rs : List Rw) (s : Nat) : List Bool := rs.map fun r => decide (s ∈ slots r.es)
theorem bs_all (rs : List Rw) (s : Nat) : (bsI rs s).all id = allIn (rs.map Rw.es) s := by
  unfold bsI allIn
  rw [List.all_map, List.all_map]
  rfl
theorem bs_any (rs : List Rw) (s : Nat) : (bsI rs s).any id = anyIn (rs.map Rw.es) s := by
  unfold bsI anyIn
  rw [List.any_map, List.any_map]
  rfl
def spRight (CR CB : Addr) : Sp := fun vs H Q _ => ∃ (rl sl : Addr) (rs : List Rw) (as : List Addr), vs = [.ref rl, .ref sl] ∧ H rl = some (.lst (rs.map fun (w : Rw) => V.ref w.r)) ∧ RsAt CR CB H rs ∧ H sl = some (.lst (as.map V.ref)) ∧ SlsA H as rs ∧ ∀ H', Ex H H' → Q (.bl true) H'
set_option maxHeartbeats 16000000 in
theorem ok_l_right (T : TX K mg A FD TK) : FnOk P w K mg base CX0 10 (A 60) (FD 60) ["_law_rows", "_law_slots"] (spRight (A 49) (A 48)) := by
  have G_common := ok_common (P := P) (w := w) (base := base) T
  have G_either := (ok_either (P := P) (w := w) (base := base) T).mono (show 6 ≤ 9 by decide)
  have G_l_whole := (ok_l_whole (P := P) (w := w) (base := base) T).mono (show 1 ≤ 9 by decide)
  refine T.f_l_right.ok (k := 9) sc_l_right (fun vs H Q E h => ?_) (fun cdv A' outer s H vs Q E hr h => ?_)
  · obtain ⟨rl, sl, rs, as, rfl, _⟩ := h
    rfl
  · obtain ⟨rl, sl, rs, as, rfl, grl, hRs, gsl, hA, q⟩ := h
    refine ⟨_, (pss_cons (ps_setLc (i := 2) (own := [("_law_slot", 7)])  rfl sc_l_right.nd rfl rfl (sw_true rfl rfl rfl (by decide +kernel)) (pi_range1 (by rfl) T.m_range (pa_cons pe_int pa_nil)) (blkOk_by (own := [("_law_slot", 7)]) (N := N_l_right) (sc := defScope (topS 60)) (by decide +kernel)) (fun _ _ _ _ _ => (pg_name (i := 7) sc_l_right.nd rfl (Or.inr rfl))) (fun _ _ _ _ _ => (pts_one (PW.pt (pw_and (pt_val (pe_callB (allK (K := K) rfl rfl) (by rfl) T.m_all (by decide +kernel) (pa_cons (pe_lc (own := [("_law_some", 8)])  rfl sc_l_right.nd (piLK (K := K) rfl (pv 1)) (blkOk_by (own := [("_law_some", 8)]) (N := N_l_right) (sc := relS _ (defScope (topS 60))) (by decide +kernel)) (fun _ _ _ _ _ => (pg_name (i := 8) sc_l_right.nd rfl (Or.inl rfl))) (fun _ _ _ _ _ => pts_nil) (fun _ _ _ _ _ => (pe_cmpR (inK (K := K) rfl) (pv 7) (pv 8) (by rfl)))) pa_nil))) (pw_and1 (pt_cmpR (neDK (K := K) rfl hr.units) (pv 1) (pe_lst pa_nil) (nomark _))))))) (fun _ _ _ _ _ => (pv 7)))
      (pss_cons (ps_setLc (i := 3) (own := [("_law_slot", 7)])  rfl sc_l_right.nd rfl rfl (sw_true rfl rfl rfl (by decide +kernel)) (pi_range1 (by rfl) T.m_range (pa_cons pe_int pa_nil)) (blkOk_by (own := [("_law_slot", 7)]) (N := N_l_right) (sc := defScope (topS 60)) (by decide +kernel)) (fun _ _ _ _ _ => (pg_name (i := 7) sc_l_right.nd rfl (Or.inr rfl))) (fun _ _ _ _ _ => (pts_one (pt_val (pe_callB (anyK (K := K) rfl rfl) (by rfl) T.m_any (by decide +kernel) (pa_cons (pe_lc (own := [("_law_some", 8)])  rfl sc_l_right.nd (piLK (K := K) rfl (pv 1)) (blkOk_by (own := [("_law_some", 8)]) (N := N_l_right) (sc := relS _ (defScope (topS 60))) (by decide +kernel)) (fun _ _ _ _ _ => (pg_name (i := 8) sc_l_right.nd rfl (Or.inl rfl))) (fun _ _ _ _ _ => pts_nil) (fun _ _ _ _ _ => (pe_cmpR (inK (K := K) rfl) (pv 7) (pv 8) (by rfl)))) pa_nil))))) (fun _ _ _ _ _ => (pv 7)))
      (pss_cons (ps_set (i := 4) sc_l_right.nd rfl (.inl rfl) (pe_callTy (listK (K := K) rfl) (by rfl) T.m_list (by decide +kernel) (pa_cons (pv 0) pa_nil)))
      (pss_cons (ps_for PassesOwn.never rfl (pi_range1 (by rfl) T.m_range (pa_cons pe_int pa_nil)) (pg_name (i := 5) sc_l_right.nd rfl (.inl rfl))
      (pss_cons (ps_set (i := 6) sc_l_right.nd rfl (.inl rfl) (pe_lst (pa_cons (pe_call G_common hr (by rfl) T.g_common T.f_common.kp T.b_common .nil pass0 (pa_cons (pv 4) pa_nil)) (pa_cons (pe_call G_either hr (by rfl) T.g_either T.f_either.kp T.b_either .nil pass0 (pa_cons (pv 4) pa_nil)) pa_nil))))
      (pss_cons (ps_if (PW.pt (pw_or (pt_cmpR (neDK (K := K) rfl hr.units) (pv 6) (pe_lst (pa_cons (pv 2) (pa_cons (pv 3) pa_nil))) (nomark _)) (pw_or1 (pt_not (pt_val (pe_callB (allK (K := K) rfl rfl) (by rfl) T.m_all (by decide +kernel) (pa_cons (pe_lc (own := [("_law_slot", 7)])  rfl sc_l_right.nd (piLK (K := K) rfl (pe_op op_cat (pe_ix (ixLK (K := K) rfl) (pv 6) pe_int (fun _ _ => rfl)) (pe_ix (ixLK (K := K) rfl) (pv 6) pe_int (fun _ _ => rfl)))) (blkOk_by (own := [("_law_slot", 7)]) (N := N_l_right) (sc := defScope (topS 60)) (by decide +kernel)) (fun _ _ _ _ _ => (pg_name (i := 7) sc_l_right.nd rfl (Or.inl rfl))) (fun _ _ _ _ _ => pts_nil) (fun _ _ _ _ _ => (pe_call G_l_whole hr (by rfl) T.g_l_whole T.f_l_whole.kp T.b_l_whole .nil pass0 (pa_cons (pv 7) pa_nil)))) pa_nil)))))))
      (pss_one (ps_ret pe_bl))
      pss_nil)
      (pss_cons (ps_expr (pe_bm PySem.F.plainAttrs_list PySem.F.slot_list_append PySem.F.type_list_append mt_append (pe_ix (ixLK (K := K) rfl) (pv 6) pe_int (fun _ _ => rfl)) (pa_cons pe_int pa_nil)))
      (pss_one (ps_expr (pe_bm PySem.F.plainAttrs_list PySem.F.slot_list_append PySem.F.type_list_append mt_append (pe_ix (ixLK (K := K) rfl) (pv 6) pe_int (fun _ _ => rfl)) (pa_cons pe_int pa_nil))))))))
      (pss_one (ps_ret (pe_cmpR (EqS.op_eqSame hr.units0) (pv 4) (pv 0) (nomark _)))))))), ?_⟩
    have few := hRs.few
    have la := hA.1
    refine ⟨60, rfl, by decide, by decide, fun D nD => ?_⟩
    refine lc_range (lo := 0) (n := 60) (fun i H' => Ex H H' ∧ H' D = some (.lst (nvs ((List.range i).filter (fE rs))))) ⟨Ex.new nD, upd_same⟩ (fun i H1 hi p => ?_) (fun H1 p => ?_)
    · obtain ⟨p1, p2⟩ := p
      have gs1 := p1 _ _ gsl
      refine ⟨rfl, .ref sl, rfl, sl, rfl, ⟨_, SqL.of gs1⟩, fun D2 nD2 => ?_⟩
      refine lc_list (K := K) (xs := as.map V.ref) (fun k H' => Ex H1 H' ∧ H' D2 = some (.lst (((bsI rs i).take k).map V.bl))) ⟨Ex.new nD2, upd_same⟩ (fun k H' _ p => ex_l p.1 (SqL.of gs1)) (fun k v H2 hv p => ?_) (fun H2 p => ?_)
      · obtain ⟨k1, k2⟩ := p
        have hk : k < rs.length := by
          have := (List.getElem?_eq_some_iff.mp hv).1
          rw [List.length_map] at this
          omega
        have gr : rs[k]? = some rs[k] := List.getElem?_eq_getElem hk
        obtain ⟨a, ga, ha⟩ := hA.2 k _ gr
        rw [List.getElem?_map, ga] at hv
        cases hv
        refine ⟨rfl, _, rfl, .ref a, rfl, a, _, rfl, .inl (SqL.of (k1 _ _ (p1 _ _ ha))), rfl, flat_nvs _, _, k2, ?_, Ex.mut k1 nD2, ?_⟩
        · rw [List.length_map, List.length_take]
          exact sz_lt (by unfold bsI; rw [List.length_map]; omega)
        · rw [upd_same]
          have gb : (bsI rs i)[k]? = some (decide (i ∈ slots rs[k].es)) := by
            unfold bsI
            rw [List.getElem?_map, gr]
            rfl
          rw [take_up gb, List.map_append]
          congr 3
          show [V.bl (inV (.int (0 + (i : Int))) _)] = _
          rw [Int.zero_add, inV_nvs]
          rfl
      obtain ⟨k1, k2⟩ := p
      rw [List.length_map, la, List.take_of_length_le (by unfold bsI; rw [List.length_map]; exact Nat.le_refl _)] at k2
      refine ⟨D2, bsI rs i, rfl, SqL.of k2, _, rfl, ?_⟩
      rw [bs_all]
      have x2 := p1.trans k1
      have g2 := k1 _ _ p2
      refine ite2 (fun ha => ?_) (fun ha => ?_)
      · refine ⟨.ref sl, rfl, Nat.zero_le _, fun L nL => ?_⟩
        have eL := Ex.new (o := .lst []) nL
        have gL := upd_same (H := H2) (a := L) (o := .lst [])
        generalize (upd H2 L (.lst [])) = H3 at eL gL ⊢
        have x3 := x2.trans eL
        refine ⟨.list (dSl rs), .list [], .lst (SqL.of (x3 _ _ gsl)) (hA.ex x3).dp, .lst (SqL.of gL) .nil, shSl rs, shN [], _, rfl, ?_⟩
        have ev : (!PyData.eqv (.list (dSl rs)) (.list [])) = !rs.isEmpty := by
          cases rs with
          | nil => exact congrArg Bool.not (eqv_self (shN []))
          | cons r l => rfl
        rw [ev]
        by_cases he : rs.isEmpty = true
        · rw [he]
          refine ite2 (fun h => absurd h (by decide)) (fun _ => ⟨x3, ?_⟩)
          rw [range_more, if_neg (by unfold fE; rw [he]; simp), List.append_nil]
          exact eL _ _ g2
        · have he : rs.isEmpty = false := by cases h : rs.isEmpty with
            | true => exact absurd h he
            | false => rfl
          rw [he]
          refine ite2 (fun _ => ⟨_, rfl, _, eL _ _ g2, ?_, Ex.mut x3 nD, ?_⟩) (fun h => absurd rfl h)
          · rw [nvs_len]
            exact sz_lt (by have := range_few (f := fE rs) hi; omega)
          · rw [upd_same, range_more, if_pos (by unfold fE; rw [ha, he]; rfl), nvs_snoc]
            show some (HO.lst (_ ++ [V.int (0 + (i : Int))])) = _
            rw [Int.zero_add]
      · refine ite2 (fun h => absurd h (by decide)) (fun _ => ⟨x2, ?_⟩)
        rw [range_more, if_neg (by unfold fE; simp [ha]), List.append_nil]
        exact g2
    obtain ⟨x1, gD⟩ := p
    rw [← comR_fE] at gD
    refine ⟨60, rfl, by decide, by decide, fun Y nY => ?_⟩
    refine lc_range (lo := 0) (n := 60) (fun i H' => Ex H1 H' ∧ H' Y = some (.lst (nvs ((List.range i).filter (anyIn (rs.map Rw.es)))))) ⟨Ex.new nY, upd_same⟩ (fun i H2 hi p => ?_) (fun H2 p => ?_)
    · obtain ⟨p1, p2⟩ := p
      have gs1 := p1 _ _ (x1 _ _ gsl)
      refine ⟨rfl, .ref sl, rfl, sl, rfl, ⟨_, SqL.of gs1⟩, fun D2 nD2 => ?_⟩
      refine lc_list (K := K) (xs := as.map V.ref) (fun k H' => Ex H2 H' ∧ H' D2 = some (.lst (((bsI rs i).take k).map V.bl))) ⟨Ex.new nD2, upd_same⟩ (fun k H' _ p => ex_l p.1 (SqL.of gs1)) (fun k v H3 hv p => ?_) (fun H3 p => ?_)
      · obtain ⟨k1, k2⟩ := p
        have hk : k < rs.length := by
          have := (List.getElem?_eq_some_iff.mp hv).1
          rw [List.length_map] at this
          omega
        have gr : rs[k]? = some rs[k] := List.getElem?_eq_getElem hk
        obtain ⟨a, ga, ha⟩ := hA.2 k _ gr
        rw [List.getElem?_map, ga] at hv
        cases hv
        refine ⟨rfl, _, rfl, .ref a, rfl, a, _, rfl, .inl (SqL.of (k1 _ _ (p1 _ _ (x1 _ _ ha)))), rfl, flat_nvs _, _, k2, ?_, Ex.mut k1 nD2, ?_⟩
        · rw [List.length_map, List.length_take]
          exact sz_lt (by unfold bsI; rw [List.length_map]; omega)
        · rw [upd_same]
          have gb : (bsI rs i)[k]? = some (decide (i ∈ slots rs[k].es)) := by
            unfold bsI
            rw [List.getElem?_map, gr]
            rfl
          rw [take_up gb, List.map_append]
          congr 3
          show [V.bl (inV (.int (0 + (i : Int))) _)] = _
          rw [Int.zero_add, inV_nvs]
          rfl
      obtain ⟨k1, k2⟩ := p
      rw [List.length_map, la, List.take_of_length_le (by unfold bsI; rw [List.length_map]; exact Nat.le_refl _)] at k2
      refine ⟨D2, bsI rs i, rfl, SqL.of k2, _, rfl, ?_⟩
      rw [bs_any]
      have x2 := p1.trans k1
      have g2 := k1 _ _ p2
      refine ite2 (fun ha => ?_) (fun ha => ?_)
      · refine ⟨_, rfl, _, g2, ?_, Ex.mut x2 nY, ?_⟩
        · rw [nvs_len]
          exact sz_lt (by have := range_few (f := anyIn (rs.map Rw.es)) hi; omega)
        · rw [upd_same, range_more, if_pos ha, nvs_snoc]
          show some (HO.lst (_ ++ [V.int (0 + (i : Int))])) = _
          rw [Int.zero_add]
      · refine ⟨x2, ?_⟩
        rw [range_more, if_neg ha, List.append_nil]
        exact g2
    obtain ⟨x2, gY⟩ := p
    have gY : H2 Y = some (.lst (nvs (anyR rs))) := gY
    have gD2 := x2 _ _ gD
    have y2 := x1.trans x2
    refine ⟨.ref rl, rfl, rl, _, rfl, .inl (SqL.of (y2 _ _ grl)), fun hd nhd => ?_⟩
    have e3 := Ex.new (o := .lst (rs.map fun (w : Rw) => V.ref w.r)) nhd
    have gh := upd_same (H := H2) (a := hd) (o := .lst (rs.map fun (w : Rw) => V.ref w.r))
    generalize (upd H2 hd (.lst (rs.map fun (w : Rw) => V.ref w.r))) = H3 at e3 gh ⊢
    have y3 := y2.trans e3
    have gD3 := e3 _ _ gD2
    have gY3 := e3 _ _ gY
    have hR3 := hRs.ex y3
    have cf : (comR rs).length ≤ 60 := by
      rw [comR_fE]
      have := List.length_filter_le (fE rs) (List.range 60)
      rwa [List.length_range] at this
    have af : (anyR rs).length ≤ 60 := by
      have := List.length_filter_le (anyIn (rs.map Rw.es)) (List.range 60)
      rwa [List.length_range] at this
    refine ⟨2, rfl, by decide, by decide, ?_⟩
    refine for_range (lo := 0) (fun i σ' H' => ∃ (o5 o6 o7 o8 : Option V), σ' = [some (.ref rl), some (.ref sl), some (.ref D), some (.ref Y), some (.ref hd), o5, o6, o7, o8] ∧ Ex H3 H') ⟨none, none, none, none, rfl, Ex.refl _⟩ (fun i σ' H4 hi pv => ?_) (fun σ' H4 pv => ?_)
    · obtain ⟨o5, o6, o7, o8, rfl, e4⟩ := pv
      refine ⟨.ref hd, rfl, hd, rs, rfl, e4 _ _ gh, hR3.ex e4, fun c H5 nc e5 gc => ?_⟩
      have e45 := e4.trans e5
      refine ⟨.ref hd, rfl, hd, rs, rfl, e45 _ _ gh, hR3.ex e45, fun y H6 ny e6 gy => ?_⟩
      have e46 := e45.trans e6
      have gc6 := e6 _ _ gc
      refine ⟨by show 2 ≤ sizeLine; decide, fun t nt => ?_⟩
      have e7 := Ex.new (o := .lst [V.ref c, .ref y]) nt
      have gt := upd_same (H := H6) (a := t) (o := .lst [V.ref c, .ref y])
      generalize (upd H6 t (.lst [V.ref c, .ref y])) = H7 at e7 gt ⊢
      refine ⟨.ref t, rfl, .ref D, rfl, .ref Y, rfl, by show 2 ≤ sizeLine; decide, fun u nu => ?_⟩
      have e8 := Ex.new (o := .lst [V.ref D, .ref Y]) nu
      have gu := upd_same (H := H7) (a := u) (o := .lst [V.ref D, .ref Y])
      generalize (upd H7 u (.lst [V.ref D, .ref Y])) = H8 at e8 gu ⊢
      have e48 := (e46.trans e7).trans e8
      have gc8 := e8 _ _ (e7 _ _ gc6)
      have gy8 := e8 _ _ (e7 _ _ gy)
      have gt8 := e8 _ _ gt
      refine ⟨.list ([comR rs, anyR rs].map fun ns => .list (dV ns)), .list ([comR rs, anyR rs].map fun ns => .list (dV ns)), .lst (SqL.of gt8) (.cons (.lst (SqL.of gc8) (dpV _)) (.cons (.lst (SqL.of gy8) (dpV _)) .nil)), .lst (SqL.of gu) (.cons (.lst (SqL.of (e48 _ _ gD3)) (dpV _)) (.cons (.lst (SqL.of (e48 _ _ gY3)) (dpV _)) .nil)), shNs _, shNs _, _, rfl, ite2 (fun cc => ?_) (fun _ => ?_)⟩
      · rw [eqv_self (shNs _)] at cc
        cases cc
      refine ⟨.ref t, rfl, t, _, 0, _, rfl, rfl, SqL.of gt8, atI_nat (j := 0) rfl, .ref t, rfl, t, _, 1, _, rfl, rfl, SqL.of gt8, atI_nat (j := 1) rfl, c, y, _, _, rfl, rfl, gc8, gy8, by rw [nvs_len, nvs_len]; exact sz (by omega), fun R nR => ?_⟩
      have e9 := Ex.new (o := .lst (nvs (comR rs) ++ nvs (anyR rs))) nR
      have gR := upd_same (H := H8) (a := R) (o := .lst (nvs (comR rs) ++ nvs (anyR rs)))
      generalize (upd H8 R (.lst (nvs (comR rs) ++ nvs (anyR rs)))) = H9 at e9 gR ⊢
      have gR : H9 R = some (.lst (nvs (comR rs ++ anyR rs))) := by
        rw [gR]
        unfold nvs
        rw [List.map_append]
      refine ⟨R, rfl, ⟨_, SqL.of gR⟩, fun D2 nD2 => ?_⟩
      refine lc_list (K := K) (xs := nvs (comR rs ++ anyR rs)) (fun k H' => Ex H9 H' ∧ H' D2 = some (.lst ((((comR rs ++ anyR rs).map fun _ => true).take k).map V.bl))) ⟨Ex.new nD2, upd_same⟩ (fun k H' _ p => ex_l p.1 (SqL.of gR)) (fun k v HA hv p => ?_) (fun HA p => ?_)
      · obtain ⟨k1, k2⟩ := p
        obtain ⟨n, gn, rfl, hk⟩ := nvs_at hv
        refine ⟨rfl, _, rfl, _, rfl, _, k2, ?_, Ex.mut k1 nD2, ?_⟩
        · rw [List.length_map, List.length_take]
          exact sz_lt (by rw [List.length_map, List.length_append]; omega)
        · have gb : ((comR rs ++ anyR rs).map fun _ => true)[k]? = some true := by
            rw [List.getElem?_map, gn]
            rfl
          rw [upd_same, take_up gb]
          simp only [List.map_append, List.map_cons, List.map_nil]
      obtain ⟨k1, k2⟩ := p
      rw [nvs_len, List.take_of_length_le (by rw [List.length_map]; exact Nat.le_refl _)] at k2
      refine ⟨D2, _, rfl, SqL.of k2, _, rfl, ite2 (fun cc => ?_) (fun _ => ?_)⟩
      · rw [show ((comR rs ++ anyR rs).map fun _ => true).all id = true by rw [List.all_map]; exact List.all_eq_true.mpr fun _ _ => rfl] at cc
        cases cc
      have e8A := e9.trans k1
      have gtA := e8A _ _ gt8
      have gcA := e8A _ _ gc8
      have gyA := e8A _ _ gy8
      have c4 : H4 c = none := nc
      have y4 : H4 y = none := fresh_back e5 ny
      have xA := e48.trans e8A
      have nyc : y ≠ c := (ne_of_none gc ny).symm
      have ntc : t ≠ c := (ne_of_none gc6 nt).symm
      refine ⟨.ref t, rfl, t, _, 0, _, rfl, rfl, SqL.of gtA, atI_nat (j := 0) rfl, .inl ⟨rfl, _, SqL.of gcA⟩, c, _, _, rfl, rfl, gcA, by rw [nvs_len]; exact sz_lt (by omega), ?_⟩
      have xB : Ex H3 (upd HA c (.lst (nvs (comR rs) ++ [V.int 0]))) := Ex.mut xA (fresh_back e4 c4)
      have gtB : (upd HA c (.lst (nvs (comR rs) ++ [V.int 0]))) t = _ := (upd_ne ntc).trans gtA
      have gyB : (upd HA c (.lst (nvs (comR rs) ++ [V.int 0]))) y = _ := (upd_ne nyc).trans gyA
      generalize (upd HA c (.lst (nvs (comR rs) ++ [V.int 0]))) = HB at xB gtB gyB ⊢
      refine ⟨.ref t, rfl, t, _, 1, _, rfl, rfl, SqL.of gtB, atI_nat (j := 1) rfl, .inl ⟨rfl, _, SqL.of gyB⟩, y, _, _, rfl, rfl, gyB, by rw [nvs_len]; exact sz_lt (by omega), ?_⟩
      exact ⟨_, _, _, _, rfl, Ex.mut xB (fresh_back e4 y4)⟩
    · obtain ⟨o5, o6, o7, o8, rfl, e4⟩ := pv
      have y4 := y3.trans e4
      have em : (rs.map fun (w : Rw) => V.ref w.r) = (rs.map Rw.r).map V.ref := by
        rw [List.map_map]
        rfl
      exact ⟨.ref hd, rfl, .ref rl, rfl, hd, rl, rs.map Rw.r, rfl, rfl, by rw [← em]; exact e4 _ _ gh, by rw [← em]; exact y4 _ _ grl, q H4 y4⟩

/-! ### _law_row_entries -/
theorem ris_snoc {xs : List Nat} {n : Nat} (h : Ris xs) (hn : ah xs xs.length < (n : Int)) : Ris (xs ++ [n]) := fun i x g => by
  have hd : ∀ j, j < xs.length → (xs ++ [n]).getD j 0 = xs.getD j 0 := fun j hj => by
    rw [List.getD_eq_getElem?_getD, List.getElem?_append_left hj, List.getD_eq_getElem?_getD]
  have ha : ∀ j, j ≤ xs.length → ah (xs ++ [n]) j = ah xs j := fun j hj => by
    cases j with
    | zero => rfl
    | succ j =>
      show (((xs ++ [n]).getD j 0 : Nat) : Int) = ((xs.getD j 0 : Nat) : Int)
      rw [hd j (by omega)]
  rcases snoc_at g with g | ⟨rfl, rfl⟩
  · rw [ha i (Nat.le_of_lt (List.getElem?_eq_some_iff.mp g).1)]
    exact h i x g
  · rw [ha _ (Nat.le_refl _)]
    exact hn
theorem ah_snoc (xs : List Nat) (n : Nat) : ah (xs ++ [n]) (xs.length + 1) = (n : Int) := by
  show (((xs ++ [n]).getD xs.length 0 : Nat) : Int) = (n : Int)
  rw [List.getD_eq_getElem?_getD, List.getElem?_append_right (Nat.le_refl _)]
  simp
theorem pick4 {a b c e d : Int} (h0 : 0 ≤ d) (h1 : d < 4) {B : Int} (ka : 0 ≤ a ∧ a ≤ B) (kb : 0 ≤ b ∧ b ≤ B) (kc : 0 ≤ c ∧ c ≤ B) (ke : 0 ≤ e ∧ e ≤ B) : ∃ v : Int, atI [V.int a, .int b, .int c, .int e] d = some (.int v) ∧ 0 ≤ v ∧ v ≤ B := by
  obtain ⟨j, rfl⟩ := Int.eq_ofNat_of_zero_le h0
  match j, h1 with
  | 0, _ => exact ⟨a, atI_nat rfl, ka⟩
  | 1, _ => exact ⟨b, atI_nat rfl, kb⟩
  | 2, _ => exact ⟨c, atI_nat rfl, kc⟩
  | 3, _ => exact ⟨e, atI_nat rfl, ke⟩
  | j + 4, h => omega
/-- drawn entries: few, small ones -/
structure EnsL (es : List En) : Prop where
  ens : Ens es
  few : es.length ≤ 20
  slot : ∀ e ∈ es, e.1 < 60
  place : ∀ e ∈ es, ∀ n ∈ e.2, n < 68
def spRowEn : Sp := fun vs H Q _ => ∃ (p : Addr) (c many most : Nat), vs = [.ref p, .int (many : Nat), .int (most : Nat)] ∧ many ≤ 20 ∧ 1 ≤ most ∧ most ≤ 4 ∧ Pl H p c ∧ c < 900000 ∧
  ∀ (l : Addr) (xs : List V) (es : List En) (H' : Hp), l ≠ p → H l = none → H' l = some (.lst xs) → EnsA H' xs es → EnsL es → es.length ≤ many → Pl H' p (c + 300) → Fx p H H' → Q (.ref l) H'
theorem EnsA.fx {p : Addr} {H H' : Hp} {xs : List V} {es : List En} {c : Nat} (h : EnsA H xs es) (hp : Pl H p c) (f : Fx p H H') : EnsA H' xs es := h.mono fun b zs hb => f.tup hp hb
theorem EnsA.updL {H : Hp} {D : Addr} {o : HO} {xs ys : List V} {es : List En} (h : EnsA H xs es) (hD : H D = some (.lst ys)) : EnsA (upd H D o) xs es := h.mono fun b zs hb => by
  rw [upd_ne (ne_of hb hD (by intro z; cases z))]
  exact hb
theorem fx_mut {p D : Addr} {H H' : Hp} {o : HO} (f : Fx p H H') (n : H D = none) : Fx p H (upd H' D o) := fun a u na h => by
  rw [upd_ne (ne_of_none h n)]
  exact f a u na h
set_option maxHeartbeats 8000000 in
theorem ok_l_row_entries (T : TX K mg A FD TK) : FnOk P w K mg base CX0 2 (A 58) (FD 58) ["_law_pool_here", "_law_many", "_law_most"] spRowEn := by
  have G_l_take := ok_l_take (P := P) (w := w) (base := base) T
  refine T.f_l_row_entries.ok (k := 1) sc_l_row_entries (fun vs H Q E h => ?_) (fun cdv A' outer s H vs Q E hr h => ?_)
  · obtain ⟨p, c, many, most, rfl, _⟩ := h
    rfl
  · obtain ⟨p, c, many, most, rfl, hmy, hm1, hm4, hp, hc, q⟩ := h
    refine ⟨_, (pss_cons (ps_set (i := 3) sc_l_row_entries.nd rfl (.inl rfl) (pe_lst pa_nil))
      (pss_cons (ps_set (i := 4) sc_l_row_entries.nd rfl (.inl rfl) (pe_un un_neg pe_int))
      (pss_cons (ps_for PassesOwn.never rfl (pi_range1 (by rfl) T.m_range (pa_cons (pe_call G_l_take hr (by rfl) T.g_l_take T.f_l_take.kp T.b_l_take .nil pass0 (pa_cons (pv 0) (pa_cons (pe_op op_add (pv 1) pe_int) pa_nil))) pa_nil)) (pg_name (i := 5) sc_l_row_entries.nd rfl (.inl rfl))
      (pss_cons (ps_set (i := 4) sc_l_row_entries.nd rfl (.inl rfl) (pe_op op_add (pe_op op_add (pv 4) pe_int) (pe_ix (ixLK (K := K) rfl) (pe_lst (pa_cons pe_int (pa_cons pe_int (pa_cons pe_int (pa_cons pe_int pa_nil))))) (pe_call G_l_take hr (by rfl) T.g_l_take T.f_l_take.kp T.b_l_take .nil pass0 (pa_cons (pv 0) (pa_cons pe_int pa_nil))) (fun _ _ => rfl))))
      (pss_cons (ps_set (i := 6) sc_l_row_entries.nd rfl (.inl rfl) (pe_lst pa_nil))
      (pss_cons (ps_set (i := 7) sc_l_row_entries.nd rfl (.inl rfl) (pe_un un_neg pe_int))
      (pss_cons (ps_for PassesOwn.never rfl (pi_range1 (by rfl) T.m_range (pa_cons (pe_op op_add pe_int (pe_call G_l_take hr (by rfl) T.g_l_take T.f_l_take.kp T.b_l_take .nil pass0 (pa_cons (pv 0) (pa_cons (pv 2) pa_nil)))) pa_nil)) (pg_name (i := 8) sc_l_row_entries.nd rfl (.inl rfl))
      (pss_cons (ps_set (i := 7) sc_l_row_entries.nd rfl (.inl rfl) (pe_op op_add (pe_op op_add (pv 7) pe_int) (pe_ix (ixLK (K := K) rfl) (pe_lst (pa_cons pe_int (pa_cons pe_int (pa_cons (pe_call G_l_take hr (by rfl) T.g_l_take T.f_l_take.kp T.b_l_take .nil pass0 (pa_cons (pv 0) (pa_cons pe_int pa_nil))) (pa_cons (pe_op op_add pe_int (pe_call G_l_take hr (by rfl) T.g_l_take T.f_l_take.kp T.b_l_take .nil pass0 (pa_cons (pv 0) (pa_cons pe_int pa_nil)))) pa_nil))))) (pe_call G_l_take hr (by rfl) T.g_l_take T.f_l_take.kp T.b_l_take .nil pass0 (pa_cons (pv 0) (pa_cons pe_int pa_nil))) (fun _ _ => rfl))))
      (pss_one (ps_expr (pe_bm PySem.F.plainAttrs_list PySem.F.slot_list_append PySem.F.type_list_append mt_append (pv 6) (pa_cons (pv 7) pa_nil))))))
      (pss_one (ps_expr (pe_bm PySem.F.plainAttrs_list PySem.F.slot_list_append PySem.F.type_list_append mt_append (pv 3) (pa_cons (pe_tup (pa_cons (pv 4) (pa_cons (pe_callTy (tupK (K := K) rfl) (by rfl) T.m_tuple (by decide +kernel) (pa_cons (pv 6) pa_nil)) pa_nil))) pa_nil)))))))))
      (pss_one (ps_ret (pv 3)))))), ?_⟩
    refine ⟨Nat.zero_le _, fun D nD => ⟨1, rfl, ?_⟩⟩
    have nDp := pool_ne hp nD
    refine ⟨.ref p, rfl, .int (many : Nat), rfl, _, 1, rfl, rfl, p, (many : Int) + 1, c, rfl, hp.ex (Ex.new nD), by omega, by omega, by omega, fun n H1 n0 n1 hp1 f1 => ?_⟩
    refine ⟨n, rfl, by omega, by omega, ?_⟩
    have fH1 : Fx p H H1 := (Fx.ex (Ex.new nD)).trans f1
    refine for_range (lo := 0) (n := n.toNat) (fun i σ' H' => ∃ (es : List En) (xs : List V) (o5 o6 o7 o8 : Option V), σ' = [some (.ref p), some (.int (many : Nat)), some (.int (most : Nat)), some (.ref D), some (.int (ah (slots es) i)), o5, o6, o7, o8] ∧
        H' D = some (.lst xs) ∧ EnsA H' xs es ∧ (∀ e ∈ es, EnOk e) ∧ Ris (slots es) ∧ es.length = i ∧ ah (slots es) i < 3 * (i : Int) ∧ (∀ e ∈ es, e.1 < 60) ∧ (∀ e ∈ es, ∀ n ∈ e.2, n < 68) ∧ Pl H' p (c + 1 + i * 14) ∧ Fx p H H')
      ⟨[], [], none, none, none, none, rfl, f1 _ _ nDp upd_same, ⟨rfl, fun i e g => nomatch g⟩, (fun e he => nomatch he), (fun i x g => nomatch g), rfl, by show (-1 : Int) < _; omega, (fun e he => nomatch he), (fun e he => nomatch he), hp1, fH1⟩ (fun i σ' H2 hi pv => ?_) (fun σ' H2 pv => ?_)
    · obtain ⟨es, xs, o5, o6, o7, o8, rfl, hD2, hE2, hok, hris, hlen, hah, hsl, hpl, hp2, f2⟩ := pv
      have ag := ah_ge (slots es) i
      -- the slot
      refine ⟨_, rfl, _, 1, rfl, rfl, by show 4 ≤ sizeLine; decide, fun L1 nL1 => ?_⟩
      have e3 := Ex.new (o := .lst [V.int 0, .int 0, .int 1, .int 2]) nL1
      have g3 := upd_same (H := H2) (a := L1) (o := .lst [V.int 0, .int 0, .int 1, .int 2])
      generalize (upd H2 L1 (.lst [V.int 0, .int 0, .int 1, .int 2])) = H3 at e3 g3 ⊢
      have nL1p := pool_ne hp2 nL1
      refine ⟨.ref p, rfl, p, 4, c + 1 + i * 14, rfl, hp2.ex e3, by decide, by decide, by omega, fun d H4 d0 d1 hp4 f4 => ?_⟩
      obtain ⟨v, av, v0, v2⟩ := pick4 d0 d1 (B := 2) (a := 0) (b := 0) (c := 1) (e := 2) (by omega) (by omega) (by omega) (by omega)
      refine ⟨L1, _, d, _, rfl, rfl, SqL.of (f4 _ _ nL1p g3), av, _, v, rfl, rfl, ?_⟩
      have hD4 := f4 _ _ nDp (e3 _ _ hD2)
      have hE4 := (hE2.ex e3).fx (hp2.ex e3) f4
      have fH4 : Fx p H H4 := f2.trans ((Fx.ex e3).trans f4)
      have sl0 : 0 ≤ ah (slots es) i + 1 + v := by omega
      have sl3 : ah (slots es) i + 1 + v < 3 * (((i + 1 : Nat)) : Int) := by omega
      have slg : ah (slots es) i < ah (slots es) i + 1 + v := by omega
      generalize hsl' : ah (slots es) i + 1 + v = sl at sl0 sl3 slg
      obtain ⟨sn, rfl⟩ := Int.eq_ofNat_of_zero_le sl0
      -- the places
      refine ⟨Nat.zero_le _, fun S nS => ⟨1, rfl, ?_⟩⟩
      have nSp := pool_ne hp4 nS
      have nDS : D ≠ S := ne_of_none hD4 nS
      refine ⟨.ref p, rfl, .int (most : Nat), rfl, p, (most : Int), c + 1 + i * 14 + 1, rfl, hp4.ex (Ex.new nS), by omega, by omega, by omega, fun k H5 k0 k1 hp5 f5 => ?_⟩
      refine ⟨1, k, rfl, rfl, 1 + k, rfl, by omega, by omega, ?_⟩
      have fH5 : Fx p H H5 := fH4.trans ((Fx.ex (Ex.new nS)).trans f5)
      have nSH : H S = none := fx_free fH4 hp4 nS
      refine for_range (lo := 0) (n := (1 + k).toNat) (fun j σ' H' => ∃ (ns : List Nat) (o8 : Option V), σ' = [some (.ref p), some (.int (many : Nat)), some (.int (most : Nat)), some (.ref D), some (.int (sn : Nat)), some (.int ((0 : Int) + i)), some (.ref S), some (.int (ah ns j)), o8] ∧
          H' S = some (.lst (nvs ns)) ∧ Ris ns ∧ ns.length = j ∧ ah ns j < 17 * (j : Int) ∧ (∀ n ∈ ns, n < 68) ∧ H' D = some (.lst xs) ∧ EnsA H' xs es ∧ Pl H' p (c + 1 + i * 14 + 2 + j * 3) ∧ Fx p H H')
        ⟨[], _, by rw [← hsl']; rfl, f5 _ _ nSp upd_same, (fun i x g => nomatch g), rfl, by show (-1 : Int) < _; omega, (fun n hn => nomatch hn), f5 _ _ nDp ((Ex.new nS) _ _ hD4), (hE4.ex (Ex.new nS)).fx (hp4.ex (Ex.new nS)) f5, hp5, fH5⟩ (fun j σ' H6 hj pv => ?_) (fun σ' H6 pv => ?_)
      · obtain ⟨ns, o8', rfl, hS6, hris6, hlen6, hah6, hpl6, hD6, hE6, hp6, f6⟩ := pv
        have ag6 := ah_ge ns j
        have jm : j < 4 := by omega
        refine ⟨_, rfl, _, 1, rfl, rfl, .ref p, rfl, p, 3, c + 1 + i * 14 + 2 + j * 3, rfl, hp6, by decide, by decide, by omega, fun a H7 a0 a1 hp7 f7 => ?_⟩
        refine ⟨.ref p, rfl, p, 4, c + 1 + i * 14 + 2 + j * 3 + 1, rfl, hp7, by decide, by decide, by omega, fun b H8 b0 b1 hp8 f8 => ?_⟩
        refine ⟨13, b, rfl, rfl, by show 4 ≤ sizeLine; decide, fun L2 nL2 => ?_⟩
        have e9 := Ex.new (o := .lst [V.int 0, .int 0, .int a, .int (13 + b)]) nL2
        have g9 := upd_same (H := H8) (a := L2) (o := .lst [V.int 0, .int 0, .int a, .int (13 + b)])
        generalize (upd H8 L2 (.lst [V.int 0, .int 0, .int a, .int (13 + b)])) = H9 at e9 g9 ⊢
        have nL2p := pool_ne hp8 nL2
        refine ⟨.ref p, rfl, p, 4, c + 1 + i * 14 + 2 + j * 3 + 2, rfl, hp8.ex e9, by decide, by decide, by omega, fun d' HA d0' d1' hpA fA => ?_⟩
        obtain ⟨u, au, u0, u16⟩ := pick4 d0' d1' (B := 16) (a := 0) (b := 0) (c := a) (e := 13 + b) (by omega) (by omega) (by omega) (by omega)
        refine ⟨L2, _, d', _, rfl, rfl, SqL.of (fA _ _ nL2p g9), au, _, u, rfl, rfl, ?_⟩
        have f7A : Fx p H6 HA := f7.trans (f8.trans ((Fx.ex e9).trans fA))
        have hSA := f7A _ _ nSp hS6
        have hDA := f7A _ _ nDp hD6
        have l0 : 0 ≤ ah ns j + 1 + u := by omega
        have l1 : ah ns j + 1 + u < 17 * (((j + 1 : Nat)) : Int) := by omega
        have lg : ah ns j < ah ns j + 1 + u := by omega
        generalize hla : ah ns j + 1 + u = la at l0 l1 lg
        obtain ⟨ln, rfl⟩ := Int.eq_ofNat_of_zero_le l0
        refine ⟨.ref S, rfl, .inl ⟨rfl, _, SqL.of hSA⟩, _, rfl, S, _, _, rfl, rfl, hSA, ?_, ns ++ [ln], some (.int ((0 : Int) + j)), ?_, ?_, ?_, ?_, ?_, ?_, ?_, ?_, ?_, ?_⟩
        · rw [nvs_len]
          exact sz_lt (by omega)
        · have e1 : ah (ns ++ [ln]) (j + 1) = (ln : Int) := by rw [← hlen6]; exact ah_snoc _ _
          rw [e1, ← hla]
          rfl
        · rw [upd_same, nvs_snoc, ← hla]
        · exact ris_snoc hris6 (by rw [hlen6]; exact lg)
        · rw [List.length_append, hlen6]
          rfl
        · rw [← hlen6, ah_snoc]
          rw [← hlen6] at l1
          exact l1
        · intro n hn
          rcases List.mem_append.mp hn with hn | hn
          · exact hpl6 n hn
          · rw [List.mem_singleton.mp hn]
            omega
        · rw [upd_ne nDS]
          exact hDA
        · exact (hE6.fx hp6 f7A).updL hSA
        · exact (pl_upd hpA nSp).mono (by omega)
        · exact fx_mut (f6.trans f7A) nSH
      · obtain ⟨ns, o8', rfl, hS6, hris6, hlen6, hah6, hpl6, hD6, hE6, hp6, f6⟩ := pv
        have lk : ns.length ≤ 4 := by omega
        have l1 : 0 < ns.length := by omega
        refine ⟨.ref D, rfl, .inl ⟨rfl, _, SqL.of hD6⟩, .int (sn : Nat), rfl, .ref S, rfl, S, _, rfl, .inl ⟨SqL.of hS6, fun t nt => ?_⟩⟩
        have e7 := Ex.new (o := .tup (nvs ns)) nt
        have g7 := upd_same (H := H6) (a := t) (o := .tup (nvs ns))
        generalize (upd H6 t (.tup (nvs ns))) = H7 at e7 g7 ⊢
        refine ⟨by show 2 ≤ sizeLine; decide, fun y ny => ?_⟩
        have e8 := Ex.new (o := .tup [V.int (sn : Nat), .ref t]) ny
        have g8 := upd_same (H := H7) (a := y) (o := .tup [V.int (sn : Nat), .ref t])
        generalize (upd H7 y (.tup [V.int (sn : Nat), .ref t])) = H8 at e8 g8 ⊢
        have x68 := e7.trans e8
        have hD8 := x68 _ _ hD6
        have eo : EnOk (sn, ns) := ⟨hris6, l1, by show ns.length ≤ 120; omega, small_nat (by show sn ≤ 1000; omega), fun n hn => small_nat (by have := hpl6 n hn; omega)⟩
        have sle : slots (es ++ [(sn, ns)]) = slots es ++ [sn] := List.map_append ..
        have sll : (slots es).length = i := by rw [← hlen]; exact List.length_map ..
        have aho : ah (slots es ++ [sn]) (i + 1) = (sn : Int) := by rw [← sll]; exact ah_snoc _ _
        refine ⟨D, _, _, rfl, rfl, hD8, ?_, es ++ [(sn, ns)], _, some (.int ((0 : Int) + i)), some (.ref S), some (.int (ah ns (1 + k).toNat)), o8', ?_, upd_same, ?_, ?_, ?_, ?_, ?_, ?_, ?_, ?_, ?_⟩
        · rw [hE6.1]
          exact sz_lt (by omega)
        · rw [sle, aho]
        · exact EnsA.snoc ((hE6.ex x68).updL hD8) ⟨t, by rw [upd_ne (ne_of g8 hD8 (by intro z; cases z))]; exact g8, by rw [upd_ne (ne_of (e8 _ _ g7) hD8 (by intro z; cases z))]; exact e8 _ _ g7⟩
        · intro e he
          rcases List.mem_append.mp he with he | he
          · exact hok e he
          · rw [List.mem_singleton.mp he]
            exact eo
        · rw [sle]
          exact ris_snoc hris (by rw [sll]; exact slg)
        · rw [List.length_append, hlen]
          rfl
        · rw [sle, aho]
          exact sl3
        · intro e he
          rcases List.mem_append.mp he with he | he
          · exact hsl e he
          · rw [List.mem_singleton.mp he]
            show sn < 60
            omega
        · intro e he
          rcases List.mem_append.mp he with he | he
          · exact hpl e he
          · rw [List.mem_singleton.mp he]
            exact hpl6
        · exact (pl_upd (hp6.ex x68) nDp).mono (by omega)
        · exact fx_mut (f6.trans (Fx.ex x68)) nD
    · obtain ⟨es, xs, o5, o6, o7, o8, rfl, hD2, hE2, hok, hris, hlen, hah, hsl, hpl, hp2, f2⟩ := pv
      exact ⟨.ref D, rfl, q D xs es H2 nDp nD hD2 hE2 ⟨⟨hok, hris, by omega⟩, by omega, hsl, hpl⟩ (by omega) (hp2.mono (by omega)) f2⟩

/-! ### _law_lengths -/
theorem ris_le {xs : List Nat} (h : Ris xs) : ∀ (k i : Nat) {a b : Nat}, xs[i]? = some a → xs[i + k]? = some b → a ≤ b
  | 0, i, a, b, g1, g2 => by
    rw [Nat.add_zero, g1] at g2
    cases g2
    exact Nat.le_refl _
  | k + 1, i, a, b, g1, g2 => by
    have hi : i + k < xs.length := by
      have := (List.getElem?_eq_some_iff.mp g2).1
      omega
    have g3 := List.getElem?_eq_getElem hi
    have i1 := ris_le h k i g1 g3
    have i2 := h (i + k + 1) b g2
    have i3 : ah xs (i + k + 1) = ((xs[i + k] : Nat) : Int) := by
      show ((xs.getD (i + k) 0 : Nat) : Int) = _
      rw [getD_at g3]
    omega
theorem ris_last {xs : List Nat} (h : Ris xs) {n y : Nat} (hn : n ∈ xs) (g : xs[xs.length - 1]? = some y) : n ≤ y := by
  obtain ⟨i, hi, e⟩ := List.getElem_of_mem hn
  have g1 : xs[i]? = some n := by rw [List.getElem?_eq_getElem hi, e]
  exact ris_le h (xs.length - 1 - i) i g1 (by rw [show i + (xs.length - 1 - i) = xs.length - 1 by omega]; exact g)
theorem ah_last (xs : List Nat) : ((0 :: xs.map (· + 1))[xs.length]?) = some ((ah xs xs.length + 1).toNat) := by
  cases xs with
  | nil => rfl
  | cons a r =>
    have hi : r.length < (a :: r).length := by simp
    show ((a :: r).map (· + 1))[r.length]? = some ((((a :: r).getD r.length 0 : Nat) : Int) + 1).toNat
    rw [List.getElem?_map, List.getElem?_eq_getElem hi, getD_at (List.getElem?_eq_getElem hi)]
    show some ((a :: r)[r.length] + 1) = _
    congr 1
/-- the entries' slots lie below n -/
theorem slot_lt {es : List En} (h : Ris (slots es)) {e : En} (he : e ∈ es) : (e.1 : Int) < ah (slots es) es.length + 1 := by
  have hm : e.1 ∈ slots es := List.mem_map.mpr ⟨e, he, rfl⟩
  have l : (slots es).length = es.length := List.length_map ..
  have hp : 0 < es.length := List.length_pos_of_mem he
  have hi : (slots es).length - 1 < (slots es).length := by omega
  have g := List.getElem?_eq_getElem hi
  have := ris_last h hm g
  have e1 : ah (slots es) es.length = (((slots es)[(slots es).length - 1]'(by omega) : Nat) : Int) := by
    obtain ⟨k, hk⟩ : ∃ k, es.length = k + 1 := ⟨es.length - 1, by omega⟩
    rw [hk]
    show (((slots es).getD k 0 : Nat) : Int) = _
    rw [show k = (slots es).length - 1 by omega, getD_at g]
  omega
theorem fit_more {es : List En} {ls : List Nat} {v : Nat} (h : ∀ e ∈ es, e.1 < ls.length → ∀ n ∈ e.2, n < ls.getD e.1 0) (k : ∀ e ∈ es, e.1 = ls.length → ∀ n ∈ e.2, n < v) : ∀ e ∈ es, e.1 < ls.length + 1 → ∀ n ∈ e.2, n < (ls ++ [v]).getD e.1 0 := fun e he hs n hn => by
  rcases Nat.lt_or_ge e.1 ls.length with lt | ge
  · have e1 : (ls ++ [v]).getD e.1 0 = ls.getD e.1 0 := by
      rw [List.getD_eq_getElem?_getD, List.getElem?_append_left lt, List.getD_eq_getElem?_getD]
    rw [e1]
    exact h e he lt n hn
  · have e0 : e.1 = ls.length := by omega
    have e1 : (ls ++ [v]).getD e.1 0 = v := by
      rw [List.getD_eq_getElem?_getD, e0, List.getElem?_append_right (Nat.le_refl _)]
      simp
    rw [e1]
    exact k e he e0 n hn
theorem pick3 {a b c d : Int} (h0 : 0 ≤ d) (h1 : d < 3) {B : Int} (ka : 0 ≤ a ∧ a ≤ B) (kb : 0 ≤ b ∧ b ≤ B) (kc : 0 ≤ c ∧ c ≤ B) : ∃ v : Int, atI [V.int a, .int b, .int c] d = some (.int v) ∧ 0 ≤ v ∧ v ≤ B := by
  obtain ⟨j, rfl⟩ := Int.eq_ofNat_of_zero_le h0
  match j, h1 with
  | 0, _ => exact ⟨a, atI_nat rfl, ka⟩
  | 1, _ => exact ⟨b, atI_nat rfl, kb⟩
  | 2, _ => exact ⟨c, atI_nat rfl, kc⟩
  | j + 3, h => omega
def spLens : Sp := fun vs H Q _ => ∃ (p l : Addr) (c : Nat) (xs : List V) (es : List En), vs = [.ref p, .ref l] ∧ Pl H p c ∧ c < 900000 ∧ l ≠ p ∧ H l = some (.lst xs) ∧ EnsA H xs es ∧ EnsL es ∧
  ∀ (m : Addr) (ls : List Nat) (H' : Hp), m ≠ p → H m = none → H' m = some (.lst (nvs ls)) → Fit es ls → Pl H' p (c + 200) → Fx p H H' → Q (.ref m) H'
set_option maxHeartbeats 8000000 in
theorem ok_l_lengths (T : TX K mg A FD TK) : FnOk P w K mg base CX0 2 (A 59) (FD 59) ["_law_pool_here", "_law_entries"] spLens := by
  have G_l_take := ok_l_take (P := P) (w := w) (base := base) T
  refine T.f_l_lengths.ok (k := 1) sc_l_lengths (fun vs H Q E h => ?_) (fun cdv A' outer s H vs Q E hr h => ?_)
  · obtain ⟨p, l, c, xs, es, rfl, _⟩ := h
    rfl
  · obtain ⟨p, l, c, xs, es, rfl, hp, hc, nlp, hl, hE, hL, q⟩ := h
    refine ⟨_, (pss_cons (ps_set (i := 2) sc_l_lengths.nd rfl (.inl rfl) (pe_lst pa_nil))
      (pss_cons (ps_for PassesOwn.never rfl (pi_range1 (by rfl) T.m_range (pa_cons (pe_callB (call_min2 rfl) (by rfl) T.m_min (by decide +kernel) (pa_cons pe_int (pa_cons (pe_op op_add (pe_ix (ixLK (K := K) rfl) (pe_lc (own := [("_law_slot", 3), ("_law_spots", 5)])  rfl sc_l_lengths.nd (piLK (K := K) rfl (pe_op op_cat (pe_lst (pa_cons (pe_tup (pa_cons (pe_un un_neg pe_int) (pa_cons (pe_tup pa_nil) pa_nil))) pa_nil)) (pv 1))) (blkOk_by (own := [("_law_slot", 3), ("_law_spots", 5)]) (N := N_l_lengths) (sc := defScope (topS 59)) (by decide +kernel)) (fun _ _ _ _ _ => (tupGK (K := K) (n := 2) rfl rfl (pgs_cons (pg_name (i := 3) sc_l_lengths.nd rfl (Or.inl rfl)) (pgs_cons (pg_name (i := 5) sc_l_lengths.nd rfl (Or.inl rfl)) pgs_nil)))) (fun _ _ _ _ _ => pts_nil) (fun _ _ _ _ _ => (pe_op op_add (pv 3) pe_int))) (pe_un un_neg pe_int) (fun _ _ => rfl)) (pe_call G_l_take hr (by rfl) T.g_l_take T.f_l_take.kp T.b_l_take .nil pass0 (pa_cons (pv 0) (pa_cons pe_int pa_nil)))) pa_nil))) pa_nil)) (pg_name (i := 3) sc_l_lengths.nd rfl (.inr rfl))
      (pss_cons (ps_setLc (i := 4) (own := [("_law_other", 6), ("_law_spots", 5)])  rfl sc_l_lengths.nd rfl rfl (sw_true rfl rfl rfl (by decide +kernel)) (piLK (K := K) rfl (pv 1)) (blkOk_by (own := [("_law_other", 6), ("_law_spots", 5)]) (N := N_l_lengths) (sc := defScope (topS 59)) (by decide +kernel)) (fun _ _ _ _ _ => (tupGK (K := K) (n := 2) rfl rfl (pgs_cons (pg_name (i := 6) sc_l_lengths.nd rfl (Or.inl rfl)) (pgs_cons (pg_name (i := 5) sc_l_lengths.nd rfl (Or.inl rfl)) pgs_nil)))) (fun _ _ _ _ _ => (pts_one (pt_cmpR op_eq (pv 6) (pv 3) (nomark _)))) (fun _ _ _ _ _ => (pe_op op_add (pe_ix (ixTK (K := K) rfl) (pv 5) (pe_un un_neg pe_int) (fun _ _ => rfl)) pe_int)))
      (pss_one (ps_expr (pe_bm PySem.F.plainAttrs_list PySem.F.slot_list_append PySem.F.type_list_append mt_append (pv 2) (pa_cons (pe_callB (call_min2 rfl) (by rfl) T.m_min (by decide +kernel) (pa_cons pe_int (pa_cons (pe_op op_add (pe_callB (maxK (K := K) rfl rfl) (by rfl) T.m_max (by decide +kernel) (pa_cons (pe_op op_cat (pe_lst (pa_cons pe_int pa_nil)) (pv 4)) pa_nil)) (pe_ix (ixLK (K := K) rfl) (pe_lst (pa_cons pe_int (pa_cons (pe_call G_l_take hr (by rfl) T.g_l_take T.f_l_take.kp T.b_l_take .nil pass0 (pa_cons (pv 0) (pa_cons pe_int pa_nil))) (pa_cons (pe_call G_l_take hr (by rfl) T.g_l_take T.f_l_take.kp T.b_l_take .nil pass0 (pa_cons (pv 0) (pa_cons pe_int pa_nil))) pa_nil)))) (pe_call G_l_take hr (by rfl) T.g_l_take T.f_l_take.kp T.b_l_take .nil pass0 (pa_cons (pv 0) (pa_cons pe_int pa_nil))) (fun _ _ => rfl))) pa_nil))) pa_nil))))))
      (pss_one (ps_ret (pv 2))))), ?_⟩
    refine ⟨Nat.zero_le _, fun D nD => ?_⟩
    have nDp := pool_ne hp nD
    have few := hL.few
    have e1 := Ex.new (o := .lst []) nD
    have hD1 := upd_same (H := H) (a := D) (o := .lst [])
    generalize (upd H D (.lst [])) = H1 at e1 hD1 ⊢
    refine ⟨1, rfl, Nat.zero_le _, fun u0 nu0 => ?_⟩
    have e2 := Ex.new (o := .tup []) nu0
    generalize (upd H1 u0 (.tup [])) = H2 at e2 ⊢
    refine ⟨by show 2 ≤ sizeLine; decide, fun t0 nt0 => ?_⟩
    have e3 := Ex.new (o := .tup [V.int (-1), .ref u0]) nt0
    have g3 := upd_same (H := H2) (a := t0) (o := .tup [V.int (-1), .ref u0])
    generalize hH3 : (upd H2 t0 (.tup [V.int (-1), .ref u0])) = H3 at e3 g3 ⊢
    refine ⟨by show 1 ≤ sizeLine; decide, fun L0 nL0 => ?_⟩
    have e4 := Ex.new (o := .lst [V.ref t0]) nL0
    have g4 := upd_same (H := H3) (a := L0) (o := .lst [V.ref t0])
    generalize (upd H3 L0 (.lst [V.ref t0])) = H4 at e4 g4 ⊢
    have x4 := ((e1.trans e2).trans e3).trans e4
    have xl := hE.1
    refine ⟨.ref l, rfl, L0, l, _, _, rfl, rfl, g4, x4 _ _ hl, by show 1 + xs.length ≤ sizeLine; exact sz (by omega), fun R nR => ?_⟩
    have e5 := Ex.new (o := .lst ([V.ref t0] ++ xs)) nR
    have g5 := upd_same (H := H4) (a := R) (o := .lst ([V.ref t0] ++ xs))
    generalize (upd H4 R (.lst ([V.ref t0] ++ xs))) = H5 at e5 g5 ⊢
    have x5 := x4.trans e5
    have ht0 := e5 _ _ (e4 _ _ g3)
    refine ⟨R, rfl, ⟨_, SqL.of g5⟩, fun D2 nD2 => ?_⟩
    refine lc_list (K := K) (xs := [V.ref t0] ++ xs) (fun i H' => Ex H5 H' ∧ H' D2 = some (.lst (nvs ((0 :: (slots es).map (· + 1)).take i)))) ⟨Ex.new nD2, upd_same⟩ (fun i H' _ p => ex_l p.1 (SqL.of g5)) (fun i v H6 hv p => ?_) (fun H6 p => ?_)
    · obtain ⟨p1, p2⟩ := p
      have hlt : i < 1 + xs.length := by
        have := (List.getElem?_eq_some_iff.mp hv).1
        rw [List.length_append, List.length_singleton] at this
        exact this
      have lenc : (nvs ((0 :: (slots es).map (· + 1)).take i)).length < sizeLine := by
        rw [nvs_len, List.length_take]
        exact sz_lt (by omega)
      cases i with
      | zero =>
        cases hv
        exact ⟨t0, _, rfl, SqT.of (p1 _ _ ht0), rfl, _, _, rfl, _, _, rfl, rfl, rfl, _, rfl, -1, 1, rfl, rfl, _, p2, lenc, Ex.mut p1 nD2, upd_same⟩
      | succ i =>
        have hv' : xs[i]? = some v := hv
        obtain ⟨e, a, ge, rfl, hA⟩ := (hE.ex x5).at hv'
        obtain ⟨t, ha, ht⟩ := hA.ex p1
        refine ⟨a, _, rfl, SqT.of ha, rfl, _, _, rfl, _, _, rfl, rfl, rfl, _, rfl, (e.1 : Int), 1, rfl, rfl, _, p2, lenc, Ex.mut p1 nD2, ?_⟩
        have gs : ((slots es).map (· + 1))[i]? = some (e.1 + 1) := by
          rw [List.getElem?_map, slots_at ge]
          rfl
        rw [upd_same, List.take_succ_cons, List.take_succ_cons, take_up gs, ← List.cons_append, nvs_snoc]
        rfl
    obtain ⟨p1, p2⟩ := p
    rw [List.take_of_length_le (by simp [slots, xl])] at p2
    have x6 := x5.trans p1
    have sl : (slots es).length = es.length := List.length_map ..
    have la := ah_last (slots es)
    rw [sl] at la
    have lav : (nvs (0 :: (slots es).map (· + 1)))[(nvs (0 :: (slots es).map (· + 1))).length - 1]? = some (.int (ah (slots es) es.length + 1)) := by
      rw [nvs_len]
      unfold nvs
      rw [List.getElem?_map, List.length_cons, List.length_map, sl, Nat.add_sub_cancel, la]
      have := ah_ge (slots es) es.length
      show some (V.int (((ah (slots es) es.length + 1).toNat : Nat) : Int)) = _
      rw [Int.toNat_of_nonneg (by omega)]
    refine ⟨1, rfl, D2, _, _, _, rfl, rfl, SqL.of p2, atI_end lav, ?_⟩
    refine ⟨.ref p, rfl, p, 3, c, rfl, hp.ex x6, by decide, by decide, by omega, fun d H7 d0 d1 hp7 f7 => ?_⟩
    refine ⟨_, d, rfl, rfl, 60, _, rfl, ?_⟩
    have a60 : ah (slots es) es.length + 1 ≤ 60 := by
      cases hk : es.length with
      | zero => show (-1 : Int) + 1 ≤ 60; omega
      | succ k =>
        have hi : k < es.length := by omega
        have := hL.slot es[k] (List.getElem_mem hi)
        show (((slots es).getD k 0 : Nat) : Int) + 1 ≤ 60
        rw [getD_at (slots_at (List.getElem?_eq_getElem hi))]
        omega
    have ag := ah_ge (slots es) es.length
    have nb0 : 0 ≤ (if ah (slots es) es.length + 1 + d < 60 then ah (slots es) es.length + 1 + d else 60) := by split <;> omega
    have nb1 : (if ah (slots es) es.length + 1 + d < 60 then ah (slots es) es.length + 1 + d else 60) ≤ 60 := by split <;> omega
    have nb2 : ah (slots es) es.length + 1 ≤ (if ah (slots es) es.length + 1 + d < 60 then ah (slots es) es.length + 1 + d else 60) := by split <;> omega
    refine ⟨if ah (slots es) es.length + 1 + d < 60 then ah (slots es) es.length + 1 + d else 60, rfl, by omega, by omega, ?_⟩
    generalize (if ah (slots es) es.length + 1 + d < 60 then ah (slots es) es.length + 1 + d else 60) = nn at nb0 nb1 nb2 ⊢
    have fH7 : Fx p H H7 := (Fx.ex x6).trans f7
    refine for_range (lo := 0) (n := nn.toNat) (fun i σ' H' => ∃ (ls : List Nat) (o3 o4 o5 o6 : Option V), σ' = [some (.ref p), some (.ref l), some (.ref D), o3, o4, o5, o6] ∧ ls.length = i ∧ (∀ n ∈ ls, n ≤ 120) ∧ (∀ e ∈ es, e.1 < ls.length → ∀ n ∈ e.2, n < ls.getD e.1 0) ∧
        H' D = some (.lst (nvs ls)) ∧ EnsA H' xs es ∧ Pl H' p (c + 1 + i * 3) ∧ Fx p H H')
      ⟨[], none, none, none, none, rfl, rfl, (fun n hn => nomatch hn), (fun e he hs => absurd hs (Nat.not_lt_zero _)), f7 _ _ nDp (((((e2.trans e3).trans e4).trans e5).trans p1) _ _ hD1), (hE.ex x6).fx (hp.ex x6) f7, hp7, fH7⟩ (fun i σ' H8 hi pv => ?_) (fun σ' H8 pv => ?_)
    · obtain ⟨ls, o3, o4, o5, o6, rfl, hlen, h120, hfit, hD8, hE8, hp8, f8⟩ := pv
      have hl8 := f8 _ _ nlp hl
      refine ⟨.ref l, rfl, l, rfl, ⟨_, SqL.of hl8⟩, fun D3 nD3 => ?_⟩
      refine lc_list (K := K) (xs := xs) (fun k H' => Ex H8 H' ∧ ∃ zs : List Nat, H' D3 = some (.lst (nvs zs)) ∧ zs.length ≤ k ∧ (∀ z ∈ zs, z ≤ 68) ∧ ∀ e ∈ es.take k, e.1 = i → ∀ n ∈ e.2, ∃ z ∈ zs, n < z) ⟨Ex.new nD3, [], upd_same, Nat.le_refl _, (fun z hz => nomatch hz), fun e he => by simp at he⟩ (fun k H' _ p => ex_l p.1 (SqL.of hl8)) (fun k v H9 hv p => ?_) (fun H9 p => ?_)
      · obtain ⟨p1, zs, p2, p3, p4, p5⟩ := p
        obtain ⟨e, a, ge, rfl, hA⟩ := hE8.at hv
        obtain ⟨t, ha, ht⟩ := hA.ex p1
        have em := List.mem_of_getElem? ge
        have eo := hL.ens.ok e em
        have h0 := eo.some
        have hk : k < xs.length := (List.getElem?_eq_some_iff.mp hv).1
        have gl : e.2[e.2.length - 1]? = some (e.2[e.2.length - 1]'(by omega)) := List.getElem?_eq_getElem _
        have lm : e.2[e.2.length - 1]'(by omega) ∈ e.2 := List.getElem_mem _
        generalize e.2[e.2.length - 1]'(by omega) = y at gl lm
        have gy : (nvs e.2)[(nvs e.2).length - 1]? = some (.int (y : Int)) := by
          rw [nvs_len]
          unfold nvs
          rw [List.getElem?_map, gl]
          rfl
        refine ⟨a, _, rfl, SqT.of ha, rfl, _, _, rfl, _, _, rfl, rfl, rfl, .int (e.1 : Int), rfl, .int ((0 : Int) + i), rfl, rfl, _, rfl, ite2 (fun cc => ?_) (fun cc => ?_)⟩
        · refine ⟨.ref t, rfl, 1, rfl, t, _, _, _, rfl, rfl, SqT.of ht, atI_end gy, _, 1, rfl, rfl, _, p2, ?_, Ex.mut p1 nD3, zs ++ [y + 1], ?_, ?_, ?_, ?_⟩
          · rw [nvs_len]
            exact sz_lt (by omega)
          · rw [upd_same, nvs_snoc]
            rfl
          · rw [List.length_append]
            show zs.length + 1 ≤ k + 1
            omega
          · intro z hz
            rcases List.mem_append.mp hz with hz | hz
            · exact p4 z hz
            · rw [List.mem_singleton.mp hz]
              have := hL.place e em y lm
              omega
          · intro f hf hfi n hn
            rw [take_up ge] at hf
            rcases List.mem_append.mp hf with hf | hf
            · obtain ⟨z, hz, lz⟩ := p5 f hf hfi n hn
              exact ⟨z, List.mem_append_left _ hz, lz⟩
            · rw [List.mem_singleton.mp hf] at hn
              exact ⟨y + 1, List.mem_append_right _ (List.mem_singleton.mpr rfl), by have := ris_last eo.ris hn gl; omega⟩
        · refine ⟨p1, zs, p2, by omega, p4, fun f hf hfi n hn => ?_⟩
          rw [take_up ge] at hf
          rcases List.mem_append.mp hf with hf | hf
          · exact p5 f hf hfi n hn
          · rw [List.mem_singleton.mp hf] at hfi
            exact absurd (decide_eq_true (congrArg V.int (show (e.1 : Int) = 0 + (i : Int) by omega))) cc
      obtain ⟨p1, zs, p2, p3, p4, p5⟩ := p
      rw [xl, List.take_length] at p5
      have hD9 := p1 _ _ hD8
      have hp9 := hp8.ex p1
      refine ⟨.ref D, rfl, .inl ⟨rfl, _, SqL.of hD9⟩, by show 1 ≤ sizeLine; decide, fun L1 nL1 => ?_⟩
      have eA := Ex.new (o := .lst [V.int 0]) nL1
      have gA := upd_same (H := H9) (a := L1) (o := .lst [V.int 0])
      generalize (upd H9 L1 (.lst [V.int 0])) = HA at eA gA ⊢
      refine ⟨.ref D3, rfl, L1, D3, _, _, rfl, rfl, gA, eA _ _ p2, by show 1 + (nvs zs).length ≤ sizeLine; rw [nvs_len]; exact sz (by omega), fun R1 nR1 => ?_⟩
      have eB := Ex.new (o := .lst ([V.int 0] ++ nvs zs)) nR1
      have gB := upd_same (H := HA) (a := R1) (o := .lst ([V.int 0] ++ nvs zs))
      generalize (upd HA R1 (.lst ([V.int 0] ++ nvs zs))) = HB at eB gB ⊢
      have gB' : HB R1 = some (.lst ((zsI (0 :: zs)).map V.int)) := by
        rw [gB, ← nvs_zs]
        rfl
      refine ⟨R1, _, rfl, SqL.of gB', by simp [zsI], fun mm hmm hmx => ?_⟩
      rw [mx_is hmm hmx]
      have x9B := eA.trans eB
      have hpB := hp9.ex x9B
      have mz : mxL (0 :: zs) ≤ 68 := by
        rcases List.mem_cons.mp (mxL_mem (ns := 0 :: zs) (by simp)) with h | h
        · omega
        · exact p4 _ h
      have mge : ∀ z ∈ zs, z ≤ mxL (0 :: zs) := fun z hz => mxL_ge (List.mem_cons_of_mem _ hz)
      generalize mxL (0 :: zs) = mv at mz mge
      refine ⟨.ref p, rfl, p, 4, c + 1 + i * 3, rfl, hpB, by decide, by decide, by omega, fun a HC a0 a1 hpC fC => ?_⟩
      refine ⟨.ref p, rfl, p, 90, c + 1 + i * 3 + 1, rfl, hpC, by decide, by decide, by omega, fun b HD b0 b1 hpD fD => ?_⟩
      refine ⟨by show 3 ≤ sizeLine; decide, fun L2 nL2 => ?_⟩
      have eE := Ex.new (o := .lst [V.int 0, .int a, .int b]) nL2
      have gE := upd_same (H := HD) (a := L2) (o := .lst [V.int 0, .int a, .int b])
      generalize (upd HD L2 (.lst [V.int 0, .int a, .int b])) = HE at eE gE ⊢
      have nL2p := pool_ne hpD nL2
      refine ⟨.ref p, rfl, p, 3, c + 1 + i * 3 + 1 + 1, rfl, hpD.ex eE, by decide, by decide, by omega, fun d' HF d0' d1' hpF fF => ?_⟩
      obtain ⟨u, au, u0, u90⟩ := pick3 d0' d1' (B := 90) (a := 0) (b := a) (c := b) (by omega) (by omega) (by omega)
      have fall : Fx p H8 HF := (Fx.ex (p1.trans x9B)).trans (fC.trans (fD.trans ((Fx.ex eE).trans fF)))
      have hDF := fall _ _ nDp hD8
      refine ⟨L2, _, d', _, rfl, rfl, SqL.of (fF _ _ nL2p gE), au, _, u, rfl, rfl, 120, _, rfl, D, _, _, rfl, rfl, hDF, ?_, ?_⟩
      · rw [nvs_len]
        exact sz_lt (by omega)
      · have w0 : 0 ≤ (if ((mv : Nat) : Int) + u < 120 then ((mv : Nat) : Int) + u else 120) := by split <;> omega
        have w1 : (if ((mv : Nat) : Int) + u < 120 then ((mv : Nat) : Int) + u else 120) ≤ 120 := by split <;> omega
        have w2 : ((mv : Nat) : Int) ≤ (if ((mv : Nat) : Int) + u < 120 then ((mv : Nat) : Int) + u else 120) := by split <;> omega
        show ∃ (ls2 : List Nat) (o3 o4 o5 o6 : Option V), _ ∧ ls2.length = i + 1 ∧ _ ∧ _ ∧ (upd HF D (.lst (nvs ls ++ [V.int (if ((mv : Nat) : Int) + u < 120 then ((mv : Nat) : Int) + u else 120)]))) D = _ ∧ _
        generalize (if ((mv : Nat) : Int) + u < 120 then ((mv : Nat) : Int) + u else 120) = w at w0 w1 w2 ⊢
        obtain ⟨wn, rfl⟩ := Int.eq_ofNat_of_zero_le w0
        refine ⟨ls ++ [wn], some (.int ((0 : Int) + i)), some (.ref D3), o5, o6, rfl, ?_, ?_, ?_, ?_, ?_, ?_, ?_⟩
        · rw [List.length_append, hlen]
          rfl
        · intro n hn
          rcases List.mem_append.mp hn with hn | hn
          · exact h120 n hn
          · rw [List.mem_singleton.mp hn]
            omega
        · intro e he hs
          rw [List.length_append] at hs
          refine fit_more hfit (fun f hf hfi n hn => ?_) e he hs
          obtain ⟨z, hz, lz⟩ := p5 f hf (by omega) n hn
          have := mge z hz
          omega
        · rw [upd_same, nvs_snoc]
        · exact (hE8.fx hp8 fall).updL hDF
        · exact (pl_upd hpF nDp).mono (by omega)
        · exact fx_mut (f8.trans fall) nD
    · obtain ⟨ls, o3, o4, o5, o6, rfl, hlen, h120, hfit, hD8, hE8, hp8, f8⟩ := pv
      refine ⟨.ref D, rfl, q D ls H8 nDp nD hD8 ⟨by omega, h120, fun e he => ?_⟩ (hp8.mono (by omega)) f8⟩
      have := slot_lt hL.ens.ris he
      have lt : e.1 < ls.length := by omega
      exact ⟨lt, hfit e he lt⟩

/-! ### Row(..) -/
theorem kb_row (T : TX K mg A FD TK) : KBn K (FD 63) ["self", "word", "entries", "lengths", "size"] 4 ["size"] (fun us ws => us ++ ws) (fun vs zs => vs ++ zs) := by
  obtain ⟨oc, od, dV, kV, doc, pm, an, cdv, ct, osl, e, lk, hcd, hD, hK⟩ := T.f_Row_init.ex
  rcases hD with ⟨_, rfl⟩ | ⟨e', _⟩
  · rw [e]
    rcases hK with e' | ⟨D, rfl, _⟩
    · cases e'
    · exact ⟨fun s us ws _ l1 l2 => match us, ws, l1, l2 with | [_, _, _, _], [_], _, _ => .of_eq rfl, fun r1 r2 => r1.append r2⟩
  · exact absurd rfl e'
theorem bd_row (T : TX K mg A FD TK) : ∃ ds, Vals [V.int 4] ds ∧ Binds K (FD 63) ["self", "word", "entries", "lengths", "size"] ds :=
  T.f_Row_init.binds0 4 (by simp) rfl fun D doc pm an cdv ct us ks l1 l2 => match us, ks, l1, l2 with
    | [_, _, _, _], [_], _, _ => ⟨_, _, _, _, _, _, rfl, rfl, rfl⟩
/-- the row is made -/
theorem mk_row {CR CB : Addr} {H : Hp} {x dx l m : Addr} {xs : List V} {z : Str} {s : Nat} {es : List En} {ls : List Nat} {R : Hp → Prop} {E : XK} (nx : H x = none) (nd : H dx = none) (hl : H l = some (.lst xs)) (hE : EnsA H xs es) (hm : H m = some (.lst (nvs ls))) (hR : RowIs z s es ls) (q : ∀ H', Ex H H' → RowAt CR CB H' x z s es ls → R H') :
    spRIn CR CB [.ref x, .str z, .ref l, .ref m, .int (s : Nat)] (upd (upd H dx (.own x)) x (.ins CR dx [])) (fun v H2 => v = .non ∧ R H2) E := by
  have e := ex2 (o := .own x) (u := .ins CR dx []) nx nd
  exact ⟨x, dx, l, m, xs, z, s, es, ls, rfl, upd_same, e _ _ hl, hE.ex e, e _ _ hm, hR, fun H' t bs i h1 h2 h3 => ⟨rfl, q H' (ExI.new nx nd i) ⟨dx, t, bs, h1, h2, h3⟩⟩⟩
theorem BlksAt.updL {CB D : Addr} {H : Hp} {bs : List Addr} {s : Nat} {es : List En} {ls : List Nat} {xs : List V} {o : HO} (h : BlksAt CB H bs s es ls) (hD : H D = some (.lst xs)) : BlksAt CB (upd H D o) bs s es ls := ⟨h.1, fun i b g => (h.2 i b g).updL hD⟩
theorem RowAt.updL {CR CB D : Addr} {H : Hp} {r : Addr} {z : Str} {s : Nat} {es : List En} {ls : List Nat} {xs : List V} {o : HO} (h : RowAt CR CB H r z s es ls) (hD : H D = some (.lst xs)) : RowAt CR CB (upd H D o) r z s es ls := by
  obtain ⟨dx, t, bs, h1, h2, h3⟩ := h
  exact ⟨dx, t, bs, by rw [upd_ne (ne_of h1 hD (by intro z; cases z))]; exact h1, by rw [upd_ne (ne_of h2 hD (by intro z; cases z))]; exact h2, h3.updL hD⟩
theorem EnsL.row {es : List En} {ls : List Nat} {z : Str} {s : Nat} (h : EnsL es) (f : Fit es ls) (hz : isW z = true) (h1 : 1 ≤ s) (h8 : s ≤ 8) : RowIs z s es ls := ⟨hz, h1, h8, h.ens, f⟩

/-! ### law -/
def spLaw (K : PySem.W.Frag) : Sp := fun vs H Q _ => ∃ (a : Addr) (ns : List Int), vs = [.ref a] ∧ SqL K H a (ns.map V.int) ∧ ns.length ≤ 63 ∧ ∀ H', Q (.bl true) H'
theorem maxmin6 (n : Nat) : 1 ≤ (if (if (n : Int) < 6 then (n : Int) else 6) > 1 then (if (n : Int) < 6 then (n : Int) else 6) else 1) ∧ (if (if (n : Int) < 6 then (n : Int) else 6) > 1 then (if (n : Int) < 6 then (n : Int) else 6) else 1) ≤ 6 := by
  constructor
  · split <;> split <;> omega
  · split <;> split <;> omega
theorem fx_new {p : Addr} {H H1 H2 : Hp} (n : H p = none) (e : Ex H H1) (f : Fx p H1 H2) : Ex H H2 := fun a o h => f a o (ne_of_none h n) (e a o h)
theorem RowAt.keep {CR CB : Addr} {H H' : Hp} {r : Addr} {z : Str} {s : Nat} {es : List En} {ls : List Nat} (h : RowAt CR CB H r z s es ls) (ki : ∀ b C dx fs, H b = some (.ins C dx fs) → H' b = some (.ins C dx fs)) (kt : ∀ b zs, H b = some (.tup zs) → H' b = some (.tup zs)) : RowAt CR CB H' r z s es ls := by
  obtain ⟨dx, t, bs, h1, h2, h3⟩ := h
  refine ⟨dx, t, bs, ki _ _ _ _ h1, kt _ _ h2, h3.1, fun i b g => ?_⟩
  obtain ⟨db, hb⟩ := h3.2 i b g
  exact ⟨db, ki _ _ _ _ hb⟩
theorem cut1 (xs : List V) : cutV xs none (some 1) = xs.take 1 := by
  unfold cutV
  rw [HT.sIx_none, show (1 : Int) = ((1 : Nat) : Int) from rfl, HT.sIx_nat, Nat.sub_zero, List.drop_zero]
  cases xs with
  | nil => rfl
  | cons x l => rw [List.length_cons, show min 1 (l.length + 1) = 1 by omega]
/-- rows and their lists of slots, in two lists -/
structure Both (CR CB : Addr) (H : Hp) (L S : Addr) (rs : List Rw) (as : List Addr) : Prop where
  gL : H L = some (.lst (rs.map fun (w : Rw) => V.ref w.r))
  gS : H S = some (.lst (as.map V.ref))
  at' : ∀ w ∈ rs, RowAt CR CB H w.r w.z w.s w.es w.ls
  is : ∀ w ∈ rs, RowIs w.z w.s w.es w.ls
  sl : SlsA H as rs
section
variable {CR CB : Addr} {H H' : Hp} {L S L' S' : Addr} {rs : List Rw} {as : List Addr}
theorem Both.ex (h : Both CR CB H L S rs as) (e : Ex H H') : Both CR CB H' L S rs as := ⟨e _ _ h.gL, e _ _ h.gS, fun w hw => (h.at' w hw).ex e, h.is, h.sl.ex e⟩
theorem Both.all (h : Both CR CB H L S rs as) (few : rs.length ≤ 60) : RsAt CR CB H rs := ⟨h.at', h.is, few⟩
theorem Both.one (h : Both CR CB H L S rs as) (gL : H L' = some (.lst ((rs.take 1).map fun (w : Rw) => V.ref w.r))) (gS : H S' = some (.lst ((as.take 1).map V.ref))) : Both CR CB H L' S' (rs.take 1) (as.take 1) := by
  refine ⟨gL, gS, fun w hw => h.at' w (List.mem_of_mem_take hw), fun w hw => h.is w (List.mem_of_mem_take hw), ?_, fun i r g => ?_⟩
  · rw [List.length_take, List.length_take, h.sl.1]
  · have hi := (List.getElem?_eq_some_iff.mp g).1
    rw [List.length_take] at hi
    have i0 : i = 0 := by omega
    subst i0
    rw [List.getElem?_take_of_lt (by decide)] at g ⊢
    exact h.sl.2 0 r g
theorem Both.more (h : Both CR CB H L S rs as) (gL : H L' = some (.lst ((rs ++ rs.take 1).map fun (w : Rw) => V.ref w.r))) (gS : H S' = some (.lst ((as ++ as.take 1).map V.ref))) : Both CR CB H L' S' (rs ++ rs.take 1) (as ++ as.take 1) := by
  refine ⟨gL, gS, fun w hw => (List.mem_append.mp hw).elim (h.at' w) fun hw => h.at' w (List.mem_of_mem_take hw), fun w hw => (List.mem_append.mp hw).elim (h.is w) fun hw => h.is w (List.mem_of_mem_take hw), ?_, fun i r g => ?_⟩
  · rw [List.length_append, List.length_append, List.length_take, List.length_take, h.sl.1]
  · by_cases c : i < rs.length
    · rw [List.getElem?_append_left c] at g
      rw [List.getElem?_append_left (by rw [h.sl.1]; exact c)]
      exact h.sl.2 i r g
    · rw [List.getElem?_append_right (by omega)] at g
      rw [List.getElem?_append_right (by rw [h.sl.1]; omega), h.sl.1]
      have hi := (List.getElem?_eq_some_iff.mp g).1
      rw [List.length_take] at hi
      rw [List.getElem?_take_of_lt (by omega)] at g ⊢
      exact h.sl.2 _ r g
end
structure S18 (CR CB : Addr) (H0 : Hp) (p kk L S : Addr) (zs : List Str) (rs : List Rw) (as : List Addr) (c : Nat) (H : Hp) : Prop where
  pl : Pl H p c
  gK : H kk = some (.lst (zs.map V.str))
  b : Both CR CB H L S rs as
  ne : ∀ a ∈ as, a ≠ p ∧ a ≠ L ∧ a ≠ S
  ex : Ex H0 H
structure C18 (H0 : Hp) (p kk L S : Addr) : Prop where
  kp : kk ≠ p
  Lp : L ≠ p
  Sp : S ≠ p
  kL : kk ≠ L
  kS : kk ≠ S
  LS : L ≠ S
  p0 : H0 p = none
  L0 : H0 L = none
  S0 : H0 S = none
section
variable {CR CB : Addr} {H0 H H' : Hp} {p kk L S : Addr} {zs : List Str} {rs : List Rw} {as : List Addr} {c c' : Nat}
theorem S18.toEx (t : S18 CR CB H0 p kk L S zs rs as c H) (e : Ex H H') : S18 CR CB H0 p kk L S zs rs as c H' := ⟨t.pl.ex e, e _ _ t.gK, t.b.ex e, t.ne, t.ex.trans e⟩
theorem S18.fx (t : S18 CR CB H0 p kk L S zs rs as c H) (C : C18 H0 p kk L S) (f : Fx p H H') (hp : Pl H' p c') : S18 CR CB H0 p kk L S zs rs as c' H' := by
  obtain ⟨ys, hy⟩ := t.pl.some
  refine ⟨hp, f _ _ C.kp t.gK, ⟨f _ _ C.Lp t.b.gL, f _ _ C.Sp t.b.gS, fun w hw => (t.b.at' w hw).keep (fun b C dx fs g => f _ _ (ne_of g hy (by intro z; cases z)) g) fun b zs g => f.tup t.pl g, t.b.is, t.b.sl.1, fun i r g => ?_⟩, t.ne, fx_new C.p0 t.ex f⟩
  obtain ⟨a, ga, ha⟩ := t.b.sl.2 i r g
  exact ⟨a, ga, f _ _ (t.ne a (List.mem_of_getElem? ga)).1 ha⟩
/-- a row and its slots are laid to them -/
theorem S18.snoc {w : Rw} {a : Addr} (t : S18 CR CB H0 p kk L S zs rs as c H) (C : C18 H0 p kk L S) (k : ∀ b o, b ≠ L → b ≠ S → H b = some o → H' b = some o) (gL : H' L = some (.lst ((rs ++ [w]).map fun (w : Rw) => V.ref w.r))) (gS : H' S = some (.lst ((as ++ [a]).map V.ref)))
    (hw : RowAt CR CB H w.r w.z w.s w.es w.ls) (hi : RowIs w.z w.s w.es w.ls) (ha : H' a = some (.lst (nvs (slots w.es)))) (na : a ≠ p ∧ a ≠ L ∧ a ≠ S) : S18 CR CB H0 p kk L S zs (rs ++ [w]) (as ++ [a]) c H' := by
  have row : ∀ {v : Rw}, RowAt CR CB H v.r v.z v.s v.es v.ls → RowAt CR CB H' v.r v.z v.s v.es v.ls := fun {v} h => h.keep (fun b C2 dx fs g => k _ _ (ne_of g t.b.gL (by intro z; cases z)) (ne_of g t.b.gS (by intro z; cases z)) g) fun b zs g => k _ _ (ne_of g t.b.gL (by intro z; cases z)) (ne_of g t.b.gS (by intro z; cases z)) g
  obtain ⟨g0, b0, k0, y1, y2⟩ := id t.pl
  refine ⟨⟨g0, b0, k0, k _ _ (fun e => C.Lp e.symm) (fun e => C.Sp e.symm) y1, y2⟩, k _ _ C.kL C.kS t.gK, ⟨gL, gS, fun v hv => ?_, fun v hv => ?_, ?_, fun i r g => ?_⟩, fun b hb => ?_, fun b o g => k _ _ (ne_of_none g C.L0) (ne_of_none g C.S0) (t.ex _ _ g)⟩
  · rcases List.mem_append.mp hv with hv | hv
    · exact row (t.b.at' v hv)
    · rw [List.mem_singleton.mp hv]
      exact row hw
  · rcases List.mem_append.mp hv with hv | hv
    · exact t.b.is v hv
    · rw [List.mem_singleton.mp hv]
      exact hi
  · rw [List.length_append, List.length_append, t.b.sl.1]
    rfl
  · rcases snoc_at g with g | ⟨rfl, rfl⟩
    · obtain ⟨b, gb, hb⟩ := t.b.sl.2 i r g
      have := t.ne b (List.mem_of_getElem? gb)
      exact ⟨b, by rw [List.getElem?_append_left (List.getElem?_eq_some_iff.mp gb).1]; exact gb, k _ _ this.2.1 this.2.2 hb⟩
    · exact ⟨a, by rw [← t.b.sl.1, List.getElem?_append_right (Nat.le_refl _)]; simp, ha⟩
  · rcases List.mem_append.mp hb with hb | hb
    · exact t.ne b hb
    · rw [List.mem_singleton.mp hb]
      exact na
end
set_option maxHeartbeats 64000000 in
theorem ok_law (T : TX K mg A FD TK) : FnOk P w K mg base CX0 12 (A 61) (FD 61) ["_law_script"] (spLaw K) := by
  have G_l_pool := (ok_l_pool (P := P) (w := w) (base := base) T).mono (show 1 ≤ 11 by decide)
  have G_l_take := (ok_l_take (P := P) (w := w) (base := base) T).mono (show 1 ≤ 11 by decide)
  have G_l_kinds := (ok_l_kinds (P := P) (w := w) (base := base) T).mono (show 2 ≤ 11 by decide)
  have G_l_row_entries := (ok_l_row_entries (P := P) (w := w) (base := base) T).mono (show 2 ≤ 11 by decide)
  have G_l_lengths := (ok_l_lengths (P := P) (w := w) (base := base) T).mono (show 2 ≤ 11 by decide)
  have G_l_right := (ok_l_right (P := P) (w := w) (base := base) T).mono (show 10 ≤ 11 by decide)
  have G_without := (ok_without (P := P) (w := w) (base := base) T).mono (show 8 ≤ 11 by decide)
  have G_Row := (ok_rinit (P := P) (w := w) (base := base) T).mono (show 9 ≤ 10 by decide)
  have KB3_Row := kb_row T
  obtain ⟨dsb, R3_Row, B3_Row⟩ := bd_row T
  refine T.f_law.ok (k := 11) sc_law (fun vs H Q E h => ?_) (fun cdv A' outer s H vs Q E hr h => ?_)
  · obtain ⟨a, ns, rfl, _⟩ := h
    rfl
  · obtain ⟨a, ns, rfl, hS, hn, q⟩ := h
    refine ⟨_, (pss_cons (ps_for PassesOwn.never rfl (pi_range1 (by rfl) T.m_range (pa_cons (pe_callB (call_max2 rfl) (by rfl) T.m_max (by decide +kernel) (pa_cons pe_int (pa_cons (pe_callB (call_min2 rfl) (by rfl) T.m_min (by decide +kernel) (pa_cons pe_int (pa_cons (pe_callB (lenK (K := K) rfl) (by rfl) T.m_len (by decide +kernel) (pa_cons (pv 0) pa_nil)) pa_nil))) pa_nil))) pa_nil)) (pg_name (i := 1) sc_law.nd rfl (.inl rfl))
      (pss_cons (ps_set (i := 2) sc_law.nd rfl (.inl rfl) (pe_call G_l_pool hr (by rfl) T.g_l_pool T.f_l_pool.kp T.b_l_pool .nil pass0 (pa_cons (pv 0) (pa_cons (pv 1) pa_nil))))
      (pss_cons (ps_set (i := 3) sc_law.nd rfl (.inl rfl) (pe_call G_l_kinds hr (by rfl) T.g_l_kinds T.f_l_kinds.kp T.b_l_kinds .nil pass0 (pa_cons (pv 2) pa_nil)))
      (pss_cons (ps_set (i := 4) sc_law.nd rfl (.inl rfl) (pe_lst pa_nil))
      (pss_cons (ps_set (i := 5) sc_law.nd rfl (.inl rfl) (pe_lst pa_nil))
      (pss_cons (ps_for PassesOwn.never rfl (pi_range1 (by rfl) T.m_range (pa_cons (pe_op op_add pe_int (pe_call G_l_take hr (by rfl) T.g_l_take T.f_l_take.kp T.b_l_take .nil pass0 (pa_cons (pv 2) (pa_cons pe_int pa_nil)))) pa_nil)) (pg_name (i := 6) sc_law.nd rfl (.inl rfl))
      (pss_cons (ps_set (i := 7) sc_law.nd rfl (.inl rfl) (pe_call G_l_row_entries hr (by rfl) T.g_l_row_entries T.f_l_row_entries.kp T.b_l_row_entries .nil pass0 (pa_cons (pv 2) (pa_cons pe_int (pa_cons pe_int pa_nil)))))
      (pss_cons (ps_expr (pe_bm PySem.F.plainAttrs_list PySem.F.slot_list_append PySem.F.type_list_append mt_append (pv 4) (pa_cons (pe_makeK T.M_Row G_Row hr (by rfl) T.k_Row KB3_Row pass0 (pa_cons (pe_ix (ixLK (K := K) rfl) (pv 3) pe_int (fun _ _ => rfl)) (pa_cons (pv 7) (pa_cons (pe_call G_l_lengths hr (by rfl) T.g_l_lengths T.f_l_lengths.kp T.b_l_lengths .nil pass0 (pa_cons (pv 2) (pa_cons (pv 7) pa_nil))) pa_nil))) (pk_cons (pe_op op_add pe_int (pe_call G_l_take hr (by rfl) T.g_l_take T.f_l_take.kp T.b_l_take .nil pass0 (pa_cons (pv 2) (pa_cons pe_int pa_nil)))) pk_nil)) pa_nil)))
      (pss_one (ps_expr (pe_bm PySem.F.plainAttrs_list PySem.F.slot_list_append PySem.F.type_list_append mt_append (pv 5) (pa_cons (pe_lc (own := [("_law_slot", 14), ("_law_spots", 15)])  rfl sc_law.nd (piLK (K := K) rfl (pv 7)) (blkOk_by (own := [("_law_slot", 14), ("_law_spots", 15)]) (N := N_law) (sc := defScope (topS 61)) (by decide +kernel)) (fun _ _ _ _ _ => (tupGK (K := K) (n := 2) rfl rfl (pgs_cons (pg_name (i := 14) sc_law.nd rfl (Or.inl rfl)) (pgs_cons (pg_name (i := 15) sc_law.nd rfl (Or.inl rfl)) pgs_nil)))) (fun _ _ _ _ _ => pts_nil) (fun _ _ _ _ _ => (pv 14))) pa_nil)))))))
      (pss_cons (ps_if (PW.pt (pw_or (pt_not (pt_val (pe_call G_l_right hr (by rfl) T.g_l_right T.f_l_right.kp T.b_l_right .nil pass0 (pa_cons (pv 4) (pa_cons (pv 5) pa_nil))))) (pw_or (pt_not (pt_val (pe_call G_l_right hr (by rfl) T.g_l_right T.f_l_right.kp T.b_l_right .nil pass0 (pa_cons (pe_slice (slLK (K := K) rfl) (pv 4) po_none (po_some pe_int)) (pa_cons (pe_slice (slLK (K := K) rfl) (pv 5) po_none (po_some pe_int)) pa_nil))))) (pw_or1 (pt_not (pt_val (pe_call G_l_right hr (by rfl) T.g_l_right T.f_l_right.kp T.b_l_right .nil pass0 (pa_cons (pe_lst pa_nil) (pa_cons (pe_lst pa_nil) pa_nil)))))))))
      (pss_one (ps_ret pe_bl))
      pss_nil)
      (pss_cons (ps_if (pt_not (pt_val (pe_call G_l_right hr (by rfl) T.g_l_right T.f_l_right.kp T.b_l_right .nil pass0 (pa_cons (pe_op op_cat (pv 4) (pe_slice (slLK (K := K) rfl) (pv 4) po_none (po_some pe_int))) (pa_cons (pe_op op_cat (pv 5) (pe_slice (slLK (K := K) rfl) (pv 5) po_none (po_some pe_int))) pa_nil)))))
      (pss_one (ps_ret pe_bl))
      pss_nil)
      (pss_one (ps_for PassesOwn.never rfl (pi_zip (by rfl) T.m_zip (pa_cons (pv 4) (pa_cons (pv 5) pa_nil))) (pg_tup rfl (pgs_cons (pg_name (i := 8) sc_law.nd rfl (.inl rfl)) (pgs_cons (pg_name (i := 9) sc_law.nd rfl (.inl rfl)) pgs_nil)))
      (pss_one (ps_for PassesOwn.never rfl (pi_zip (by rfl) T.m_zip (pa_cons (pv 4) (pa_cons (pv 5) pa_nil))) (pg_tup rfl (pgs_cons (pg_name (i := 10) sc_law.nd rfl (.inl rfl)) (pgs_cons (pg_name (i := 11) sc_law.nd rfl (.inr rfl)) pgs_nil)))
      (pss_cons (ps_setLc (i := 12) (own := [("_law_slot", 14)])  rfl sc_law.nd rfl rfl (sw_true rfl rfl rfl (by decide +kernel)) (piLK (K := K) rfl (pv 9)) (blkOk_by (own := [("_law_slot", 14)]) (N := N_law) (sc := defScope (topS 61)) (by decide +kernel)) (fun _ _ _ _ _ => (pg_name (i := 14) sc_law.nd rfl (Or.inl rfl))) (fun _ _ _ _ _ => (pts_one (pt_cmpR (notInK (K := K) rfl) (pv 14) (pv 11) (by rfl)))) (fun _ _ _ _ _ => (pv 14)))
      (pss_cons (ps_set (i := 13) sc_law.nd rfl (.inl rfl) (pe_call G_without hr (by rfl) T.g_without T.f_without.kp T.b_without .nil pass0 (pa_cons (pv 8) (pa_cons (pv 10) pa_nil))))
      (pss_cons (ps_if (PW.pt (pw_or (pt_not (pt_val (pe_callB (isiK (K := K) rfl) (by rfl) T.m_isinstance (by decide +kernel) (pa_cons (pv 13) (pa_cons (pe_bltn (v := .ty "list") (by rfl) T.m_list (by decide +kernel) rfl) pa_nil))))) (pw_or1 (pt_cmpR (neDK (K := K) rfl hr.units) (pv 13) (pv 12) (nomark _)))))
      (pss_one (ps_ret pe_bl))
      pss_nil)
      (pss_cons (ps_expr (pe_bm PySem.F.plainAttrs_list PySem.F.slot_list_append PySem.F.type_list_append mt_append (pv 13) (pa_cons pe_int pa_nil)))
      (pss_one (ps_if (pt_cmpR (neDK (K := K) rfl hr.units) (pe_call G_without hr (by rfl) T.g_without T.f_without.kp T.b_without .nil pass0 (pa_cons (pv 8) (pa_cons (pv 10) pa_nil))) (pv 12) (nomark _))
      (pss_one (ps_ret pe_bl))
      pss_nil))))))))))))))))))
      (pss_one (ps_ret pe_bl))), ?_⟩
    refine ⟨.ref a, rfl, a, _, rfl, .inl hS, 6, _, rfl, 1, _, rfl, (if (if ((ns.map V.int).length : Int) < 6 then ((ns.map V.int).length : Int) else 6) > 1 then (if ((ns.map V.int).length : Int) < 6 then ((ns.map V.int).length : Int) else 6) else 1), rfl, ?_, ?_, ?_⟩
    · have := maxmin6 (ns.map V.int).length
      omega
    · have := maxmin6 (ns.map V.int).length
      omega
    have hmm := maxmin6 (ns.map V.int).length
    generalize (if (if ((ns.map V.int).length : Int) < 6 then ((ns.map V.int).length : Int) else 6) > 1 then (if ((ns.map V.int).length : Int) < 6 then ((ns.map V.int).length : Int) else 6) else 1) = nn at hmm ⊢
    refine for_range (lo := 0) (n := nn.toNat) (fun i σ' H' => ∃ y1 y2 y3 y4 y5 y6 y7 y8 y9 y10 y11 y12 y13 y14 y15 : Option V, σ' = [some (.ref a), y1, y2, y3, y4, y5, y6, y7, y8, y9, y10, y11, y12, y13, y14, y15] ∧ Ex H H') ⟨none, none, none, none, none, none, none, none, none, none, none, none, none, none, none, rfl, Ex.refl H⟩ (fun i σ' H' hi pv => ?_) (fun σ' H' pv => ?_)
    rotate_left
    · obtain ⟨y1, y2, y3, y4, y5, y6, y7, y8, y9, y10, y11, y12, y13, y14, y15, rfl, e0⟩ := pv
      exact q H'
    obtain ⟨y1, y2, y3, y4, y5, y6, y7, y8, y9, y10, y11, y12, y13, y14, y15, rfl, e0⟩ := pv
    refine ⟨.ref a, rfl, .int ((0 : Int) + i), rfl, a, ns, i, ?_, ex_l e0 hS, hn, by omega, fun p H1 np e1 hp1 => ?_⟩
    · show [V.ref a, V.int ((0 : Int) + i)] = [V.ref a, V.int (i : Int)]
      rw [Int.zero_add]
    refine ⟨.ref p, rfl, p, _, rfl, hp1, by decide, fun kk zs H2 nkk hk2 hp2 f2 => ?_⟩
    obtain ⟨z, az, wz⟩ : ∃ z : Str, atI (zs.map V.str) 0 = some (.str z) ∧ isW z = true := by
      have h1 := hk2.2.1
      match zs, h1, hk2.2.2.2 with
      | z :: r, _, h => exact ⟨z, atI_nat (j := 0) rfl, by rw [List.all_cons, Bool.and_eq_true] at h; exact h.1⟩
    have gk2 := hk2.1
    have nkp : kk ≠ p := pool_ne hp1 nkk
    have x2 : Ex H' H2 := fx_new np e1 f2
    clear hk2
    refine ⟨Nat.zero_le _, fun L nL => ?_⟩
    have e3 := Ex.new (o := .lst []) nL
    have gL := upd_same (H := H2) (a := L) (o := .lst [])
    have nLp : L ≠ p := pool_ne hp2 nL
    have nkL : kk ≠ L := ne_of_none gk2 nL
    have L0 : H' L = none := fresh_back x2 nL
    generalize (upd H2 L (.lst [])) = H3 at e3 gL ⊢
    refine ⟨Nat.zero_le _, fun S nS => ?_⟩
    have e4 := Ex.new (o := .lst []) nS
    have gS := upd_same (H := H3) (a := S) (o := .lst [])
    have hp3 := hp2.ex e3
    have nSp : S ≠ p := pool_ne hp3 nS
    have nkS : kk ≠ S := ne_of_none (e3 _ _ gk2) nS
    have nLS : L ≠ S := ne_of_none gL nS
    have S0 : H' S = none := fresh_back (x2.trans e3) nS
    generalize (upd H3 S (.lst [])) = H4 at e4 gS ⊢
    have gL4 := e4 _ _ gL
    have C : C18 H' p kk L S := ⟨nkp, nLp, nSp, nkL, nkS, nLS, np, L0, S0⟩
    have t4 : S18 (A 49) (A 48) H' p kk L S zs [] [] 2 H4 := ⟨(hp3.ex e4).mono (by omega), e4 _ _ (e3 _ _ gk2), ⟨gL4, gS, fun w hw => (nomatch hw), fun w hw => (nomatch hw), rfl, fun i r g => (nomatch g)⟩, fun a ha => (nomatch ha), (x2.trans e3).trans e4⟩
    clear gL gS gL4 e3 e4 hp3 nS S0 L0 nL nkL nkS nLS nSp nLp gk2
    refine ⟨.ref p, rfl, p, 4, _, rfl, t4.pl, by decide, by decide, by decide, fun d H5 d0 d1 hp5 f5 => ⟨1, d, rfl, rfl, 1 + d, rfl, by omega, by omega, ?_⟩⟩
    have t5 := t4.fx C f5 hp5
    refine for_range (lo := 0) (n := (1 + d).toNat) (fun j σ' HA => ∃ (y6 y7 y14 y15 : Option V) (rs : List Rw) (as : List Addr), σ' = [some (.ref a), some (.int ((0 : Int) + i)), some (.ref p), some (.ref kk), some (.ref L), some (.ref S), y6, y7, y8, y9, y10, y11, y12, y13, y14, y15] ∧ rs.length = j ∧ S18 (A 49) (A 48) H' p kk L S zs rs as (3 + j * 600) HA)
      ⟨y6, y7, y14, y15, [], [], rfl, rfl, t5⟩ (fun j σ' HA hj pv => ?_) (fun σ' HA pv => ?_)
    · obtain ⟨z6, z7, z14, z15, rs, as, rfl, lj, tA⟩ := pv
      refine ⟨.ref p, rfl, p, _, 18, 2, rfl, by decide, by decide, by decide, tA.pl, by omega, fun l xs es HB nlp nl hl hE hL hm hpB fB => ?_⟩
      have tB := tA.fx C fB hpB
      refine ⟨.ref L, rfl, .inl ⟨rfl, _, SqL.of tB.b.gL⟩, .ref kk, rfl, kk, _, 0, _, rfl, rfl, SqL.of tB.gK, az, .ref l, rfl, .ref p, rfl, .ref l, rfl, p, l, _, xs, es, rfl, hpB, by omega, nlp, hl, hE, hL, fun m ls HC nmp nm hm' hF hpC fC => ?_⟩
      have tC := tB.fx C fC hpC
      have hEC := hE.fx hpB fC
      have glC := fC _ _ nlp hl
      refine ⟨.ref p, rfl, p, 8, _, rfl, hpC, by decide, by decide, by omega, fun dd HD d0' d1' hpD fD => ⟨1, dd, rfl, rfl, ?_⟩⟩
      have tD := tC.fx C fD hpD
      have hED := hEC.fx hpC fD
      have glD := fD _ _ nlp glC
      have hmD := fD _ _ nmp hm'
      obtain ⟨s, hs⟩ : ∃ n : Nat, 1 + dd = (n : Int) := ⟨(1 + dd).toNat, by omega⟩
      have RI : RowIs z s es ls := hL.row hF wz (by omega) (by omega)
      refine ⟨rfl, rfl, fun r1 dx1 nr1 nd1 _ => ?_⟩
      show spRIn (A 49) (A 48) [.ref r1, .str z, .ref l, .ref m, .int (1 + dd)] (upd (upd HD dx1 (.own r1)) r1 (.ins (A 49) dx1 [])) _ _
      rw [hs]
      refine mk_row nr1 nd1 glD hED hmD RI fun HE eE hr1 => ?_
      have tE := tD.toEx eE
      refine ⟨L, _, _, rfl, rfl, tE.b.gL, by rw [List.length_map]; exact sz_lt (by omega), ?_⟩
      have gSE := tE.b.gS
      have nLS := C.LS
      have glE := eE _ _ glD
      have hEE := hED.ex eE
      have nlL : l ≠ L := (ne_of_none tA.b.gL nl).symm
      have nlS : l ≠ S := (ne_of_none tA.b.gS nl).symm
      have hpF := pl_upd (o := .lst ((rs.map fun (w : Rw) => V.ref w.r) ++ [V.ref r1])) tE.pl C.Lp
      have gLF := upd_same (H := HE) (a := L) (o := .lst ((rs.map fun (w : Rw) => V.ref w.r) ++ [V.ref r1]))
      have kF : ∀ b o, b ≠ L → HE b = some o → (upd HE L (.lst ((rs.map fun (w : Rw) => V.ref w.r) ++ [V.ref r1]))) b = some o := fun b o n g => by rw [upd_ne n]; exact g
      have hEF : EnsA (upd HE L (.lst ((rs.map fun (w : Rw) => V.ref w.r) ++ [V.ref r1]))) xs es := hEE.updL tE.b.gL
      generalize (upd HE L (.lst ((rs.map fun (w : Rw) => V.ref w.r) ++ [V.ref r1]))) = HF at hpF gLF kF hEF ⊢
      have gSF := kF _ _ (fun e => nLS e.symm) gSE
      have glF := kF _ _ nlL glE
      have fewE := hL.few
      have slE : (slots es).length = es.length := List.length_map ..
      refine ⟨.ref S, rfl, .inl ⟨rfl, _, SqL.of gSF⟩, .ref l, rfl, l, rfl, ⟨_, SqL.of glF⟩, fun D nD => ?_⟩
      have nDp : D ≠ p := pool_ne hpF nD
      have nDL : D ≠ L := (ne_of_none gLF nD).symm
      have nDS : D ≠ S := (ne_of_none gSF nD).symm
      refine lc_list (K := K) (xs := xs) (fun k H' => Ex HF H' ∧ H' D = some (.lst (nvs ((slots es).take k)))) ⟨Ex.new nD, upd_same⟩ (fun k H' _ p => ex_l p.1 (SqL.of glF)) (fun k v HG hv p => ?_) (fun HG p => ?_)
      · obtain ⟨p1, p2⟩ := p
        obtain ⟨e, b, ge, rfl, hA⟩ := hEF.at hv
        obtain ⟨t, hb, _⟩ := hA.ex p1
        refine ⟨b, _, rfl, SqT.of hb, rfl, _, _, rfl, _, _, rfl, rfl, rfl, .int (e.1 : Nat), rfl, _, p2, ?_, Ex.mut p1 nD, ?_⟩
        · rw [nvs_len, List.length_take]
          exact sz_lt (by omega)
        · rw [upd_same, take_up (slots_at ge), nvs_snoc]
      obtain ⟨p1, p2⟩ := p
      rw [hEF.1, List.take_of_length_le (by omega)] at p2
      refine ⟨S, _, _, rfl, rfl, p1 _ _ gSF, by rw [List.length_map, tE.b.sl.1]; exact sz_lt (by omega), _, _, _, _, rs ++ [⟨r1, z, s, es, ls⟩], as ++ [D], rfl, by rw [List.length_append, lj]; rfl, ?_⟩
      have t6 := tE.snoc (w := ⟨r1, z, s, es, ls⟩) (a := D) (H' := upd HG S (.lst (as.map V.ref ++ [V.ref D]))) C (fun b o n m g => by rw [upd_ne m]; exact p1 _ _ (kF b o n g)) (by rw [upd_ne nLS, p1 _ _ gLF, List.map_append]; rfl) (by rw [upd_same, List.map_append]; rfl) hr1 RI (by rw [upd_ne nDS]; exact p2) ⟨nDp, nDL, nDS⟩
      exact ⟨t6.pl.mono (by omega), t6.gK, t6.b, t6.ne, t6.ex⟩
    · obtain ⟨z6, z7, z14, z15, rs, as, rfl, lj, tA⟩ := pv
      have l4 : rs.length ≤ 4 := by omega
      have b := tA.b
      have lS := b.sl.1
      have xA := tA.ex
      refine ⟨.ref L, rfl, .ref S, rfl, L, S, rs, as, rfl, b.gL, b.all (by omega), b.gS, b.sl, fun HB eB => ⟨_, rfl, ite2 (fun c => absurd c (by decide)) (fun _ => ?_)⟩⟩
      have b2 := b.ex eB
      have xB := xA.trans eB
      refine ⟨.ref L, rfl, 1, rfl, L, _, rfl, SqL.of b2.gL, fun L1 nL1 => ?_⟩
      have eC := Ex.new (o := .lst (cutV (rs.map fun (w : Rw) => V.ref w.r) none (some 1))) nL1
      have gC := upd_same (H := HB) (a := L1) (o := .lst (cutV (rs.map fun (w : Rw) => V.ref w.r) none (some 1)))
      generalize (upd HB L1 (.lst (cutV (rs.map fun (w : Rw) => V.ref w.r) none (some 1)))) = HC at eC gC ⊢
      have b3 := b2.ex eC
      refine ⟨.ref S, rfl, 1, rfl, S, _, rfl, SqL.of b3.gS, fun S1 nS1 => ?_⟩
      have eD := Ex.new (o := .lst (cutV (as.map V.ref) none (some 1))) nS1
      have gD := upd_same (H := HC) (a := S1) (o := .lst (cutV (as.map V.ref) none (some 1)))
      generalize (upd HC S1 (.lst (cutV (as.map V.ref) none (some 1)))) = HD at eD gD ⊢
      have b4 := b3.ex eD
      have xD := (xB.trans eC).trans eD
      rw [cut1, ← List.map_take] at gC gD
      have o4 := b4.one (eD _ _ gC) gD
      refine ⟨L1, S1, rs.take 1, as.take 1, rfl, o4.gL, o4.all (by rw [List.length_take]; omega), o4.gS, o4.sl, fun HE eE => ⟨_, rfl, ite2 (fun c => absurd c (by decide)) (fun _ => ?_)⟩⟩
      have b5 := b4.ex eE
      have xE := xD.trans eE
      refine ⟨Nat.zero_le _, fun L2 nL2 => ?_⟩
      have eF := Ex.new (o := .lst []) nL2
      have gF := upd_same (H := HE) (a := L2) (o := .lst [])
      generalize (upd HE L2 (.lst [])) = HF at eF gF ⊢
      refine ⟨Nat.zero_le _, fun S2 nS2 => ?_⟩
      have eG := Ex.new (o := .lst []) nS2
      have gG := upd_same (H := HF) (a := S2) (o := .lst [])
      generalize (upd HF S2 (.lst [])) = HG at eG gG ⊢
      refine ⟨L2, S2, [], [], rfl, eG _ _ gF, ⟨fun w hw => (nomatch hw), fun w hw => (nomatch hw), Nat.zero_le _⟩, gG, ⟨rfl, fun i r g => (nomatch g)⟩, fun HH eH => ⟨_, rfl, ite2 (fun c => absurd c (by decide)) (fun _ => ?_)⟩⟩
      have e5 := (eF.trans eG).trans eH
      have b6 := b5.ex e5
      have xH := xE.trans e5
      clear e5 eH eG gG eF gF eE o4 eD gD eC gC b3 b2 nL1 nS1 nL2 nS2
      refine ⟨.ref L, rfl, .ref L, rfl, 1, rfl, L, _, rfl, SqL.of b6.gL, fun L3 nL3 => ?_⟩
      have eI := Ex.new (o := .lst (cutV (rs.map fun (w : Rw) => V.ref w.r) none (some 1))) nL3
      have gI := upd_same (H := HH) (a := L3) (o := .lst (cutV (rs.map fun (w : Rw) => V.ref w.r) none (some 1)))
      generalize (upd HH L3 (.lst (cutV (rs.map fun (w : Rw) => V.ref w.r) none (some 1)))) = HI at eI gI ⊢
      have b7 := b6.ex eI
      have k1 : ((rs.map fun (w : Rw) => V.ref w.r)).length ≤ 4 := by rw [List.length_map]; exact l4
      have k2 : ((as.map V.ref)).length ≤ 4 := by rw [List.length_map, lS]; exact l4
      refine ⟨L, L3, _, _, rfl, rfl, b7.gL, gI, by rw [cut1, List.length_take]; exact sz (by omega), fun L4 nL4 => ?_⟩
      have eJ := Ex.new (o := .lst ((rs.map fun (w : Rw) => V.ref w.r) ++ cutV (rs.map fun (w : Rw) => V.ref w.r) none (some 1))) nL4
      have gJ := upd_same (H := HI) (a := L4) (o := .lst ((rs.map fun (w : Rw) => V.ref w.r) ++ cutV (rs.map fun (w : Rw) => V.ref w.r) none (some 1)))
      generalize (upd HI L4 (.lst ((rs.map fun (w : Rw) => V.ref w.r) ++ cutV (rs.map fun (w : Rw) => V.ref w.r) none (some 1)))) = HJ at eJ gJ ⊢
      have b8 := b7.ex eJ
      refine ⟨.ref S, rfl, .ref S, rfl, 1, rfl, S, _, rfl, SqL.of b8.gS, fun S3 nS3 => ?_⟩
      have eK := Ex.new (o := .lst (cutV (as.map V.ref) none (some 1))) nS3
      have gK := upd_same (H := HJ) (a := S3) (o := .lst (cutV (as.map V.ref) none (some 1)))
      generalize (upd HJ S3 (.lst (cutV (as.map V.ref) none (some 1)))) = HK at eK gK ⊢
      have b9 := b8.ex eK
      refine ⟨S, S3, _, _, rfl, rfl, b9.gS, gK, by rw [cut1, List.length_take]; exact sz (by omega), fun S4 nS4 => ?_⟩
      have eM := Ex.new (o := .lst (as.map V.ref ++ cutV (as.map V.ref) none (some 1))) nS4
      have gM := upd_same (H := HK) (a := S4) (o := .lst (as.map V.ref ++ cutV (as.map V.ref) none (some 1)))
      generalize (upd HK S4 (.lst (as.map V.ref ++ cutV (as.map V.ref) none (some 1)))) = HM at eM gM ⊢
      have b10 := b9.ex eM
      have gJM := eM _ _ (eK _ _ gJ)
      rw [cut1, ← List.map_take, ← List.map_append] at gJM gM
      have o10 := b10.more gJM gM
      refine ⟨L4, S4, rs ++ rs.take 1, as ++ as.take 1, rfl, o10.gL, o10.all (by rw [List.length_append, List.length_take]; omega), o10.gS, o10.sl, fun HX eX => ⟨_, rfl, ite2 (fun c => absurd c (by decide)) (fun _ => ?_)⟩⟩
      have bX := b10.ex eX
      have xX := ((((xH.trans eI).trans eJ).trans eK).trans eM).trans eX
      clear o10 gJM gM eM gK eK gJ eJ gI eI b10 b9 b8 b7 b6 b5 b4
      have got : ∀ {j : Nat} {x y : V}, (rs.map fun (w : Rw) => V.ref w.r)[j]? = some x → (as.map V.ref)[j]? = some y → ∃ (r : Rw) (m : Addr), x = .ref r.r ∧ y = .ref m ∧ r ∈ rs ∧ HX m = some (.lst (nvs (slots r.es))) := fun {j x y} gx gy => by
        have hj : j < rs.length := by
          have := (List.getElem?_eq_some_iff.mp gx).1
          rwa [List.length_map] at this
        have gr : rs[j]? = some rs[j] := List.getElem?_eq_getElem hj
        obtain ⟨m, gm, hm⟩ := bX.sl.2 j _ gr
        rw [List.getElem?_map, gr] at gx
        rw [List.getElem?_map, gm] at gy
        cases gx
        cases gy
        exact ⟨_, m, rfl, rfl, List.mem_of_getElem? gr, hm⟩
      refine ⟨.ref L, rfl, .ref S, rfl, L, S, _, _, rfl, SqL.of bX.gL, SqL.of bX.gS, ?_⟩
      refine RZ.for_zipL (K := K) (a := L) (b := S) (xs := rs.map fun (w : Rw) => V.ref w.r) (ys := as.map V.ref) (by rw [List.length_map, List.length_map, lS]) (fun j σ2 Hn => ∃ y8 y9 y10 y11 y12 y13 y14 y15 : Option V, σ2 = [some (.ref a), some (.int ((0 : Int) + i)), some (.ref p), some (.ref kk), some (.ref L), some (.ref S), z6, z7, y8, y9, y10, y11, y12, y13, y14, y15] ∧ Ex HX Hn)
        ⟨_, _, _, _, _, _, _, _, rfl, Ex.refl _⟩ (fun j σ2 Hn pj => ?_) (fun j x y Tt σ2 Hn gx gy pj nT => ?_) (fun σ2 Hn pj => ?_)
      · obtain ⟨_, _, _, _, _, _, _, _, _, en⟩ := pj
        exact ⟨SqL.of (en _ _ bX.gL), SqL.of (en _ _ bX.gS)⟩
      · obtain ⟨y8, y9, y10, y11, y12, y13, y14, y15, rfl, en⟩ := pj
        obtain ⟨r, m, rfl, rfl, hr', gm⟩ := got gx gy
        refine ⟨Tt, _, rfl, SqT.of upd_same, rfl, .ref r.r, _, rfl, .ref m, _, rfl, rfl, ?_⟩
        have xn := en.trans (Ex.new (o := .tup [V.ref r.r, .ref m]) nT)
        generalize (upd Hn Tt (.tup [V.ref r.r, .ref m])) = Ho at xn ⊢
        refine ⟨.ref L, rfl, .ref S, rfl, L, S, _, _, rfl, SqL.of (xn _ _ bX.gL), SqL.of (xn _ _ bX.gS), ?_⟩
        refine RZ.for_zipL (K := K) (a := L) (b := S) (xs := rs.map fun (w : Rw) => V.ref w.r) (ys := as.map V.ref) (by rw [List.length_map, List.length_map, lS]) (fun j σ2 Hn => ∃ y10 y11 y12 y13 y14 y15 : Option V, σ2 = [some (.ref a), some (.int ((0 : Int) + i)), some (.ref p), some (.ref kk), some (.ref L), some (.ref S), z6, z7, some (.ref r.r), some (.ref m), y10, y11, y12, y13, y14, y15] ∧ Ex HX Hn)
          ⟨_, _, _, _, _, _, rfl, xn⟩ (fun j σ2 Hn pj => ?_) (fun j2 x y T2 σ2 Hq gx2 gy2 pj nT2 => ?_) (fun σ2 Hn pj => ?_)
        · obtain ⟨_, _, _, _, _, _, _, en⟩ := pj
          exact ⟨SqL.of (en _ _ bX.gL), SqL.of (en _ _ bX.gS)⟩
        · obtain ⟨y10, y11, y12, y13, y14, y15, rfl, eq⟩ := pj
          obtain ⟨o, u, rfl, rfl, ho', gu⟩ := got gx2 gy2
          refine ⟨T2, _, rfl, SqT.of upd_same, rfl, .ref o.r, _, rfl, .ref u, _, rfl, rfl, ?_⟩
          have xq := eq.trans (Ex.new (o := .tup [V.ref o.r, .ref u]) nT2)
          generalize (upd Hq T2 (.tup [V.ref o.r, .ref u])) = Hs at xq ⊢
          have few := (bX.is r hr').ens.few
          have slE : (slots r.es).length = r.es.length := List.length_map ..
          refine ⟨.ref m, rfl, m, rfl, ⟨_, SqL.of (xq _ _ gm)⟩, fun D nD => ?_⟩
          refine lc_list (K := K) (xs := nvs (slots r.es)) (fun k Hm => Ex Hs Hm ∧ Hm D = some (.lst (nvs (outL ((slots r.es).take k) (slots o.es))))) ⟨Ex.new nD, upd_same⟩ (fun k H' _ p => ex_l p.1 (SqL.of (xq _ _ gm))) (fun k v Ht hv p => ?_) (fun Ht p => ?_)
          · obtain ⟨p1, p2⟩ := p
            obtain ⟨c, gc, rfl, ic⟩ := nvs_at hv
            refine ⟨rfl, .int (c : Int), rfl, .ref u, rfl, u, _, rfl, .inl (SqL.of (p1 _ _ (xq _ _ gu))), rfl, flat_nvs _, _, rfl, ite2 (fun h => ?_) (fun h => ?_)⟩
            · refine ⟨_, rfl, _, p2, ?_, Ex.mut p1 nD, ?_⟩
              · rw [nvs_len]
                have := List.length_filter_le (fun s => decide (¬ s ∈ slots o.es)) ((slots r.es).take k)
                rw [List.length_take] at this
                unfold outL
                exact sz_lt (by omega)
              · rw [upd_same, take_up gc]
                have hc : ¬ c ∈ slots o.es := fun z => by
                  rw [if_pos rfl, inV_nvs, decide_eq_true z] at h
                  cases h
                unfold outL
                rw [List.filter_append, List.filter_cons_of_pos (by exact decide_eq_true hc), List.filter_nil, nvs_snoc]
            · refine ⟨p1, ?_⟩
              rw [take_up gc]
              have hc : c ∈ slots o.es := by
                apply Classical.byContradiction
                intro z
                rw [if_pos rfl, inV_nvs, decide_eq_false z] at h
                exact h rfl
              unfold outL
              rw [List.filter_append, List.filter_cons_of_neg (by simp [hc]), List.filter_nil, List.append_nil]
              exact p2
          obtain ⟨p1, p2⟩ := p
          rw [nvs_len, List.take_of_length_le (Nat.le_refl _)] at p2
          have xt := xq.trans p1
          refine ⟨.ref r.r, rfl, .ref o.r, rfl, r.r, o.r, r.z, o.z, r.s, o.s, r.es, o.es, r.ls, o.ls, rfl, (bX.at' r hr').ex xt, bX.is r hr', (bX.at' o ho').ex xt, bX.is o ho', fun t Hu nt eu gt => ?_⟩
          have xu := xt.trans eu
          have gDu := eu _ _ p2
          refine ⟨.ref t, rfl, .ref t, .ty "list", .type "list", .type "list", true, rfl, .ty _, .base (.lst gt), kit_ty (by decide +kernel), _, rfl, ite2 (fun c => absurd c (by decide)) (fun _ => ?_)⟩
          refine ⟨.ref t, rfl, .ref D, rfl, .list (dV (outL (slots r.es) (slots o.es))), .list (dV (outL (slots r.es) (slots o.es))), .lst (SqL.of gt) (dpV _), .lst (SqL.of gDu) (dpV _), shN _, shN _, _, rfl, ite2 (fun c => ?_) (fun _ => ?_)⟩
          · rw [eqv_self (shN _)] at c
            cases c
          have lenO : (nvs (outL (slots r.es) (slots o.es))).length < sizeLine := by
            rw [nvs_len]
            have := List.length_filter_le (fun s => decide (¬ s ∈ slots o.es)) (slots r.es)
            unfold outL
            exact sz_lt (by omega)
          refine ⟨.ref t, rfl, .inl ⟨rfl, _, SqL.of gt⟩, t, _, _, rfl, rfl, gt, lenO, ?_⟩
          have t0 : HX t = none := fresh_back xt nt
          have ntD : t ≠ D := (ne_of_none p2 nt).symm
          have xv : Ex HX (upd Hu t (.lst (nvs (outL (slots r.es) (slots o.es)) ++ [V.int 0]))) := Ex.mut xu t0
          have gDv : (upd Hu t (.lst (nvs (outL (slots r.es) (slots o.es)) ++ [V.int 0]))) D = _ := (upd_ne (fun e => ntD e.symm)).trans gDu
          generalize (upd Hu t (.lst (nvs (outL (slots r.es) (slots o.es)) ++ [V.int 0]))) = Hv at xv gDv ⊢
          refine ⟨.ref r.r, rfl, .ref o.r, rfl, r.r, o.r, r.z, o.z, r.s, o.s, r.es, o.es, r.ls, o.ls, rfl, (bX.at' r hr').ex xv, bX.is r hr', (bX.at' o ho').ex xv, bX.is o ho', fun t2 Hw nt2 ew gt2 => ?_⟩
          refine ⟨.ref D, rfl, .list (dV (outL (slots r.es) (slots o.es))), .list (dV (outL (slots r.es) (slots o.es))), .lst (SqL.of gt2) (dpV _), .lst (SqL.of (ew _ _ gDv)) (dpV _), shN _, shN _, _, rfl, ite2 (fun c => ?_) (fun _ => ?_)⟩
          · rw [eqv_self (shN _)] at c
            cases c
          exact ⟨_, _, _, _, _, _, rfl, xv.trans ew⟩
        · obtain ⟨y10, y11, y12, y13, y14, y15, rfl, eq⟩ := pj
          exact ⟨_, _, _, _, _, _, _, _, rfl, eq⟩
      · obtain ⟨y8, y9, y10, y11, y12, y13, y14, y15, rfl, en⟩ := pj
        exact ⟨_, _, _, _, _, _, _, _, _, _, _, _, _, _, _, rfl, e0.trans (xX.trans en)⟩

end
set_option maxHeartbeats 8000000 in
theorem all_mk {l : PySem.W.OpenLaw} {w : World} {K : PySem.W.Frag} {h : Heap} {mg : Str → Option Value} {fa : Addr} (X : K.In h) (G : h.Ns mainGlobals mg) (hfa : mg "law" = some (.ref fa))
    {f0 : Addr} {od0 an0 : Option Addr} {sl0 : Array (Option Value)} {oc0 kV0 dc0 pm0 cd0 ct0 : Value}
    (a0 : PySem.W.nsIn K mainGlobals "_wall" = some (some (.ref f0))) (l0 : K.lookup f0 = some ⟨oc0, od0, .func (PySem.W.fnOf "_wall" "_wall" (defArgs (topS 0)) (defBody (topS 0)) (defScope (topS 0)) .none kV0 dc0 pm0 an0 cd0 ct0), sl0⟩) (c0 : PySem.W.codeIn K cd0 "_wall" = true) (k0 : PySem.W.keepIn K (.ref f0) = true)
    {f12 : Addr} {od12 an12 : Option Addr} {sl12 : Array (Option Value)} {oc12 kV12 dc12 pm12 cd12 ct12 : Value}
    (a12 : PySem.W.nsIn K mainGlobals "is_whole" = some (some (.ref f12))) (l12 : K.lookup f12 = some ⟨oc12, od12, .func (PySem.W.fnOf "is_whole" "is_whole" (defArgs (topS 12)) (defBody (topS 12)) (defScope (topS 12)) .none kV12 dc12 pm12 an12 cd12 ct12), sl12⟩) (c12 : PySem.W.codeIn K cd12 "is_whole" = true) (k12 : PySem.W.keepIn K (.ref f12) = true)
    {f13 : Addr} {od13 an13 : Option Addr} {sl13 : Array (Option Value)} {oc13 kV13 dc13 pm13 cd13 ct13 : Value}
    (a13 : PySem.W.nsIn K mainGlobals "is_within" = some (some (.ref f13))) (l13 : K.lookup f13 = some ⟨oc13, od13, .func (PySem.W.fnOf "is_within" "is_within" (defArgs (topS 13)) (defBody (topS 13)) (defScope (topS 13)) .none kV13 dc13 pm13 an13 cd13 ct13), sl13⟩) (c13 : PySem.W.codeIn K cd13 "is_within" = true) (k13 : PySem.W.keepIn K (.ref f13) = true)
    {f17 : Addr} {od17 an17 : Option Addr} {sl17 : Array (Option Value)} {oc17 kV17 dc17 pm17 cd17 ct17 : Value}
    (a17 : PySem.W.nsIn K mainGlobals "is_count" = some (some (.ref f17))) (l17 : K.lookup f17 = some ⟨oc17, od17, .func (PySem.W.fnOf "is_count" "is_count" (defArgs (topS 17)) (defBody (topS 17)) (defScope (topS 17)) .none kV17 dc17 pm17 an17 cd17 ct17), sl17⟩) (c17 : PySem.W.codeIn K cd17 "is_count" = true) (k17 : PySem.W.keepIn K (.ref f17) = true)
    {f18 : Addr} {od18 an18 : Option Addr} {sl18 : Array (Option Value)} {oc18 kV18 dc18 pm18 cd18 ct18 : Value}
    (a18 : PySem.W.nsIn K mainGlobals "code" = some (some (.ref f18))) (l18 : K.lookup f18 = some ⟨oc18, od18, .func (PySem.W.fnOf "code" "code" (defArgs (topS 18)) (defBody (topS 18)) (defScope (topS 18)) .none kV18 dc18 pm18 an18 cd18 ct18), sl18⟩) (c18 : PySem.W.codeIn K cd18 "code" = true) (k18 : PySem.W.keepIn K (.ref f18) = true)
    {f19 : Addr} {od19 an19 : Option Addr} {sl19 : Array (Option Value)} {oc19 kV19 dc19 pm19 cd19 ct19 : Value}
    (a19 : PySem.W.nsIn K mainGlobals "code_all" = some (some (.ref f19))) (l19 : K.lookup f19 = some ⟨oc19, od19, .func (PySem.W.fnOf "code_all" "code_all" (defArgs (topS 19)) (defBody (topS 19)) (defScope (topS 19)) .none kV19 dc19 pm19 an19 cd19 ct19), sl19⟩) (c19 : PySem.W.codeIn K cd19 "code_all" = true) (k19 : PySem.W.keepIn K (.ref f19) = true)
    {f20 : Addr} {od20 an20 : Option Addr} {sl20 : Array (Option Value)} {oc20 kV20 dc20 pm20 cd20 ct20 : Value}
    (a20 : PySem.W.nsIn K mainGlobals "code_entries" = some (some (.ref f20))) (l20 : K.lookup f20 = some ⟨oc20, od20, .func (PySem.W.fnOf "code_entries" "code_entries" (defArgs (topS 20)) (defBody (topS 20)) (defScope (topS 20)) .none kV20 dc20 pm20 an20 cd20 ct20), sl20⟩) (c20 : PySem.W.codeIn K cd20 "code_entries" = true) (k20 : PySem.W.keepIn K (.ref f20) = true)
    {f21 : Addr} {od21 an21 : Option Addr} {sl21 : Array (Option Value)} {oc21 kV21 dc21 pm21 cd21 ct21 : Value}
    (a21 : PySem.W.nsIn K mainGlobals "decode_entries" = some (some (.ref f21))) (l21 : K.lookup f21 = some ⟨oc21, od21, .func (PySem.W.fnOf "decode_entries" "decode_entries" (defArgs (topS 21)) (defBody (topS 21)) (defScope (topS 21)) .none kV21 dc21 pm21 an21 cd21 ct21), sl21⟩) (c21 : PySem.W.codeIn K cd21 "decode_entries" = true) (k21 : PySem.W.keepIn K (.ref f21) = true)
    {f22 : Addr} {od22 an22 : Option Addr} {sl22 : Array (Option Value)} {oc22 kV22 dc22 pm22 cd22 ct22 : Value}
    (a22 : PySem.W.nsIn K mainGlobals "check_entries" = some (some (.ref f22))) (l22 : K.lookup f22 = some ⟨oc22, od22, .func (PySem.W.fnOf "check_entries" "check_entries" (defArgs (topS 22)) (defBody (topS 22)) (defScope (topS 22)) .none kV22 dc22 pm22 an22 cd22 ct22), sl22⟩) (c22 : PySem.W.codeIn K cd22 "check_entries" = true) (k22 : PySem.W.keepIn K (.ref f22) = true)
    {f23 : Addr} {od23 an23 : Option Addr} {sl23 : Array (Option Value)} {oc23 kV23 dc23 pm23 cd23 ct23 : Value}
    (a23 : PySem.W.nsIn K mainGlobals "is_entry" = some (some (.ref f23))) (l23 : K.lookup f23 = some ⟨oc23, od23, .func (PySem.W.fnOf "is_entry" "is_entry" (defArgs (topS 23)) (defBody (topS 23)) (defScope (topS 23)) .none kV23 dc23 pm23 an23 cd23 ct23), sl23⟩) (c23 : PySem.W.codeIn K cd23 "is_entry" = true) (k23 : PySem.W.keepIn K (.ref f23) = true)
    {f24 : Addr} {od24 an24 : Option Addr} {sl24 : Array (Option Value)} {oc24 kV24 dc24 pm24 cd24 ct24 : Value}
    (a24 : PySem.W.nsIn K mainGlobals "are_places" = some (some (.ref f24))) (l24 : K.lookup f24 = some ⟨oc24, od24, .func (PySem.W.fnOf "are_places" "are_places" (defArgs (topS 24)) (defBody (topS 24)) (defScope (topS 24)) .none kV24 dc24 pm24 an24 cd24 ct24), sl24⟩) (c24 : PySem.W.codeIn K cd24 "are_places" = true) (k24 : PySem.W.keepIn K (.ref f24) = true)
    {f25 : Addr} {od25 an25 : Option Addr} {sl25 : Array (Option Value)} {oc25 kV25 dc25 pm25 cd25 ct25 : Value}
    (a25 : PySem.W.nsIn K mainGlobals "first_fall" = some (some (.ref f25))) (l25 : K.lookup f25 = some ⟨oc25, od25, .func (PySem.W.fnOf "first_fall" "first_fall" (defArgs (topS 25)) (defBody (topS 25)) (defScope (topS 25)) .none kV25 dc25 pm25 an25 cd25 ct25), sl25⟩) (c25 : PySem.W.codeIn K cd25 "first_fall" = true) (k25 : PySem.W.keepIn K (.ref f25) = true)
    {f26 : Addr} {od26 an26 : Option Addr} {sl26 : Array (Option Value)} {oc26 kV26 dc26 pm26 cd26 ct26 : Value}
    (a26 : PySem.W.nsIn K mainGlobals "gaps_of" = some (some (.ref f26))) (l26 : K.lookup f26 = some ⟨oc26, od26, .func (PySem.W.fnOf "gaps_of" "gaps_of" (defArgs (topS 26)) (defBody (topS 26)) (defScope (topS 26)) .none kV26 dc26 pm26 an26 cd26 ct26), sl26⟩) (c26 : PySem.W.codeIn K cd26 "gaps_of" = true) (k26 : PySem.W.keepIn K (.ref f26) = true)
    {f27 : Addr} {od27 an27 : Option Addr} {sl27 : Array (Option Value)} {oc27 kV27 dc27 pm27 cd27 ct27 : Value}
    (a27 : PySem.W.nsIn K mainGlobals "risen" = some (some (.ref f27))) (l27 : K.lookup f27 = some ⟨oc27, od27, .func (PySem.W.fnOf "risen" "risen" (defArgs (topS 27)) (defBody (topS 27)) (defScope (topS 27)) .none kV27 dc27 pm27 an27 cd27 ct27), sl27⟩) (c27 : PySem.W.codeIn K cd27 "risen" = true) (k27 : PySem.W.keepIn K (.ref f27) = true)
    {f28 : Addr} {od28 an28 : Option Addr} {sl28 : Array (Option Value)} {oc28 kV28 dc28 pm28 cd28 ct28 : Value}
    (a28 : PySem.W.nsIn K mainGlobals "check_text" = some (some (.ref f28))) (l28 : K.lookup f28 = some ⟨oc28, od28, .func (PySem.W.fnOf "check_text" "check_text" (defArgs (topS 28)) (defBody (topS 28)) (defScope (topS 28)) .none kV28 dc28 pm28 an28 cd28 ct28), sl28⟩) (c28 : PySem.W.codeIn K cd28 "check_text" = true) (k28 : PySem.W.keepIn K (.ref f28) = true)
    {f29 : Addr} {od29 an29 : Option Addr} {sl29 : Array (Option Value)} {oc29 kV29 dc29 pm29 cd29 ct29 : Value}
    (a29 : PySem.W.nsIn K mainGlobals "read_number" = some (some (.ref f29))) (l29 : K.lookup f29 = some ⟨oc29, od29, .func (PySem.W.fnOf "read_number" "read_number" (defArgs (topS 29)) (defBody (topS 29)) (defScope (topS 29)) .none kV29 dc29 pm29 an29 cd29 ct29), sl29⟩) (c29 : PySem.W.codeIn K cd29 "read_number" = true) (k29 : PySem.W.keepIn K (.ref f29) = true)
    {f30 : Addr} {od30 an30 : Option Addr} {sl30 : Array (Option Value)} {oc30 kV30 dc30 pm30 cd30 ct30 : Value}
    (a30 : PySem.W.nsIn K mainGlobals "read_numbers" = some (some (.ref f30))) (l30 : K.lookup f30 = some ⟨oc30, od30, .func (PySem.W.fnOf "read_numbers" "read_numbers" (defArgs (topS 30)) (defBody (topS 30)) (defScope (topS 30)) .none kV30 dc30 pm30 an30 cd30 ct30), sl30⟩) (c30 : PySem.W.codeIn K cd30 "read_numbers" = true) (k30 : PySem.W.keepIn K (.ref f30) = true)
    {f33 : Addr} {od33 an33 : Option Addr} {sl33 : Array (Option Value)} {oc33 kV33 dc33 pm33 cd33 ct33 : Value}
    (a33 : PySem.W.nsIn K mainGlobals "check_number" = some (some (.ref f33))) (l33 : K.lookup f33 = some ⟨oc33, od33, .func (PySem.W.fnOf "check_number" "check_number" (defArgs (topS 33)) (defBody (topS 33)) (defScope (topS 33)) .none kV33 dc33 pm33 an33 cd33 ct33), sl33⟩) (c33 : PySem.W.codeIn K cd33 "check_number" = true) (k33 : PySem.W.keepIn K (.ref f33) = true)
    {f34 : Addr} {od34 an34 : Option Addr} {sl34 : Array (Option Value)} {oc34 kV34 dc34 pm34 cd34 ct34 : Value}
    (a34 : PySem.W.nsIn K mainGlobals "common" = some (some (.ref f34))) (l34 : K.lookup f34 = some ⟨oc34, od34, .func (PySem.W.fnOf "common" "common" (defArgs (topS 34)) (defBody (topS 34)) (defScope (topS 34)) .none kV34 dc34 pm34 an34 cd34 ct34), sl34⟩) (c34 : PySem.W.codeIn K cd34 "common" = true) (k34 : PySem.W.keepIn K (.ref f34) = true)
    {f35 : Addr} {od35 an35 : Option Addr} {sl35 : Array (Option Value)} {oc35 kV35 dc35 pm35 cd35 ct35 : Value}
    (a35 : PySem.W.nsIn K mainGlobals "reached_by_all" = some (some (.ref f35))) (l35 : K.lookup f35 = some ⟨oc35, od35, .func (PySem.W.fnOf "reached_by_all" "reached_by_all" (defArgs (topS 35)) (defBody (topS 35)) (defScope (topS 35)) .none kV35 dc35 pm35 an35 cd35 ct35), sl35⟩) (c35 : PySem.W.codeIn K cd35 "reached_by_all" = true) (k35 : PySem.W.keepIn K (.ref f35) = true)
    {f36 : Addr} {od36 an36 : Option Addr} {sl36 : Array (Option Value)} {oc36 kV36 dc36 pm36 cd36 ct36 : Value}
    (a36 : PySem.W.nsIn K mainGlobals "either" = some (some (.ref f36))) (l36 : K.lookup f36 = some ⟨oc36, od36, .func (PySem.W.fnOf "either" "either" (defArgs (topS 36)) (defBody (topS 36)) (defScope (topS 36)) .none kV36 dc36 pm36 an36 cd36 ct36), sl36⟩) (c36 : PySem.W.codeIn K cd36 "either" = true) (k36 : PySem.W.keepIn K (.ref f36) = true)
    {f37 : Addr} {od37 an37 : Option Addr} {sl37 : Array (Option Value)} {oc37 kV37 dc37 pm37 cd37 ct37 : Value}
    (a37 : PySem.W.nsIn K mainGlobals "without" = some (some (.ref f37))) (l37 : K.lookup f37 = some ⟨oc37, od37, .func (PySem.W.fnOf "without" "without" (defArgs (topS 37)) (defBody (topS 37)) (defScope (topS 37)) .none kV37 dc37 pm37 an37 cd37 ct37), sl37⟩) (c37 : PySem.W.codeIn K cd37 "without" = true) (k37 : PySem.W.keepIn K (.ref f37) = true)
    {f38 : Addr} {od38 an38 : Option Addr} {sl38 : Array (Option Value)} {oc38 kV38 dc38 pm38 cd38 ct38 : Value}
    (a38 : PySem.W.nsIn K mainGlobals "slots_of" = some (some (.ref f38))) (l38 : K.lookup f38 = some ⟨oc38, od38, .func (PySem.W.fnOf "slots_of" "slots_of" (defArgs (topS 38)) (defBody (topS 38)) (defScope (topS 38)) .none kV38 dc38 pm38 an38 cd38 ct38), sl38⟩) (c38 : PySem.W.codeIn K cd38 "slots_of" = true) (k38 : PySem.W.keepIn K (.ref f38) = true)
    {f42 : Addr} {od42 an42 : Option Addr} {sl42 : Array (Option Value)} {oc42 kV42 dc42 pm42 cd42 ct42 : Value}
    (a42 : PySem.W.nsIn K mainGlobals "is_word" = some (some (.ref f42))) (l42 : K.lookup f42 = some ⟨oc42, od42, .func (PySem.W.fnOf "is_word" "is_word" (defArgs (topS 42)) (defBody (topS 42)) (defScope (topS 42)) .none kV42 dc42 pm42 an42 cd42 ct42), sl42⟩) (c42 : PySem.W.codeIn K cd42 "is_word" = true) (k42 : PySem.W.keepIn K (.ref f42) = true)
    {f43 : Addr} {od43 an43 : Option Addr} {sl43 : Array (Option Value)} {oc43 kV43 dc43 pm43 cd43 ct43 : Value}
    (a43 : PySem.W.nsIn K mainGlobals "check_word" = some (some (.ref f43))) (l43 : K.lookup f43 = some ⟨oc43, od43, .func (PySem.W.fnOf "check_word" "check_word" (defArgs (topS 43)) (defBody (topS 43)) (defScope (topS 43)) .none kV43 dc43 pm43 an43 cd43 ct43), sl43⟩) (c43 : PySem.W.codeIn K cd43 "check_word" = true) (k43 : PySem.W.keepIn K (.ref f43) = true)
    {f50 : Addr} {od50 an50 : Option Addr} {sl50 : Array (Option Value)} {oc50 kV50 dc50 pm50 cd50 ct50 : Value}
    (a50 : PySem.W.nsIn K mainGlobals "check_lengths" = some (some (.ref f50))) (l50 : K.lookup f50 = some ⟨oc50, od50, .func (PySem.W.fnOf "check_lengths" "check_lengths" (defArgs (topS 50)) (defBody (topS 50)) (defScope (topS 50)) .none kV50 dc50 pm50 an50 cd50 ct50), sl50⟩) (c50 : PySem.W.codeIn K cd50 "check_lengths" = true) (k50 : PySem.W.keepIn K (.ref f50) = true)
    {f51 : Addr} {od51 an51 : Option Addr} {sl51 : Array (Option Value)} {oc51 kV51 dc51 pm51 cd51 ct51 : Value}
    (a51 : PySem.W.nsIn K mainGlobals "check_size" = some (some (.ref f51))) (l51 : K.lookup f51 = some ⟨oc51, od51, .func (PySem.W.fnOf "check_size" "check_size" (defArgs (topS 51)) (defBody (topS 51)) (defScope (topS 51)) .none kV51 dc51 pm51 an51 cd51 ct51), sl51⟩) (c51 : PySem.W.codeIn K cd51 "check_size" = true) (k51 : PySem.W.keepIn K (.ref f51) = true)
    {f52 : Addr} {od52 an52 : Option Addr} {sl52 : Array (Option Value)} {oc52 kV52 dc52 pm52 cd52 ct52 : Value}
    (a52 : PySem.W.nsIn K mainGlobals "check_fit" = some (some (.ref f52))) (l52 : K.lookup f52 = some ⟨oc52, od52, .func (PySem.W.fnOf "check_fit" "check_fit" (defArgs (topS 52)) (defBody (topS 52)) (defScope (topS 52)) .none kV52 dc52 pm52 an52 cd52 ct52), sl52⟩) (c52 : PySem.W.codeIn K cd52 "check_fit" = true) (k52 : PySem.W.keepIn K (.ref f52) = true)
    {f54 : Addr} {od54 an54 : Option Addr} {sl54 : Array (Option Value)} {oc54 kV54 dc54 pm54 cd54 ct54 : Value}
    (a54 : PySem.W.nsIn K mainGlobals "_law_pool" = some (some (.ref f54))) (l54 : K.lookup f54 = some ⟨oc54, od54, .func (PySem.W.fnOf "_law_pool" "_law_pool" (defArgs (topS 54)) (defBody (topS 54)) (defScope (topS 54)) .none kV54 dc54 pm54 an54 cd54 ct54), sl54⟩) (c54 : PySem.W.codeIn K cd54 "_law_pool" = true) (k54 : PySem.W.keepIn K (.ref f54) = true)
    {f55 : Addr} {od55 an55 : Option Addr} {sl55 : Array (Option Value)} {oc55 kV55 dc55 pm55 cd55 ct55 : Value}
    (a55 : PySem.W.nsIn K mainGlobals "_law_take" = some (some (.ref f55))) (l55 : K.lookup f55 = some ⟨oc55, od55, .func (PySem.W.fnOf "_law_take" "_law_take" (defArgs (topS 55)) (defBody (topS 55)) (defScope (topS 55)) .none kV55 dc55 pm55 an55 cd55 ct55), sl55⟩) (c55 : PySem.W.codeIn K cd55 "_law_take" = true) (k55 : PySem.W.keepIn K (.ref f55) = true)
    {f56 : Addr} {od56 an56 : Option Addr} {sl56 : Array (Option Value)} {oc56 kV56 dc56 pm56 cd56 ct56 : Value}
    (a56 : PySem.W.nsIn K mainGlobals "_law_kinds" = some (some (.ref f56))) (l56 : K.lookup f56 = some ⟨oc56, od56, .func (PySem.W.fnOf "_law_kinds" "_law_kinds" (defArgs (topS 56)) (defBody (topS 56)) (defScope (topS 56)) .none kV56 dc56 pm56 an56 cd56 ct56), sl56⟩) (c56 : PySem.W.codeIn K cd56 "_law_kinds" = true) (k56 : PySem.W.keepIn K (.ref f56) = true)
    {f57 : Addr} {od57 an57 : Option Addr} {sl57 : Array (Option Value)} {oc57 kV57 dc57 pm57 cd57 ct57 : Value}
    (a57 : PySem.W.nsIn K mainGlobals "_law_whole" = some (some (.ref f57))) (l57 : K.lookup f57 = some ⟨oc57, od57, .func (PySem.W.fnOf "_law_whole" "_law_whole" (defArgs (topS 57)) (defBody (topS 57)) (defScope (topS 57)) .none kV57 dc57 pm57 an57 cd57 ct57), sl57⟩) (c57 : PySem.W.codeIn K cd57 "_law_whole" = true) (k57 : PySem.W.keepIn K (.ref f57) = true)
    {f58 : Addr} {od58 an58 : Option Addr} {sl58 : Array (Option Value)} {oc58 kV58 dc58 pm58 cd58 ct58 : Value}
    (a58 : PySem.W.nsIn K mainGlobals "_law_row_entries" = some (some (.ref f58))) (l58 : K.lookup f58 = some ⟨oc58, od58, .func (PySem.W.fnOf "_law_row_entries" "_law_row_entries" (defArgs (topS 58)) (defBody (topS 58)) (defScope (topS 58)) .none kV58 dc58 pm58 an58 cd58 ct58), sl58⟩) (c58 : PySem.W.codeIn K cd58 "_law_row_entries" = true) (k58 : PySem.W.keepIn K (.ref f58) = true)
    {f59 : Addr} {od59 an59 : Option Addr} {sl59 : Array (Option Value)} {oc59 kV59 dc59 pm59 cd59 ct59 : Value}
    (a59 : PySem.W.nsIn K mainGlobals "_law_lengths" = some (some (.ref f59))) (l59 : K.lookup f59 = some ⟨oc59, od59, .func (PySem.W.fnOf "_law_lengths" "_law_lengths" (defArgs (topS 59)) (defBody (topS 59)) (defScope (topS 59)) .none kV59 dc59 pm59 an59 cd59 ct59), sl59⟩) (c59 : PySem.W.codeIn K cd59 "_law_lengths" = true) (k59 : PySem.W.keepIn K (.ref f59) = true)
    {f60 : Addr} {od60 an60 : Option Addr} {sl60 : Array (Option Value)} {oc60 kV60 dc60 pm60 cd60 ct60 : Value}
    (a60 : PySem.W.nsIn K mainGlobals "_law_right" = some (some (.ref f60))) (l60 : K.lookup f60 = some ⟨oc60, od60, .func (PySem.W.fnOf "_law_right" "_law_right" (defArgs (topS 60)) (defBody (topS 60)) (defScope (topS 60)) .none kV60 dc60 pm60 an60 cd60 ct60), sl60⟩) (c60 : PySem.W.codeIn K cd60 "_law_right" = true) (k60 : PySem.W.keepIn K (.ref f60) = true)
    {f61 : Addr} {od61 an61 : Option Addr} {sl61 : Array (Option Value)} {oc61 kV61 dc61 pm61 cd61 ct61 : Value}
    (a61 : PySem.W.nsIn K mainGlobals "law" = some (some (.ref f61))) (l61 : K.lookup f61 = some ⟨oc61, od61, .func (PySem.W.fnOf "law" "law" (defArgs (topS 61)) (defBody (topS 61)) (defScope (topS 61)) .none kV61 dc61 pm61 an61 cd61 ct61), sl61⟩) (c61 : PySem.W.codeIn K cd61 "law" = true) (k61 : PySem.W.keepIn K (.ref f61) = true)
    (z_abs : PySem.W.nsIn K mainGlobals "abs" = some none)
    (z_all : PySem.W.nsIn K mainGlobals "all" = some none)
    (z_any : PySem.W.nsIn K mainGlobals "any" = some none)
    (z_bool : PySem.W.nsIn K mainGlobals "bool" = some none)
    (z_divmod : PySem.W.nsIn K mainGlobals "divmod" = some none)
    (z_enumerate : PySem.W.nsIn K mainGlobals "enumerate" = some none)
    (z_int : PySem.W.nsIn K mainGlobals "int" = some none)
    (z_isinstance : PySem.W.nsIn K mainGlobals "isinstance" = some none)
    (z_len : PySem.W.nsIn K mainGlobals "len" = some none)
    (z_list : PySem.W.nsIn K mainGlobals "list" = some none)
    (z_max : PySem.W.nsIn K mainGlobals "max" = some none)
    (z_min : PySem.W.nsIn K mainGlobals "min" = some none)
    (z_range : PySem.W.nsIn K mainGlobals "range" = some none)
    (z_sorted : PySem.W.nsIn K mainGlobals "sorted" = some none)
    (z_str : PySem.W.nsIn K mainGlobals "str" = some none)
    (z_tuple : PySem.W.nsIn K mainGlobals "tuple" = some none)
    (z_zip : PySem.W.nsIn K mainGlobals "zip" = some none)
    {tk15 : Tok} (e15 : PySem.W.nsIn K mainGlobals "DIGITS_AHEAD" = some (some (.str "ABCDEFGHIJKLMNOP" tk15)))
    {tk16 : Tok} (e16 : PySem.W.nsIn K mainGlobals "LAST_DIGITS" = some (some (.str "abcdefghijklmnop" tk16)))
    {tk40 : Tok} (e40 : PySem.W.nsIn K mainGlobals "MOST_LETTERS" = some (some (.int 12 tk40)))
    {tk41 : Tok} (e41 : PySem.W.nsIn K mainGlobals "MOST_WORDS" = some (some (.int 120 tk41)))
    {tk45 : Tok} (e45 : PySem.W.nsIn K mainGlobals "SIZE" = some (some (.int 4 tk45)))
    {tk46 : Tok} (e46 : PySem.W.nsIn K mainGlobals "MOST_SIZE" = some (some (.int 8 tk46)))
    {tk47 : Tok} (e47 : PySem.W.nsIn K mainGlobals "MOST_LENGTHS" = some (some (.int 60 tk47)))
    {f2 : Addr} (a2 : PySem.W.nsIn K mainGlobals "Wrong" = some (some (.ref f2)))
    {f3 : Addr} (a3 : PySem.W.nsIn K mainGlobals "NoWord" = some (some (.ref f3)))
    {f4 : Addr} (a4 : PySem.W.nsIn K mainGlobals "NoNumber" = some (some (.ref f4)))
    {f5 : Addr} (a5 : PySem.W.nsIn K mainGlobals "NoSize" = some (some (.ref f5)))
    {f6 : Addr} (a6 : PySem.W.nsIn K mainGlobals "NoLengths" = some (some (.ref f6)))
    {f7 : Addr} (a7 : PySem.W.nsIn K mainGlobals "NoCode" = some (some (.ref f7)))
    {f8 : Addr} (a8 : PySem.W.nsIn K mainGlobals "NoRow" = some (some (.ref f8)))
    {f9 : Addr} (a9 : PySem.W.nsIn K mainGlobals "NoEntries" = some (some (.ref f9)))
    {f10 : Addr} (a10 : PySem.W.nsIn K mainGlobals "NoPlace" = some (some (.ref f10)))
    {f32 : Addr} (a32 : PySem.W.nsIn K mainGlobals "Walker" = some (some (.ref f32)))
    {f48 : Addr} (a48 : PySem.W.nsIn K mainGlobals "Block" = some (some (.ref f48)))
    {f49 : Addr} (a49 : PySem.W.nsIn K mainGlobals "Row" = some (some (.ref f49)))
    (pg48 : PySem.W.plainGet K f48 Str.empty = true) (hd48 : PySem.W.hasDictIn K f48 = true) (po48 : PySem.W.plainOver K f48 = true) (sa48 : PySem.W.findIn K (.ref f48) "__setattr__" = some (some (.builtin "object.__setattr__"))) (mk48 : PySem.W.makesIn K f48 = true) (kc48 : PySem.W.keepIn K (.ref f48) = true)
    (na48_first : PySem.W.findIn K (.ref f48) "first" = some none)
    (na48_last : PySem.W.findIn K (.ref f48) "last" = some none)
    (na48_many : PySem.W.findIn K (.ref f48) "many" = some none)
    (na48_most : PySem.W.findIn K (.ref f48) "most" = some none)
    (na48_least : PySem.W.findIn K (.ref f48) "least" = some none)
    (na48_coded : PySem.W.findIn K (.ref f48) "coded" = some none)
    (pg49 : PySem.W.plainGet K f49 Str.empty = true) (hd49 : PySem.W.hasDictIn K f49 = true) (po49 : PySem.W.plainOver K f49 = true) (sa49 : PySem.W.findIn K (.ref f49) "__setattr__" = some (some (.builtin "object.__setattr__"))) (mk49 : PySem.W.makesIn K f49 = true) (kc49 : PySem.W.keepIn K (.ref f49) = true)
    (na49_word : PySem.W.findIn K (.ref f49) "word" = some none)
    (na49_size : PySem.W.findIn K (.ref f49) "size" = some none)
    (na49_cut : PySem.W.findIn K (.ref f49) "cut" = some none)
    (pg32 : PySem.W.plainGet K f32 Str.empty = true) (hd32 : PySem.W.hasDictIn K f32 = true) (po32 : PySem.W.plainOver K f32 = true) (sa32 : PySem.W.findIn K (.ref f32) "__setattr__" = some (some (.builtin "object.__setattr__"))) (mk32 : PySem.W.makesIn K f32 = true) (kc32 : PySem.W.keepIn K (.ref f32) = true)
    (na32_heads : PySem.W.findIn K (.ref f32) "heads" = some none)
    (na32_decoded : PySem.W.findIn K (.ref f32) "decoded" = some none)
    (na32_standing : PySem.W.findIn K (.ref f32) "standing" = some none)
    {f62 : Addr} {od62 an62 : Option Addr} {sl62 : Array (Option Value)} {oc62 kV62 dc62 pm62 cd62 ct62 : Value}
    (a62 : PySem.W.findIn K (.ref f48) "__init__" = some (some (.ref f62))) (i62 : PySem.W.isFn K (.ref f62) = true)
    (l62 : K.lookup f62 = some ⟨oc62, od62, .func (PySem.W.fnOf "__init__" "Block.__init__" (defArgs (inClass (topS 48) 0)) (defBody (inClass (topS 48) 0)) (defScope (inClass (topS 48) 0)) .none kV62 dc62 pm62 an62 cd62 ct62), sl62⟩) (c62 : PySem.W.codeIn K cd62 "Block.__init__" = true) (k62 : PySem.W.keepIn K (.ref f62) = true)
    {f63 : Addr} {od63 an63 : Option Addr} {sl63 : Array (Option Value)} {oc63 dc63 pm63 cd63 ct63 : Value} {DK63 : Addr}
    (a63 : PySem.W.findIn K (.ref f49) "__init__" = some (some (.ref f63))) (i63 : PySem.W.isFn K (.ref f63) = true)
    (l63 : K.lookup f63 = some ⟨oc63, od63, .func (PySem.W.fnOf "__init__" "Row.__init__" (defArgs (inClass (topS 49) 0)) (defBody (inClass (topS 49) 0)) (defScope (inClass (topS 49) 0)) .none (.ref DK63) dc63 pm63 an63 cd63 ct63), sl63⟩) (c63 : PySem.W.codeIn K cd63 "Row.__init__" = true) (k63 : PySem.W.keepIn K (.ref f63) = true)
    {tmk63_0 : Tok} (dk63_0 : PySem.W.nsIn K DK63 "size" = some (some (.int 4 tmk63_0)))
    {f64 : Addr} {od64 an64 : Option Addr} {sl64 : Array (Option Value)} {oc64 kV64 dc64 pm64 cd64 ct64 : Value}
    (a64 : PySem.W.findIn K (.ref f49) "blocks" = some (some (.ref f64))) (i64 : PySem.W.isFn K (.ref f64) = true)
    (l64 : K.lookup f64 = some ⟨oc64, od64, .func (PySem.W.fnOf "blocks" "Row.blocks" (defArgs (inClass (topS 49) 3)) (defBody (inClass (topS 49) 3)) (defScope (inClass (topS 49) 3)) .none kV64 dc64 pm64 an64 cd64 ct64), sl64⟩) (c64 : PySem.W.codeIn K cd64 "Row.blocks" = true) (k64 : PySem.W.keepIn K (.ref f64) = true)
    {f65 : Addr} {od65 an65 : Option Addr} {sl65 : Array (Option Value)} {oc65 kV65 dc65 pm65 cd65 ct65 : Value}
    (a65 : PySem.W.findIn K (.ref f49) "entries" = some (some (.ref f65))) (i65 : PySem.W.isFn K (.ref f65) = true)
    (l65 : K.lookup f65 = some ⟨oc65, od65, .func (PySem.W.fnOf "entries" "Row.entries" (defArgs (inClass (topS 49) 4)) (defBody (inClass (topS 49) 4)) (defScope (inClass (topS 49) 4)) .none kV65 dc65 pm65 an65 cd65 ct65), sl65⟩) (c65 : PySem.W.codeIn K cd65 "Row.entries" = true) (k65 : PySem.W.keepIn K (.ref f65) = true)
    {f66 : Addr} {od66 an66 : Option Addr} {sl66 : Array (Option Value)} {oc66 kV66 dc66 pm66 cd66 ct66 : Value}
    (a66 : PySem.W.findIn K (.ref f49) "__eq__" = some (some (.ref f66))) (i66 : PySem.W.isFn K (.ref f66) = true)
    (l66 : K.lookup f66 = some ⟨oc66, od66, .func (PySem.W.fnOf "__eq__" "Row.__eq__" (defArgs (inClass (topS 49) 1)) (defBody (inClass (topS 49) 1)) (defScope (inClass (topS 49) 1)) .none kV66 dc66 pm66 an66 cd66 ct66), sl66⟩) (c66 : PySem.W.codeIn K cd66 "Row.__eq__" = true) (k66 : PySem.W.keepIn K (.ref f66) = true)
    {f67 : Addr} {od67 an67 : Option Addr} {sl67 : Array (Option Value)} {oc67 kV67 dc67 pm67 cd67 ct67 : Value}
    (a67 : PySem.W.findIn K (.ref f32) "__init__" = some (some (.ref f67))) (i67 : PySem.W.isFn K (.ref f67) = true)
    (l67 : K.lookup f67 = some ⟨oc67, od67, .func (PySem.W.fnOf "__init__" "Walker.__init__" (defArgs (inClass (topS 32) 0)) (defBody (inClass (topS 32) 0)) (defScope (inClass (topS 32) 0)) .none kV67 dc67 pm67 an67 cd67 ct67), sl67⟩) (c67 : PySem.W.codeIn K cd67 "Walker.__init__" = true) (k67 : PySem.W.keepIn K (.ref f67) = true)
    {f68 : Addr} {od68 an68 : Option Addr} {sl68 : Array (Option Value)} {oc68 kV68 dc68 pm68 cd68 ct68 : Value}
    (a68 : PySem.W.findIn K (.ref f32) "slot" = some (some (.ref f68))) (i68 : PySem.W.isFn K (.ref f68) = true)
    (l68 : K.lookup f68 = some ⟨oc68, od68, .func (PySem.W.fnOf "slot" "Walker.slot" (defArgs (inClass (topS 32) 1)) (defBody (inClass (topS 32) 1)) (defScope (inClass (topS 32) 1)) .none kV68 dc68 pm68 an68 cd68 ct68), sl68⟩) (c68 : PySem.W.codeIn K cd68 "Walker.slot" = true) (k68 : PySem.W.keepIn K (.ref f68) = true)
    {f69 : Addr} {od69 an69 : Option Addr} {sl69 : Array (Option Value)} {oc69 kV69 dc69 pm69 cd69 ct69 : Value}
    (a69 : PySem.W.findIn K (.ref f32) "step" = some (some (.ref f69))) (i69 : PySem.W.isFn K (.ref f69) = true)
    (l69 : K.lookup f69 = some ⟨oc69, od69, .func (PySem.W.fnOf "step" "Walker.step" (defArgs (inClass (topS 32) 2)) (defBody (inClass (topS 32) 2)) (defScope (inClass (topS 32) 2)) .none kV69 dc69 pm69 an69 cd69 ct69), sl69⟩) (c69 : PySem.W.codeIn K cd69 "Walker.step" = true) (k69 : PySem.W.keepIn K (.ref f69) = true)
    {f70 : Addr} {od70 an70 : Option Addr} {sl70 : Array (Option Value)} {oc70 kV70 dc70 pm70 cd70 ct70 : Value}
    (a70 : PySem.W.findIn K (.ref f32) "seek" = some (some (.ref f70))) (i70 : PySem.W.isFn K (.ref f70) = true)
    (l70 : K.lookup f70 = some ⟨oc70, od70, .func (PySem.W.fnOf "seek" "Walker.seek" (defArgs (inClass (topS 32) 3)) (defBody (inClass (topS 32) 3)) (defScope (inClass (topS 32) 3)) .none kV70 dc70 pm70 an70 cd70 ct70), sl70⟩) (c70 : PySem.W.codeIn K cd70 "Walker.seek" = true) (k70 : PySem.W.keepIn K (.ref f70) = true)
    {f71 : Addr} {od71 an71 : Option Addr} {sl71 : Array (Option Value)} {oc71 kV71 dc71 pm71 cd71 ct71 : Value}
    (a71 : PySem.W.findIn K (.ref f32) "entries_in" = some (some (.ref f71))) (i71 : PySem.W.isFn K (.ref f71) = true)
    (l71 : K.lookup f71 = some ⟨oc71, od71, .func (PySem.W.fnOf "entries_in" "Walker.entries_in" (defArgs (inClass (topS 32) 10)) (defBody (inClass (topS 32) 10)) (defScope (inClass (topS 32) 10)) .none kV71 dc71 pm71 an71 cd71 ct71), sl71⟩) (c71 : PySem.W.codeIn K cd71 "Walker.entries_in" = true) (k71 : PySem.W.keepIn K (.ref f71) = true)
    {f72 : Addr} {od72 an72 : Option Addr} {sl72 : Array (Option Value)} {oc72 kV72 dc72 pm72 cd72 ct72 : Value}
    (a72 : PySem.W.findIn K (.ref f32) "slot_at" = some (some (.ref f72))) (i72 : PySem.W.isFn K (.ref f72) = true)
    (l72 : K.lookup f72 = some ⟨oc72, od72, .func (PySem.W.fnOf "slot_at" "Walker.slot_at" (defArgs (inClass (topS 32) 11)) (defBody (inClass (topS 32) 11)) (defScope (inClass (topS 32) 11)) .none kV72 dc72 pm72 an72 cd72 ct72), sl72⟩) (c72 : PySem.W.codeIn K cd72 "Walker.slot_at" = true) (k72 : PySem.W.keepIn K (.ref f72) = true)
    {f73 : Addr} {od73 an73 : Option Addr} {sl73 : Array (Option Value)} {oc73 kV73 dc73 pm73 cd73 ct73 : Value}
    (a73 : PySem.W.findIn K (.ref f32) "reaching" = some (some (.ref f73))) (i73 : PySem.W.isFn K (.ref f73) = true)
    (l73 : K.lookup f73 = some ⟨oc73, od73, .func (PySem.W.fnOf "reaching" "Walker.reaching" (defArgs (inClass (topS 32) 12)) (defBody (inClass (topS 32) 12)) (defScope (inClass (topS 32) 12)) .none kV73 dc73 pm73 an73 cd73 ct73), sl73⟩) (c73 : PySem.W.codeIn K cd73 "Walker.reaching" = true) (k73 : PySem.W.keepIn K (.ref f73) = true)
    {f74 : Addr} {od74 an74 : Option Addr} {sl74 : Array (Option Value)} {oc74 kV74 dc74 pm74 cd74 ct74 : Value}
    (a74 : PySem.W.findIn K (.ref f32) "sought" = some (some (.ref f74))) (i74 : PySem.W.isFn K (.ref f74) = true)
    (l74 : K.lookup f74 = some ⟨oc74, od74, .func (PySem.W.fnOf "sought" "Walker.sought" (defArgs (inClass (topS 32) 13)) (defBody (inClass (topS 32) 13)) (defScope (inClass (topS 32) 13)) .none kV74 dc74 pm74 an74 cd74 ct74), sl74⟩) (c74 : PySem.W.codeIn K cd74 "Walker.sought" = true) (k74 : PySem.W.keepIn K (.ref f74) = true)
    : ∃ fd : FuncData, (∀ (s : Shared) (v : Value), BindsTo s fd ⟨[v], []⟩ [("_law_script", v)]) ∧ ∀ base : Heap, K.In base → base.Ns mainGlobals mg → FnOk l.prog w K mg base CX0 12 fa fd ["_law_script"] (spLaw K) := by
  have e := hfa.symm.trans (PySem.W.mg_of X G a61)
  cases e
  let A : Nat → Addr := fun i => ([f0, 0, f2, f3, f4, f5, f6, f7, f8, f9, f10, 0, f12, f13, 0, 0, 0, f17, f18, f19, f20, f21, f22, f23, f24, f25, f26, f27, f28, f29, f30, 0, f32, f33, f34, f35, f36, f37, f38, 0, 0, 0, f42, f43, 0, 0, 0, 0, f48, f49, f50, f51, f52, 0, f54, f55, f56, f57, f58, f59, f60, fa, f62, f63, f64, f65, f66, f67, f68, f69, f70, f71, f72, f73, f74] : List Addr).getD i 0
  let FD : Nat → FuncData := fun i => ([PySem.W.fnOf "_wall" "_wall" (defArgs (topS 0)) (defBody (topS 0)) (defScope (topS 0)) .none kV0 dc0 pm0 an0 cd0 ct0, PySem.W.fnOf "law" "law" (defArgs (topS 61)) (defBody (topS 61)) (defScope (topS 61)) .none kV61 dc61 pm61 an61 cd61 ct61, PySem.W.fnOf "law" "law" (defArgs (topS 61)) (defBody (topS 61)) (defScope (topS 61)) .none kV61 dc61 pm61 an61 cd61 ct61, PySem.W.fnOf "law" "law" (defArgs (topS 61)) (defBody (topS 61)) (defScope (topS 61)) .none kV61 dc61 pm61 an61 cd61 ct61, PySem.W.fnOf "law" "law" (defArgs (topS 61)) (defBody (topS 61)) (defScope (topS 61)) .none kV61 dc61 pm61 an61 cd61 ct61, PySem.W.fnOf "law" "law" (defArgs (topS 61)) (defBody (topS 61)) (defScope (topS 61)) .none kV61 dc61 pm61 an61 cd61 ct61, PySem.W.fnOf "law" "law" (defArgs (topS 61)) (defBody (topS 61)) (defScope (topS 61)) .none kV61 dc61 pm61 an61 cd61 ct61, PySem.W.fnOf "law" "law" (defArgs (topS 61)) (defBody (topS 61)) (defScope (topS 61)) .none kV61 dc61 pm61 an61 cd61 ct61, PySem.W.fnOf "law" "law" (defArgs (topS 61)) (defBody (topS 61)) (defScope (topS 61)) .none kV61 dc61 pm61 an61 cd61 ct61, PySem.W.fnOf "law" "law" (defArgs (topS 61)) (defBody (topS 61)) (defScope (topS 61)) .none kV61 dc61 pm61 an61 cd61 ct61, PySem.W.fnOf "law" "law" (defArgs (topS 61)) (defBody (topS 61)) (defScope (topS 61)) .none kV61 dc61 pm61 an61 cd61 ct61, PySem.W.fnOf "law" "law" (defArgs (topS 61)) (defBody (topS 61)) (defScope (topS 61)) .none kV61 dc61 pm61 an61 cd61 ct61, PySem.W.fnOf "is_whole" "is_whole" (defArgs (topS 12)) (defBody (topS 12)) (defScope (topS 12)) .none kV12 dc12 pm12 an12 cd12 ct12, PySem.W.fnOf "is_within" "is_within" (defArgs (topS 13)) (defBody (topS 13)) (defScope (topS 13)) .none kV13 dc13 pm13 an13 cd13 ct13, PySem.W.fnOf "law" "law" (defArgs (topS 61)) (defBody (topS 61)) (defScope (topS 61)) .none kV61 dc61 pm61 an61 cd61 ct61, PySem.W.fnOf "law" "law" (defArgs (topS 61)) (defBody (topS 61)) (defScope (topS 61)) .none kV61 dc61 pm61 an61 cd61 ct61, PySem.W.fnOf "law" "law" (defArgs (topS 61)) (defBody (topS 61)) (defScope (topS 61)) .none kV61 dc61 pm61 an61 cd61 ct61, PySem.W.fnOf "is_count" "is_count" (defArgs (topS 17)) (defBody (topS 17)) (defScope (topS 17)) .none kV17 dc17 pm17 an17 cd17 ct17, PySem.W.fnOf "code" "code" (defArgs (topS 18)) (defBody (topS 18)) (defScope (topS 18)) .none kV18 dc18 pm18 an18 cd18 ct18, PySem.W.fnOf "code_all" "code_all" (defArgs (topS 19)) (defBody (topS 19)) (defScope (topS 19)) .none kV19 dc19 pm19 an19 cd19 ct19, PySem.W.fnOf "code_entries" "code_entries" (defArgs (topS 20)) (defBody (topS 20)) (defScope (topS 20)) .none kV20 dc20 pm20 an20 cd20 ct20, PySem.W.fnOf "decode_entries" "decode_entries" (defArgs (topS 21)) (defBody (topS 21)) (defScope (topS 21)) .none kV21 dc21 pm21 an21 cd21 ct21, PySem.W.fnOf "check_entries" "check_entries" (defArgs (topS 22)) (defBody (topS 22)) (defScope (topS 22)) .none kV22 dc22 pm22 an22 cd22 ct22, PySem.W.fnOf "is_entry" "is_entry" (defArgs (topS 23)) (defBody (topS 23)) (defScope (topS 23)) .none kV23 dc23 pm23 an23 cd23 ct23, PySem.W.fnOf "are_places" "are_places" (defArgs (topS 24)) (defBody (topS 24)) (defScope (topS 24)) .none kV24 dc24 pm24 an24 cd24 ct24, PySem.W.fnOf "first_fall" "first_fall" (defArgs (topS 25)) (defBody (topS 25)) (defScope (topS 25)) .none kV25 dc25 pm25 an25 cd25 ct25, PySem.W.fnOf "gaps_of" "gaps_of" (defArgs (topS 26)) (defBody (topS 26)) (defScope (topS 26)) .none kV26 dc26 pm26 an26 cd26 ct26, PySem.W.fnOf "risen" "risen" (defArgs (topS 27)) (defBody (topS 27)) (defScope (topS 27)) .none kV27 dc27 pm27 an27 cd27 ct27, PySem.W.fnOf "check_text" "check_text" (defArgs (topS 28)) (defBody (topS 28)) (defScope (topS 28)) .none kV28 dc28 pm28 an28 cd28 ct28, PySem.W.fnOf "read_number" "read_number" (defArgs (topS 29)) (defBody (topS 29)) (defScope (topS 29)) .none kV29 dc29 pm29 an29 cd29 ct29, PySem.W.fnOf "read_numbers" "read_numbers" (defArgs (topS 30)) (defBody (topS 30)) (defScope (topS 30)) .none kV30 dc30 pm30 an30 cd30 ct30, PySem.W.fnOf "law" "law" (defArgs (topS 61)) (defBody (topS 61)) (defScope (topS 61)) .none kV61 dc61 pm61 an61 cd61 ct61, PySem.W.fnOf "law" "law" (defArgs (topS 61)) (defBody (topS 61)) (defScope (topS 61)) .none kV61 dc61 pm61 an61 cd61 ct61, PySem.W.fnOf "check_number" "check_number" (defArgs (topS 33)) (defBody (topS 33)) (defScope (topS 33)) .none kV33 dc33 pm33 an33 cd33 ct33, PySem.W.fnOf "common" "common" (defArgs (topS 34)) (defBody (topS 34)) (defScope (topS 34)) .none kV34 dc34 pm34 an34 cd34 ct34, PySem.W.fnOf "reached_by_all" "reached_by_all" (defArgs (topS 35)) (defBody (topS 35)) (defScope (topS 35)) .none kV35 dc35 pm35 an35 cd35 ct35, PySem.W.fnOf "either" "either" (defArgs (topS 36)) (defBody (topS 36)) (defScope (topS 36)) .none kV36 dc36 pm36 an36 cd36 ct36, PySem.W.fnOf "without" "without" (defArgs (topS 37)) (defBody (topS 37)) (defScope (topS 37)) .none kV37 dc37 pm37 an37 cd37 ct37, PySem.W.fnOf "slots_of" "slots_of" (defArgs (topS 38)) (defBody (topS 38)) (defScope (topS 38)) .none kV38 dc38 pm38 an38 cd38 ct38, PySem.W.fnOf "law" "law" (defArgs (topS 61)) (defBody (topS 61)) (defScope (topS 61)) .none kV61 dc61 pm61 an61 cd61 ct61, PySem.W.fnOf "law" "law" (defArgs (topS 61)) (defBody (topS 61)) (defScope (topS 61)) .none kV61 dc61 pm61 an61 cd61 ct61, PySem.W.fnOf "law" "law" (defArgs (topS 61)) (defBody (topS 61)) (defScope (topS 61)) .none kV61 dc61 pm61 an61 cd61 ct61, PySem.W.fnOf "is_word" "is_word" (defArgs (topS 42)) (defBody (topS 42)) (defScope (topS 42)) .none kV42 dc42 pm42 an42 cd42 ct42, PySem.W.fnOf "check_word" "check_word" (defArgs (topS 43)) (defBody (topS 43)) (defScope (topS 43)) .none kV43 dc43 pm43 an43 cd43 ct43, PySem.W.fnOf "law" "law" (defArgs (topS 61)) (defBody (topS 61)) (defScope (topS 61)) .none kV61 dc61 pm61 an61 cd61 ct61, PySem.W.fnOf "law" "law" (defArgs (topS 61)) (defBody (topS 61)) (defScope (topS 61)) .none kV61 dc61 pm61 an61 cd61 ct61, PySem.W.fnOf "law" "law" (defArgs (topS 61)) (defBody (topS 61)) (defScope (topS 61)) .none kV61 dc61 pm61 an61 cd61 ct61, PySem.W.fnOf "law" "law" (defArgs (topS 61)) (defBody (topS 61)) (defScope (topS 61)) .none kV61 dc61 pm61 an61 cd61 ct61, PySem.W.fnOf "law" "law" (defArgs (topS 61)) (defBody (topS 61)) (defScope (topS 61)) .none kV61 dc61 pm61 an61 cd61 ct61, PySem.W.fnOf "law" "law" (defArgs (topS 61)) (defBody (topS 61)) (defScope (topS 61)) .none kV61 dc61 pm61 an61 cd61 ct61, PySem.W.fnOf "check_lengths" "check_lengths" (defArgs (topS 50)) (defBody (topS 50)) (defScope (topS 50)) .none kV50 dc50 pm50 an50 cd50 ct50, PySem.W.fnOf "check_size" "check_size" (defArgs (topS 51)) (defBody (topS 51)) (defScope (topS 51)) .none kV51 dc51 pm51 an51 cd51 ct51, PySem.W.fnOf "check_fit" "check_fit" (defArgs (topS 52)) (defBody (topS 52)) (defScope (topS 52)) .none kV52 dc52 pm52 an52 cd52 ct52, PySem.W.fnOf "law" "law" (defArgs (topS 61)) (defBody (topS 61)) (defScope (topS 61)) .none kV61 dc61 pm61 an61 cd61 ct61, PySem.W.fnOf "_law_pool" "_law_pool" (defArgs (topS 54)) (defBody (topS 54)) (defScope (topS 54)) .none kV54 dc54 pm54 an54 cd54 ct54, PySem.W.fnOf "_law_take" "_law_take" (defArgs (topS 55)) (defBody (topS 55)) (defScope (topS 55)) .none kV55 dc55 pm55 an55 cd55 ct55, PySem.W.fnOf "_law_kinds" "_law_kinds" (defArgs (topS 56)) (defBody (topS 56)) (defScope (topS 56)) .none kV56 dc56 pm56 an56 cd56 ct56, PySem.W.fnOf "_law_whole" "_law_whole" (defArgs (topS 57)) (defBody (topS 57)) (defScope (topS 57)) .none kV57 dc57 pm57 an57 cd57 ct57, PySem.W.fnOf "_law_row_entries" "_law_row_entries" (defArgs (topS 58)) (defBody (topS 58)) (defScope (topS 58)) .none kV58 dc58 pm58 an58 cd58 ct58, PySem.W.fnOf "_law_lengths" "_law_lengths" (defArgs (topS 59)) (defBody (topS 59)) (defScope (topS 59)) .none kV59 dc59 pm59 an59 cd59 ct59, PySem.W.fnOf "_law_right" "_law_right" (defArgs (topS 60)) (defBody (topS 60)) (defScope (topS 60)) .none kV60 dc60 pm60 an60 cd60 ct60, PySem.W.fnOf "law" "law" (defArgs (topS 61)) (defBody (topS 61)) (defScope (topS 61)) .none kV61 dc61 pm61 an61 cd61 ct61, PySem.W.fnOf "__init__" "Block.__init__" (defArgs (inClass (topS 48) 0)) (defBody (inClass (topS 48) 0)) (defScope (inClass (topS 48) 0)) .none kV62 dc62 pm62 an62 cd62 ct62, PySem.W.fnOf "__init__" "Row.__init__" (defArgs (inClass (topS 49) 0)) (defBody (inClass (topS 49) 0)) (defScope (inClass (topS 49) 0)) .none (.ref DK63) dc63 pm63 an63 cd63 ct63, PySem.W.fnOf "blocks" "Row.blocks" (defArgs (inClass (topS 49) 3)) (defBody (inClass (topS 49) 3)) (defScope (inClass (topS 49) 3)) .none kV64 dc64 pm64 an64 cd64 ct64, PySem.W.fnOf "entries" "Row.entries" (defArgs (inClass (topS 49) 4)) (defBody (inClass (topS 49) 4)) (defScope (inClass (topS 49) 4)) .none kV65 dc65 pm65 an65 cd65 ct65, PySem.W.fnOf "__eq__" "Row.__eq__" (defArgs (inClass (topS 49) 1)) (defBody (inClass (topS 49) 1)) (defScope (inClass (topS 49) 1)) .none kV66 dc66 pm66 an66 cd66 ct66, PySem.W.fnOf "__init__" "Walker.__init__" (defArgs (inClass (topS 32) 0)) (defBody (inClass (topS 32) 0)) (defScope (inClass (topS 32) 0)) .none kV67 dc67 pm67 an67 cd67 ct67, PySem.W.fnOf "slot" "Walker.slot" (defArgs (inClass (topS 32) 1)) (defBody (inClass (topS 32) 1)) (defScope (inClass (topS 32) 1)) .none kV68 dc68 pm68 an68 cd68 ct68, PySem.W.fnOf "step" "Walker.step" (defArgs (inClass (topS 32) 2)) (defBody (inClass (topS 32) 2)) (defScope (inClass (topS 32) 2)) .none kV69 dc69 pm69 an69 cd69 ct69, PySem.W.fnOf "seek" "Walker.seek" (defArgs (inClass (topS 32) 3)) (defBody (inClass (topS 32) 3)) (defScope (inClass (topS 32) 3)) .none kV70 dc70 pm70 an70 cd70 ct70, PySem.W.fnOf "entries_in" "Walker.entries_in" (defArgs (inClass (topS 32) 10)) (defBody (inClass (topS 32) 10)) (defScope (inClass (topS 32) 10)) .none kV71 dc71 pm71 an71 cd71 ct71, PySem.W.fnOf "slot_at" "Walker.slot_at" (defArgs (inClass (topS 32) 11)) (defBody (inClass (topS 32) 11)) (defScope (inClass (topS 32) 11)) .none kV72 dc72 pm72 an72 cd72 ct72, PySem.W.fnOf "reaching" "Walker.reaching" (defArgs (inClass (topS 32) 12)) (defBody (inClass (topS 32) 12)) (defScope (inClass (topS 32) 12)) .none kV73 dc73 pm73 an73 cd73 ct73, PySem.W.fnOf "sought" "Walker.sought" (defArgs (inClass (topS 32) 13)) (defBody (inClass (topS 32) 13)) (defScope (inClass (topS 32) 13)) .none kV74 dc74 pm74 an74 cd74 ct74] : List FuncData).getD i (PySem.W.fnOf "law" "law" (defArgs (topS 61)) (defBody (topS 61)) (defScope (topS 61)) .none kV61 dc61 pm61 an61 cd61 ct61)
  let TK : Nat → Tok := fun i => ([0, 0, 0, 0, 0, 0, 0, 0, 0, 0, 0, 0, 0, 0, 0, tk15, tk16, 0, 0, 0, 0, 0, 0, 0, 0, 0, 0, 0, 0, 0, 0, 0, 0, 0, 0, 0, 0, 0, 0, 0, tk40, tk41, 0, 0, 0, tk45, tk46, tk47] : List Tok).getD i 0
  have T : TX K mg A FD TK := {
    f_wall := fun_mk (st := topS 0) l0 c0 k0
    b_wall := (fun_mk (st := topS 0) l0 c0 k0).binds (ps := ["k"]) fun _ _ _ _ _ _ us hl => match us, hl with | [_], _ => rfl
    g_wall := PySem.W.mg_of X G a0
    f_is_whole := fun_mk (st := topS 12) l12 c12 k12
    b_is_whole := (fun_mk (st := topS 12) l12 c12 k12).binds (ps := ["thing"]) fun _ _ _ _ _ _ us hl => match us, hl with | [_], _ => rfl
    g_is_whole := PySem.W.mg_of X G a12
    f_is_within := fun_mk (st := topS 13) l13 c13 k13
    b_is_within := (fun_mk (st := topS 13) l13 c13 k13).binds (ps := ["thing", "least", "most"]) fun _ _ _ _ _ _ us hl => match us, hl with | [_, _, _], _ => rfl
    g_is_within := PySem.W.mg_of X G a13
    f_is_count := fun_mk (st := topS 17) l17 c17 k17
    b_is_count := (fun_mk (st := topS 17) l17 c17 k17).binds (ps := ["thing"]) fun _ _ _ _ _ _ us hl => match us, hl with | [_], _ => rfl
    g_is_count := PySem.W.mg_of X G a17
    f_code := fun_mk (st := topS 18) l18 c18 k18
    b_code := (fun_mk (st := topS 18) l18 c18 k18).binds (ps := ["number"]) fun _ _ _ _ _ _ us hl => match us, hl with | [_], _ => rfl
    g_code := PySem.W.mg_of X G a18
    f_code_all := fun_mk (st := topS 19) l19 c19 k19
    b_code_all := (fun_mk (st := topS 19) l19 c19 k19).binds (ps := ["numbers"]) fun _ _ _ _ _ _ us hl => match us, hl with | [_], _ => rfl
    g_code_all := PySem.W.mg_of X G a19
    f_code_entries := fun_mk (st := topS 20) l20 c20 k20
    b_code_entries := (fun_mk (st := topS 20) l20 c20 k20).binds (ps := ["entries"]) fun _ _ _ _ _ _ us hl => match us, hl with | [_], _ => rfl
    g_code_entries := PySem.W.mg_of X G a20
    f_decode_entries := fun_mk (st := topS 21) l21 c21 k21
    b_decode_entries := (fun_mk (st := topS 21) l21 c21 k21).binds (ps := ["text"]) fun _ _ _ _ _ _ us hl => match us, hl with | [_], _ => rfl
    g_decode_entries := PySem.W.mg_of X G a21
    f_check_entries := fun_mk (st := topS 22) l22 c22 k22
    b_check_entries := (fun_mk (st := topS 22) l22 c22 k22).binds (ps := ["entries"]) fun _ _ _ _ _ _ us hl => match us, hl with | [_], _ => rfl
    g_check_entries := PySem.W.mg_of X G a22
    f_is_entry := fun_mk (st := topS 23) l23 c23 k23
    b_is_entry := (fun_mk (st := topS 23) l23 c23 k23).binds (ps := ["thing"]) fun _ _ _ _ _ _ us hl => match us, hl with | [_], _ => rfl
    g_is_entry := PySem.W.mg_of X G a23
    f_are_places := fun_mk (st := topS 24) l24 c24 k24
    b_are_places := (fun_mk (st := topS 24) l24 c24 k24).binds (ps := ["thing"]) fun _ _ _ _ _ _ us hl => match us, hl with | [_], _ => rfl
    g_are_places := PySem.W.mg_of X G a24
    f_first_fall := fun_mk (st := topS 25) l25 c25 k25
    b_first_fall := (fun_mk (st := topS 25) l25 c25 k25).binds (ps := ["things"]) fun _ _ _ _ _ _ us hl => match us, hl with | [_], _ => rfl
    g_first_fall := PySem.W.mg_of X G a25
    f_gaps_of := fun_mk (st := topS 26) l26 c26 k26
    b_gaps_of := (fun_mk (st := topS 26) l26 c26 k26).binds (ps := ["numbers"]) fun _ _ _ _ _ _ us hl => match us, hl with | [_], _ => rfl
    g_gaps_of := PySem.W.mg_of X G a26
    f_risen := fun_mk (st := topS 27) l27 c27 k27
    b_risen := (fun_mk (st := topS 27) l27 c27 k27).binds (ps := ["gaps"]) fun _ _ _ _ _ _ us hl => match us, hl with | [_], _ => rfl
    g_risen := PySem.W.mg_of X G a27
    f_check_text := fun_mk (st := topS 28) l28 c28 k28
    b_check_text := (fun_mk (st := topS 28) l28 c28 k28).binds (ps := ["text"]) fun _ _ _ _ _ _ us hl => match us, hl with | [_], _ => rfl
    g_check_text := PySem.W.mg_of X G a28
    f_read_number := fun_mk (st := topS 29) l29 c29 k29
    b_read_number := (fun_mk (st := topS 29) l29 c29 k29).binds (ps := ["text", "start"]) fun _ _ _ _ _ _ us hl => match us, hl with | [_, _], _ => rfl
    g_read_number := PySem.W.mg_of X G a29
    f_read_numbers := fun_mk (st := topS 30) l30 c30 k30
    b_read_numbers := (fun_mk (st := topS 30) l30 c30 k30).binds (ps := ["text", "at", "many"]) fun _ _ _ _ _ _ us hl => match us, hl with | [_, _, _], _ => rfl
    g_read_numbers := PySem.W.mg_of X G a30
    f_check_number := fun_mk (st := topS 33) l33 c33 k33
    b_check_number := (fun_mk (st := topS 33) l33 c33 k33).binds (ps := ["slot"]) fun _ _ _ _ _ _ us hl => match us, hl with | [_], _ => rfl
    g_check_number := PySem.W.mg_of X G a33
    f_common := fun_mk (st := topS 34) l34 c34 k34
    b_common := (fun_mk (st := topS 34) l34 c34 k34).binds (ps := ["rows"]) fun _ _ _ _ _ _ us hl => match us, hl with | [_], _ => rfl
    g_common := PySem.W.mg_of X G a34
    f_reached_by_all := fun_mk (st := topS 35) l35 c35 k35
    b_reached_by_all := (fun_mk (st := topS 35) l35 c35 k35).binds (ps := ["walkers", "slot"]) fun _ _ _ _ _ _ us hl => match us, hl with | [_, _], _ => rfl
    g_reached_by_all := PySem.W.mg_of X G a35
    f_either := fun_mk (st := topS 36) l36 c36 k36
    b_either := (fun_mk (st := topS 36) l36 c36 k36).binds (ps := ["rows"]) fun _ _ _ _ _ _ us hl => match us, hl with | [_], _ => rfl
    g_either := PySem.W.mg_of X G a36
    f_without := fun_mk (st := topS 37) l37 c37 k37
    b_without := (fun_mk (st := topS 37) l37 c37 k37).binds (ps := ["row", "other"]) fun _ _ _ _ _ _ us hl => match us, hl with | [_, _], _ => rfl
    g_without := PySem.W.mg_of X G a37
    f_slots_of := fun_mk (st := topS 38) l38 c38 k38
    b_slots_of := (fun_mk (st := topS 38) l38 c38 k38).binds (ps := ["row"]) fun _ _ _ _ _ _ us hl => match us, hl with | [_], _ => rfl
    g_slots_of := PySem.W.mg_of X G a38
    f_is_word := fun_mk (st := topS 42) l42 c42 k42
    b_is_word := (fun_mk (st := topS 42) l42 c42 k42).binds (ps := ["thing"]) fun _ _ _ _ _ _ us hl => match us, hl with | [_], _ => rfl
    g_is_word := PySem.W.mg_of X G a42
    f_check_word := fun_mk (st := topS 43) l43 c43 k43
    b_check_word := (fun_mk (st := topS 43) l43 c43 k43).binds (ps := ["word"]) fun _ _ _ _ _ _ us hl => match us, hl with | [_], _ => rfl
    g_check_word := PySem.W.mg_of X G a43
    f_check_lengths := fun_mk (st := topS 50) l50 c50 k50
    b_check_lengths := (fun_mk (st := topS 50) l50 c50 k50).binds (ps := ["lengths"]) fun _ _ _ _ _ _ us hl => match us, hl with | [_], _ => rfl
    g_check_lengths := PySem.W.mg_of X G a50
    f_check_size := fun_mk (st := topS 51) l51 c51 k51
    b_check_size := (fun_mk (st := topS 51) l51 c51 k51).binds (ps := ["size"]) fun _ _ _ _ _ _ us hl => match us, hl with | [_], _ => rfl
    g_check_size := PySem.W.mg_of X G a51
    f_check_fit := fun_mk (st := topS 52) l52 c52 k52
    b_check_fit := (fun_mk (st := topS 52) l52 c52 k52).binds (ps := ["entries", "lengths"]) fun _ _ _ _ _ _ us hl => match us, hl with | [_, _], _ => rfl
    g_check_fit := PySem.W.mg_of X G a52
    f_l_pool := fun_mk (st := topS 54) l54 c54 k54
    b_l_pool := (fun_mk (st := topS 54) l54 c54 k54).binds (ps := ["_law_script", "_law_at"]) fun _ _ _ _ _ _ us hl => match us, hl with | [_, _], _ => rfl
    g_l_pool := PySem.W.mg_of X G a54
    f_l_take := fun_mk (st := topS 55) l55 c55 k55
    b_l_take := (fun_mk (st := topS 55) l55 c55 k55).binds (ps := ["_law_pool_here", "_law_many"]) fun _ _ _ _ _ _ us hl => match us, hl with | [_, _], _ => rfl
    g_l_take := PySem.W.mg_of X G a55
    f_l_kinds := fun_mk (st := topS 56) l56 c56 k56
    b_l_kinds := (fun_mk (st := topS 56) l56 c56 k56).binds (ps := ["_law_pool_here"]) fun _ _ _ _ _ _ us hl => match us, hl with | [_], _ => rfl
    g_l_kinds := PySem.W.mg_of X G a56
    f_l_whole := fun_mk (st := topS 57) l57 c57 k57
    b_l_whole := (fun_mk (st := topS 57) l57 c57 k57).binds (ps := ["_law_thing"]) fun _ _ _ _ _ _ us hl => match us, hl with | [_], _ => rfl
    g_l_whole := PySem.W.mg_of X G a57
    f_l_row_entries := fun_mk (st := topS 58) l58 c58 k58
    b_l_row_entries := (fun_mk (st := topS 58) l58 c58 k58).binds (ps := ["_law_pool_here", "_law_many", "_law_most"]) fun _ _ _ _ _ _ us hl => match us, hl with | [_, _, _], _ => rfl
    g_l_row_entries := PySem.W.mg_of X G a58
    f_l_lengths := fun_mk (st := topS 59) l59 c59 k59
    b_l_lengths := (fun_mk (st := topS 59) l59 c59 k59).binds (ps := ["_law_pool_here", "_law_entries"]) fun _ _ _ _ _ _ us hl => match us, hl with | [_, _], _ => rfl
    g_l_lengths := PySem.W.mg_of X G a59
    f_l_right := fun_mk (st := topS 60) l60 c60 k60
    b_l_right := (fun_mk (st := topS 60) l60 c60 k60).binds (ps := ["_law_rows", "_law_slots"]) fun _ _ _ _ _ _ us hl => match us, hl with | [_, _], _ => rfl
    g_l_right := PySem.W.mg_of X G a60
    f_law := fun_mk (st := topS 61) l61 c61 k61
    b_law := (fun_mk (st := topS 61) l61 c61 k61).binds (ps := ["_law_script"]) fun _ _ _ _ _ _ us hl => match us, hl with | [_], _ => rfl
    g_law := PySem.W.mg_of X G a61
    m_abs := PySem.W.mg_none_of X G z_abs
    m_all := PySem.W.mg_none_of X G z_all
    m_any := PySem.W.mg_none_of X G z_any
    m_bool := PySem.W.mg_none_of X G z_bool
    m_divmod := PySem.W.mg_none_of X G z_divmod
    m_enumerate := PySem.W.mg_none_of X G z_enumerate
    m_int := PySem.W.mg_none_of X G z_int
    m_isinstance := PySem.W.mg_none_of X G z_isinstance
    m_len := PySem.W.mg_none_of X G z_len
    m_list := PySem.W.mg_none_of X G z_list
    m_max := PySem.W.mg_none_of X G z_max
    m_min := PySem.W.mg_none_of X G z_min
    m_range := PySem.W.mg_none_of X G z_range
    m_sorted := PySem.W.mg_none_of X G z_sorted
    m_str := PySem.W.mg_none_of X G z_str
    m_tuple := PySem.W.mg_none_of X G z_tuple
    m_zip := PySem.W.mg_none_of X G z_zip
    c_DIGITS_AHEAD := PySem.W.mg_of X G e15
    c_LAST_DIGITS := PySem.W.mg_of X G e16
    c_MOST_LETTERS := PySem.W.mg_of X G e40
    c_MOST_WORDS := PySem.W.mg_of X G e41
    c_SIZE := PySem.W.mg_of X G e45
    c_MOST_SIZE := PySem.W.mg_of X G e46
    c_MOST_LENGTHS := PySem.W.mg_of X G e47
    k_Wrong := PySem.W.mg_of X G a2
    k_NoWord := PySem.W.mg_of X G a3
    k_NoNumber := PySem.W.mg_of X G a4
    k_NoSize := PySem.W.mg_of X G a5
    k_NoLengths := PySem.W.mg_of X G a6
    k_NoCode := PySem.W.mg_of X G a7
    k_NoRow := PySem.W.mg_of X G a8
    k_NoEntries := PySem.W.mg_of X G a9
    k_NoPlace := PySem.W.mg_of X G a10
    k_Walker := PySem.W.mg_of X G a32
    k_Block := PySem.W.mg_of X G a48
    k_Row := PySem.W.mg_of X G a49
    cl_Block := ⟨pg48, hd48, po48, sa48⟩
    n_Block_first := na48_first
    n_Block_last := na48_last
    n_Block_many := na48_many
    n_Block_most := na48_most
    n_Block_least := na48_least
    n_Block_coded := na48_coded
    cl_Row := ⟨pg49, hd49, po49, sa49⟩
    n_Row_word := na49_word
    n_Row_size := na49_size
    n_Row_cut := na49_cut
    cl_Walker := ⟨pg32, hd32, po32, sa32⟩
    n_Walker_heads := na32_heads
    n_Walker_decoded := na32_decoded
    n_Walker_standing := na32_standing
    f_Block_init := fun_mk (st := inClass (topS 48) 0) l62 c62 k62
    b_Block_init := (fun_mk (st := inClass (topS 48) 0) l62 c62 k62).binds (ps := ["self", "entries", "lengths"]) fun _ _ _ _ _ _ us hl => match us, hl with | [_, _, _], _ => rfl
    M_Block := ⟨mk48, a62, i62, kc48⟩
    f_Row_init := ⟨⟨oc63, od63, .none, .ref DK63, dc63, pm63, an63, cd63, ct63, sl63, rfl, l63, c63, .inl ⟨rfl, rfl⟩, .inr ⟨DK63, rfl, fun q hq => by
        simp only [List.mem_cons, List.not_mem_nil, or_false] at hq
        subst hq
        exact ⟨_, dk63_0, ⟨_, rfl⟩⟩⟩⟩, k63⟩
    M_Row := ⟨mk49, a63, i63, kc49⟩
    f_Row_blocks := fun_mk (st := inClass (topS 49) 3) l64 c64 k64
    b_Row_blocks := (fun_mk (st := inClass (topS 49) 3) l64 c64 k64).binds (ps := ["self"]) fun _ _ _ _ _ _ us hl => match us, hl with | [_], _ => rfl
    M_Row_blocks := ⟨a64, i64, k64⟩
    f_Row_entries := fun_mk (st := inClass (topS 49) 4) l65 c65 k65
    b_Row_entries := (fun_mk (st := inClass (topS 49) 4) l65 c65 k65).binds (ps := ["self"]) fun _ _ _ _ _ _ us hl => match us, hl with | [_], _ => rfl
    M_Row_entries := ⟨a65, i65, k65⟩
    f_Row_eq := fun_mk (st := inClass (topS 49) 1) l66 c66 k66
    b_Row_eq := (fun_mk (st := inClass (topS 49) 1) l66 c66 k66).binds (ps := ["self", "other"]) fun _ _ _ _ _ _ us hl => match us, hl with | [_, _], _ => rfl
    M_Row_eq := ⟨a66, i66, k66⟩
    f_Walker_init := fun_mk (st := inClass (topS 32) 0) l67 c67 k67
    b_Walker_init := (fun_mk (st := inClass (topS 32) 0) l67 c67 k67).binds (ps := ["self", "row"]) fun _ _ _ _ _ _ us hl => match us, hl with | [_, _], _ => rfl
    M_Walker := ⟨mk32, a67, i67, kc32⟩
    f_Walker_slot := fun_mk (st := inClass (topS 32) 1) l68 c68 k68
    b_Walker_slot := (fun_mk (st := inClass (topS 32) 1) l68 c68 k68).binds (ps := ["self"]) fun _ _ _ _ _ _ us hl => match us, hl with | [_], _ => rfl
    M_Walker_slot := ⟨a68, i68, k68⟩
    f_Walker_step := fun_mk (st := inClass (topS 32) 2) l69 c69 k69
    b_Walker_step := (fun_mk (st := inClass (topS 32) 2) l69 c69 k69).binds (ps := ["self"]) fun _ _ _ _ _ _ us hl => match us, hl with | [_], _ => rfl
    M_Walker_step := ⟨a69, i69, k69⟩
    f_Walker_seek := fun_mk (st := inClass (topS 32) 3) l70 c70 k70
    b_Walker_seek := (fun_mk (st := inClass (topS 32) 3) l70 c70 k70).binds (ps := ["self", "slot"]) fun _ _ _ _ _ _ us hl => match us, hl with | [_, _], _ => rfl
    M_Walker_seek := ⟨a70, i70, k70⟩
    f_Walker_entries_in := fun_mk (st := inClass (topS 32) 10) l71 c71 k71
    b_Walker_entries_in := (fun_mk (st := inClass (topS 32) 10) l71 c71 k71).binds (ps := ["self", "at"]) fun _ _ _ _ _ _ us hl => match us, hl with | [_, _], _ => rfl
    M_Walker_entries_in := ⟨a71, i71, k71⟩
    f_Walker_slot_at := fun_mk (st := inClass (topS 32) 11) l72 c72 k72
    b_Walker_slot_at := (fun_mk (st := inClass (topS 32) 11) l72 c72 k72).binds (ps := ["self", "standing"]) fun _ _ _ _ _ _ us hl => match us, hl with | [_, _], _ => rfl
    M_Walker_slot_at := ⟨a72, i72, k72⟩
    f_Walker_reaching := fun_mk (st := inClass (topS 32) 12) l73 c73 k73
    b_Walker_reaching := (fun_mk (st := inClass (topS 32) 12) l73 c73 k73).binds (ps := ["self", "slot", "at"]) fun _ _ _ _ _ _ us hl => match us, hl with | [_, _, _], _ => rfl
    M_Walker_reaching := ⟨a73, i73, k73⟩
    f_Walker_sought := fun_mk (st := inClass (topS 32) 13) l74 c74 k74
    b_Walker_sought := (fun_mk (st := inClass (topS 32) 13) l74 c74 k74).binds (ps := ["self", "slot", "standing"]) fun _ _ _ _ _ _ us hl => match us, hl with | [_, _, _], _ => rfl
    M_Walker_sought := ⟨a74, i74, k74⟩ }
  exact ⟨FD 61, fun s v => .of_eq rfl, fun base _ _ => ok_law T⟩
end K18
open PySem PySem.W PyProof.Rows
set_option maxHeartbeats 0 in
theorem PySem.Challenge.cw_blocksearch_k18_slots_of_rows_holds : PySem.Challenge.rw_blocksearch_k18_slots_of_rows.Holds := by
  w_on; o_law; k_head; (case hw => w_witness2)
  k_fill
  refine L2.walk_of (l := PySem.Challenge.rw_blocksearch_k18_slots_of_rows) (n := 63) (k := 12) (x := "_law_script") (CX := fun _ => L2.CX0) (sp := fun w => K18.spLaw _) rfl (by decide) rfl ⟨rfl, by decide, by decide⟩ (fun w h Y => PySem.W.kIn_of Y) ?F (fun _ _ a ns hl _ hS => ⟨a, ns, rfl, hS, hl, fun _ => rfl⟩) (fun _ _ _ _ _ h => h)
  case F =>
    intro w mg fa h KX G hmg
    refine' K18.all_mk KX G hmg ?a0 ?l0 ?c0 ?k0 ?a12 ?l12 ?c12 ?k12 ?a13 ?l13 ?c13 ?k13 ?a17 ?l17 ?c17 ?k17 ?a18 ?l18 ?c18 ?k18 ?a19 ?l19 ?c19 ?k19 ?a20 ?l20 ?c20 ?k20 ?a21 ?l21 ?c21 ?k21 ?a22 ?l22 ?c22 ?k22 ?a23 ?l23 ?c23 ?k23 ?a24 ?l24 ?c24 ?k24 ?a25 ?l25 ?c25 ?k25 ?a26 ?l26 ?c26 ?k26 ?a27 ?l27 ?c27 ?k27 ?a28 ?l28 ?c28 ?k28 ?a29 ?l29 ?c29 ?k29 ?a30 ?l30 ?c30 ?k30 ?a33 ?l33 ?c33 ?k33 ?a34 ?l34 ?c34 ?k34 ?a35 ?l35 ?c35 ?k35 ?a36 ?l36 ?c36 ?k36 ?a37 ?l37 ?c37 ?k37 ?a38 ?l38 ?c38 ?k38 ?a42 ?l42 ?c42 ?k42 ?a43 ?l43 ?c43 ?k43 ?a50 ?l50 ?c50 ?k50 ?a51 ?l51 ?c51 ?k51 ?a52 ?l52 ?c52 ?k52 ?a54 ?l54 ?c54 ?k54 ?a55 ?l55 ?c55 ?k55 ?a56 ?l56 ?c56 ?k56 ?a57 ?l57 ?c57 ?k57 ?a58 ?l58 ?c58 ?k58 ?a59 ?l59 ?c59 ?k59 ?a60 ?l60 ?c60 ?k60 ?a61 ?l61 ?c61 ?k61 ?z_abs ?z_all ?z_any ?z_bool ?z_divmod ?z_enumerate ?z_int ?z_isinstance ?z_len ?z_list ?z_max ?z_min ?z_range ?z_sorted ?z_str ?z_tuple ?z_zip ?e15 ?e16 ?e40 ?e41 ?e45 ?e46 ?e47 ?a2 ?a3 ?a4 ?a5 ?a6 ?a7 ?a8 ?a9 ?a10 ?a32 ?a48 ?a49 ?pg48 ?hd48 ?po48 ?sa48 ?mk48 ?kc48 ?na48_first ?na48_last ?na48_many ?na48_most ?na48_least ?na48_coded ?pg49 ?hd49 ?po49 ?sa49 ?mk49 ?kc49 ?na49_word ?na49_size ?na49_cut ?pg32 ?hd32 ?po32 ?sa32 ?mk32 ?kc32 ?na32_heads ?na32_decoded ?na32_standing ?a62 ?i62 ?l62 ?c62 ?k62 ?a63 ?i63 ?l63 ?c63 ?k63 ?dk63_0 ?a64 ?i64 ?l64 ?c64 ?k64 ?a65 ?i65 ?l65 ?c65 ?k65 ?a66 ?i66 ?l66 ?c66 ?k66 ?a67 ?i67 ?l67 ?c67 ?k67 ?a68 ?i68 ?l68 ?c68 ?k68 ?a69 ?i69 ?l69 ?c69 ?k69 ?a70 ?i70 ?l70 ?c70 ?k70 ?a71 ?i71 ?l71 ?c71 ?k71 ?a72 ?i72 ?l72 ?c72 ?k72 ?a73 ?i73 ?l73 ?c73 ?k73 ?a74 ?i74 ?l74 ?c74 ?k74
    (case a0 => k_is)
    (case l0 => k_is)
    (case c0 => k_is)
    (case k0 => k_is)
    (case a12 => k_is)
    (case l12 => k_is)
    (case c12 => k_is)
    (case k12 => k_is)
    (case a13 => k_is)
    (case l13 => k_is)
    (case c13 => k_is)
    (case k13 => k_is)
    (case a17 => k_is)
    (case l17 => k_is)
    (case c17 => k_is)
    (case k17 => k_is)
    (case a18 => k_is)
    (case l18 => k_is)
    (case c18 => k_is)
    (case k18 => k_is)
    (case a19 => k_is)
    (case l19 => k_is)
    (case c19 => k_is)
    (case k19 => k_is)
    (case a20 => k_is)
    (case l20 => k_is)
    (case c20 => k_is)
    (case k20 => k_is)
    (case a21 => k_is)
    (case l21 => k_is)
    (case c21 => k_is)
    (case k21 => k_is)
    (case a22 => k_is)
    (case l22 => k_is)
    (case c22 => k_is)
    (case k22 => k_is)
    (case a23 => k_is)
    (case l23 => k_is)
    (case c23 => k_is)
    (case k23 => k_is)
    (case a24 => k_is)
    (case l24 => k_is)
    (case c24 => k_is)
    (case k24 => k_is)
    (case a25 => k_is)
    (case l25 => k_is)
    (case c25 => k_is)
    (case k25 => k_is)
    (case a26 => k_is)
    (case l26 => k_is)
    (case c26 => k_is)
    (case k26 => k_is)
    (case a27 => k_is)
    (case l27 => k_is)
    (case c27 => k_is)
    (case k27 => k_is)
    (case a28 => k_is)
    (case l28 => k_is)
    (case c28 => k_is)
    (case k28 => k_is)
    (case a29 => k_is)
    (case l29 => k_is)
    (case c29 => k_is)
    (case k29 => k_is)
    (case a30 => k_is)
    (case l30 => k_is)
    (case c30 => k_is)
    (case k30 => k_is)
    (case a33 => k_is)
    (case l33 => k_is)
    (case c33 => k_is)
    (case k33 => k_is)
    (case a34 => k_is)
    (case l34 => k_is)
    (case c34 => k_is)
    (case k34 => k_is)
    (case a35 => k_is)
    (case l35 => k_is)
    (case c35 => k_is)
    (case k35 => k_is)
    (case a36 => k_is)
    (case l36 => k_is)
    (case c36 => k_is)
    (case k36 => k_is)
    (case a37 => k_is)
    (case l37 => k_is)
    (case c37 => k_is)
    (case k37 => k_is)
    (case a38 => k_is)
    (case l38 => k_is)
    (case c38 => k_is)
    (case k38 => k_is)
    (case a42 => k_is)
    (case l42 => k_is)
    (case c42 => k_is)
    (case k42 => k_is)
    (case a43 => k_is)
    (case l43 => k_is)
    (case c43 => k_is)
    (case k43 => k_is)
    (case a50 => k_is)
    (case l50 => k_is)
    (case c50 => k_is)
    (case k50 => k_is)
    (case a51 => k_is)
    (case l51 => k_is)
    (case c51 => k_is)
    (case k51 => k_is)
    (case a52 => k_is)
    (case l52 => k_is)
    (case c52 => k_is)
    (case k52 => k_is)
    (case a54 => k_is)
    (case l54 => k_is)
    (case c54 => k_is)
    (case k54 => k_is)
    (case a55 => k_is)
    (case l55 => k_is)
    (case c55 => k_is)
    (case k55 => k_is)
    (case a56 => k_is)
    (case l56 => k_is)
    (case c56 => k_is)
    (case k56 => k_is)
    (case a57 => k_is)
    (case l57 => k_is)
    (case c57 => k_is)
    (case k57 => k_is)
    (case a58 => k_is)
    (case l58 => k_is)
    (case c58 => k_is)
    (case k58 => k_is)
    (case a59 => k_is)
    (case l59 => k_is)
    (case c59 => k_is)
    (case k59 => k_is)
    (case a60 => k_is)
    (case l60 => k_is)
    (case c60 => k_is)
    (case k60 => k_is)
    (case a61 => k_is)
    (case l61 => k_is)
    (case c61 => k_is)
    (case k61 => k_is)
    (case z_abs => k_is)
    (case z_all => k_is)
    (case z_any => k_is)
    (case z_bool => k_is)
    (case z_divmod => k_is)
    (case z_enumerate => k_is)
    (case z_int => k_is)
    (case z_isinstance => k_is)
    (case z_len => k_is)
    (case z_list => k_is)
    (case z_max => k_is)
    (case z_min => k_is)
    (case z_range => k_is)
    (case z_sorted => k_is)
    (case z_str => k_is)
    (case z_tuple => k_is)
    (case z_zip => k_is)
    (case e15 => k_is)
    (case e16 => k_is)
    (case e40 => k_is)
    (case e41 => k_is)
    (case e45 => k_is)
    (case e46 => k_is)
    (case e47 => k_is)
    (case a2 => k_is)
    (case a3 => k_is)
    (case a4 => k_is)
    (case a5 => k_is)
    (case a6 => k_is)
    (case a7 => k_is)
    (case a8 => k_is)
    (case a9 => k_is)
    (case a10 => k_is)
    (case a32 => k_is)
    (case a48 => k_is)
    (case a49 => k_is)
    (case pg48 => k_is)
    (case hd48 => k_is)
    (case po48 => k_is)
    (case sa48 => k_is)
    (case mk48 => k_is)
    (case kc48 => k_is)
    (case na48_first => k_is)
    (case na48_last => k_is)
    (case na48_many => k_is)
    (case na48_most => k_is)
    (case na48_least => k_is)
    (case na48_coded => k_is)
    (case pg49 => k_is)
    (case hd49 => k_is)
    (case po49 => k_is)
    (case sa49 => k_is)
    (case mk49 => k_is)
    (case kc49 => k_is)
    (case na49_word => k_is)
    (case na49_size => k_is)
    (case na49_cut => k_is)
    (case pg32 => k_is)
    (case hd32 => k_is)
    (case po32 => k_is)
    (case sa32 => k_is)
    (case mk32 => k_is)
    (case kc32 => k_is)
    (case na32_heads => k_is)
    (case na32_decoded => k_is)
    (case na32_standing => k_is)
    (case a62 => k_is)
    (case i62 => k_is)
    (case l62 => k_is)
    (case c62 => k_is)
    (case k62 => k_is)
    (case a63 => k_is)
    (case i63 => k_is)
    (case l63 => k_is)
    (case c63 => k_is)
    (case k63 => k_is)
    (case dk63_0 => k_is)
    (case a64 => k_is)
    (case i64 => k_is)
    (case l64 => k_is)
    (case c64 => k_is)
    (case k64 => k_is)
    (case a65 => k_is)
    (case i65 => k_is)
    (case l65 => k_is)
    (case c65 => k_is)
    (case k65 => k_is)
    (case a66 => k_is)
    (case i66 => k_is)
    (case l66 => k_is)
    (case c66 => k_is)
    (case k66 => k_is)
    (case a67 => k_is)
    (case i67 => k_is)
    (case l67 => k_is)
    (case c67 => k_is)
    (case k67 => k_is)
    (case a68 => k_is)
    (case i68 => k_is)
    (case l68 => k_is)
    (case c68 => k_is)
    (case k68 => k_is)
    (case a69 => k_is)
    (case i69 => k_is)
    (case l69 => k_is)
    (case c69 => k_is)
    (case k69 => k_is)
    (case a70 => k_is)
    (case i70 => k_is)
    (case l70 => k_is)
    (case c70 => k_is)
    (case k70 => k_is)
    (case a71 => k_is)
    (case i71 => k_is)
    (case l71 => k_is)
    (case c71 => k_is)
    (case k71 => k_is)
    (case a72 => k_is)
    (case i72 => k_is)
    (case l72 => k_is)
    (case c72 => k_is)
    (case k72 => k_is)
    (case a73 => k_is)
    (case i73 => k_is)
    (case l73 => k_is)
    (case c73 => k_is)
    (case k73 => k_is)
    (case a74 => k_is)
    (case i74 => k_is)
    (case l74 => k_is)
    (case c74 => k_is)
    (case k74 => k_is)

