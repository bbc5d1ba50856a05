import PyProof.Rows.All
import Wide.All
import OpenK.AllK
import Wide.FinOn
import HandS.ForMost
import HandS.Defaults
import HandS.IsInst
import HandS.Walk
import HandS.Lambda
import HandS.EndTab
import HandS.Evl
import HandS.More
import HandS.MakeKw
import HandS.MakeKwOnly
import HandS.Text
import HandS.Deep
import HandS.Style
import HandS.Star
import HandS.Zip
import HandS.Conv
import HandS.Sort
import HandS.OwnEq
import HandS.FStr
import KE.KCallOwn
import KE.GoesMore
import PyProof.EnumMake
import HandS.Dict
import HandS.Codes
import PyProof.StrLawsRepr
import HandS.Exc
import HandS.TryOnly
import HandS.ExcOwn
import HandS.WordsExc
import HandS.ExcIs
import HandS.HotCalls
import HandS.DictComp
import KE.KExcIs
import KE.KNestM
import HandS.HeadWalk
import PyProof.ReprRoads
import HandS.HeadWalk
import HandS.SetBool
import HandS.Strs
import HandS.SortKw
import KE.SortUse
import KE.KSortKey
import HandS.SetKeys
import HandS.WordsDict
import HandS.Wide
import HandS.WideBits
import HandS.StrMore
import HandS.Rev
import HandS.Flow
import HandS.SetFor
import HandS.HeadEnd
import HandS.Head2
import HandS.HeadHook4
import KE.KStateDown
import PySem.Challenge.RW_blocksearch_k37_whole_bounds_hold
set_option Elab.async false
set_option linter.all false
set_option maxRecDepth 100000
/-! words of my own: the drawn pool, heaps that grow beside it, small facts -/
namespace My
open PySem PySem.Spec PyProof.Rows L2 Evl

/-- the pool at p: three ints, at most c draws mixed so far -/
def Pl (H : Hp) (p : Addr) (c : Nat) : Prop := ∃ (g b : Int) (k : Nat), H p = some (.lst [.int g, .int b, .int (k : Int)]) ∧ 0 ≤ g ∧ 0 ≤ b ∧ b < 1237940039285380274899124224 ∧ k ≤ c
/-- all but p stays -/
def Fx (p : Addr) (H H' : Hp) : Prop := ∀ a o, a ≠ p → H a = some o → H' a = some o
theorem Fx.refl (p : Addr) (H : Hp) : Fx p H H := fun _ _ _ h => h
theorem Fx.trans {p : Addr} {H H1 H2 : Hp} (a : Fx p H H1) (b : Fx p H1 H2) : Fx p H H2 := fun x o n h => b x o n (a x o n h)
theorem Fx.ex {p : Addr} {H H' : Hp} (e : Ex H H') : Fx p H H' := fun a o _ h => e a o h
theorem Fx.upd {p : Addr} {H : Hp} {o : HO} : Fx p H (L2.upd H p o) := fun a u n h => by
  rw [upd_ne n]
  exact h
theorem Pl.mono {H : Hp} {p : Addr} {c c' : Nat} (h : Pl H p c) (l : c ≤ c') : Pl H p c' := by
  obtain ⟨g, b, k, h1, h2, h3, h4, h5⟩ := h
  exact ⟨g, b, k, h1, h2, h3, h4, Nat.le_trans h5 l⟩
theorem Pl.ex {H H' : Hp} {p : Addr} {c : Nat} (h : Pl H p c) (e : Ex H H') : Pl H' p c := by
  obtain ⟨g, b, k, h1, h2⟩ := h
  exact ⟨g, b, k, e _ _ h1, h2⟩
theorem Pl.some {H : Hp} {p : Addr} {c : Nat} (h : Pl H p c) : ∃ xs, H p = some (.lst xs) := by
  obtain ⟨g, b, k, h1, _⟩ := h
  exact ⟨_, h1⟩
/-- what is free behind was free ahead -/
theorem fx_free {p a : Addr} {H H' : Hp} {c : Nat} (f : Fx p H H') (h : Pl H' p c) (e : H' a = none) : H a = none := by
  cases q : H a with
  | none => rfl
  | some o =>
    have n : a ≠ p := fun z => by
      obtain ⟨xs, hx⟩ := h.some
      rw [z, hx] at e
      cases e
    rw [f a o n q] at e
    cases e
/-- a tuple is not the pool -/
theorem Fx.tup {p a : Addr} {H H' : Hp} {xs : List V} {c : Nat} (f : Fx p H H') (hp : Pl H p c) (h : H a = some (.tup xs)) : H' a = some (.tup xs) := by
  obtain ⟨ys, hy⟩ := hp.some
  exact f a _ (ne_of h hy (by intro z; cases z)) h
theorem Fx.sqt {K : PySem.W.Frag} {p a : Addr} {H H' : Hp} {xs : List V} {c : Nat} (f : Fx p H H') (hp : Pl H p c) (h : SqT K H a xs) : SqT K H' a xs := by
  obtain ⟨ys, hy⟩ := hp.some
  rcases h with (h | ⟨o, h⟩) | h
  · exact .inl (.inl (f a _ (ne_of h hy (by intro z; cases z)) h))
  · exact .inl (.inr ⟨o, f a _ (ne_of h hy (by intro z; cases z)) h⟩)
  · exact .inr h
theorem Fx.lst {p a : Addr} {H H' : Hp} {xs : List V} (f : Fx p H H') (n : a ≠ p) (h : H a = some (.lst xs)) : H' a = some (.lst xs) := f a _ n h
theorem ex_upd {H : Hp} {p : Addr} {o : HO} (h : H p = none) : Ex H (L2.upd H p o) := Ex.new h
theorem ret_v {v : V} {H : Hp} {Q : VK} (q : RetV v H Q) : Q v H := q H (Ex.refl H)
theorem sz {n : Nat} (h : n ≤ 100000) : n ≤ sizeLine := sz_of h
theorem natAbs_lt {z : Int} {n : Nat} (h0 : 0 ≤ z) (h : z < (n : Int)) : z.natAbs < n := by omega
/-- a * b ≤ A * B -/
theorem mul_le {a b A B : Int} (h0 : 0 ≤ a) (h1 : a ≤ A) (h2 : 0 ≤ b) (h3 : b ≤ B) : a * b ≤ A * B := Int.mul_le_mul h1 h3 h2 (Int.le_trans h0 h1)
theorem mul_nn {a b : Int} (h0 : 0 ≤ a) (h1 : 0 ≤ b) : 0 ≤ a * b := Int.mul_nonneg h0 h1
/-! the rules with the written part said, for blocks of comprehensions -/
section
variable {X : Cx} {K : PySem.W.Frag}
theorem lenK (h : X.K = K) : CallR X (.builtin "len") (rLenS K) := by subst h; exact call_len_seq
theorem listK (h : X.K = K) : CallR X (.type "list") (rListS K) := by subst h; exact call_list_of
def rTupS (K : PySem.W.Frag) : List V → Hp → VK → Prop := fun xs H Q => ∃ p ys, xs = [.ref p] ∧ ((SqL K H p ys ∧ ∀ l, H l = none → Q (.ref l) (L2.upd H l (.tup ys))) ∨ (SqT K H p ys ∧ Q (.ref p) H))
theorem tupK (h : X.K = K) : CallR X (.type "tuple") (rTupS K) := by subst h; exact call_tuple_of
theorem ixLK (h : X.K = K) : IxR X (rIxL K) := by subst h; exact ix_list
theorem ixTK (h : X.K = K) : IxR X (rIxT K) := by subst h; exact ix_tup
theorem slLK (h : X.K = K) : SlR X (rSlL K) := by subst h; exact sl_list
theorem slTK (h : X.K = K) : SlR X (rSlT K) := by subst h; exact sl_tup
theorem catTK (h : X.K = K) : OpR X (binaryOp .Add) (rCatT K) := by subst h; exact op_catT
theorem inK (h : X.K = K) : OpR X (compareOp .In) (rIn K false) := by subst h; exact op_in_seq
theorem notInK (h : X.K = K) : OpR X (compareOp .NotIn) (rIn K true) := by subst h; exact op_notIn_seq
theorem isiK (h : X.K = K) : CallR X (.builtin "isinstance") (rIsi K) := by subst h; exact call_isi
theorem isiTK (h : X.K = K) : CallR X (.builtin "isinstance") (rIsiT K) := by subst h; exact call_isiT
theorem allK (h : X.K = K) (hc : X.calm = true) : CallR X (.builtin "all") (rAll K) := by subst h; exact cr_all hc
theorem anyK (h : X.K = K) (hc : X.calm = true) : CallR X (.builtin "any") (rAny K) := by subst h; exact cr_any hc
theorem sumK (h : X.K = K) (hc : X.calm = true) : CallR X (.builtin "sum") (rSum K) := by subst h; exact cr_sum hc
theorem maxK (h : X.K = K) (hc : X.calm = true) : CallR X (.builtin "max") (rMax K) := by subst h; exact cr_max hc
theorem minK (h : X.K = K) (hc : X.calm = true) : CallR X (.builtin "min") (rMin K) := by subst h; exact cr_min hc
theorem fldK {e : Expr} {f : Str} {pos : Pos} {ta : TE} (h : X.K = K) (he : PE X e ta) (hb : attributeBase e f X.env (eval e X.env) = eval e X.env) : PE X (.Attribute e f pos) (tFld K ta f) := by subst h; exact pe_fld he hb
theorem tupGK {es : List Expr} {k : Nat} {t : TGs} {n : Nat} {pos : Pos} (h : X.K = K) (hc : X.calm = true) (hg : PGs X es t) (hn : (assignEach es X.env).length = n := by rfl) (hst : (assignEach es X.env).findIdx? (·.1) = none := by rfl) : PG X (.Tuple es k pos) (gTup K n t) := by subst h; exact pg_tup hc hg hn hst
theorem eqDK (h : X.K = K) (hu : X.A.units + 64 < cLine) : OpR X (compareOp .Eq) (rEqD K) := by subst h; exact op_eqD hu
theorem neDK (h : X.K = K) (hu : X.A.units + 64 < cLine) : OpR X (compareOp .NotEq) (rNeD K) := by subst h; exact op_neD hu
theorem indexK (h : X.K = K) : MtR X "list.index" (rIndex K) := by subst h; exact mt_index
theorem piOr {tg e : Expr} {w1 w2 : TI} (h1 : PI X tg e w1) (h2 : PI X tg e w2) : PI X tg e (fun σ H R => w1 σ H R ∨ w2 σ H R) := ⟨fun pins s σ H R I h => h.elim (fun h => h1.run pins s σ H R I h) (fun h => h2.run pins s σ H R I h)⟩
theorem piLK {tg l : Expr} {tl : TE} (h : X.K = K) (hl : PE X l tl) : PI X tg l (iList K tl) := by subst h; exact pi_list hl
theorem piTK {tg l : Expr} {tl : TE} (h : X.K = K) (hl : PE X l tl) : PI X tg l (iTup K tl) := by subst h; exact pi_tup hl
end
end My
/-! enumerate over a tuple -/
namespace EnT
open PySem PySem.Spec PyProof.Rows L2
open AutoSeq1 (wpAny_loadPart')
abbrev tIt (t : Addr) : Obj := { cls := .type "tuple_iterator", data := .fields #[.ref t, .int 0 0] }
abbrev eIt (it : Addr) : Obj := { cls := .type "enumerate", data := .fields #[.none, .bool false, .ref it, rawInt 0, .none, .none] }
set_option maxHeartbeats 2000000 in
theorem newT (t : Addr) (items : Array Value) (n : Nat) (dct : Option Addr) (sl : Array (Option Value)) :
    Meets (Builtin.«enumerate.__new__» ⟨[.type "enumerate", .ref t], []⟩) (fun _ R s => s.heap.get? t = some { cls := .type "tuple", dict := dct, data := .seq items n, slots := sl } ∧ R (.ok (.ret (.ref (s.heap.push (tIt t)).objs.size))) { s with heap := (s.heap.push (tIt t)).push (eIt s.heap.objs.size) }) :=
  .of_wp fun prog w A R s z => by
    obtain ⟨hp, g, d, tk, os⟩ := s
    obtain ⟨ht, z⟩ := z
    have hS := sub_enumerate
    have hT : Heap.IsTuple (Shared.heap ⟨hp, g, d, tk, os⟩) t items := ⟨_, ht, rfl, n, rfl⟩
    wp_walk using wpAny_loadPart' ht
    refine wpAny_stack_any (fun _ => wpAny_pure ?_)
    split
    · rename_i cc _ _ _ _ _; cases (cc == Value.type "enumerate") <;> (wp_walk using wpAny_loadPart' ht, wpAny_pyIter_tuple hT; exact ⟨_, rfl, z⟩)
    · wp_walk using wpAny_loadPart' ht, wpAny_pyIter_tuple hT; exact ⟨_, rfl, z⟩
theorem callT {prog : Program} {w : World} {A : Around} {E : Value → Shared → Prop} {s : Shared} {t : Addr} {items : Array Value} {Q : Value → Shared → Prop} (hT : s.heap.IsTuple t items)
    (k : ∀ h', IsEnum h' (s.heap.objs.size + 1) s.heap.objs.size 0 .none → h'.IsTupleIter s.heap.objs.size t 0 → h'.objs.size = s.heap.objs.size + 2 → (∀ b o, s.heap.get? b = some o → h'.get? b = some o) → Q (.ref (s.heap.objs.size + 1)) { s with heap := h' }) :
    wpAny (model prog w) A (call (.type "enumerate") [.ref t]) Q E s := by
  obtain ⟨⟨c, dct, dt, sl⟩, ht, c1, n, d1⟩ := hT
  simp only at c1 d1
  subst c1 d1
  refine callType_new F.called_enumerate (by decide) (F.typeCall_enumerate_1 _) (F.newCall_enumerate_1 _) (fun ob => F.args_object_init_2 ob _) F.entry_enumerate_new (newT t items n dct sl) ⟨ht, ?_⟩
  have z : (s.heap.push (tIt t)).objs.size = s.heap.objs.size + 1 := Heap.size_push ..
  show _ ∧ _
  rw [z]
  have e1 : IsEnum ((s.heap.push (tIt t)).push (eIt s.heap.objs.size)) (s.heap.objs.size + 1) s.heap.objs.size 0 .none := by
    have e0 := Heap.get?_push_size (s.heap.push (tIt t)) (o := eIt s.heap.objs.size) rfl
    rw [z] at e0
    exact e0
  exact ⟨⟨_, e1, rfl⟩, k _ e1 ⟨_, Heap.get?_push_of_some _ (Heap.get?_push_size _ rfl), rfl, rfl⟩ (by rw [Heap.size_push, z]) (fun b o x => Heap.get?_push_of_some _ (Heap.get?_push_of_some _ x))⟩
/-- the tuple at a, each item in a new pair -/
def IteT (K : PySem.W.Frag) (a : Addr) : It :=
  ⟨fun i H => ∃ (xs : List V) (x : V), SqT K H a xs ∧ xs[i]? = some x, fun i H v H' => ∃ T x, v = .ref T ∧ H T = none ∧ H' = upd H T (.tup [.int (i : Nat), x]) ∧ ∀ xs, SqT K H a xs → xs[i]? = some x, fun i H => ∃ xs : List V, SqT K H a xs ∧ xs.length ≤ i ∧ i ≤ xs.length⟩
set_option maxHeartbeats 2000000 in
theorem turnT {P : Program} {w : World} {K : PySem.W.Frag} {elts : List Expr} {kk : Nat} {tpos : Pos} (a e it : Addr) (na : a ≠ it) (nea : e ≠ a) :
    Turn P w K (.Tuple elts kk tpos) (IteT K a) [e, it] e (fun i h => (∃ old, IsEnum h e it ((i : Nat) : Int) old) ∧ h.IsTupleIter it a i ∧ e ≠ it) where
  mem := by simp
  obj := fun i h st b hb => by
    obtain ⟨⟨old, he⟩, ⟨o, ho, hc, hd⟩, _⟩ := st
    have z : b = e ∨ b = it := by simpa using hb
    rcases z with rfl | rfl
    · exact ⟨_, he, fun v q => nomatch q⟩
    · exact ⟨o, ho, fun v q => by rw [hd] at q; cases q⟩
  keep := fun i h h' st k => by
    obtain ⟨⟨old, he⟩, hi, ne⟩ := st
    exact ⟨⟨old, k e (by simp) _ he⟩, hi.at (fun o q => k it (by simp) o q), ne⟩
  item := by
    intro X hP hw hK hc i pins s σ H E I hf st hg
    subst hP; subst hw; subst hK
    obtain ⟨⟨old, he⟩, hit, hne⟩ := st
    obtain ⟨xs, x, hq, hx⟩ := hg
    obtain ⟨its, rv, pt, hz⟩ := I.tuple hq
    obtain ⟨u, hu, ru⟩ := rv.get hx
    have l1 : e < s.heap.objs.size := Heap.lt_size he
    have l2 : it < s.heap.objs.size := by obtain ⟨_, q, _⟩ := hit; exact Heap.lt_size q
    have il : i < its.toArray.size := by rw [List.size_toArray]; exact (List.getElem?_eq_some_iff.mp hu).1
    refine wpAny_pyNext_enum_itemD (Draws.tuple (A := X.A.in1) (prog := X.prog) (w := X.w) (show X.A.in1.handled = none from I.ok.hd hc) it a na its.toArray) he ⟨hit, pt⟩ il hne (by simp [hne, nea]) fun v h' tk hv ho hst hT hsz hk => ?_
    have ev : v = u := by
      have : its[i]? = some v := by simpa using hv
      rw [hu] at this
      exact (Option.some.inj this).symm
    subst ev
    refine ⟨_, rfl, wpAny_letOwnedTupleGo_enum (s := { s with heap := h', toks := tk + 1 }) ho fun h2 he2 sb => ?_⟩
    have hT2 : h2.get? s.heap.objs.size = some { cls := .type "tuple", data := .seq #[.int i tk, v] } := (sb.2 _ (Nat.ne_of_gt l1)).trans hT
    have nw : ObjOk X.prog X.w (upd H s.heap.objs.size (.tup [.int (i : Nat), x])) h2 s.heap.objs.size (.tup [.int (i : Nat), x]) := ⟨by show 2 ≤ sizeLine; decide, [.int i tk, v], .cons ⟨_, rfl⟩ (.cons ru .nil), ⟨_, hT2, rfl, _, rfl⟩⟩
    have I1 : Inv X pins σ (upd H s.heap.objs.size (.tup [.int (i : Nat), x])) { s with heap := h2, toks := tk + 1 } := I.turnedNew (ch := [e, it]) (fun b ob hb q => (sb.2 b (fun z => hb (by simp [z]))).trans (hk b ob (fun z => hb (by simp [z])) (fun z => hb (by simp [z])) q)) hf (Nat.le_refl _) nw
    refine ⟨.ref s.heap.objs.size, _, I1, rfl, ⟨_, x, rfl, I.hok.fresh (Nat.le_refl _), rfl, fun ys hy => by rw [I.tuple_inj hy hq]; exact hx⟩, ⟨⟨v, ?_⟩, hst.1.at (fun o q => (sb.2 it (Ne.symm hne)).trans q), hne⟩, fun b hb => ?_⟩
    · rw [show ((i + 1 : Nat) : Int) = (i : Int) + 1 by omega]; exact he2
    · have z : b = e ∨ b = it := by simpa using hb
      have lb : b < s.heap.objs.size := by rcases z with rfl | rfl <;> assumption
      rw [upd_ne (Nat.ne_of_lt lb)]; exact (hf b hb).1
  done := by
    intro X hP hw hK hc i pins s σ H E I hf st hg
    subst hP; subst hw; subst hK
    obtain ⟨⟨old, he⟩, hit, hne⟩ := st
    obtain ⟨xs, hq, h1, h2⟩ := hg
    obtain ⟨its, rv, pt, hz⟩ := I.tuple hq
    obtain ⟨f0, f1, f2, f3, f4, f5⟩ := hf it (by simp)
    have hl := rv.length
    have ei : i = its.toArray.size := by rw [List.size_toArray]; omega
    subst ei
    exact wpAny_pyNext_enum_endD (Draws.tuple (A := X.A.in1) (prog := X.prog) (w := X.w) (show X.A.in1.handled = none from I.ok.hd hc) it a na its.toArray) he ⟨hit, pt⟩ fun h' eb => ⟨rfl, I.turned (t' := s.toks) (fun b o hb q => eb b o hb q) f0 f1 f3 f4 f5⟩
  self := fun A i s Q E st h => wpAny_pyIter_enum st.1.choose_spec h
def iEnumT (K : PySem.W.Frag) (ta : TA) : TI := fun σ H R => ta σ H fun vs H1 => ∃ a xs, vs = [.ref a] ∧ SqT K H1 a xs ∧ R (IteT K a) H1
set_option maxHeartbeats 2000000 in
theorem pi_enumT {X : Cx} {K : PySem.W.Frag} {e : Expr} {ta : TA} {p pos tpos : Pos} {elts : List Expr} {kk : Nat} (hX : X.K = K) (hg : Gl X "enumerate") (hm : X.mg "enumerate" = none) (ha : PA X [e] ta) (hs : starEach [e] X.env = [(false, eval e X.env)] := by rfl) :
    PI X (.Tuple elts kk tpos) (.Call (.Name "enumerate" p) [e] [] pos) (iEnumT K ta) := by
  subst hX
  refine ⟨fun pins s σ H R I h => Call_ (ld_blt I hg hm boot_enumerate (PyProof.Rows.callWith_type1 (thn (ha.run pos pins s σ H _ I h) fun us s1 ⟨vs, H1, I1, r1, q1⟩ => ?_) hs rfl))⟩
  obtain ⟨a, xs, ex, hq, q⟩ := q1
  subst ex
  cases r1 with
  | cons r rr =>
    cases rr
    cases r
    obtain ⟨its, rv, pt, hz⟩ := I1.tuple hq
    have la : a < s1.heap.objs.size := by obtain ⟨o, ho, _⟩ := pt; exact Heap.lt_size ho
    refine callT pt fun h' he hit hsz hk => wpAny_pyIter_enum he ?_
    have I2 : Inv X pins σ H1 { s1 with heap := h' } := I1.kept (t' := s1.toks) hk
    refine ⟨s1.heap.objs.size + 1, [s1.heap.objs.size + 1, s1.heap.objs.size], _, _, H1, rfl, I2, turnT a (s1.heap.objs.size + 1) s1.heap.objs.size (Nat.ne_of_lt la) (Nat.ne_of_gt (Nat.lt_succ_of_lt la)), ⟨⟨.none, he⟩, hit, Nat.succ_ne_self _⟩, fun b hb => ?_, q⟩
    have z : b = s1.heap.objs.size + 1 ∨ b = s1.heap.objs.size := by simpa using hb
    have lb : s1.heap.objs.size ≤ b := by
      rcases z with z | z
      · rw [z]; exact Nat.le_succ _
      · rw [z]; exact Nat.le_refl _
    exact I1.fpOk lb (I1.hok.fresh lb)
theorem walkT {K : PySem.W.Frag} {a : Addr} {xs : List V} : Walk (IteT K a) xs.length (fun H => SqT K H a xs) (YPair (fun i => some (.int (i : Nat))) (fun i => xs[i]?)) := by
  refine ⟨fun i _ hi q => ⟨xs, xs[i], q, by simp [hi]⟩, fun _ q => ⟨xs, q, Nat.le_refl _, Nat.le_refl _⟩, fun i H v H' _ q y => ?_⟩
  obtain ⟨T, x, h1, h2, h3, h4⟩ := y
  exact ⟨T, .int (i : Nat), x, h1, h2, h3, rfl, h4 xs q⟩
end EnT
/-! len(range(n)); xs[:] = ys -/
namespace RgV
open PySem PySem.Spec PyProof.Rows L2
variable {X : Cx}
theorem cr_range1 : CallR X (.type "range") (fun vs H Q => ∃ j, vs = [V.int j] ∧ ∀ p, H p = none → Q (.ref p) (upd H p (.rng 0 j))) := by
  intro pins s σ H vs us Q I r h
  obtain ⟨j, rfl, q⟩ := h
  cases r with
  | cons rj rn =>
    cases rn
    obtain ⟨t, rfl⟩ := rj
    refine call_range_1 ⟨.ref s.heap.objs.size, upd H s.heap.objs.size (.rng 0 j), I.laid (t' := s.toks + 1 + 1) (fun b o z => Heap.get?_push_of_some _ z) (Nat.le_refl _) ?_, rfl, q _ (I.hok.fresh (Nat.le_refl _))⟩
    exact ⟨s.toks, t, s.toks + 1, Heap.get?_push_size _ rfl⟩
theorem cr_lenR : CallR X (.builtin "len") (fun vs H Q => ∃ (a : Addr) (hi : Int), vs = [V.ref a] ∧ H a = some (.rng 0 hi) ∧ 0 ≤ hi ∧ hi < 4611686018427387904 ∧ Q (.int hi) H) := by
  intro pins s σ H vs us Q I r h
  obtain ⟨a, hi, rfl, ha, h0, h1, q⟩ := h
  rw [Vals.ref1 r]
  obtain ⟨t, u, v, ho⟩ := I.hok a _ ha
  obtain ⟨n, rfl⟩ := Int.eq_ofNat_of_zero_le h0
  refine call_len_range (n := n) (show IsRange s.heap a 0 n 1 t u v from ho) ?_ (by omega) ⟨.int n, H, I.tok _, ⟨_, rfl⟩, q⟩
  rw [rangeSize_one]
  split <;> omega
end RgV
namespace SlA
open PySem PySem.Spec PyProof.Rows L2
section
variable {prog : Program} {w : World} {A : Around} {E : Value → Shared → Prop} {s : Shared}
theorem bounds_all (n : Nat) : sliceBounds none none none n = ((0 : Int), (n : Int), 1) := by
  simp [sliceBounds]
set_option maxRecDepth 100000 in
set_option maxHeartbeats 4000000 in
theorem store_all {l b sl : Addr} {old new : Array Value} {n n2 : Nat} {Q : Unit → Shared → Prop}
    (e : s.heap.get? l = some { cls := .type "list", data := .seq old n }) (e2 : s.heap.get? b = some { cls := .type "list", data := .seq new n2 }) (ne : l ≠ b) (hs : s.heap.IsSliceOf sl .none .none .none)
    (sz : old.size + new.size ≤ sizeLine) (h : Q () { s with heap := s.heap.update l (Obj.mapSeq fun xs => xs.extract 0 0 ++ new ++ xs.extract old.size xs.size) }) :
    wpAny (model prog w) A (setItem (.ref l) (.ref sl) (.ref b)) Q E s := by
  have kl : s.heap.IsList l old := PySem.IsL.isList e
  have kb : s.heap.IsList b new := PySem.IsL.isList e2
  obtain ⟨os, g1, g2, g3⟩ := id hs
  have ty : s.TypeIs (.ref sl) "slice" := ⟨os, g1, g2⟩
  have st : ¬ ((rawPart none == rawInt 0) = true) := Bool.false_ne_true
  have nosame : Builtin.List.listSameRef (.ref l) (.ref b) = false := by
    unfold Builtin.List.listSameRef
    exact beq_eq_false_iff_ne.mpr ne
  have mx : (max (0 : Int) (old.size : Int)).toNat = old.size := by omega
  have z2 : ((fun xs : Array Value => xs.extract 0 0 ++ new ++ xs.extract old.size xs.size) old).size ≤ sizeLine + 1 := by
    simp only [Array.size_append, Array.size_extract]
    omega
  unfold setItem
  try with_reducible refine wpAny_holding ?_
  first | refine wpAny_bind (wpAny_pure ?_) | skip
  refine wpAny_bind (wpAny_sequenceKey kl.typeIs (by decide) ?_)
  refine wpAny_bind (wpAny_callSpecial?_slot (name := Str.ofString "__setitem__") kl.typeIs slot_list_setitem (wpAny_call_entry slot_list_setitem kl.typeIs entry_list_setitem ?_ (args_list_setitem _ _ _)))
  show wpAny _ _ (Builtin.List.listSubscript? (.ref sl) >>= _) _ _ s
  refine wpAny_bind ?_
  unfold Builtin.List.listSubscript?
  refine wpAny_bind (wpAny_specialOf ty slice_no_index ?_)
  simp only [Option.isNone_none, if_true]
  refine wpAny_pure ?_
  show wpAny _ _ (typeOf (.ref sl) >>= _) _ _ s
  refine wpAny_bind (wpAny_typeOf ty ?_)
  first
    | rw [if_neg (by decide)]
    | refine PySem.W.KFB.if_not (by decide) ?_
  rw [listSliceParts_eq]
  refine wpAny_bind (wpAny_bind (wpAny_field g1 g3 (x := .none) rfl (wpAny_bind (wpAny_listPart .none ?_))))
  rw [if_neg st]
  refine wpAny_bind (wpAny_field g1 g3 (x := .none) rfl (wpAny_bind (wpAny_listPart .none ?_)))
  refine wpAny_bind (wpAny_field g1 g3 (x := .none) rfl (wpAny_bind (wpAny_listPart .none (wpAny_pure ?_))))
  first
    | simp only [nosame, Bool.false_eq_true, if_false]
    | refine PySem.W.KFB.if_not nosame ?_
    | (dsimp only
       rw [if_neg (by rw [nosame]; exact Bool.false_ne_true)])
  refine wpAny_bind (m := Builtin.List.listAllItems (.ref b) "must assign iterable to extended slice") ?_
  unfold Builtin.List.listAllItems
  refine wpAny_bind (wpAny_typeOf kb.typeIs ?_)
  first
    | refine PySem.W.KFB.if_so (by decide) ?_
    | rw [if_pos (by decide)]
    | simp only [beq_self_eq_true, Bool.true_or, if_true]
  unfold Builtin.List.listItems
  refine wpAny_bind (wpAny_seqItems e2 rfl (wpAny_pure ?_))
  refine wpAny_bind (wpAny_bind (wpAny_seqItems e rfl (wpAny_pure ?_)))
  refine wpAny_bind (wpAny_of_eq ((sliceIndices_raw none none none old.size (by simp)).trans (congrArg (pure : Int × Int × Int → Sem (Int × Int × Int)) (bounds_all old.size))) ?_)
  show wpAny _ _ (if ((1 : Int) == 1) = true then _ else _) _ _ s
  rw [if_pos (by decide)]
  refine wpAny_bind (wpAny_rule ?_)
  first
    | simp only [notLongL sz, Bool.false_eq_true, if_false]
    | refine PySem.W.KFB.if_not (notLongL sz) ?_
  first | refine wpAny_bind (wpAny_pure ?_) | skip
  show wpAny _ _ (updateSeq l (fun xs => xs.extract 0 ((0 : Int)).toNat ++ new ++ xs.extract (max (0 : Int) (old.size : Int)).toNat xs.size) >>= _) _ _ s
  rw [mx]
  refine wpAny_bind (wpAny_updateSeq (hz := Nat.le_trans (Nat.le_add_right _ _) sz) (_hz' := z2) e rfl ?_)
  refine wpAny_bind (wpAny_letGo ?_)
  first
    | exact wpAny_bind (wpAny_pure (wpAny_pure ⟨.none, rfl, wpAny_pure h⟩))
    | exact wpAny_pure ⟨.none, rfl, wpAny_pure h⟩
end
section
variable {X : Cx}
def gAll (to : TE) : TG := fun v σ H Q => to σ H fun x H1 => ∃ (l b : Addr) (xs ys : List V), x = .ref l ∧ v = .ref b ∧ H1 l = some (.lst xs) ∧ H1 b = some (.lst ys) ∧ l ≠ b ∧ xs.length + ys.length ≤ sizeLine ∧ Q σ (upd H1 l (.lst ys))
set_option maxHeartbeats 4000000 in
theorem pg_all {o : Expr} {to : TE} {p2 pos : Pos} (ho : PE X o to)
    (ha : ∀ v, assign (.Subscript o (.Slice none none none p2) pos) X.env v = (do
      let ov ← holding [v] (eval o X.env)
      let iv ← holding [v, ov] (eval (.Slice none none none p2) X.env)
      standAt pos
      holding [v, ov, iv] (setItem ov iv v)
      release [iv, v, ov] []) := by intro _; rfl) : PG X (.Subscript o (.Slice none none none p2) pos) (gAll to) := by
  refine ⟨fun pins s σ H v u Q I r h => ?_⟩
  rw [ha]
  refine wpAny_bind (wpAny_holding (thn (ho.run pins s σ H _ I h) fun ov s1 ⟨x, H1, I1, r1, l, b, xs, ys, e1, e2, hl, hb, ne, sz, q⟩ => ?_))
  subst e1
  subst e2
  obtain rfl : ov = Value.ref l := r1
  obtain rfl : u = Value.ref b := r
  refine wpAny_bind (wpAny_holding (wpAny_Slice ?_))
  rw [evalPart_none]
  refine wpAny_pure (wpAny_pure (wpAny_pure ?_))
  have I4 : Inv X pins σ H1 { s1 with heap := s1.heap.push { cls := .type "slice", data := .fields #[.none, .none, .none] } } := I1.kept (t' := s1.toks) fun b ob z => Heap.get?_push_of_some _ z
  obtain ⟨zl, its, n, rv, kl, el⟩ := I4.lstM hl
  obtain ⟨zb, its2, n2, rv2, kb, eb⟩ := I4.lstM hb
  refine wpAny_bind (wpAny_standAt (wpAny_bind (wpAny_holding ?_)))
  refine store_all el eb ne (Heap.IsSliceOf.new ..) (by rw [List.size_toArray, List.size_toArray]; omega) ?_
  refine wpAny_release ⟨σ, _, ?_, q⟩
  refine I4.lset (its' := its2) (t' := s1.toks) hl el ?_ rv2 (by omega)
  rw [List.size_toArray]
  simp
end
end SlA
/-! ==, !=, len, str, repr of an instance of the program's own class, by its own def -/
namespace Own
open PySem PySem.Spec PyProof.Rows L2
section
variable {X : Cx} {K : PySem.W.Frag} {pins : List (Addr × Obj)} {s : Shared} {σ : L2.St} {H : Hp} {CX : CXT} {C f : Addr} {fd : FuncData} {ps : List Str} {sp : Sp} {E : XK} {n : Nat}
/-- the def at f is run on us, somewhere below the running body -/
theorem run_own {A : Around} {vs : List V} {us : List Value} {Q : VK} (F : FnOk X.prog X.w X.K X.mg X.base CX n f fd ps sp) (hb : Binds X.K fd ps []) (hx : Passes CX X E) (sb : Sub X n A) (I : Inv X pins σ H s) (r : Vals vs us) (h : sp vs H Q E) :
    wpAny (model X.prog X.w) A (call (.ref f) us) (EP X pins σ Q) X.xe s := by
  have e0 : Env0 X.prog X.w X.K X.mg X.base A X.stack s H := by
    have e := I.env0
    exact ⟨by rw [sb.fr]; exact e.frames, e.mod, e.bs, e.bsz, e.funs, e.frf, e.hok, e.bare⟩
  have hl := F.len _ _ _ _ h
  have hl2 := r.length
  refine wpAny_call (codeAny_mono (F.run A X.stack s H ⟨us, []⟩ us vs _ E sb.room e0 (by
    have z := hb s us I.kIn (by simp; omega)
    simpa using z) r h) fun q s' hq => ?_)
  cases q with
  | error e => exact hx pins σ H s e s' I hq
  | ok fl =>
    cases fl with
    | ret w => exact I.after hq
    | next => exact False.elim hq
    | brk => exact False.elim hq
    | cont => exact False.elim hq
/-- len(o) -/
def rLenO (C : Addr) (sp : Sp) (E : XK) : List V → Hp → VK → Prop := fun xs H Q => ∃ a dx fs, xs = [.ref a] ∧ H a = some (.ins C dx fs) ∧ sp [.ref a] H (fun v H' => ∃ i : Int, v = .int i ∧ (0 ≤ i ∧ i < 2 ^ 63) ∧ Q (.int i) H') E
theorem cr_lenO (F : FnOk X.prog X.w X.K X.mg X.base CX n f fd ps sp) (m : Meth X.K C "__len__" f) (hb : Binds X.K fd ps []) (hx : Passes CX X E) (hr : Room (n + 1) X.A) : CallR X (.builtin "len") (rLenO C sp E) := by
  intro pins s σ H xs us Q I r h
  obtain ⟨a, dx, fs, rfl, ha, h⟩ := h
  cases r with
  | cons r1 rr =>
    cases rr
    cases r1
    obtain ⟨mA, J, _⟩ := ins_get I.hok ha
    obtain ⟨od, J, _⟩ := J.look
    obtain ⟨mm, hF⟩ := I.fr
    refine PySem.W.len_K hF I.ok.mod.kin J m.at_ m.fn (wpAny_mono (run_own F hb hx ⟨hr.in1, rfl⟩ I (vs := [.ref a]) (.cons rfl .nil) h) (fun v s' q => ?_) fun _ _ z => z)
    obtain ⟨z, H', I', rz, i, rfl, hi, q⟩ := q
    obtain ⟨t, rfl⟩ := rz
    exact ⟨hi, .int i, H', I'.tok _, ⟨_, rfl⟩, q⟩
/-- repr(o), str(o) -/
def rStrO (C : Addr) (sp : Sp) (E : XK) : List V → Hp → VK → Prop := fun xs H Q => ∃ a dx fs, xs = [.ref a] ∧ H a = some (.ins C dx fs) ∧ sp [.ref a] H (fun v H' => ∃ z : Str, v = .str z ∧ Q (.str z) H') E
theorem cr_reprO (F : FnOk X.prog X.w X.K X.mg X.base CX n f fd ps sp) (m : Meth X.K C "__repr__" f) (hb : Binds X.K fd ps []) (hx : Passes CX X E) (hr : Room (n + 1) X.A) : CallR X (.builtin "repr") (rStrO C sp E) := by
  intro pins s σ H xs us Q I r h
  obtain ⟨a, dx, fs, rfl, ha, h⟩ := h
  cases r with
  | cons r1 rr =>
    cases rr
    cases r1
    obtain ⟨mA, J, _⟩ := ins_get I.hok ha
    obtain ⟨od, J, _⟩ := J.look
    obtain ⟨mm, hF⟩ := I.fr
    refine PySem.W.repr_K hr.in1.units0 hF I.ok.mod.kin J m.at_ m.fn (wpAny_mono (run_own F hb hx ⟨hr.in1, rfl⟩ I (vs := [.ref a]) (.cons rfl .nil) h) (fun v s' q => ?_) fun _ _ z => z)
    obtain ⟨z, H', I', rz, y, rfl, q⟩ := q
    obtain ⟨t, rfl⟩ := rz
    exact ⟨.str y, H', I', ⟨_, rfl⟩, q⟩
theorem cr_strO (F : FnOk X.prog X.w X.K X.mg X.base CX n f fd ps sp) (m : Meth X.K C "__str__" f) (hb : Binds X.K fd ps []) (hx : Passes CX X E) (hr : Room (n + 2) X.A) : CallR X (.type "str") (rStrO C sp E) := by
  intro pins s σ H xs us Q I r h
  obtain ⟨a, dx, fs, rfl, ha, h⟩ := h
  cases r with
  | cons r1 rr =>
    cases rr
    cases r1
    obtain ⟨mA, J, _⟩ := ins_get I.hok ha
    obtain ⟨od, J, _⟩ := J.look
    refine PySem.W.kso_call hr.in1.in1.units0 I.kIn J m.at_ m.fn (wpAny_mono (run_own F hb hx ⟨hr.in1.in1, rfl⟩ I (vs := [.ref a]) (.cons rfl .nil) h) (fun v s' q => ?_) fun _ _ z => z)
    obtain ⟨z, H', I', rz, y, rfl, q⟩ := q
    obtain ⟨t, rfl⟩ := rz
    exact ⟨.str y, H', I', ⟨_, rfl⟩, q⟩
/-- x == y by x's own def: y is an instance of the same class, or of a type that doesn't go first -/
def OthK (K : PySem.W.Frag) (C : Addr) (H : Hp) (y : V) : Prop := (∃ b dy gs, y = .ref b ∧ H b = some (.ins C dy gs)) ∨ ∃ T, TyX K H y (.type T) ∧ PySem.W.notFirst K C (.type T) = true
def rEqO (K : PySem.W.Frag) (C : Addr) (sp : Sp) (E : XK) : R2 := fun x y H Q => ∃ a dx fs, x = .ref a ∧ H a = some (.ins C dx fs) ∧ OthK K C H y ∧ sp [x, y] H (fun v H' => ∃ b : Bool, v = .bl b ∧ Q (.bl b) H') E
theorem oth_looks {y : V} {u : Value} (I : Inv X pins σ H s) (ry : RelV y u) (h : OthK X.K C H y) : ∃ tb, PySem.W.Looks (model X.prog X.w) s.heap (typeOf u) tb ∧ PySem.W.notFirst X.K C tb = true := by
  rcases h with ⟨b, dy, gs, rfl, hb⟩ | ⟨T, ty, nf⟩
  · cases ry
    obtain ⟨mB, J, _⟩ := ins_get I.hok hb
    obtain ⟨od, J, _⟩ := J.look
    exact ⟨_, J.type, by simp [PySem.W.notFirst]⟩
  · obtain ⟨P, Z, p, _⟩ := kit_of I ry ty
    exact ⟨_, Z.ty _ _ I.kIn p, nf⟩
theorem op_eqO (F : FnOk X.prog X.w X.K X.mg X.base CX n f fd ps sp) (m : Meth X.K C "__eq__" f) (hb : Binds X.K fd ps []) (hx : Passes CX X E) (hr : Room n X.A) (hK : X.K = K) : OpR X (compareOp .Eq) (rEqO K C sp E) := by
  subst hK
  intro pins s σ H x y v u Q I rx ry h
  obtain ⟨a, dx, fs, rfl, ha, ho, h⟩ := h
  cases rx
  obtain ⟨mA, J, _⟩ := ins_get I.hok ha
  obtain ⟨od, J, _⟩ := J.look
  obtain ⟨mm, hF⟩ := I.fr
  obtain ⟨tb, ht, hn⟩ := oth_looks I ry ho
  show wpAny (model X.prog X.w) X.A (richCompare .Eq (.ref a) u) (EP X pins σ Q) X.xe s
  refine PySem.W.cmp_K (op := .Eq) hr.units0 hF I.ok.mod.kin J ht hn m.at_ m.fn (wpAny_mono (run_own F hb hx ⟨hr, rfl⟩ I (vs := [.ref a, y]) (.cons rfl (.cons ry .nil)) h) (fun v s' q => ?_) fun _ _ z => z)
  obtain ⟨z, H', I', rz, b, rfl, q⟩ := q
  cases rz
  exact ⟨.bl b, H', I', rfl, q⟩
section
variable {M : Model} {prog : Program} {w : World} {A : Around} {E : Value → Shared → Prop} {s : Shared} {x : Addr} {ox : Obj} {od : Option Obj}
theorem ifBound_ne {args : List Value} {Q : Option Value → Shared → Prop} (Z : K.In s.heap) (I : PySem.W.InstAt s.heap x ox C od) (hs : PySem.W.findIn K (.ref C) "__ne__" = some (some (.builtin "object.__ne__")))
    (h : wpAny M A (call (.builtin "object.__ne__") (.ref x :: args)) (fun v => Q (some v)) E s) : wpAny M A (callSpecialIfBound? (.ref x) "__ne__" args) Q E s := by
  have fin : wpAny M A (call (.builtin "object.__ne__") ([.ref x] ++ args) >>= fun v => pure (some v)) Q E s := wpAny_bind (wpAny_mono h (fun v s' z => wpAny_pure z) fun _ _ z => z)
  simp only [callSpecialIfBound?, bindSpecialIfBound?]
  refine wpAny_holding (wpAny_bind (wpAny_bind (wpAny_bind (I.type.here ((PySem.W.looks_findIn Z hs).here (wpAny_bind (wpAny_askSetting (wpAny_ite ?_))))))))
  split
  · exact wpAny_bind (wpAny_of_eq (F.cmp_object.ne.bind _) (wpAny_pure fin))
  · exact wpAny_tryCatch (wpAny_bind (wpAny_of_eq (F.cmp_object.ne.bind _) (wpAny_pure fin)))
theorem call_ne {u : Value} {f : Addr} {Q : Value → Shared → Prop} (hu : A.in1.units < cLine) (Z : K.In s.heap) (I : PySem.W.InstAt s.heap x ox C od) (hm : PySem.W.mroIn K C (.type "object") = some true) (hs : PySem.W.findIn K (.ref C) "__eq__" = some (some (.ref f))) (hf : PySem.W.isFn K (.ref f) = true)
    (h : wpAny (model prog w) A.in1 (call (.ref f) [.ref x, u]) (fun v s' => ∃ b, v = .bool b ∧ Q (.bool (!b)) s') E s) : wpAny (model prog w) A (call (.builtin "object.__ne__") [.ref x, u]) Q E s := by
  refine wpAny_call (codeAny_call_builtin F.cmp_object.ne.plain F.cmpEntry_ne (PySem.W.check_slot F.cmpKind_ne F.cmpSplit_ne (I.type.andThen (PySem.W.looks_mroIn Z hm)) (F.cmpArgs_ne _ _) ?_))
  unfold Builtin.«object.__ne__»
  refine wpAny_bind (m := slotArgs "__ne__" 1 _) (wpAny_pure ?_)
  refine wpAny_bind (wpAny_cRoomFor hu ?_)
  refine wpAny_bind (m := callSpecialIfBound? (.ref x) (Str.ofString "__eq__") _) (PySem.W.ifBound_K Z I hs hf (wpAny_mono h (fun v s' z => ?_) fun _ _ z => z))
  obtain ⟨b, rfl, q⟩ := z
  exact wpAny_bind (wpAny_truthy_bool (wpAny_pure q))
end
/-- x != y by x's own == -/
def rNeO (K : PySem.W.Frag) (C : Addr) (sp : Sp) (E : XK) : R2 := fun x y H Q => ∃ a dx fs, x = .ref a ∧ H a = some (.ins C dx fs) ∧ OthK K C H y ∧ sp [x, y] H (fun v H' => ∃ b : Bool, v = .bl b ∧ Q (.bl (!b)) H') E
theorem op_neO (F : FnOk X.prog X.w X.K X.mg X.base CX n f fd ps sp) (m : Meth X.K C "__eq__" f) (hb : Binds X.K fd ps []) (hx : Passes CX X E) (hr : Room (n + 1) X.A) (hne : PySem.W.findIn X.K (.ref C) "__ne__" = some (some (.builtin "object.__ne__"))) (hm : PySem.W.mroIn X.K C (.type "object") = some true) (hK : X.K = K) : OpR X (compareOp .NotEq) (rNeO K C sp E) := by
  subst hK
  intro pins s σ H x y v u Q I rx ry h
  obtain ⟨a, dx, fs, rfl, ha, ho, h⟩ := h
  cases rx
  obtain ⟨mA, J, _⟩ := ins_get I.hok ha
  obtain ⟨od, J, _⟩ := J.look
  obtain ⟨tb, ht, hn⟩ := oth_looks I ry ho
  have one : wpAny (model X.prog X.w) X.A (tryCompare (.ref a) "__ne__" u) (fun r s' => ∃ v, r = some v ∧ EP X pins σ Q v s') X.xe s := by
    unfold tryCompare
    refine wpAny_bind (ifBound_ne I.kIn J hne (call_ne hr.in1.units0 I.kIn J hm m.at_ m.fn (wpAny_mono (run_own F hb hx ⟨hr.in1, rfl⟩ I (vs := [.ref a, y]) (.cons rfl (.cons ry .nil)) h) (fun v s' q => ?_) fun _ _ z => z)))
    obtain ⟨z, H', I', rz, b, rfl, q⟩ := q
    cases rz
    exact ⟨b, rfl, wpAny_pure ⟨_, rfl, .bl (!b), H', I', rfl, q⟩⟩
  show wpAny (model X.prog X.w) X.A (richCompare .NotEq (.ref a) u) (EP X pins σ Q) X.xe s
  unfold richCompare
  simp only [oneThing_ref]
  refine wpAny_holding (wpAny_bind (wpAny_cRoomFor hr.units0 (wpAny_bind (J.type.here (wpAny_bind (ht.here ?_))))))
  split
  · rename_i q
    have e : PySem.W.subIn X.K tb (.ref C) = some false := by
      rcases Bool.or_eq_true_iff.mp hn with e | e
      · rw [beq_iff_eq.mp e] at q; simp at q
      · exact beq_iff_eq.mp e
    refine wpAny_bind ((PySem.W.looks_subIn I.kIn e).here ?_)
    simp only [Bool.false_eq_true, if_false]
    refine wpAny_bind (wpAny_mono one (fun r s' z => ?_) fun _ _ e => e)
    obtain ⟨v, rfl, hq⟩ := z
    exact wpAny_pure hq
  · refine wpAny_bind (wpAny_pure ?_)
    simp only [Bool.false_eq_true, if_false]
    refine wpAny_bind (wpAny_mono one (fun r s' z => ?_) fun _ _ e => e)
    obtain ⟨v, rfl, hq⟩ := z
    exact wpAny_pure hq
/-- a built-in type doesn't go first -/
theorem nf {T : String} {ts : List Value} (e : fastBuiltinMro T = some ts) (h : ts.all (fun t => match t with | .type _ => true | _ => false) = true) : PySem.W.notFirst K C (.type T) = true := by
  have z : PySem.W.subIn K (.type T) (.ref C) = some false := by
    show (fastBuiltinMro T).map (·.contains (.ref C)) = some false
    rw [e]
    refine congrArg some (Bool.eq_false_iff.mpr fun q => ?_)
    have := List.all_eq_true.mp h _ (List.contains_iff_mem.mp q)
    exact absurd this (by simp)
  unfold PySem.W.notFirst
  rw [z]
  simp
end
end Own
/-! x in a list, list == list: items with a == of their own, any answer, that keeps all objects -/
namespace OwnS
open PySem PySem.Spec PyProof.Rows L2
open AutoSeq1 (wpAny_loadPart')
open MeetsSeq MeetsSeq2 MeetsSeq3 SeqRoads2
/-- all of e from i on, k of them -/
def al (e : Nat → Bool) : Nat → Nat → Bool
  | _, 0 => true
  | i, k + 1 => e i && al e (i + 1) k
def an (e : Nat → Bool) : Nat → Nat → Bool
  | _, 0 => false
  | i, k + 1 => e i || an e (i + 1) k
section
variable {prog : Program} {w : World} {A : Around} {R : Result → Shared → Prop}
def ListB (prog : Program) (w : World) (A : Around) (E : Value → Shared → Prop) (l b : Addr) (N : Nat) (e : Nat → Bool) (I : Shared → Prop) : Prop :=
  ∀ s, I s → ∃ (items items2 : Array Value) (n n2 : Nat), s.heap.get? l = some { cls := .type "list", data := .seq items n } ∧ s.heap.get? b = some { cls := .type "list", data := .seq items2 n2 } ∧ items.size = N ∧ items2.size = N ∧
    ∀ i (h1 : i < items.size) (h2 : i < items2.size), wpAny (model prog w) A.in1 (eqBool items[i] items2[i]) (fun r s' => r = e i ∧ I s') E s
theorem eq_loopB (l b : Addr) (N : Nat) (e : Nat → Bool) (I : Shared → Prop) (hl : ListB prog w A (fun e s' => R (.error e) s') l b N e I) (k : Nat) :
    ∀ i : Nat, N - i = k → i ≤ N → (∀ s, I s → R (.ok (.ret (.bool (al e i k)))) s) → ∀ s, I s →
      wpAny (model prog w) A.in1 (Builtin.«list.__eq__.loop» ⟨[.ref l, .ref b, rawInt i, rawInt 2], []⟩) (GQ.FinOf prog w A R) (fun e s' => R (.error e) s') s := by
  induction k with
  | zero =>
    intro i hk hi fin s h
    obtain ⟨items, items2, n, n2, hl1, hb1, hs1, hs2, _⟩ := hl _ h
    have hi' : i = N := by omega
    have hR : R (.ok (.ret (.bool true))) s := fin s h
    obtain ⟨hp, g, d, tk, os⟩ := s
    wp_walk using wpAny_loadPart' hl1, wpAny_loadPart' hb1
    have hi1 : items[((i : Nat) : Int).toNat]? = none := by simp; omega
    have hi2 : items2[((i : Nat) : Int).toNat]? = none := by simp; omega
    rw [hi1, hi2]
    wp_walk using wpAny_loadPart' hl1, wpAny_loadPart' hb1
    show R (.ok (.ret (.bool (items.size == items2.size)))) _
    rw [hs1, hs2]
    simpa using hR
  | succ k ih =>
    intro i hk hi fin s h
    obtain ⟨items, items2, n, n2, hl1, hb1, hs1, hs2, turn⟩ := hl _ h
    have hlt : i < items.size := by omega
    have hlt2 : i < items2.size := by omega
    have ht := turn i hlt hlt2
    obtain ⟨hp, g, d, tk, os⟩ := s
    wp_walk using wpAny_loadPart' hl1, wpAny_loadPart' hb1
    have hi1 : items[((i : Nat) : Int).toNat]? = some items[i] := by simp [hlt]
    have hi2 : items2[((i : Nat) : Int).toNat]? = some items2[i] := by simp [hlt2]
    have hc : ((i : Int) + 1) = ((i + 1 : Nat) : Int) := by omega
    rw [hi1, hi2]
    refine wpAny_bind (wpAny_mono ht (fun r s2 h2 => ?_) fun _ _ x => x)
    obtain ⟨hr, h2⟩ := h2
    subst hr
    cases he : e i with
    | true =>
      have hrec := ih (i + 1) (by omega) (by omega) (fun s hs => by have := fin s hs; rwa [al, he, Bool.true_and] at this) s2 h2
      obtain ⟨hp2, g2, d2, tk2, os2⟩ := s2
      wp_walk
      rw [hc]
      exact ⟨plainId_quiet plain_eq_loop _, codeAny_builtin entry_eq_loop (by
        rw [Around.under_plainId plain_eq_loop _]
        exact hrec)⟩
    | false =>
      have hR := fin s2 h2
      rw [al, he, Bool.false_and] at hR
      obtain ⟨itemsB, items2B, nB, n2B, hl1B, hb1B, hs1B, hs2B, _⟩ := hl _ h2
      obtain ⟨hp2, g2, d2, tk2, os2⟩ := s2
      wp_walk using wpAny_loadPart' hl1B, wpAny_loadPart' hb1B
      have hi1B : itemsB[((i : Nat) : Int).toNat]? = some (itemsB[i]'(by omega)) := by simp
      have hi2B : items2B[((i : Nat) : Int).toNat]? = some (items2B[i]'(by omega)) := by simp
      rw [hi1B, hi2B]
      wp_walk
      exact hR
theorem list_eqB (l b : Addr) (N : Nat) (e : Nat → Bool) (I : Shared → Prop) (hl : ListB prog w A (fun e s' => R (.error e) s') l b N e I)
    (fin : ∀ s, I s → R (.ok (.ret (.bool (al e 0 N)))) s) {s : Shared} (h : I s) :
    wpAny (model prog w) A.in1 (Builtin.«list.__eq__» ⟨[.ref l, .ref b], []⟩) (GQ.FinOf prog w A R) (fun e s' => R (.error e) s') s := by
  obtain ⟨items, items2, n, n2, hl1, hb1, hs1, hs2, _⟩ := hl _ h
  have hrec := eq_loopB (A := A) (R := R) l b N e I hl N 0 (by omega) (Nat.zero_le _) fin s h
  obtain ⟨hp, g, d, tk, os⟩ := s
  have f3 := AutoSeq1.sub_list_list
  have hne : ¬ (items.size != items2.size) = true := by simp [hs1, hs2]
  wp_walk using wpAny_loadPart' hl1, wpAny_loadPart' hb1
  exact ⟨plainId_quiet plain_eq_loop _, codeAny_builtin entry_eq_loop (by
    rw [Around.under_plainId plain_eq_loop _]
    exact hrec)⟩
/-- x is sought in the list -/
def SeekB (prog : Program) (w : World) (A : Around) (E : Value → Shared → Prop) (l : Addr) (x : Value) (N : Nat) (e : Nat → Bool) (I : Shared → Prop) : Prop :=
  ∀ s, I s → ∃ (items : Array Value) (n : Nat), s.heap.get? l = some { cls := .type "list", data := .seq items n } ∧ items.size = N ∧
    ∀ i (h1 : i < items.size), wpAny (model prog w) A.in1 (eqBool items[i] x) (fun r s' => r = e i ∧ I s') E s
theorem in_loopB (l : Addr) (x : Value) (N : Nat) (e : Nat → Bool) (I : Shared → Prop) (hl : SeekB prog w A (fun e s' => R (.error e) s') l x N e I) (k : Nat) :
    ∀ i : Nat, N - i = k → i ≤ N → (∀ s, I s → R (.ok (.ret (.bool (an e i k)))) s) → ∀ s, I s →
      wpAny (model prog w) A.in1 (Builtin.«list.__contains__.loop» ⟨[.ref l, x, rawInt i], []⟩) (GQ.FinOf prog w A R) (fun e s' => R (.error e) s') s := by
  induction k with
  | zero =>
    intro i hk hi fin s h
    obtain ⟨items, n, hl1, hs1, _⟩ := hl _ h
    have hR : R (.ok (.ret (.bool false))) s := fin s h
    obtain ⟨hp, g, d, tk, os⟩ := s
    wp_walk using wpAny_loadPart' hl1
    have hi1 : items[((i : Nat) : Int).toNat]? = none := by simp; omega
    rw [hi1]
    wp_walk
    exact hR
  | succ k ih =>
    intro i hk hi fin s h
    obtain ⟨items, n, hl1, hs1, turn⟩ := hl _ h
    have hlt : i < items.size := by omega
    have ht := turn i hlt
    obtain ⟨hp, g, d, tk, os⟩ := s
    wp_walk using wpAny_loadPart' hl1
    have hi1 : items[((i : Nat) : Int).toNat]? = some items[i] := by simp [hlt]
    have hc : ((i : Int) + 1) = ((i + 1 : Nat) : Int) := by omega
    rw [hi1]
    refine wpAny_bind (wpAny_mono ht (fun r s2 h2 => ?_) fun _ _ x => x)
    obtain ⟨hr, h2⟩ := h2
    subst hr
    cases he : e i with
    | false =>
      have hrec := ih (i + 1) (by omega) (by omega) (fun s hs => by have := fin s hs; rwa [an, he, Bool.false_or] at this) s2 h2
      obtain ⟨hp2, g2, d2, tk2, os2⟩ := s2
      wp_walk
      rw [hc]
      exact ⟨plainId_quiet plain_contains_loop _, codeAny_builtin entry_contains_loop (by
        rw [Around.under_plainId plain_contains_loop _]
        exact hrec)⟩
    | true =>
      have hR := fin s2 h2
      rw [an, he, Bool.true_or] at hR
      obtain ⟨hp2, g2, d2, tk2, os2⟩ := s2
      wp_walk
      exact hR
theorem list_inB (l : Addr) (x : Value) (N : Nat) (e : Nat → Bool) (I : Shared → Prop) (hl : SeekB prog w A (fun e s' => R (.error e) s') l x N e I)
    (fin : ∀ s, I s → R (.ok (.ret (.bool (an e 0 N)))) s) {s : Shared} (h : I s) :
    wpAny (model prog w) A.in1 (Builtin.«list.__contains__» ⟨[.ref l, x], []⟩) (GQ.FinOf prog w A R) (fun e s' => R (.error e) s') s := by
  obtain ⟨items, n, hl1, hs1, _⟩ := hl _ h
  have hrec := in_loopB (A := A) (R := R) l x N e I hl N 0 (by omega) (Nat.zero_le _) fin s h
  obtain ⟨hp, g, d, tk, os⟩ := s
  wp_walk using wpAny_loadPart' hl1
  exact ⟨plainId_quiet plain_contains_loop _, codeAny_builtin entry_contains_loop (by
    rw [Around.under_plainId plain_contains_loop _]
    exact hrec)⟩
end
section
variable {prog : Program} {w : World} {A : Around} {E : Value → Shared → Prop} {s : Shared}
theorem rc_listB {l b : Addr} {N : Nat} {e : Nat → Bool} {Q : Value → Shared → Prop} (hu : A.units < cLine) (I : Shared → Prop) (hl : ListB prog w A E l b N e I)
    (fin : ∀ s, I s → Q (.bool (al e 0 N)) s) (h : I s) : wpAny (model prog w) A (richCompare .Eq (.ref l) (.ref b)) Q E s := by
  obtain ⟨items, items2, n, n2, hl1, hb1, _, _, _⟩ := hl _ h
  refine wpAny_richCompare_same_room (op := .Eq) ⟨_, hl1, rfl⟩ ⟨_, hb1, rfl⟩ F.slot_list_eq (GQ.call_here F.slot_list_eq ⟨_, hl1, rfl⟩ F.entry_list_eq (F.args_list_eq_2 _ _) ?_) hu
  exact list_eqB (R := wants (fun v s' => v ≠ .notImplemented ∧ Q v s') E) l b N e I hl (fun s' q => ⟨(fun x => nomatch x), fin s' q⟩) h
theorem in_listB {l : Addr} {x : Value} {N : Nat} {e : Nat → Bool} {Q : Value → Shared → Prop} (I : Shared → Prop) (hl : SeekB prog w A E l x N e I)
    (fin : ∀ s, I s → Q (.bool (an e 0 N)) s) (h : I s) : wpAny (model prog w) A (compareOp .In x (.ref l)) Q E s := by
  obtain ⟨items, n, hl1, _, _⟩ := hl _ h
  show wpAny _ A (do return .bool (← contains (.ref l) x)) Q E s
  refine wpAny_bind (wpAny_contains_slot ⟨_, hl1, rfl⟩ F.slot_list_contains (wpAny_mono (GQ.call_here (Q := fun v s' => ∃ b, v = .bool b ∧ Q (.bool b) s') F.slot_list_contains ⟨_, hl1, rfl⟩ F.entry_list_contains (F.args_list_contains_2 _ _) ?_) (fun v s' hv => ?_) fun _ _ e => e))
  · exact list_inB (R := wants (fun v s' => ∃ b, v = .bool b ∧ Q (.bool b) s') E) l x N e I hl (fun s' q => ⟨_, rfl, fin s' q⟩) h
  · obtain ⟨b, rfl, hq⟩ := hv
    exact wpAny_truthy_bool (wpAny_pure hq)
end
section
variable {X : Cx} {K : PySem.W.Frag} {CX : CXT} {C f : Addr} {fd : FuncData} {ps : List Str} {E : XK} {n : Nat} {R : Addr → Addr → Bool → Hp → Prop}
/-- what the own == promises: the answer that R tells, all objects kept; the same object is equal to itself -/
def spB (R : Addr → Addr → Bool → Hp → Prop) : Sp := fun vs H Q _ => ∃ a b r, vs = [.ref a, .ref b] ∧ R a b r H ∧ Q (.bl r) H
/-- two instances, and the answer -/
def DB (C : Addr) (R : Addr → Addr → Bool → Hp → Prop) (H : Hp) (x y : V) (r : Bool) : Prop := ∃ a b dx dy fs gs, x = .ref a ∧ y = .ref b ∧ H a = some (.ins C dx fs) ∧ H b = some (.ins C dy gs) ∧ R a b r H ∧ (a = b → r = true)
theorem eqB {pins : List (Addr × Obj)} {σ : L2.St} {H : Hp} {s : Shared} {A : Around} {x y : V} {u v : Value} {r : Bool} {sp : Sp} (hsp : ∀ a b r Q E, R a b r H → Q (.bl r) H → sp [.ref a, .ref b] H Q E) (F : FnOk X.prog X.w X.K X.mg X.base CX n f fd ps sp) (m : Meth X.K C "__eq__" f) (hb : Binds X.K fd ps []) (hx : Passes CX X E) (sb : Sub X n A)
    (I : Inv X pins σ H s) (rx : RelV x u) (ry : RelV y v) (d : DB C R H x y r) : wpAny (model X.prog X.w) A (eqBool u v) (fun z s' => z = r ∧ Inv X pins σ H s') X.xe s := by
  obtain ⟨a, b, dx, dy, fs, gs, rfl, rfl, ha, hb', hr, hs⟩ := d
  cases rx
  cases ry
  by_cases hab : a = b
  · subst hab
    exact SeqAt.EqAt.same (A := A) (s := s) (.ref a) X.prog X.w X.xe _ ⟨(hs rfl).symm, I⟩
  · obtain ⟨mA, J, _⟩ := ins_get I.hok ha
    obtain ⟨mB, J', _⟩ := ins_get I.hok hb'
    obtain ⟨od, J, _⟩ := J.look
    obtain ⟨od', J', _⟩ := J'.look
    obtain ⟨mm, hF⟩ := I.fr
    refine GQ.eqBool_refG hab ?_
    refine PySem.W.cmp_K (op := .Eq) (tb := .ref C) sb.room.units0 hF I.ok.mod.kin J J'.type (by simp [PySem.W.notFirst]) m.at_ m.fn (wpAny_mono (Own.run_own (Q := fun z H' => z = .bl r ∧ H' = H) F hb hx sb I (vs := [.ref a, .ref b]) (.cons rfl (.cons rfl .nil)) (hsp a b r _ E hr ⟨rfl, rfl⟩)) (fun v s' q => ?_) fun _ _ z => z)
    obtain ⟨z, H', I', rz, rfl, rfl⟩ := q
    cases rz
    exact ⟨r, rfl, rfl, I'⟩
/-- [x, ..] == [y, ..] -/
def rEqB (C : Addr) (R : Addr → Addr → Bool → Hp → Prop) : R2 := fun x y H Q => ∃ (a b : Addr) (xs ys : List V) (e : Nat → Bool), x = .ref a ∧ y = .ref b ∧ H a = some (.lst xs) ∧ H b = some (.lst ys) ∧ xs.length = ys.length ∧ (∀ (i : Nat) p q, xs[i]? = some p → ys[i]? = some q → DB C R H p q (e i)) ∧ Q (.bl (al e 0 xs.length)) H
def rInB (C : Addr) (R : Addr → Addr → Bool → Hp → Prop) : R2 := fun x y H Q => ∃ (b : Addr) (ys : List V) (e : Nat → Bool), y = .ref b ∧ H b = some (.lst ys) ∧ (∀ (i : Nat) q, ys[i]? = some q → DB C R H q x (e i)) ∧ Q (.bl (an e 0 ys.length)) H
theorem op_eqB {sp : Sp} (hsp : ∀ H a b r Q E, R a b r H → Q (.bl r) H → sp [.ref a, .ref b] H Q E) (F : FnOk X.prog X.w X.K X.mg X.base CX n f fd ps sp) (m : Meth X.K C "__eq__" f) (hb : Binds X.K fd ps []) (hx : Passes CX X E) (hr : Room (n + 1) X.A) : OpR X (compareOp .Eq) (rEqB C R) := by
  intro pins s σ H x y v u Q I rx ry h
  obtain ⟨a, b, xs, ys, e, rfl, rfl, ha, hb', hl, hd, q⟩ := h
  cases rx
  cases ry
  show wpAny (model X.prog X.w) X.A (richCompare .Eq (.ref a) (.ref b)) (EP X pins σ Q) X.xe s
  refine rc_listB (N := xs.length) (e := e) hr.units0 (fun s' => Inv X pins σ H s') (fun s' I' => ?_) (fun s' I' => ⟨.bl _, H, I', rfl, q⟩) I
  obtain ⟨z, its, k, r, h1⟩ := I'.hok a _ ha
  obtain ⟨z2, its2, k2, r2, h2⟩ := I'.hok b _ hb'
  refine ⟨its.toArray, its2.toArray, k, k2, h1, h2, by rw [List.size_toArray, ← r.length], by rw [List.size_toArray, ← r2.length, ← hl], fun i l1 l2 => ?_⟩
  have g1 : its[i]? = some its.toArray[i] := by
    have h1' : i < its.length := by simpa using l1
    rw [List.getElem?_eq_getElem h1'] <;> simp
  have g2 : its2[i]? = some its2.toArray[i] := by
    have h2' : i < its2.length := by simpa using l2
    rw [List.getElem?_eq_getElem h2'] <;> simp
  have k1 : i < xs.length := by rw [r.length]; simpa using l1
  have k2 : i < ys.length := by rw [r2.length]; simpa using l2
  obtain ⟨u, hu, ru⟩ := r.get (List.getElem?_eq_getElem k1)
  obtain ⟨v, hv, rv⟩ := r2.get (List.getElem?_eq_getElem k2)
  rw [g1] at hu
  rw [g2] at hv
  rw [Option.some.inj hu, Option.some.inj hv]
  exact eqB (hsp H) F m hb hx ⟨hr.in1, rfl⟩ I' ru rv (hd i _ _ (List.getElem?_eq_getElem k1) (List.getElem?_eq_getElem k2))
theorem op_inB {sp : Sp} (hsp : ∀ H a b r Q E, R a b r H → Q (.bl r) H → sp [.ref a, .ref b] H Q E) (F : FnOk X.prog X.w X.K X.mg X.base CX n f fd ps sp) (m : Meth X.K C "__eq__" f) (hb : Binds X.K fd ps []) (hx : Passes CX X E) (hr : Room (n + 1) X.A) : OpR X (compareOp .In) (rInB C R) := by
  intro pins s σ H x y v u Q I rx ry h
  obtain ⟨b, ys, e, rfl, hb', hd, q⟩ := h
  cases ry
  refine in_listB (N := ys.length) (e := e) (fun s' => Inv X pins σ H s') (fun s' I' => ?_) (fun s' I' => ⟨.bl _, H, I', rfl, q⟩) I
  obtain ⟨z2, its2, k2, r2, h2⟩ := I'.hok b _ hb'
  refine ⟨its2.toArray, k2, h2, by rw [List.size_toArray, ← r2.length], fun i l2 => ?_⟩
  have g2 : its2[i]? = some its2.toArray[i] := by
    have h2' : i < its2.length := by simpa using l2
    rw [List.getElem?_eq_getElem h2'] <;> simp
  have k2 : i < ys.length := by rw [r2.length]; simpa using l2
  obtain ⟨v, hv, rv⟩ := r2.get (List.getElem?_eq_getElem k2)
  rw [g2] at hv
  rw [Option.some.inj hv]
  exact eqB (hsp H) F m hb hx ⟨hr.in1, rfl⟩ I' rv rx (hd i _ (List.getElem?_eq_getElem k2))
end
end OwnS
/-! tuple == tuple: items with a == of their own, any answer; ==, != with an instance of another class on the right; two rules for one operator -/
namespace OwnT
open PySem PySem.Spec PyProof.Rows L2
open AutoSeq1 (wpAny_loadPart')
open MeetsSeq MeetsSeq2 MeetsSeq3 SeqRoads2
section
variable {prog : Program} {w : World} {A : Around} {R : Result → Shared → Prop}
/-- the answer: all of e, and as many on both sides -/
def ans (e : Nat → Bool) (m n : Nat) : Bool := (List.range (min m n)).all e && m == n
theorem tuple_eqB (l b : Addr) (xs ys : Array Value) (n n2 : Nat) (dd dd2 : Option Addr) (sl sl2 : Array (Option Value)) (e : Nat → Bool) (I : Shared → Prop)
    (he : ∀ s, I s → ∀ j (h1 : j < xs.size) (h2 : j < ys.size), wpAny (model prog w) A.in1 (eqBool xs[j] ys[j]) (fun r s' => r = e j ∧ I s') (fun x s' => R (.error x) s') s)
    (fin : ∀ s, I s → R (.ok (.ret (.bool (ans e xs.size ys.size)))) s) {s : Shared} (hl : s.heap.get? l = some { cls := .type "tuple", dict := dd, data := .seq xs n, slots := sl }) (hb : s.heap.get? b = some { cls := .type "tuple", dict := dd2, data := .seq ys n2, slots := sl2 }) (hI : I s) :
    wpAny (model prog w) A.in1 (Builtin.«tuple.__eq__» ⟨[.ref l, .ref b], []⟩) (GQ.FinOf prog w A R) (fun x s' => R (.error x) s') s := by
  have zl : (xs.toList.zip ys.toList).length = min xs.size ys.size := by simp
  have sub := AutoSeq1.sub_tuple_tuple
  obtain ⟨hp, g, d, tk, os⟩ := s
  wp_walk using wpAny_loadPart' hl, wpAny_loadPart' hb, wpAny_forIn_list _ (fun rest q t => q.1 = none ∧ I t ∧ ∃ i, rest = (xs.toList.zip ys.toList).drop i ∧ ((List.range (min xs.size ys.size)).take i).all e = true) _
  case turn =>
    rintro ⟨u, v⟩ rest q t ⟨hq, hI', i, hz, hR⟩
    have lt : i < (xs.toList.zip ys.toList).length := by
      apply Classical.byContradiction
      intro c
      rw [List.drop_of_length_le (by omega)] at hz
      cases hz
    have lm : i < min xs.size ys.size := by rw [← zl]; exact lt
    have k1 : i < xs.size := by omega
    have k2 : i < ys.size := by omega
    rw [List.drop_eq_getElem_cons lt] at hz
    obtain ⟨huv, hrest⟩ := List.cons.inj hz
    have hu : u = xs[i] := by simpa using congrArg Prod.fst huv
    have hv : v = ys[i] := by simpa using congrArg Prod.snd huv
    subst hu hv
    refine wpAny_bind (wpAny_mono (he t hI' i k1 k2) (fun r t2 h2 => ?_) fun _ _ x => x)
    obtain ⟨hr, hI2⟩ := h2
    subst hr
    have fin2 := fin t2 hI2
    obtain ⟨hp2, g2, d2, tk2, os2⟩ := t2
    cases hei : e i with
    | true =>
      wp_walk
      refine ⟨rfl, hI2, i + 1, hrest, ?_⟩
      have gi : (List.range (min xs.size ys.size))[i]? = some i := by simp [lm]
      rw [List.take_add_one, gi, List.all_append, hR]
      show (true && (e i && true)) = true
      rw [hei]
      rfl
    | false =>
      have no : ans e xs.size ys.size = false := by
        unfold ans
        rw [show (List.range (min xs.size ys.size)).all e = false from List.all_eq_false.mpr ⟨i, List.mem_range.mpr lm, by rw [hei]; decide⟩, Bool.false_and]
      rw [no] at fin2
      wp_walk
      exact fin2
  case fin =>
    rintro ⟨q1, q2⟩ t ⟨hq, hI', i, hz, hR⟩
    simp only at hq
    subst hq
    have ge : min xs.size ys.size ≤ i := by
      apply Classical.byContradiction
      intro c
      have lt : i < (xs.toList.zip ys.toList).length := by rw [zl]; omega
      rw [List.drop_eq_getElem_cons lt] at hz
      cases hz
    have fin2 := fin t hI'
    unfold ans at fin2
    rw [List.take_of_length_le (by rw [List.length_range]; exact ge)] at hR
    rw [hR] at fin2
    obtain ⟨hp2, g2, d2, tk2, os2⟩ := t
    wp_walk
    simpa [Builtin.Tuple.tupleCompareSizes] using fin2
  case h => exact ⟨rfl, hI, 0, rfl, rfl⟩
end
section
variable {prog : Program} {w : World} {A : Around} {E : Value → Shared → Prop} {s : Shared}
theorem rc_tupleB {l b : Addr} {xs ys : Array Value} {e : Nat → Bool} {Q : Value → Shared → Prop} (hu : A.units < cLine) (I : Shared → Prop) (hl : s.heap.IsTuple l xs) (hb : s.heap.IsTuple b ys)
    (he : ∀ s, I s → ∀ j (h1 : j < xs.size) (h2 : j < ys.size), wpAny (model prog w) A.in1 (eqBool xs[j] ys[j]) (fun r s' => r = e j ∧ I s') E s) (fin : ∀ s, I s → Q (.bool (ans e xs.size ys.size)) s) (h : I s) : wpAny (model prog w) A (richCompare .Eq (.ref l) (.ref b)) Q E s := by
  obtain ⟨⟨c1, dd, da, sl⟩, ho, hc, n, hd⟩ := id hl
  obtain ⟨⟨c2, dd2, da2, sl2⟩, ho2, hc2, n2, hd2⟩ := id hb
  simp only at hc hd hc2 hd2
  subst hc hd hc2 hd2
  refine wpAny_richCompare_same_room (op := .Eq) ⟨_, ho, rfl⟩ ⟨_, ho2, rfl⟩ F.slot_tuple_eq (GQ.call_here F.slot_tuple_eq ⟨_, ho, rfl⟩ F.entry_tuple_eq (F.args_tuple_eq_2 _ _) ?_) hu
  exact tuple_eqB (R := wants (fun v s' => v ≠ .notImplemented ∧ Q v s') E) l b xs ys n n2 dd dd2 sl sl2 e I he (fun s' q => ⟨(fun x => nomatch x), fin s' q⟩) ho ho2 h
end
section
variable {X : Cx} {K : PySem.W.Frag} {CX : CXT} {C f : Addr} {fd : FuncData} {ps : List Str} {E : XK} {n : Nat} {R : Addr → Addr → Bool → Hp → Prop}
/-- the own == promises the answer that R tells; it may make objects -/
abbrev Says (R : Addr → Addr → Bool → Hp → Prop) (sp : Sp) : Prop := ∀ H a b r Q E, R a b r H → (∀ H', Evl.Ex H H' → Q (.bl r) H') → sp [.ref a, .ref b] H Q E
abbrev Keeps (R : Addr → Addr → Bool → Hp → Prop) : Prop := ∀ H H' a b r, Evl.Ex H H' → R a b r H → R a b r H'
/-- what is known in between: all objects that were known -/
def Btw (X : Cx) (pins : List (Addr × Obj)) (σ : L2.St) (H : Hp) (s : Shared) : Prop := ∃ H', Evl.Ex H H' ∧ Inv X pins σ H' s
theorem eqX {pins : List (Addr × Obj)} {σ : L2.St} {H : Hp} {s : Shared} {A : Around} {x y : V} {u v : Value} {r : Bool} {sp : Sp} (hsp : Says R sp) (F : FnOk X.prog X.w X.K X.mg X.base CX n f fd ps sp) (m : Meth X.K C "__eq__" f) (hb : Binds X.K fd ps []) (hx : Passes CX X E) (sb : Sub X n A)
    (I : Inv X pins σ H s) (rx : RelV x u) (ry : RelV y v) (d : OwnS.DB C R H x y r) : wpAny (model X.prog X.w) A (eqBool u v) (fun z s' => z = r ∧ Btw X pins σ H s') X.xe s := by
  obtain ⟨a, b, dx, dy, fs, gs, rfl, rfl, ha, hb', hr, hs⟩ := d
  cases rx
  cases ry
  by_cases hab : a = b
  · subst hab
    exact SeqAt.EqAt.same (A := A) (s := s) (.ref a) X.prog X.w X.xe _ ⟨(hs rfl).symm, H, fun _ _ h => h, I⟩
  · obtain ⟨mA, J, _⟩ := ins_get I.hok ha
    obtain ⟨mB, J', _⟩ := ins_get I.hok hb'
    obtain ⟨od, J, _⟩ := J.look
    obtain ⟨od', J', _⟩ := J'.look
    obtain ⟨mm, hF⟩ := I.fr
    refine GQ.eqBool_refG hab ?_
    refine PySem.W.cmp_K (op := .Eq) (tb := .ref C) sb.room.units0 hF I.ok.mod.kin J J'.type (by simp [PySem.W.notFirst]) m.at_ m.fn (wpAny_mono (Own.run_own (Q := fun z H' => z = .bl r ∧ Evl.Ex H H') F hb hx sb I (vs := [.ref a, .ref b]) (.cons rfl (.cons rfl .nil)) (hsp H a b r _ E hr fun H' e => ⟨rfl, e⟩)) (fun v s' q => ?_) fun _ _ z => z)
    obtain ⟨z, H', I', rz, rfl, e⟩ := q
    cases rz
    exact ⟨r, rfl, rfl, H', e, I'⟩
theorem db_up {H H' : Hp} {x y : V} {r : Bool} (hk : Keeps R) (e : Evl.Ex H H') (d : OwnS.DB C R H x y r) : OwnS.DB C R H' x y r := by
  obtain ⟨a, b, dx, dy, fs, gs, h1, h2, ha, hb, hr, hs⟩ := d
  exact ⟨a, b, dx, dy, fs, gs, h1, h2, e _ _ ha, e _ _ hb, hk _ _ _ _ _ e hr, hs⟩
/-- (x, ..) == (y, ..) -/
def rEqT (C : Addr) (R : Addr → Addr → Bool → Hp → Prop) : R2 := fun x y H Q => ∃ (a b : Addr) (xs ys : List V) (e : Nat → Bool), x = .ref a ∧ y = .ref b ∧ H a = some (.tup xs) ∧ H b = some (.tup ys) ∧ (∀ (i : Nat) p q, xs[i]? = some p → ys[i]? = some q → OwnS.DB C R H p q (e i)) ∧ ∀ H', Evl.Ex H H' → Q (.bl (ans e xs.length ys.length)) H'
theorem op_eqT {sp : Sp} (hsp : Says R sp) (hk : Keeps R) (F : FnOk X.prog X.w X.K X.mg X.base CX n f fd ps sp) (m : Meth X.K C "__eq__" f) (hb : Binds X.K fd ps []) (hx : Passes CX X E) (hr : Room (n + 1) X.A) : OpR X (compareOp .Eq) (rEqT C R) := by
  intro pins s σ H x y v u Q I rx ry h
  obtain ⟨a, b, xs, ys, e, rfl, rfl, ha, hb', hd, q⟩ := h
  cases rx
  cases ry
  show wpAny (model X.prog X.w) X.A (richCompare .Eq (.ref a) (.ref b)) (EP X pins σ Q) X.xe s
  obtain ⟨z, its, r, t1⟩ := I.hok a _ ha
  obtain ⟨z2, its2, r2, t2⟩ := I.hok b _ hb'
  have l1 := r.length
  have l2 := r2.length
  refine rc_tupleB (e := e) hr.units0 (Btw X pins σ H) t1 t2 (fun s' hI i h1 h2 => ?_) (fun s' hI => ?_) ⟨H, fun _ _ h => h, I⟩
  · obtain ⟨H', e', I'⟩ := hI
    have h1' : i < its.length := by simpa using h1
    have h2' : i < its2.length := by simpa using h2
    have g1 := List.getElem?_eq_getElem (show i < xs.length by omega)
    have g2 := List.getElem?_eq_getElem (show i < ys.length by omega)
    obtain ⟨u, hu, ru⟩ := r.get g1
    obtain ⟨v, hv, rv⟩ := r2.get g2
    have e1 : its.toArray[i] = u := by
      rw [List.getElem?_eq_getElem h1'] at hu
      simpa using Option.some.inj hu
    have e2 : its2.toArray[i] = v := by
      rw [List.getElem?_eq_getElem h2'] at hv
      simpa using Option.some.inj hv
    rw [e1, e2]
    refine wpAny_mono (eqX hsp F m hb hx ⟨hr.in1, rfl⟩ I' ru rv (db_up hk e' (hd i _ _ g1 g2))) (fun z s2 q => ?_) fun _ _ z => z
    obtain ⟨hz, H2, e2', I2⟩ := q
    exact ⟨hz, H2, fun c o h => e2' _ _ (e' _ _ h), I2⟩
  · obtain ⟨H', e', I'⟩ := hI
    rw [List.size_toArray, List.size_toArray, ← l1, ← l2]
    exact ⟨.bl _, H', I', rfl, q H' e'⟩
/-- [x, ..] == [y, ..] -/
def rEqL (C : Addr) (R : Addr → Addr → Bool → Hp → Prop) : R2 := fun x y H Q => ∃ (a b : Addr) (xs ys : List V) (e : Nat → Bool), x = .ref a ∧ y = .ref b ∧ H a = some (.lst xs) ∧ H b = some (.lst ys) ∧ xs.length = ys.length ∧ (∀ (i : Nat) p q, xs[i]? = some p → ys[i]? = some q → OwnS.DB C R H p q (e i)) ∧ ∀ H', Evl.Ex H H' → Q (.bl (OwnS.al e 0 xs.length)) H'
theorem op_eqL {sp : Sp} (hsp : Says R sp) (hk : Keeps R) (F : FnOk X.prog X.w X.K X.mg X.base CX n f fd ps sp) (m : Meth X.K C "__eq__" f) (hb : Binds X.K fd ps []) (hx : Passes CX X E) (hr : Room (n + 1) X.A) : OpR X (compareOp .Eq) (rEqL C R) := by
  intro pins s σ H x y v u Q I rx ry h
  obtain ⟨a, b, xs, ys, e, rfl, rfl, ha, hb', hl, hd, q⟩ := h
  cases rx
  cases ry
  show wpAny (model X.prog X.w) X.A (richCompare .Eq (.ref a) (.ref b)) (EP X pins σ Q) X.xe s
  refine OwnS.rc_listB (N := xs.length) (e := e) hr.units0 (Btw X pins σ H) (fun s' hI => ?_) (fun s' hI => ?_) ⟨H, fun _ _ h => h, I⟩
  · obtain ⟨H', e', I'⟩ := hI
    obtain ⟨z, its, k, r, h1⟩ := I'.hok a _ (e' _ _ ha)
    obtain ⟨z2, its2, k2, r2, h2⟩ := I'.hok b _ (e' _ _ hb')
    have l1 := r.length
    have l2 := r2.length
    refine ⟨its.toArray, its2.toArray, k, k2, h1, h2, by rw [List.size_toArray, ← l1], by rw [List.size_toArray, ← l2, ← hl], fun i m1 m2 => ?_⟩
    have h1' : i < its.length := by simpa using m1
    have h2' : i < its2.length := by simpa using m2
    have g1 := List.getElem?_eq_getElem (show i < xs.length by omega)
    have g2 := List.getElem?_eq_getElem (show i < ys.length by omega)
    obtain ⟨u, hu, ru⟩ := r.get g1
    obtain ⟨v, hv, rv⟩ := r2.get g2
    have e1 : its.toArray[i] = u := by
      rw [List.getElem?_eq_getElem h1'] at hu
      simpa using Option.some.inj hu
    have e2 : its2.toArray[i] = v := by
      rw [List.getElem?_eq_getElem h2'] at hv
      simpa using Option.some.inj hv
    rw [e1, e2]
    refine wpAny_mono (eqX hsp F m hb hx ⟨hr.in1, rfl⟩ I' ru rv (db_up hk e' (hd i _ _ g1 g2))) (fun z s2 q => ?_) fun _ _ z => z
    obtain ⟨hz, H2, e2', I2⟩ := q
    exact ⟨hz, H2, fun c o h => e2' _ _ (e' _ _ h), I2⟩
  · obtain ⟨H', e', I'⟩ := hI
    exact ⟨.bl _, H', I', rfl, q H' e'⟩
/-- x in [y, ..] -/
def rInL (C : Addr) (R : Addr → Addr → Bool → Hp → Prop) : R2 := fun x y H Q => ∃ (b : Addr) (ys : List V) (e : Nat → Bool), y = .ref b ∧ H b = some (.lst ys) ∧ (∀ (i : Nat) q, ys[i]? = some q → OwnS.DB C R H q x (e i)) ∧ ∀ H', Evl.Ex H H' → Q (.bl (OwnS.an e 0 ys.length)) H'
theorem op_inL {sp : Sp} (hsp : Says R sp) (hk : Keeps R) (F : FnOk X.prog X.w X.K X.mg X.base CX n f fd ps sp) (m : Meth X.K C "__eq__" f) (hb : Binds X.K fd ps []) (hx : Passes CX X E) (hr : Room (n + 1) X.A) : OpR X (compareOp .In) (rInL C R) := by
  intro pins s σ H x y v u Q I rx ry h
  obtain ⟨b, ys, e, rfl, hb', hd, q⟩ := h
  cases ry
  refine OwnS.in_listB (N := ys.length) (e := e) (Btw X pins σ H) (fun s' hI => ?_) (fun s' hI => ?_) ⟨H, fun _ _ h => h, I⟩
  · obtain ⟨H', e', I'⟩ := hI
    obtain ⟨z2, its2, k2, r2, h2⟩ := I'.hok b _ (e' _ _ hb')
    have l2 := r2.length
    refine ⟨its2.toArray, k2, h2, by rw [List.size_toArray, ← l2], fun i m2 => ?_⟩
    have h2' : i < its2.length := by simpa using m2
    have g2 := List.getElem?_eq_getElem (show i < ys.length by omega)
    obtain ⟨w, hw, rw'⟩ := r2.get g2
    have e2 : its2.toArray[i] = w := by
      rw [List.getElem?_eq_getElem h2'] at hw
      simpa using Option.some.inj hw
    rw [e2]
    refine wpAny_mono (eqX hsp F m hb hx ⟨hr.in1, rfl⟩ I' rw' rx (db_up hk e' (hd i _ g2))) (fun z s2 q => ?_) fun _ _ z => z
    obtain ⟨hz, H2, e2', I2⟩ := q
    exact ⟨hz, H2, fun c o h => e2' _ _ (e' _ _ h), I2⟩
  · obtain ⟨H', e', I'⟩ := hI
    exact ⟨.bl _, H', I', rfl, q H' e'⟩
/-- two rules for one operator -/
def rOr (r r' : R2) : R2 := fun x y H Q => r x y H Q ∨ r' x y H Q
theorem op_or {fn : Value → Value → Sem Value} {r r' : R2} (h : OpR X fn r) (h' : OpR X fn r') : OpR X fn (rOr r r') := by
  intro pins s σ H x y v u Q I rx ry q
  rcases q with q | q
  · exact h pins s σ H x y v u Q I rx ry q
  · exact h' pins s σ H x y v u Q I rx ry q
/-- an instance of another class stands on the right -/
def rEqC (K : PySem.W.Frag) (C : Addr) (sp : Sp) (E : XK) : R2 := fun x y H Q => ∃ a dx fs b D dy gs, x = .ref a ∧ y = .ref b ∧ H a = some (.ins C dx fs) ∧ H b = some (.ins D dy gs) ∧ PySem.W.notFirst K C (.ref D) = true ∧ sp [x, y] H (fun v H' => ∃ b : Bool, v = .bl b ∧ Q (.bl b) H') E
theorem op_eqC {sp : Sp} (F : FnOk X.prog X.w X.K X.mg X.base CX n f fd ps sp) (m : Meth X.K C "__eq__" f) (hb : Binds X.K fd ps []) (hx : Passes CX X E) (hr : Room n X.A) (hK : X.K = K) : OpR X (compareOp .Eq) (rEqC K C sp E) := by
  subst hK
  intro pins s σ H x y v u Q I rx ry h
  obtain ⟨a, dx, fs, b, D, dy, gs, rfl, rfl, ha, hd, hn, h⟩ := h
  cases rx
  cases ry
  obtain ⟨mA, J, _⟩ := ins_get I.hok ha
  obtain ⟨od, J, _⟩ := J.look
  obtain ⟨mB, J', _⟩ := ins_get I.hok hd
  obtain ⟨od', J', _⟩ := J'.look
  obtain ⟨mm, hF⟩ := I.fr
  show wpAny (model X.prog X.w) X.A (richCompare .Eq (.ref a) (.ref b)) (EP X pins σ Q) X.xe s
  refine PySem.W.cmp_K (op := .Eq) hr.units0 hF I.ok.mod.kin J J'.type hn m.at_ m.fn (wpAny_mono (Own.run_own F hb hx ⟨hr, rfl⟩ I (vs := [.ref a, .ref b]) (.cons rfl (.cons rfl .nil)) h) (fun v s' q => ?_) fun _ _ z => z)
  obtain ⟨z, H', I', rz, c, rfl, q⟩ := q
  cases rz
  exact ⟨.bl c, H', I', rfl, q⟩
end
end OwnT
/-! ### tuples: a slice of all of it (the tuple itself), and turned about -/
namespace SlT
open PySem PySem.Spec PyProof.Rows L2 Evl
theorem getItem_whole {prog : Program} {w : World} {A : Around} {E : Value → Shared → Prop} {s : Shared} {t sl : Addr} {items : Array Value} {vl vu : Value} {lo hi : Option Int} {Q : Value → Shared → Prop}
    (ht : IsTup s.heap t items) (hs : s.heap.IsSliceOf sl vl vu Value.none) (pl : IsPart vl lo) (pu : IsPart vu hi) (h0 : HT.sIx items.size 0 lo = 0) (h1 : HT.sIx items.size items.size hi = items.size) (h : Q (.ref t) s) : wpAny (model prog w) A (getItem (Value.ref t) (Value.ref sl)) Q E s := by
  obtain ⟨os, hos, hcs, hds⟩ := id hs
  have hTs : s.TypeIs (Value.ref sl) "slice" := ⟨os, hos, hcs⟩
  unfold getItem
  refine wpAny_holding (wpAny_bind (wpAny_sequenceKey ht.typeIs (by decide) (wpAny_bind (wpAny_callSpecial?_slot ht.typeIs slot_tuple_getitem (wpAny_call_entry slot_tuple_getitem ht.typeIs entry_tuple_getitem ?_ (args_tuple_getitem _ _))))))
  show wpAny (model prog w) A.in1 (Bind.bind (Builtin.Tuple.tupleItemsOf (Value.ref t)) _) _ E s
  refine wpAny_bind (tupleItemsOf_ ht (wpAny_bind (wpAny_typeOf hTs ?_)))
  rw [if_pos (by decide)]
  refine wpAny_bind (HT.sliceApplied_gen hs pl pu ?_)
  show wpAny (model prog w) A.in1 (if (((HT.sIx items.size 0 lo : Nat) : Int) == 0 && (1 : Int) == 1 && (HT.sIx items.size items.size hi - HT.sIx items.size 0 lo) == items.size) = true then _ else _) _ E s
  rw [if_pos (by rw [h0, h1, Nat.sub_zero]; simp)]
  refine wpAny_bind (wpAny_bind (wpAny_typeOf ht.typeIs (wpAny_pure ?_)))
  rw [if_pos (by decide)]
  refine wpAny_bind (wpAny_rule (wpAny_pure ?_))
  exact ⟨_, rfl, wpAny_pure h⟩
/-- any slice of a tuple, step 1: all of it is the tuple itself -/
def rSlA (K : PySem.W.Frag) : V → Option Int → Option Int → Hp → VK → Prop := fun x lo hi H Q => ∃ a xs, x = .ref a ∧ SqT K H a xs ∧ ((HT.sIx xs.length 0 lo = 0 ∧ HT.sIx xs.length xs.length hi = xs.length) → Q (.ref a) H) ∧ (¬ (HT.sIx xs.length 0 lo = 0 ∧ HT.sIx xs.length xs.length hi = xs.length) → ∀ p, H p = none → Q (.ref p) (upd H p (.tup (cutV xs lo hi))))
theorem sl_tupA {X : Cx} {K : PySem.W.Frag} (hK : X.K = K) : SlR X (rSlA K) := by
  subst hK
  intro pins s σ H x v vl vu lo hi sl Q I rx hs pl pu h
  obtain ⟨a, xs, ex, hx, q1, q2⟩ := h
  by_cases c : HT.sIx xs.length 0 lo = 0 ∧ HT.sIx xs.length xs.length hi = xs.length
  · subst ex
    obtain rfl : v = Value.ref a := rx
    obtain ⟨its, r, ht, hz⟩ := I.tuple hx
    have hlen : its.toArray.size = xs.length := by rw [List.size_toArray]; exact (Vals.length r).symm
    exact ⟨"tuple", "tuple.__getitem__", slot_tuple_getitem.lookup, ht.typeIs, getItem_whole ht hs pl pu (by rw [hlen]; exact c.1) (by rw [hlen]; exact c.2) ⟨.ref a, H, I, rfl, q1 c⟩⟩
  · exact sl_tup pins s σ H x v vl vu lo hi sl Q I rx hs pl pu ⟨a, xs, ex, hx, c, q2 c⟩
theorem sliceApplied_rev {prog : Program} {w : World} {A : Around} {E : Value → Shared → Prop} {s : Shared} {sl : Addr} {t : Tok} {n : Nat} {Q : Int × Int × Nat → Shared → Prop} (hs : s.heap.IsSliceOf sl Value.none Value.none (.int (-1) t)) (h : Q ((n : Int) - 1, -1, n) s) : wpAny (model prog w) A (Builtin.Slice.sliceApplied (Value.ref sl) (pure (n : Int))) Q E s := by
  obtain ⟨os, hos, hcs, hds⟩ := id hs
  unfold Builtin.Slice.sliceApplied Builtin.Slice.sliceFields
  refine wpAny_bind (wpAny_bind (wpAny_field hos hds rfl (wpAny_bind (wpAny_field hos hds rfl (wpAny_bind (wpAny_field hos hds rfl (wpAny_pure ?_)))))))
  refine wpAny_bind (HT.slicePart_ (.int (-1) t) ?_)
  show wpAny (model prog w) A (if ((-1 : Int) == 0) = true then _ else _) Q E s
  rw [if_neg (by decide)]
  refine wpAny_bind (slicePart_none (wpAny_bind (slicePart_none (wpAny_bind (wpAny_pure ?_)))))
  have e : Builtin.Slice.sliceAdjust none none (-1) (n : Int) = ((n : Int) - 1, -1) := rfl
  have e2 : Builtin.Slice.slicePlaces ((n : Int) - 1) (-1) (-1) = n := by
    unfold Builtin.Slice.slicePlaces
    rw [if_neg (by decide)]
    split
    · rw [show -(-1 : Int) = 1 from rfl, Int.ediv_one]
      omega
    · omega
  show wpAny (model prog w) A (match Builtin.Slice.sliceAdjust none none (-1) (n : Int) with | (lo, hi) => pure (lo, -1, Builtin.Slice.slicePlaces lo hi (-1))) Q E s
  rw [e]
  show wpAny (model prog w) A (pure ((n : Int) - 1, -1, Builtin.Slice.slicePlaces ((n : Int) - 1) (-1) (-1))) Q E s
  rw [e2]
  exact wpAny_pure h
theorem pick_rev (xs : Array Value) : (List.filterMap (fun k => xs[((xs.size : Int) - 1 + (k : Nat) * (-1)).toNat]?) (List.range xs.size)) = xs.toList.reverse := by
  have g : ∀ (l : List Nat), (∀ k ∈ l, k < xs.size) → l.filterMap (fun k => xs[((xs.size : Int) - 1 + (k : Nat) * (-1)).toNat]?) = l.map (fun k => (xs.toList.reverse[k]?).getD Value.none) := by
    intro l
    induction l with
    | nil => intro _; rfl
    | cons k r ih =>
      intro h
      have hk := h k (List.mem_cons_self ..)
      have e1 : ((xs.size : Int) - 1 + (k : Nat) * (-1)).toNat = xs.size - 1 - k := by omega
      have e2 : xs.toList.reverse[k]? = xs[xs.size - 1 - k]? := by
        rw [List.getElem?_reverse (by simpa using hk), Array.length_toList, Array.getElem?_toList]
      have e3 : xs[xs.size - 1 - k]? = some (xs[xs.size - 1 - k]'(by omega)) := Array.getElem?_eq_getElem (by omega)
      rw [List.map_cons, List.filterMap_cons, e1, e2, e3, ih fun m hm => h m (List.mem_cons_of_mem _ hm)]
      rfl
  rw [g _ fun k hk => List.mem_range.mp hk]
  refine List.ext_getElem? fun i => ?_
  rw [List.getElem?_map]
  by_cases h : i < xs.size
  · rw [List.getElem?_range h, List.getElem?_eq_getElem (l := xs.toList.reverse) (by simpa using h)]
    show some ((xs.toList.reverse[i]?).getD Value.none) = _
    rw [List.getElem?_eq_getElem (l := xs.toList.reverse) (by simpa using h)]
    rfl
  · rw [List.getElem?_eq_none_iff.mpr (by simpa using h), List.getElem?_eq_none_iff.mpr (by simpa using h)]
    rfl
theorem getItem_rev {prog : Program} {w : World} {A : Around} {E : Value → Shared → Prop} {s : Shared} {t sl : Addr} {u : Tok} {items : Array Value} {Q : Value → Shared → Prop}
    (ht : IsTup s.heap t items) (hs : s.heap.IsSliceOf sl Value.none Value.none (.int (-1) u)) (hz : items.size ≤ sizeLine) (h : Q (Value.ref s.heap.objs.size) { s with heap := s.heap.push { cls := .type "tuple", data := .seq items.toList.reverse.toArray } }) : wpAny (model prog w) A (getItem (Value.ref t) (Value.ref sl)) Q E s := by
  obtain ⟨os, hos, hcs, hds⟩ := id hs
  have hTs : s.TypeIs (Value.ref sl) "slice" := ⟨os, hos, hcs⟩
  unfold getItem
  refine wpAny_holding (wpAny_bind (wpAny_sequenceKey ht.typeIs (by decide) (wpAny_bind (wpAny_callSpecial?_slot ht.typeIs slot_tuple_getitem (wpAny_call_entry slot_tuple_getitem ht.typeIs entry_tuple_getitem ?_ (args_tuple_getitem _ _))))))
  show wpAny (model prog w) A.in1 (Bind.bind (Builtin.Tuple.tupleItemsOf (Value.ref t)) _) _ E s
  refine wpAny_bind (tupleItemsOf_ ht (wpAny_bind (wpAny_typeOf hTs ?_)))
  rw [if_pos (by decide)]
  refine wpAny_bind (sliceApplied_rev hs ?_)
  show wpAny (model prog w) A.in1 (if (((items.size : Int) - 1) == 0 && (-1 : Int) == 1 && items.size == items.size) = true then _ else _) _ E s
  rw [if_neg (by simp)]
  show wpAny (model prog w) A.in1 (Bind.bind (newObj (Value.type "tuple") (Data.seq (List.filterMap (fun k => items[((items.size : Int) - 1 + (k : Nat) * (-1)).toNat]?) (List.range items.size)).toArray)) _) _ E s
  rw [pick_rev]
  refine wpAny_bind (wpAny_newObj_type ?_ (by show (items.toList.reverse.toArray).size ≤ sizeLine; simpa using hz))
  exact wpAny_pure ⟨_, rfl, wpAny_pure h⟩
def tRevT (K : PySem.W.Frag) (te : TE) : TE := fun σ H Q => te σ H fun x H1 => ∃ a xs, x = .ref a ∧ SqT K H1 a xs ∧ ∀ p, H1 p = none → Q (.ref p) (upd H1 p (.tup xs.reverse))
theorem pe_revT {X : Cx} {e : Expr} {te : TE} {k : Nat} {p1 p2 p3 pos : Pos} (he : PE X e te) : PE X (.Subscript e (.Slice none none (some (.UnaryOp .USub (.Constant (.int 1) k p1) p2)) p3) pos) (tRevT X.K te) := by
  refine ⟨fun pins s σ H Q I h => ?_⟩
  refine Subscript_ (thn (he.run pins s σ H _ I h) fun v s1 ⟨x, H1, I1, r1, q1⟩ => ?_)
  obtain ⟨a, xs, ex, hx, q⟩ := q1
  subst ex
  obtain rfl : v = Value.ref a := r1
  have hst : PO X (some (.UnaryOp .USub (.Constant (.int 1) k p1) p2)) (tPart (tUn (rU fun i => .int (-i)) (tC (.int 1)))) := po_some (pe_un un_neg pe_int)
  refine wpAny_Slice (thn (po_none.run pins s1 σ H1 (fun o H2 => o = none ∧ H2 = H1) I1 ⟨rfl, rfl⟩) fun vl s2 ⟨l, H2, I2, pl, el, e2⟩ => ?_)
  subst el e2
  refine thn (po_none.run pins s2 σ H2 (fun o H3 => o = none ∧ H3 = H2) I2 ⟨rfl, rfl⟩) fun vu s3 ⟨u, H3, I3, pu, eu, e3⟩ => ?_
  subst eu e3
  refine thn (hst.run pins s3 σ H3 (fun o H4 => o = some (-1) ∧ H4 = H3) I3 ⟨1, rfl, -1, rfl, rfl, rfl⟩) fun vs s4 ⟨o, H4, I4, ps, eo, e4⟩ => ?_
  subst eo e4
  cases pl
  cases pu
  cases ps
  rename_i st _
  have I5 : Inv X pins σ H4 { s4 with heap := s4.heap.push { cls := .type "slice", data := .fields #[.none, .none, .int (-1) st] } } := I4.kept (t' := s4.toks) fun b ob q => Heap.get?_push_of_some _ q
  obtain ⟨its, r, ht, hz⟩ := I5.tuple hx
  have hlen : its.toArray.size = xs.length := by rw [List.size_toArray]; exact (Vals.length r).symm
  show wpAny (model X.prog X.w) X.A (subscriptTail e (.Slice none none (some (.UnaryOp .USub (.Constant (.int 1) k p1) p2)) p3) (.ref a) (.ref s4.heap.objs.size)) (EP X pins σ Q) X.xe { s4 with heap := s4.heap.push { cls := .type "slice", data := .fields #[.none, .none, .int (-1) st] } }
  refine tail_any (ops := [.ref a, .ref s4.heap.objs.size]) ht.typeIs (slot_tuple_getitem.lookup) ?_ (by with_unfolding_all rfl)
  refine getItem_rev ht ⟨_, Heap.get?_push_size _ rfl, rfl, rfl⟩ (by rw [hlen]; exact hz) ?_
  refine ⟨.ref _, upd H4 _ (.tup xs.reverse), I5.laid (fun b ob q => Heap.get?_push_of_some _ q) (Nat.le_refl _) ⟨by rw [List.length_reverse]; exact hz, its.reverse, Vals.reverse r, IsTup.new _ _⟩, rfl, q _ (HOk.fresh I5.hok (Nat.le_refl _))⟩
/-- + of tuples, any of them empty -/
def rCatA (K : PySem.W.Frag) : R2 := fun x y H Q => ∃ a b xs ys, x = .ref a ∧ y = .ref b ∧ SqT K H a xs ∧ SqT K H b ys ∧ xs.length + ys.length ≤ sizeLine ∧ (xs = [] → Q (.ref b) H) ∧ (xs ≠ [] → ys = [] → Q (.ref a) H) ∧ (xs ≠ [] → ys ≠ [] → ∀ p, H p = none → Q (.ref p) (upd H p (.tup (xs ++ ys))))
theorem cat_left {prog : Program} {w : World} {A : Around} {E : Value → Shared → Prop} {s : Shared} {t b : Addr} {vs ws : Array Value} {Q : Value → Shared → Prop} (ht : IsTup s.heap t vs) (hb : IsTup s.heap b ws) (hv : vs.isEmpty = true) (h : Q (.ref b) s) : wpAny (model prog w) A (binaryOp Operator.Add (Value.ref t) (Value.ref b)) Q E s := by
  obtain ⟨⟨cls, dd, data, sl⟩, ho, hc, n, hd⟩ := id ht
  obtain ⟨⟨cls2, dd2, data2, sl2⟩, ho2, hc2, n2, hd2⟩ := id hb
  cases hc
  cases hd
  cases hc2
  cases hd2
  exact concat_meets ht.typeIs hb.typeIs noFill_tuple_add seq_tuple_add F.slot_tuple_add F.entry_tuple_add (F.args_tuple_add_2 (Value.ref t) (Value.ref b)) (tuple_addW0 t b vs ws n n2 dd dd2 sl sl2 hv) ⟨ho, ho2, h⟩
theorem op_catTA {X : Cx} {K : PySem.W.Frag} (hK : X.K = K) : OpR X (binaryOp Operator.Add) (rCatA K) := by
  subst hK
  intro pins s σ H x y v u Q I rx ry h
  obtain ⟨a, b, xs, ys, ex, ey, ha, hb, hz, q0, q1, q2⟩ := h
  by_cases c : xs = []
  · subst ex ey
    obtain rfl : v = Value.ref a := rx
    obtain rfl : u = Value.ref b := ry
    obtain ⟨its, r, ht, _⟩ := I.tuple ha
    obtain ⟨its2, r2, ht2, _⟩ := I.tuple hb
    have e : its = [] := (Vals.nil_iff r).mpr c
    exact cat_left ht ht2 (by rw [e]; rfl) ⟨.ref b, H, I, rfl, q0 c⟩
  · exact op_catT pins s σ H x y v u Q I rx ry ⟨a, b, xs, ys, ex, ey, ha, hb, c, hz, q1 c, q2 c⟩
/-- what a slice, a sum of tuples is, at some place -/
theorem slA_use {K : PySem.W.Frag} {H : Hp} {a : Addr} {xs : List V} {lo hi : Option Int} {Q : VK} (h : H a = some (.tup xs)) (q : ∀ p H', Ex H H' → H' p = some (.tup (cutV xs lo hi)) → Q (.ref p) H') : rSlA K (.ref a) lo hi H Q := by
  refine ⟨a, xs, rfl, SqT.of h, fun c => q a H (Ex.refl H) ?_, fun _ p np => q p _ (Ex.new np) upd_same⟩
  rw [h]
  unfold cutV
  rw [c.1, c.2, List.drop_zero, Nat.sub_zero, List.take_length]
theorem catA_use {K : PySem.W.Frag} {H : Hp} {a b : Addr} {xs ys : List V} {Q : VK} (h : H a = some (.tup xs)) (g : H b = some (.tup ys)) (l : xs.length + ys.length ≤ sizeLine) (q : ∀ p H', Ex H H' → H' p = some (.tup (xs ++ ys)) → Q (.ref p) H') : rCatA K (.ref a) (.ref b) H Q := by
  refine ⟨a, b, xs, ys, rfl, rfl, SqT.of h, SqT.of g, l, fun c => q b H (Ex.refl H) ?_, fun _ c => q a H (Ex.refl H) ?_, fun _ _ p np => q p _ (Ex.new np) upd_same⟩
  · rw [g, c, List.nil_append]
  · rw [h, c, List.append_nil]
end SlT
/-! list == list: the same objects in both, of whatever class -/
namespace EqS
open PySem PySem.Spec PyProof.Rows L2
theorem al_true : ∀ (k i : Nat), OwnS.al (fun _ => true) i k = true
  | 0, _ => rfl
  | k + 1, i => by
    rw [OwnS.al, al_true k (i + 1)]
    rfl
def rEqSame : R2 := fun x y H Q => ∃ (a b : Addr) (rs : List Addr), x = .ref a ∧ y = .ref b ∧ H a = some (.lst (rs.map V.ref)) ∧ H b = some (.lst (rs.map V.ref)) ∧ Q (.bl true) H
theorem op_eqSame {X : Cx} (hu : X.A.units < cLine) : OpR X (compareOp .Eq) rEqSame := by
  intro pins s σ H x y v u Q I rx ry h
  obtain ⟨a, b, rs, rfl, rfl, ha, hb, q⟩ := h
  cases rx
  cases ry
  show wpAny (model X.prog X.w) X.A (richCompare .Eq (.ref a) (.ref b)) (EP X pins σ Q) X.xe s
  refine OwnS.rc_listB (N := rs.length) (e := fun _ => true) hu (fun s' => Inv X pins σ H s') (fun s' I' => ?_) (fun s' I' => ?_) I
  · obtain ⟨z, its, k, r, h1⟩ := I'.hok a _ ha
    obtain ⟨z2, its2, k2, r2, h2⟩ := I'.hok b _ hb
    have n1 := r.length
    have n2 := r2.length
    rw [List.length_map] at n1 n2
    refine ⟨its.toArray, its2.toArray, k, k2, h1, h2, by rw [List.size_toArray, ← n1], by rw [List.size_toArray, ← n2], fun i l1 l2 => ?_⟩
    have h1' : i < its.length := by simpa using l1
    have h2' : i < its2.length := by simpa using l2
    have gi : (rs.map V.ref)[i]? = some (V.ref (rs[i]'(by omega))) := by rw [List.getElem?_map, List.getElem?_eq_getElem (by omega)]; rfl
    obtain ⟨u, hu', ru⟩ := r.get gi
    obtain ⟨v, hv', rv⟩ := r2.get gi
    rw [List.getElem?_eq_getElem h1'] at hu'
    rw [List.getElem?_eq_getElem h2'] at hv'
    cases ru
    cases rv
    have e1 : its.toArray[i] = Value.ref (rs[i]'(by omega)) := by simpa using hu'
    have e2 : its2.toArray[i] = Value.ref (rs[i]'(by omega)) := by simpa using hv'
    rw [e1, e2]
    exact SeqAt.EqAt.same (A := X.A.in1) (s := s') _ X.prog X.w X.xe _ ⟨rfl, I'⟩
  · rw [al_true]
    exact ⟨.bl true, H, I', rfl, q⟩
end EqS
/-! ### a set of numbers by two clauses: {y for x in xs if .. for y in f(x) if ..} -/
namespace ScT
open PySem PySem.Spec PyProof.Rows L2 PpSet
section
variable {prog : Program} {w : World} {A : Around} {R : Result → Shared → Prop} {s : Shared} {env : Env} {el ta ia tb ib : Expr} {fa fb : List Expr} {sc : Scope} {ps : Pos} {it acc : Value}
abbrev Two (el ta ia tb ib : Expr) (fa fb : List Expr) (sc : Scope) (ps : Pos) : Expr := .SetComp el [⟨ta, ia, fa, 0⟩, ⟨tb, ib, fb, 0⟩] sc ps
/-- what is raised within the block, as it is told outside -/
abbrev Nb (prog : Program) (w : World) (A : Around) (env : Env) (R : Result → Shared → Prop) : Value → Shared → Prop := notedBy (model prog w) A env fun x t => R (.error x) t
/-- a clause's tests -/
abbrev Tst (fs : List Expr) (env : Env) : Sem Bool := forIn fs true fun f q => if q = true then (do let y ← isTrue f env (eval f env); pure (ForInStep.yield y)) else pure (ForInStep.yield q)
theorem turnA : compTurn (Two el ta ia tb ib fa fb sc ps) 0 it acc env = (do
    standAt ia.pos
    match ← pyNext it with
    | none => pure (.done .next)
    | some u =>
      letOwnedTupleGo ta it u
      assign ta env u
      let mut go := true
      for f in fa do
        if go then go ← isTrue f env (eval f env)
      if go then
        let src ← eval ib env
        standAt ib.pos
        let src ← foldedSetIterable ib env src
        let _ ← runOwn (.compStart (Two el ta ia tb ib fa fb sc ps) 1 (← holding [src] (pyIter src)) acc env) env
      again (.compLoop (Two el ta ia tb ib fa fb sc ps) 0 it acc env)) := by rfl
theorem turnB : compTurn (Two el ta ia tb ib fa fb sc ps) 1 it acc env = (do
    standAt ib.pos
    match ← pyNext it with
    | none => pure (.done .next)
    | some u =>
      letOwnedTupleGo tb it u
      assign tb env u
      let mut go := true
      for f in fb do
        if go then go ← isTrue f env (eval f env)
      if go then
        (do let y ← eval el env; standAt el.pos; let _ ← call (.builtin "set.add") [acc, y])
      again (.compLoop (Two el ta ia tb ib fa fb sc ps) 1 it acc env)) := by rfl
/-- the outer loop -/
theorem loopA (hs : ∀ x, foldedSetIterable ib env x = pure x) (In : Nat → Shared → Prop)
    (turn : ∀ n s, In n s → wpAny (model prog w) A (pyNext it) (fun nx s1 => match nx with
      | none => R (.ok .next) s1
      | some u => wpAny (model prog w) A (letOwnedTupleGo ta it u) (fun _ s2 => wpAny (model prog w) A (assign ta env u) (fun _ s3 => wpAny (model prog w) A (Tst fa env) (fun go s4 =>
          if go = true then wpAny (model prog w) A (eval ib env) (fun x s5 => wpAny (model prog w) A (pyIter x) (fun i1 s6 =>
            codeAny (model prog w) A (.compStart (Two el ta ia tb ib fa fb sc ps) 1 i1 acc env) (fun r t => match r with | .ok _ => ∃ m, m < n ∧ In m t | .error _ => False) s6) (Nb prog w A env R) s5) (Nb prog w A env R) s4
          else ∃ m, m < n ∧ In m s4) (Nb prog w A env R) s3) (Nb prog w A env R) s2) (Nb prog w A env R) s1) (Nb prog w A env R) s)
    (n : Nat) (h : In n s) : codeAny (model prog w) A (.compLoop (Two el ta ia tb ib fa fb sc ps) 0 it acc env) R s := by
  refine codeAny_loop rfl In (fun n s hI => ?_) n h
  show wpAny _ A ((compTurn (Two el ta ia tb ib fa fb sc ps) 0 it acc env).onRaise (fun x => do noteFrame x env; theTreesLotGoes x)) _ _ s
  refine wpAny_noted ?_
  rw [turnA]
  refine wpAny_bind (wpAny_standAt (wpAny_bind (wpAny_mono (turn n s hI) (fun nx s1 h1 => ?_) fun _ _ z => z)))
  cases nx with
  | none => exact wpAny_pure h1
  | some u =>
    refine wpAny_bind (wpAny_mono h1 (fun _ s2 h2 => wpAny_bind (wpAny_mono h2 (fun _ s3 h3 => wpAny_bind (wpAny_mono h3 (fun go s4 h4 => ?_) fun _ _ z => z)) fun _ _ z => z)) fun _ _ z => z)
    cases go with
    | false => exact wpAny_pure ⟨rfl, h4⟩
    | true =>
      refine wpAny_bind (wpAny_mono h4 (fun x s5 h5 => ?_) fun _ _ z => z)
      refine wpAny_bind (wpAny_standAt (wpAny_bind (wpAny_of_eq (hs x) (wpAny_bind (wpAny_holding (wpAny_mono h5 (fun i1 s6 h6 => ?_) fun _ _ z => z))))))
      refine wpAny_bind (wpAny_runOwn ?_)
      rw [Around.mark_none]
      refine codeAny_mono h6 fun r t hr => ?_
      cases r with
      | ok f =>
        first
          | exact wpAny_pure ⟨rfl, hr⟩
          | exact wpAny_bind (wpAny_pure (wpAny_pure ⟨rfl, hr⟩))
      | error x => exact hr.elim
/-- the inner one -/
theorem loopB (In : Nat → Shared → Prop)
    (turn : ∀ n s, In n s → wpAny (model prog w) A (pyNext it) (fun nx s1 => match nx with
      | none => R (.ok .next) s1
      | some u => wpAny (model prog w) A (letOwnedTupleGo tb it u) (fun _ s2 => wpAny (model prog w) A (assign tb env u) (fun _ s3 => wpAny (model prog w) A (Tst fb env) (fun go s4 =>
          if go = true then wpAny (model prog w) A (eval el env) (fun y s5 => wpAny (model prog w) A (call (.builtin "set.add") [acc, y]) (fun _ s6 => ∃ m, m < n ∧ In m s6) (Nb prog w A env R) s5) (Nb prog w A env R) s4
          else ∃ m, m < n ∧ In m s4) (Nb prog w A env R) s3) (Nb prog w A env R) s2) (Nb prog w A env R) s1) (Nb prog w A env R) s)
    (n : Nat) (h : In n s) : codeAny (model prog w) A (.compLoop (Two el ta ia tb ib fa fb sc ps) 1 it acc env) R s := by
  refine codeAny_loop rfl In (fun n s hI => ?_) n h
  show wpAny _ A ((compTurn (Two el ta ia tb ib fa fb sc ps) 1 it acc env).onRaise (fun x => do noteFrame x env; theTreesLotGoes x)) _ _ s
  refine wpAny_noted ?_
  rw [turnB]
  refine wpAny_bind (wpAny_standAt (wpAny_bind (wpAny_mono (turn n s hI) (fun nx s1 h1 => ?_) fun _ _ z => z)))
  cases nx with
  | none => exact wpAny_pure h1
  | some u =>
    refine wpAny_bind (wpAny_mono h1 (fun _ s2 h2 => wpAny_bind (wpAny_mono h2 (fun _ s3 h3 => wpAny_bind (wpAny_mono h3 (fun go s4 h4 => ?_) fun _ _ z => z)) fun _ _ z => z)) fun _ _ z => z)
    cases go with
    | false => exact wpAny_pure ⟨rfl, h4⟩
    | true =>
      exact wpAny_bind (wpAny_bind (wpAny_mono h4 (fun y s5 h5 => wpAny_bind (wpAny_standAt (wpAny_bind (wpAny_mono h5 (fun _ s6 h6 => wpAny_pure (wpAny_pure ⟨rfl, h6⟩)) fun _ _ z => z)))) fun _ _ z => z))
theorem startB (h0 : codeAny (model prog w) A (.compLoop (Two el ta ia tb ib fa fb sc ps) 1 it acc env) R s)
    (h : wpAny (model prog w) A (pyIter it) (fun i2 t => codeAny (model prog w) A (.compLoop (Two el ta ia tb ib fa fb sc ps) 1 i2 acc env) R t) (Nb prog w A env R) s) :
    codeAny (model prog w) A (.compStart (Two el ta ia tb ib fa fb sc ps) 1 it acc env) R s := by
  refine codeAny_of_tree ?_
  show wpAny _ _ ((compStart (Two el ta ia tb ib fa fb sc ps) 1 it acc env).onRaise (fun x => do noteFrame x env; standAt theWindowsPlace)) _ _ s
  refine wpAny_notedAt ?_
  unfold compStart
  show wpAny _ _ (ask >>= _) _ _ s
  refine wpAny_bind (wpAny_askSetting (wpAny_ite ?_))
  split
  · first
      | exact wpAny_bind (wpAny_pure (wpAny_pure (And.intro rfl h0)))
      | exact wpAny_pure (And.intro rfl h0)
  · refine wpAny_bind (wpAny_rule ?_)
    first
      | exact wpAny_bind (wpAny_standAt (wpAny_bind (wpAny_mono h (fun i2 t h2 => wpAny_pure (And.intro rfl h2)) fun _ _ z => z)))
      | (show wpAny _ _ (standAt ib.pos >>= _) _ _ s; exact wpAny_bind (wpAny_standAt (wpAny_bind (wpAny_mono h (fun i2 t h2 => wpAny_pure (And.intro rfl h2)) fun _ _ z => z))))
end

section
variable {X : Cx}
/-- a number laid into a tracked set -/
theorem addI_ok {pins : List (Addr × Obj)} {σ : L2.St} {H : Hp} {s : Shared} {E : Value → Shared → Prop} {D : Addr} {S : Int → Bool} {n : Nat} {k : Int} {tk : Tok} {Q : Value → Shared → Prop} (I : Inv X pins σ H s) (hD : H D = some (SetO X.w D S n)) (room : n + 1 < scanBound)
    (h : ∀ t, Inv X pins σ (upd H D (SetO X.w D (fun j => S j || decide (j = k)) (if S k = true then n else n + 1))) t → Q .none t) : wpAny (model X.prog X.w) X.A (call (.builtin "set.add") [.ref D, .int k tk]) Q E s := by
  refine setR_add (setO_get I hD) room fun h2 sb new => ?_
  have ex : ∃ u, h2.get? D = some u := by
    have ⟨o, _, _, _, ho, _⟩ := new
    exact ⟨o, ho⟩
  exact h _ (I.write (e := D) (t' := s.toks + 1) (by rw [hD]; trivial) (.inl rfl) (fun b u hb hu => (sb.2 b hb).trans hu) ex (setO_new new))
/-- D: the new set; Nx: what holds behind a turn of the outer clause, Ny: of the inner one. vs: the block's names, vb: those of the second target -/
def tSc2 (w : World) (wi : TI) (g : TG) (tt : TT) (wj : TI) (gj : TG) (tj : TT) (te : TE) (vs vb : List Nat) : TE := fun σ H Q => wi σ H fun J H1 => ∀ D, H1 D = none → ∃ W : Nat → Nat → Hp → Prop, (∃ m, W 0 m (upd H1 D (SetO w D (fun _ => false) 0))) ∧ ∀ i m H, W i m H →
  (J.stop i H ∧ Q (.ref D) H) ∨ (J.go i H ∧ ∃ Nx : Hp → Prop, (∀ H2, Nx H2 → ∃ l, l < m ∧ W (i + 1) l H2) ∧ ∀ x H2, J.yld i H x H2 → g x (wipe σ vs) H2 fun σ2 H3 => wipe σ2 vs = wipe σ vs ∧ tt σ2 H3 fun b H4 =>
    if b = true then wj σ2 H4 fun K H5 => ∃ V : Nat → Nat → Hp → Prop, (∃ m, V 0 m H5) ∧ ∀ j k H, V j k H →
      (K.stop j H ∧ Nx H) ∨ (K.go j H ∧ ∃ Ny : Hp → Prop, (∀ H6, Ny H6 → ∃ l, l < k ∧ V (j + 1) l H6) ∧ ∀ x H6, K.yld j H x H6 → gj x (wipe σ2 vb) H6 fun σ3 H7 => wipe σ3 vb = wipe σ2 vb ∧ tj σ3 H7 fun b H8 =>
        if b = true then te σ3 H8 fun y H9 => ∃ (z : Int) (S : Int → Bool) (n : Nat), y = .int z ∧ H9 D = some (SetO w D S n) ∧ n + 1 < scanBound ∧ Ny (upd H9 D (SetO w D (fun j => S j || decide (j = z)) (if S z = true then n else n + 1))) else Ny H8)
    else Nx H4)
set_option maxHeartbeats 4000000 in
theorem pe_sc2 {el ta ia tb ib : Expr} {fa fb : List Expr} {sc : Scope} {own : List (PySem.Str × Nat)} {vb : List Nat} {ps : Pos} {wi wj : TI} {g gj : TG} {tt tj : TT} {te : TE} (hc : X.calm = true) (hN : X.N.Nodup) (hi : PI X ta ia wi) (ok : BlkOk X.N X.env.scope sc own) (hv : ∀ i ∈ vb, i ∈ own.map (·.2))
    (hg : ∀ (s : Shared) (H : Hp) (C : Addr) (cl : List (PySem.Str × Addr)) (fp : List Addr), PG (X.blk s H sc (compEnvC sc cl C X.env) fp) ta g) (ht : ∀ (s : Shared) (H : Hp) (C : Addr) (cl : List (PySem.Str × Addr)) (fp : List Addr), PTs (X.blk s H sc (compEnvC sc cl C X.env) fp) fa tt)
    (hj : ∀ (s : Shared) (H : Hp) (C : Addr) (cl : List (PySem.Str × Addr)) (fp : List Addr), PI (X.blk s H sc (compEnvC sc cl C X.env) fp) tb ib wj)
    (hgj : ∀ (s : Shared) (H : Hp) (C : Addr) (cl : List (PySem.Str × Addr)) (fp : List Addr), PG (X.blk s H sc (compEnvC sc cl C X.env) fp) tb gj) (htj : ∀ (s : Shared) (H : Hp) (C : Addr) (cl : List (PySem.Str × Addr)) (fp : List Addr), PTs (X.blk s H sc (compEnvC sc cl C X.env) fp) fb tj)
    (he : ∀ (s : Shared) (H : Hp) (C : Addr) (cl : List (PySem.Str × Addr)) (fp : List Addr), PE (X.blk s H sc (compEnvC sc cl C X.env) fp) el te) (hs : ∀ x, foldedSetIterable ia X.env x = pure x := by intro _; rfl) (hsj : ∀ env x, foldedSetIterable ib env x = pure x := by intro _ _; rfl) :
    PE X (.SetComp el [⟨ta, ia, fa, 0⟩, ⟨tb, ib, fb, 0⟩] sc ps) (tSc2 X.w wi g tt wj gj tj te (own.map (·.2)) vb) := by
  refine ⟨fun pins s σ H Q I h => ?_⟩
  rw [eval_SetComp]
  have caught : ∀ y ∈ sc.names, y.2 = .free → ∃ c, X.env.cells.lookup y.1 = some c := fun y hy e => (ok.free y hy e).elim (fun k => I.ok.has _ (.inl k)) fun k => I.ok.has _ (.inr k)
  refine wpAny_comprehension_free (use := none) rfl hs (closure_ok caught) ok.kind (fun y hy e => by rw [ok.uniq y hy, e]) (thn (hi.run pins s σ H _ I h) fun _ s1 hx => thn hx fun _ s2 h2 => ?_)
  obtain ⟨it, fp, tn, J, H2, rfl, I2, T, st2, f2, q⟩ := h2
  refine newSet_ok (newEnv_comp ?_)
  obtain ⟨D, hD⟩ : ∃ D, s2.heap.objs.size = D := ⟨_, rfl⟩
  obtain ⟨W, ⟨m0, w0⟩, turn⟩ := q D (I2.hok.fresh (Nat.le_of_eq hD))
  rw [hD]
  -- the new set's state, and the block's
  obtain ⟨s3, hs3⟩ : ∃ t : Shared, ({ s2 with heap := s2.heap.push { cls := .type "set", dict := none, data := .set #[] 0 (.fresh 0 0 (!X.w.params.followText "set-order")) } } : Shared) = t := ⟨_, rfl⟩
  rw [hs3]
  have h3 : ∀ b o, s2.heap.get? b = some o → s3.heap.get? b = some o := fun b o e => by rw [← hs3]; exact Heap.get?_push_of_some _ e
  have z3 : s2.heap.objs.size ≤ s3.heap.objs.size := by
    rw [← hs3]
    show s2.heap.objs.size ≤ (Heap.push s2.heap _).objs.size
    rw [Heap.size_push]
    exact Nat.le_succ _
  have I3 : Inv X pins σ (upd H2 D (SetO X.w D (fun _ => false) 0)) s3 := by
    rw [← hs3]
    refine I2.laid (t' := s2.toks) (fun b o e => Heap.get?_push_of_some _ e) (Nat.le_of_eq hD) ?_
    rw [← hD]
    exact setO_new (setR_fresh X.w)
  have f3 : ∀ b ∈ fp, FpOk X pins (upd H2 D (SetO X.w D (fun _ => false) 0)) b ∧ b < s3.heap.objs.size := fun b hb => by
    obtain ⟨o, e, _⟩ := T.obj _ _ st2 b hb
    have lt := Heap.lt_size e
    refine ⟨⟨?_, (f2 b hb).2⟩, Nat.lt_of_lt_of_le lt z3⟩
    rw [upd_ne (by rw [← hD]; exact Nat.ne_of_lt lt)]
    exact (f2 b hb).1
  have st3 : tn 0 s3.heap := T.keep _ _ _ st2 fun b _ o e => h3 b o e
  have I4 := block_start I3 ok hN f3
  have pg := hg s3 (upd H2 D (SetO X.w D (fun _ => false) 0)) s3.heap.objs.size (cellsFrom (s3.heap.objs.size + 1) sc.names (cloFrom X.env.cells sc.names [])) fp
  have pt := ht s3 (upd H2 D (SetO X.w D (fun _ => false) 0)) s3.heap.objs.size (cellsFrom (s3.heap.objs.size + 1) sc.names (cloFrom X.env.cells sc.names [])) fp
  have pe := he s3 (upd H2 D (SetO X.w D (fun _ => false) 0)) s3.heap.objs.size (cellsFrom (s3.heap.objs.size + 1) sc.names (cloFrom X.env.cells sc.names [])) fp
  have pj := hj s3 (upd H2 D (SetO X.w D (fun _ => false) 0)) s3.heap.objs.size (cellsFrom (s3.heap.objs.size + 1) sc.names (cloFrom X.env.cells sc.names [])) fp
  have pgj := hgj s3 (upd H2 D (SetO X.w D (fun _ => false) 0)) s3.heap.objs.size (cellsFrom (s3.heap.objs.size + 1) sc.names (cloFrom X.env.cells sc.names [])) fp
  have ptj := htj s3 (upd H2 D (SetO X.w D (fun _ => false) 0)) s3.heap.objs.size (cellsFrom (s3.heap.objs.size + 1) sc.names (cloFrom X.env.cells sc.names [])) fp
  show codeAny _ _ (.compStart (Two el ta ia tb ib fa fb sc ps) 0 (.ref it) (.ref D) (compEnvC sc (cellsFrom (s3.heap.objs.size + 1) sc.names (cloFrom X.env.cells sc.names [])) s3.heap.objs.size X.env)) (compPost (model X.prog X.w) X.A X.xe none _ (.ref D) s3.heap.objs.size) { s3 with heap := pushCells (s3.heap.push { cls := .type "dict", data := .dict #[] }) sc.names }
  have none3 : ∀ b ∈ fp, (upd H2 D (SetO X.w D (fun _ => false) 0)) b = none := fun b hb => (f3 b hb).1.1
  generalize hce : compEnvC sc (cellsFrom (s3.heap.objs.size + 1) sc.names (cloFrom X.env.cells sc.names [])) s3.heap.objs.size X.env = ce at I4 pg pt pe pj pgj ptj ⊢
  have cL : ce.locals = s3.heap.objs.size := by subst hce; rfl
  generalize hH3 : upd H2 D (SetO X.w D (fun _ => false) 0) = H3 at I3 I4 pg pt pe pj pgj ptj w0 none3 f3
  generalize hs4 : ({ s3 with heap := pushCells (s3.heap.push { cls := .type "dict", data := .dict #[] }) sc.names } : Shared) = s4 at I4 ⊢
  have st4 : tn 0 s4.heap := T.keep _ _ _ st3 fun b _ o e => by rw [← hs4]; exact pushCells_keeps _ _ _ _ (Heap.get?_push_of_some _ e)
  have foot : ∀ {τ : L2.St} {G : Hp} {t : Shared}, Inv (X.blk s3 H3 sc ce fp) [] τ G t → (∀ b ∈ fp, G b = none) → ∀ b ∈ fp, FpOk (X.blk s3 H3 sc ce fp) [] G b := fun {τ G t} I9 hn b hb =>
    ⟨hn b hb, (I9.ok.exf b hb).1, I9.ok.exfs b hb, .inl hb, fun x c e => (I9.ok.exf b hb).2 x c e, fun p hp => absurd (show p ∈ ([] : List (Addr × Obj)) ++ [] from hp) (by simp)⟩
  have loop : codeAny (model X.prog X.w) X.A (.compLoop (Two el ta ia tb ib fa fb sc ps) 0 (.ref it) (.ref D) ce) (compPost (model X.prog X.w) X.A X.xe none (EP X pins σ Q) (.ref D) s3.heap.objs.size) s4 := by
    refine loopA (hsj ce) (fun n t => ∃ i G, Inv (X.blk s3 H3 sc ce fp) [] (wipe σ (own.map (·.2))) G t ∧ tn i t.heap ∧ (∀ b ∈ fp, G b = none) ∧ W i n G) ?_ m0 ⟨0, H3, I4, st4, none3, w0⟩
    rintro n s5 ⟨i, H5, I5, st5, n5, w5⟩
    rcases turn i n H5 w5 with ⟨stop, qq⟩ | ⟨go, Nx, hNx, step⟩
    · refine thnF (T.done (X.blk s3 H3 sc ce fp) rfl rfl rfl hc i [] s5 _ H5 (fun _ _ => False) I5 (foot I5 n5) st5 stop) fun r s6 ⟨hr, I6⟩ => ?_
      subst hr
      have I7 : Inv X pins σ H5 s6 := I3.call' (ch := fp) I6.os I6.base I6.hok I6.bare fun b hb => ⟨(f3 b hb).1.2.2.2.1, (f3 b hb).1.2.1, (f3 b hb).1.2.2.2.2.1, (f3 b hb).1.2.2.2.2.2⟩
      obtain ⟨l, hn, _⟩ := I6.loc
      have hn : s6.heap.Ns ce.locals l := hn
      rw [cL] at hn
      obtain ⟨f0, f1, f2', f3', f4, f5⟩ := I3.fpOk (H' := H5) (b := s3.heap.objs.size) (Nat.le_refl _) (by rw [← cL]; exact I6.free)
      exact ⟨l, hn, fun h9 sb => ⟨.ref D, H5, I7.turned (t' := s6.toks) (fun b o hb e => (sb.2 b hb).trans e) f0 f1 f3' f4 f5, rfl, qq⟩⟩
    · refine thnF (T.item (X.blk s3 H3 sc ce fp) rfl rfl rfl hc i [] s5 _ H5 (fun _ _ => False) I5 (foot I5 n5) st5 go) fun r s6 ⟨u, hr, h6⟩ => ?_
      subst hr
      refine thnF h6 fun _ s7 ⟨x, H7, I7, r7, y7, st7, n7⟩ => ?_
      refine thnF (pg.run _ s7 _ H7 x u _ (I7.pinned (foot I7 n7) (T.obj _ _ st7)) r7 (step x H7 y7)) fun _ s8 ⟨σ8, H8, I8, hw8, q8⟩ => ?_
      refine thnF (pt.run _ s8 σ8 H8 _ I8 q8) fun b s9 ⟨H9, I9, q9⟩ => ?_
      -- how an outer turn ends
      have fin : ∀ {τ : L2.St} {t : Shared} {G : Hp}, Inv (X.blk s3 H3 sc ce fp) ([] ++ pinsAt fp s7.heap) τ G t → (wipe σ (own.map (·.2))).length = τ.length → (∀ (j : Nat) v, (wipe σ (own.map (·.2)))[j]? = some (some v) → τ[j]? = some (some v)) → Nx G →
          ∃ m, m < n ∧ ∃ i G, Inv (X.blk s3 H3 sc ce fp) [] (wipe σ (own.map (·.2))) G t ∧ tn i t.heap ∧ (∀ b ∈ fp, G b = none) ∧ W i m G := fun {τ t G} I10 hl hk nx => by
        obtain ⟨l, hl2, w10⟩ := hNx G nx
        have pinned : ∀ b ∈ fp, ∀ o, s7.heap.get? b = some o → t.heap.get? b = some o ∧ G b = none := fun b hb o e =>
          let z := I10.pin (b, o) (List.mem_append_right _ (List.mem_append_right _ (mem_pinsAt hb e)))
          ⟨z.1, z.2.1⟩
        refine ⟨l, hl2, i + 1, G, (I10.unpinned (pins := [])).weak hl hk, T.keep _ _ _ st7 fun b hb o e => (pinned b hb o e).1, fun b hb => ?_, w10⟩
        obtain ⟨o, e, _⟩ := T.obj _ _ st7 b hb
        exact (pinned b hb o e).2
      have hl8 : (wipe σ (own.map (·.2))).length = σ8.length := by rw [← hw8, wipe_length]
      cases b with
      | false =>
        simp only [Bool.false_eq_true, if_false] at q9 ⊢
        exact fin I9 hl8 (fun j v e => by rw [← hw8] at e; exact (wipe_some e).1) q9
      | true =>
        simp only [if_true] at q9 ⊢
        refine thnF (pj.run _ s9 σ8 H9 _ I9 q9) fun _ s10 hx => thnF hx fun _ s11 h11 => ?_
        obtain ⟨it1, fp1, tn1, K, H11, rfl, I11, T1, st11, f11, V, ⟨m1, w1⟩, turn1⟩ := h11
        have foot1 : ∀ {G : Hp}, (∀ b ∈ fp1, G b = none) → ∀ b ∈ fp1, FpOk (X.blk s3 H3 sc ce fp) ([] ++ pinsAt fp s7.heap) G b := fun hn b hb => ⟨hn b hb, (f11 b hb).2⟩
        have inner : codeAny (model X.prog X.w) X.A (.compLoop (Two el ta ia tb ib fa fb sc ps) 1 (.ref it1) (.ref D) ce)
            (fun r t => match r with
              | .ok _ => ∃ m, m < n ∧ ∃ i G, Inv (X.blk s3 H3 sc ce fp) [] (wipe σ (own.map (·.2))) G t ∧ tn i t.heap ∧ (∀ b ∈ fp, G b = none) ∧ W i m G
              | .error _ => False) s11 := by
          refine loopB (fun k t => ∃ j G, Inv (X.blk s3 H3 sc ce fp) ([] ++ pinsAt fp s7.heap) (wipe σ8 vb) G t ∧ tn1 j t.heap ∧ (∀ b ∈ fp1, G b = none) ∧ V j k G) ?_ m1 ⟨0, H11, I11.weak (wipe_length _ _) (fun j v e => (wipe_some e).1), st11, fun b hb => (f11 b hb).1, w1⟩
          rintro k s12 ⟨j, H12, I12, st12, n12, w12⟩
          rcases turn1 j k H12 w12 with ⟨stop1, nx1⟩ | ⟨go1, Ny, hNy, step1⟩
          · refine thnF (T1.done (X.blk s3 H3 sc ce fp) rfl rfl rfl hc j _ s12 (wipe σ8 vb) H12 (fun _ _ => False) I12 (foot1 n12) st12 stop1) fun r s13 ⟨hr, I13⟩ => ?_
            subst hr
            refine fin I13 (hl8.trans (wipe_length σ8 vb).symm) (fun j v e => ?_) nx1
            rw [← hw8] at e
            obtain ⟨e1, e2⟩ := wipe_some e
            rw [wipe_out fun z => e2 (hv j z)]
            exact e1
          · refine thnF (T1.item (X.blk s3 H3 sc ce fp) rfl rfl rfl hc j _ s12 (wipe σ8 vb) H12 (fun _ _ => False) I12 (foot1 n12) st12 go1) fun r s13 ⟨u1, hr, h13⟩ => ?_
            subst hr
            refine thnF h13 fun _ s14 ⟨x1, H14, I14, r14, y14, st14, n14⟩ => ?_
            refine thnF (pgj.run _ s14 (wipe σ8 vb) H14 x1 u1 _ (I14.pinned (foot1 n14) (T1.obj _ _ st14)) r14 (step1 x1 H14 y14)) fun _ s15 ⟨σ15, H15, I15, hw15, q15⟩ => ?_
            refine thnF (ptj.run _ s15 σ15 H15 _ I15 q15) fun b1 s16 ⟨H16, I16, q16⟩ => ?_
            -- how an inner turn ends
            have fin1 : ∀ {t : Shared} {G : Hp}, Inv (X.blk s3 H3 sc ce fp) (([] ++ pinsAt fp s7.heap) ++ pinsAt fp1 s14.heap) σ15 G t → Ny G → ∃ m, m < k ∧ ∃ j G, Inv (X.blk s3 H3 sc ce fp) ([] ++ pinsAt fp s7.heap) (wipe σ8 vb) G t ∧ tn1 j t.heap ∧ (∀ b ∈ fp1, G b = none) ∧ V j m G := fun {t G} I17 ny => by
              obtain ⟨l, hl, w17⟩ := hNy G ny
              have pinned : ∀ b ∈ fp1, ∀ o, s14.heap.get? b = some o → t.heap.get? b = some o ∧ G b = none := fun b hb o e =>
                let z := I17.pin (b, o) (List.mem_append_right _ (List.mem_append_right _ (mem_pinsAt hb e)))
                ⟨z.1, z.2.1⟩
              refine ⟨l, hl, j + 1, G, I17.unpinned.weak (by rw [← hw15, wipe_length]) (fun j v e => by rw [← hw15] at e; exact (wipe_some e).1), T1.keep _ _ _ st14 fun b hb o e => (pinned b hb o e).1, fun b hb => ?_, w17⟩
              obtain ⟨o, e, _⟩ := T1.obj _ _ st14 b hb
              exact (pinned b hb o e).2
            cases b1 with
            | false =>
              simp only [Bool.false_eq_true, if_false] at q16 ⊢
              exact fin1 I16 q16
            | true =>
              simp only [if_true] at q16 ⊢
              refine thnF (pe.run _ s16 σ15 H16 _ I16 q16) fun yu s17 ⟨yv, H17, I17, r17, z, S, n2, ey, hD17, hz17, ny⟩ => ?_
              subst ey
              obtain ⟨tz, rfl⟩ := r17
              exact addI_ok (X := X.blk s3 H3 sc ce fp) I17 hD17 hz17 fun s18 I18 => fin1 I18 ny
        exact startB inner (T1.self X.A 0 _ _ _ st11 inner)
  exact codeAny_compStart_set loop (T.self X.A 0 _ _ _ st4 loop)
end
end ScT
/-! ### sorted(xs, key=lambda x: x.f) -/
namespace SrtK
open PySem PySem.Spec PyProof.Rows L2
/-- a lambda of one parameter, no captured names -/
structure LamP (scope : Scope) (a : Str) : Prop where
  kind : scope.kind = .function
  co : scope.isCoroutine = false
  gen : scope.isGenerator = false
  own : ∀ y ∈ scope.names, y.2 ≠ .cell ∧ y.2 ≠ .free
  par : scope.names.lookup a = some .local
def lamPB (scope : Scope) (a : Str) : Bool := decide (scope.kind = .function) && !scope.isCoroutine && !scope.isGenerator && (scope.names.all fun y => !decide (y.2 = .cell) && !decide (y.2 = .free)) && decide (scope.names.lookup a = some .local)
theorem lamP_by {scope : Scope} {a : Str} (h : lamPB scope a = true) : LamP scope a := by
  unfold lamPB at h
  simp only [Bool.and_eq_true, Bool.not_eq_true', decide_eq_true_eq, decide_eq_false_iff_not, List.all_eq_true] at h
  obtain ⟨⟨⟨⟨h1, h2⟩, h3⟩, h4⟩, h5⟩ := h
  exact ⟨h1, h2, h3, h4, h5⟩
theorem key_call {prog : Program} {w : World} {K : PySem.W.Frag} {A : Around} {q a fld : Str} {params : Arguments} {scope : Scope} {p1 p2 : Pos} {cl : List (Str × Addr)} {pm ctv : Value} {c' f x dx C : Addr} {mA : Str → Option Value} {n : Int} {t : Tok} {st : Shared}
    (hroom : A.depth < recursionLimit) (hf : st.heap.get? f = some (PySem.W.kla_obj "<lambda>" q params (.Attribute (.Name a p1) fld p2) scope cl pm c' ctv)) (L : LamP scope a)
    (hco : ∃ (oc : Obj) (vs : Array Value) (t : Tok), st.heap.get? c' = some oc ∧ oc.data = .fields vs ∧ vs[1]? = some (.str q t))
    (lim : st.heap.NoLimit) (KX : K.In st.heap) (ob : ObjM st.heap x dx C mA) (hc : Cls K C) (hn : NoAttr K C fld) (hv : mA fld = some (.int n t))
    (hbind : ∀ v, bindArgs (PySem.W.kla_fn "<lambda>" q params (.Attribute (.Name a p1) fld p2) scope cl pm (.ref c') ctv) ⟨[v], []⟩ = pure [(a, v)]) (hd : (a == ("__debug__" : Str)) = false) :
    wpAny (model prog w) A (call (.ref f) [.ref x]) (PySem.W.KeyPure (.int n) st) (fun _ _ => False) st := by
  obtain ⟨oc, vs, tq, hoc, hdc, hvc⟩ := hco
  have rc : codeAny (model prog w) A (.call (.ref f) ⟨[.ref x], []⟩) (fun r s' => ∃ u, r = .ok (.ret u) ∧ PySem.W.KeyPure (.int n) st u s') st := by
    refine PySem.W.kla_callFunE hroom hf rfl L.co L.gen rfl ⟨c', oc, vs, tq, rfl, hoc, hdc, hvc⟩ ?_
    rw [hbind]
    refine wpAny_pure (wpAny_newFunctionEnv (fun y hy => (L.own y hy).1) (fun y hy => ?_) (fun h₁ hns hsb => ?_) L.kind)
    · rw [List.mem_singleton.mp hy]
      exact L.par
    have kp : ∀ b o, st.heap.get? b = some o → h₁.get? b = some o := fun b o e => hsb.extBut b o (Nat.ne_of_lt (Heap.lt_size e)) (Heap.get?_push_of_some _ e)
    refine ⟨lim.keeps kp, ?_⟩
    refine PySem.W.kla_codeExpr ?_
    refine attr_of (by rfl) (wpAny_Name (wpAny_loadName_local (m := fun y => ([(a, Value.ref x)] : List (Str × Value)).reverse.lookup y) (v := .ref x) L.kind L.par hns (by simp [List.lookup]) ?_) hd)
    refine get_map (KX.keeps kp) ⟨kp _ _ ob.obj, ob.ns.keeps kp, ob.ne⟩ (hc.get fld) hc.hd hn hv rfl ?_
    exact ⟨_, rfl, _, _, rfl, kp, Reads.int n t⟩
  refine wpAny_call (codeAny_mono rc fun r s' hq => ?_)
  obtain ⟨u, rfl, hq⟩ := hq
  exact hq
end SrtK
namespace SrtK
open PySem PySem.Spec PyProof.Rows L2
theorem each_of {vs : List V} {us : List Value} (h : Vals vs us) : PySem.W.EachIs (fun u v => RelV v u) us vs := by
  induction h with
  | nil => exact .nil
  | cons r _ ih => exact .cons r ih
theorem of_each {vs : List V} {us : List Value} (h : PySem.W.EachIs (fun u v => RelV v u) us vs) : Vals vs us := by
  induction h with
  | nil => exact .nil
  | cons r _ ih => exact .cons r ih
def byKey (k : V → Int) (xs : List V) : List V := xs.mergeSort fun x y => decide (k x ≤ k y)
def tSortK (K : PySem.W.Frag) (T : List (Addr × Str)) (fld : Str) (t : TE) : TE := fun σ H Q => t σ H fun x H1 => ∃ (a : Addr) (xs : List V) (k : V → Int), x = .ref a ∧ SqL K H1 a xs ∧
  (∀ y ∈ xs, ∃ (o C dx : Addr) (fs : List (Str × V)), y = .ref o ∧ H1 o = some (.ins C dx fs) ∧ Cls K C ∧ NoAttr K C fld ∧ fs.lookup fld = some (.int (k y))) ∧ LamX.Tabs T H1 ∧
  ∀ H2, LamX.ExtN H1 H2 → LamX.Tabs T H2 → ∀ p, H2 p = none → Q (.ref p) (upd H2 p (.lst (byKey k xs)))
theorem pe_sortK {X : Cx} {T : List (Addr × Str)} {a fld : Str} {c P : Addr} {k : Nat} {e : Expr} {t : TE} {params : Arguments} {scope : Scope} {p p1 p2 lpos kpos pos : Pos} (hg : Gl X "sorted") (hm : X.mg "sorted" = none)
    (he : PE X e t) (TB : LamX.TabB X.base X.mg c P) (hcode : X.env.code = .ref c) (hmT : (P, X.env.qual ++ "<lambda>") ∈ T) (hu : ∀ p ∈ T, p.1 = P → p.2 = X.env.qual ++ "<lambda>") (hr : Room k X.A) (L : LamP scope a)
    (hdef : defaultsOf params X.env = ([], []) := by rfl)
    (hbind : ∀ (q : Str) (cl : List (Str × Addr)) (pm cv ctv v : Value), bindArgs (PySem.W.kla_fn "<lambda>" q params (.Attribute (.Name a p1) fld p2) scope cl pm cv ctv) ⟨[v], []⟩ = pure [(a, v)] := by intros; rfl)
    (hd : (a == ("__debug__" : Str)) = false := by decide)
    (hse : starEach [e] X.env = [(false, eval e X.env)] := by rfl) (hpl : (backTo pos (starEach [e] X.env)).any (·.1) = false := by rfl)  :
    PE X (.Call (.Name "sorted" p) [e] [⟨some "key", .Lambda params (.Attribute (.Name a p1) fld p2) scope lpos, kpos⟩] pos) (tSortK X.K T fld t) := by
  refine ⟨fun pins s σ H Q I h => ?_⟩
  refine wpAny_Call_Name_kw (ld_blt I hg hm (by rfl) ?_ (by decide) (by decide))
  refine PyProof.Rows.callWith_kw (thn ((pa_cons he pa_nil hse).run pos pins s σ H (fun vs H1 => match vs with
      | [x] => ∃ (a : Addr) (xs : List V) (k : V → Int), x = .ref a ∧ SqL X.K H1 a xs ∧
      (∀ y ∈ xs, ∃ (o C dx : Addr) (fs : List (Str × V)), y = .ref o ∧ H1 o = some (.ins C dx fs) ∧ Cls X.K C ∧ NoAttr X.K C fld ∧ fs.lookup fld = some (.int (k y))) ∧ LamX.Tabs T H1 ∧
      ∀ H2, LamX.ExtN H1 H2 → LamX.Tabs T H2 → ∀ p, H2 p = none → Q (.ref p) (upd H2 p (.lst (byKey k xs)))
      | _ => False) I ?_) fun us s1 ⟨vs, H1, I1, r1, q1⟩ => ?_) (by rw [hse]; rfl) hpl (by rfl) (by rfl)
  · exact h
  match vs, r1, q1 with
  | [x], r1, q1 => ?_
  obtain ⟨l, xs, ky, rfl, hs, hx, hT, q⟩ := q1
  obtain rfl := Vals.ref1 r1
  show wpAny _ _ (evalAll [do let v ← eval (.Lambda params (.Attribute (.Name a p1) fld p2) scope lpos) X.env; standAt pos; pure v]) _ _ s1
  refine wpAny_evalAll_cons (wpAny_bind (LamX.lam_make2 I1 TB hcode hmT hu hT hdef (fun y hy z => absurd z (L.own y hy).2) fun f c' pm ctv H2 s2 I2 eN T2 hf hfn hfr hco => wpAny_bind (wpAny_standAt (wpAny_pure (wpAny_evalAll_nil ?_)))))
  show wpAny (model X.prog X.w) X.A (call (.builtin "sorted") [.ref l] [(Str.ofString "key", .ref f)]) _ _ s2
  have hs2 : SqL X.K H2 l xs := by
    rcases hs with (h | ⟨o, h⟩) | h
    · exact .inl (.inl (eN _ _ h (by intro ps z; cases z)))
    · exact .inl (.inr ⟨o, eN _ _ h (by intro ps z; cases z)⟩)
    · exact .inr h
  obtain ⟨its, rv, hl, hz⟩ := I2.list hs2
  obtain ⟨⟨oc, vs', tq, hoc, hdc, hvc⟩, _, _⟩ := I2.hok c' _ hco
  refine PySem.W.sorted_key_data (b := false) (R := fun u v => RelV v u) (fun v : V => PyData.int (ky v)) hl.isList (each_of rv) (PySem.W.AllAlike.of fun _ _ => by simp [PySem.W.alike]) (.inr fun d hd => ?_) hz (fun y _ => ?_) (PyProof.Rows.ksk_s1 _ _) (fun _ => PyProof.Rows.ksk_l1 _ _) (fun _ => PyProof.Rows.ksk_t1 _ _) (fun u y r hy h tk kp => ?_) fun out c2 h' tk kp hnone hD hlen eo => ?_
  · obtain ⟨y, _, rfl⟩ := List.mem_map.mp hd
    exact ⟨by simp, by simp⟩
  · have := hr.un
    show X.A.units + 2 + 0 < _
    omega
  · obtain ⟨o, C, dx, fs, rfl, ho, hc, hn, hlk⟩ := hx y hy
    obtain rfl : u = .ref o := r
    obtain ⟨mA, ob, rr, _⟩ := ins_get I2.hok (eN _ _ ho (by intro ps z; cases z))
    obtain ⟨v0, hv0, rv0⟩ := RelO.some_of (v := .int (ky (.ref o))) (o := mA fld) (by rw [← hlk]; exact rr fld)
    obtain ⟨t0, rfl⟩ := rv0
    exact key_call (by have := hr.dp; show X.A.depth < _; omega) (kp _ _ hf) L ⟨oc, vs', tq, kp _ _ hoc, hdc, hvc⟩ (I2.nolimit.keeps kp) (I2.kIn.keeps kp) ⟨kp _ _ ob.obj, ob.ns.keeps kp, ob.ne⟩ hc hn hv0 (hbind _ _ _ _ _) hd
  · rw [PySem.W.dataLe_int] at eo
    have vv := of_each eo
    exact ⟨.ref _, upd H2 (s2.heap.objs.size + 1) (.lst (byKey ky xs)), I2.laid (t' := tk) kp (Nat.le_succ _) ⟨by rw [show (byKey ky xs).length = xs.length from List.length_mergeSort _]; exact hz, out, c2, vv, hD⟩, rfl, q _ eN T2 _ (I2.hok.fresh (Nat.le_succ _))⟩
end SrtK
/-! ### sorted(xs), tuples of an unlike whole number and a list of texts -/
namespace SrtK
open PySem PySem.Spec PyProof.Rows L2
theorem alike_strs : ∀ xs ys : List Str, PySem.W.alikeAll (xs.map .str) (ys.map .str) = true
  | [], _ => by simp [PySem.W.alikeAll]
  | _ :: _, [] => by simp [PySem.W.alikeAll]
  | x :: xs, y :: ys => by
    rw [List.map_cons, List.map_cons, PySem.W.alikeAll, alike_strs xs ys]
    simp [PySem.W.alike]
theorem depth_strs : ∀ xs : List Str, PyData.depthAll (xs.map .str) = 0
  | [] => by simp [PyData.depthAll]
  | x :: xs => by
    rw [List.map_cons, PyData.depthAll, depth_strs xs]
    simp [PyData.depth]
def encNW (n : V → Int) (ws : V → List Str) : V → PyData := fun y => .tuple [.int (n y), .list ((ws y).map .str)]
def rSortNW (K : PySem.W.Frag) : List V → Hp → VK → Prop := fun vs H Q => ∃ (a : Addr) (xs : List V) (n : V → Int) (ws : V → List Str), vs = [.ref a] ∧ SqL K H a xs ∧ (∀ y ∈ xs, Dp K H y (encNW n ws y)) ∧ (∀ x ∈ xs, ∀ y ∈ xs, n x = n y → x = y) ∧
  ∀ p, H p = none → Q (.ref p) (upd H p (.lst (byKey n xs)))
theorem dataLt_first {x y : Int} {a b : PyData} (h : x ≠ y) : PySem.W.dataLt (.tuple [.int x, a]) (.tuple [.int y, b]) = decide (x < y) := by
  rw [PySem.W.dataLt_tuple, PySem.W.dataLt_cons (by simp [PySem.W.alike])]
  have e : PyData.eqv (.int x) (.int y) = false := by simp [PyData.eqv, h]
  rw [e, if_neg Bool.false_ne_true, PySem.W.dataLt_int]
theorem dataLt_irrefl (d : PyData) : PySem.W.dataLt d d = false := PyProof.Rows.lex_irrefl _
theorem sort_same {n : V → Int} {ws : V → List Str} {xs : List V} (hu : ∀ x ∈ xs, ∀ y ∈ xs, n x = n y → x = y) : xs.mergeSort (PySem.W.dataLe false (encNW n ws)) = byKey n xs := by
  have := List.map_mergeSort (f := id) (r := PySem.W.dataLe false (encNW n ws)) (s := fun x y => decide (n x ≤ n y)) (l := xs) fun x hx y hy => by
    rw [PySem.W.dataLe_eq]
    show (!PySem.W.dataLt (encNW n ws y) (encNW n ws x)) = decide (n x ≤ n y)
    by_cases e : n x = n y
    · obtain rfl := hu x hx y hy e
      rw [dataLt_irrefl]
      simp
    · rw [encNW, encNW, dataLt_first (fun h => e h.symm), PySem.W.not_lt_int]
  simpa [byKey] using this
theorem cr_sortNW {X : Cx} (hr : X.A.units + 64 < cLine) : CallR X (.builtin "sorted") (rSortNW X.K) := by
  intro pins s σ H vs us Q I r h
  obtain ⟨a, xs, n, ws, rfl, hs, hd, hu, q⟩ := h
  obtain ⟨its, rv, hl, hz⟩ := I.list hs
  rw [Vals.ref1 r]
  have er : PySem.W.EachIs (fun v b => ∃ as, Reads s.heap v (encNW n ws b) as) its xs := by
    have go : ∀ {ys : List V} {us : List Value}, Vals ys us → (∀ y ∈ ys, Dp X.K H y (encNW n ws y)) → PySem.W.EachIs (fun v b => ∃ as, Reads s.heap v (encNW n ws b) as) us ys := by
      intro ys us h
      induction h with
      | nil => exact fun _ => .nil
      | cons r1 _ ih => exact fun g => .cons (Dp.reads I _ _ _ (g _ (List.mem_cons_self ..)) r1) (ih fun y hy => g y (List.mem_cons_of_mem _ hy))
    exact go rv hd
  refine PySem.W.sorted_data (R := fun u v => RelV v u) hl.isList (each_of rv) er (PySem.W.AllAlike.of fun b b' => by simp [encNW, PySem.W.alike, PySem.W.alikeAll, alike_strs]) (PySem.W.Sortable.tuples fun b => ⟨_, _, rfl⟩) hz (fun b _ => ?_) fun out hlen eo => ?_
  · have : (encNW n ws b).depth ≤ 2 := by simp [encNW, PyData.depth, PyData.depthAll, depth_strs]
    omega
  · rw [sort_same hu] at eo
    obtain ⟨ep, he'⟩ := PyProof.Rows.sortedAll_at s.heap its out.toArray
    exact ⟨.ref _, upd H (s.heap.objs.size + 1) (.lst (byKey n xs)), I.laid (t' := s.toks) (fun _ _ => PyProof.Rows.sortedAll_old) (Nat.le_succ _) ⟨by rw [show (byKey n xs).length = xs.length from List.length_mergeSort _]; exact hz, out, ep, of_each eo, he'⟩, rfl, q _ (I.hok.fresh (Nat.le_succ _))⟩
end SrtK
/-! ### t.index(n), a tuple of whole numbers -/
namespace TupIx
open PySem PySem.Spec PyProof.Rows L2
theorem flat_is : ∀ ys : List Int, (ys.map V.int).all flatV = true
  | [] => rfl
  | _ :: r => flat_is r
theorem mt_indexI {X : Cx} : MtR X "tuple.index" (fun x xs H Q => ∃ p, ∃ ys : List Int, ∃ z j, x = .ref p ∧ xs = [.int z] ∧ SqT X.K H p (ys.map V.int) ∧ ys[j]? = some z ∧ (∀ m, m < j → ys[m]? ≠ some z) ∧ Q (.int (j : Nat)) H) := by
  intro pins s σ H x xs v us Q I rx rs h
  obtain ⟨p, ys, z, j, rfl, rfl, hq, hy, hno, q⟩ := h
  cases rx
  obtain ⟨u, rfl, t, rfl⟩ := vals1 rs
  obtain ⟨its, r, pl, hz⟩ := I.tuple hq
  obtain ⟨⟨cls, dd, dt, sl⟩, ho, hc, n, hd⟩ := pl
  simp only at hc hd
  subst hc
  subst hd
  have hl : its.toArray.size = ys.length := by rw [List.size_toArray, ← r.length, List.length_map]
  have hj : j < its.toArray.size := by rw [hl]; exact (List.getElem?_eq_some_iff.mp hy).1
  have at' : ∀ (m : Nat) (hm : m < its.toArray.size), ∃ y t', ys[m]? = some y ∧ its.toArray[m] = Value.int y t' := fun m hm => by
    have hm' : m < ys.length := by rw [← hl]; exact hm
    obtain ⟨w, hw, t', hw'⟩ := r.get (i := m) (x := .int ys[m]) (by simp [hm'])
    refine ⟨ys[m], t', List.getElem?_eq_getElem hm', ?_⟩
    have e := (List.getElem?_eq_some_iff.mp hw).2
    rw [← hw', ← e]
    simp
  refine call_meets PySem.F.slot_tuple_index ⟨_, ho, rfl⟩ PySem.F.entry_tuple_index (PySem.F.args_tuple_index_2 _ _) (TI.tuple_indexAt p its.toArray n dd sl (.int z t) (eqU (.int z)) j hj ?_ ?_)
    ⟨ho, fun w hw => mem_eqAt (x := .int z) ⟨t, rfl⟩ rfl r (flat_is ys) w (by simpa using hw), ⟨.int (j : Nat), H, I.tok _, ⟨_, rfl⟩, q⟩⟩
  · obtain ⟨y, t', h1, h2⟩ := at' j hj
    rw [hy] at h1
    cases h1
    rw [h2]
    simp [eqU, eqV]
  · intro m hm hmj
    obtain ⟨y, t', h1, h2⟩ := at' m hm
    rw [h2]
    have ne : y ≠ z := fun e => hno m hmj (e ▸ h1)
    simp [eqU, eqV, ne, Ne.symm ne]
end TupIx
/-! ### a method with keyword-only parameters that makes a lambda -/
namespace L2
open PySem PySem.Spec PyProof.Rows
structure FunDC (K : PySem.W.Frag) (x qual : Str) (params : Arguments) (body : List Stmt) (scope : Scope) (f : Addr) (fd : FuncData) (c : Addr) : Prop where
  ex : ∃ (oc : Value) (od : Option Addr) (dV kV doc pm : Value) (an : Option Addr) (ct : Value) (osl : Array (Option Value)),
    fd = PySem.W.fnOf x qual params body scope dV kV doc pm an (.ref c) ct ∧ K.lookup f = some ⟨oc, od, .func fd, osl⟩ ∧ PySem.W.codeIn K (.ref c) qual = true
  kp : PySem.W.keepIn K (.ref f) = true
theorem FunDC.ok {P : Program} {w : World} {K : PySem.W.Frag} {mg : Str → Option Value} {base : Heap} {x qual : Str} {params : Arguments} {body : List Stmt} {scope : Scope} {f : Addr} {fd : FuncData} {c : Addr} {CX : CXT} {N ps : List Str} {k : Nat} {sp : Sp} (F : FunDC K x qual params body scope f fd c) (S : FnScope N ps scope) (len : ∀ vs H Q E, sp vs H Q E → vs.length = ps.length)
    (hbody : ∀ (A : Around) (outer : List Env) (s : Shared) (H : Hp) (vs : List V) (Q : VK) (E : XK), Room k (A.deeper (envOfC qual scope s.heap.objs.size f (.ref c))) → sp vs H Q E →
      ∃ t, PSs (cxOf CX P w K mg base N qual scope f (.ref c) A outer s H E) body t ∧ t { nx := fun _ H' => Q .non H', rt := Q } (start N vs) H) : FnOk P w K mg base CX (k + 1) f fd ps sp := by
  obtain ⟨oc, od, dV, kV, doc, pm, an, ct, osl, rfl, lk, hcd⟩ := F.ex
  exact fn_of lk hcd S len fun A outer s H vs Q E hr hsp => hbody A outer s H vs Q E hr hsp
end L2
/-! ### sorted(xs), tuples of two whole numbers and a text, unlike by the numbers -/
namespace SrtK
open PySem PySem.Spec PyProof.Rows L2
abbrev T3 := Nat × Nat × Str
def key3 (t : T3) : Int := (t.1 : Int) * 1000 + (t.2.1 : Int)
def dat3 (t : T3) : PyData := .tuple [.int (t.1 : Nat), .int (t.2.1 : Nat), .str t.2.2]
def rSortT3 (K : PySem.W.Frag) : List V → Hp → VK → Prop := fun vs H Q => ∃ (a : Addr) (xs : List V) (f : V → T3), vs = [.ref a] ∧ SqL K H a xs ∧ (∀ y ∈ xs, Dp K H y (dat3 (f y))) ∧ (∀ y ∈ xs, (f y).2.1 < 1000) ∧ (∀ x ∈ xs, ∀ y ∈ xs, key3 (f x) = key3 (f y) → x = y) ∧
  ∀ p, H p = none → Q (.ref p) (upd H p (.lst (byKey (fun v => key3 (f v)) xs)))
theorem dataLt_t3 {s t : T3} (hs : s.2.1 < 1000) (ht : t.2.1 < 1000) (h : key3 s ≠ key3 t) : PySem.W.dataLt (dat3 s) (dat3 t) = decide (key3 s < key3 t) := by
  unfold key3 at h ⊢
  unfold dat3
  rw [PySem.W.dataLt_tuple, PySem.W.dataLt_cons (by simp [PySem.W.alike])]
  by_cases e : s.1 = t.1
  · have e1 : PyData.eqv (.int (s.1 : Nat)) (.int (t.1 : Nat)) = true := by simp [PyData.eqv, e]
    have ne : s.2.1 ≠ t.2.1 := fun z => h (by rw [e, z])
    have e2 : PyData.eqv (.int (s.2.1 : Nat)) (.int (t.2.1 : Nat)) = false := by
      simp only [PyData.eqv, beq_eq_false_iff_ne, ne_eq]
      omega
    rw [e1, if_pos rfl, PySem.W.dataLt_cons (by simp [PySem.W.alike]), e2, if_neg Bool.false_ne_true, PySem.W.dataLt_int]
    rw [decide_eq_decide]
    omega
  · have e1 : PyData.eqv (.int (s.1 : Nat)) (.int (t.1 : Nat)) = false := by
      simp only [PyData.eqv, beq_eq_false_iff_ne, ne_eq]
      omega
    rw [e1, if_neg Bool.false_ne_true, PySem.W.dataLt_int, decide_eq_decide]
    omega
theorem cr_sortT3 {X : Cx} (hr : X.A.units + 64 < cLine) : CallR X (.builtin "sorted") (rSortT3 X.K) := by
  intro pins s σ H vs us Q I r h
  obtain ⟨a, xs, f, rfl, hs, hd, hb, hu, q⟩ := h
  obtain ⟨its, rv, hl, hz⟩ := I.list hs
  rw [Vals.ref1 r]
  have er : PySem.W.EachIs (fun v b => ∃ as, Reads s.heap v (dat3 (f b)) as) its xs := by
    have go : ∀ {ys : List V} {us : List Value}, Vals ys us → (∀ y ∈ ys, Dp X.K H y (dat3 (f y))) → PySem.W.EachIs (fun v b => ∃ as, Reads s.heap v (dat3 (f b)) as) us ys := by
      intro ys us h
      induction h with
      | nil => exact fun _ => .nil
      | cons r1 _ ih => exact fun g => .cons (Dp.reads I _ _ _ (g _ (List.mem_cons_self ..)) r1) (ih fun y hy => g y (List.mem_cons_of_mem _ hy))
    exact go rv hd
  have same : xs.mergeSort (PySem.W.dataLe false fun b => dat3 (f b)) = byKey (fun v => key3 (f v)) xs := by
    have := List.map_mergeSort (f := id) (r := PySem.W.dataLe false fun b => dat3 (f b)) (s := fun x y => decide (key3 (f x) ≤ key3 (f y))) (l := xs) fun x hx y hy => by
      rw [PySem.W.dataLe_eq]
      show (!PySem.W.dataLt (dat3 (f y)) (dat3 (f x))) = decide (key3 (f x) ≤ key3 (f y))
      by_cases e : key3 (f x) = key3 (f y)
      · obtain rfl := hu x hx y hy e
        rw [dataLt_irrefl]
        simp
      · rw [dataLt_t3 (hb y hy) (hb x hx) (fun h => e h.symm), PySem.W.not_lt_int]
    simpa [byKey] using this
  refine PySem.W.sorted_data (R := fun u v => RelV v u) hl.isList (each_of rv) er (PySem.W.AllAlike.of fun b b' => by simp [dat3, PySem.W.alike, PySem.W.alikeAll]) (PySem.W.Sortable.tuples fun b => ⟨_, _, rfl⟩) hz (fun b _ => ?_) fun out hlen eo => ?_
  · have : (dat3 (f b)).depth ≤ 2 := by simp [dat3, PyData.depth, PyData.depthAll]
    omega
  · rw [same] at eo
    obtain ⟨ep, he'⟩ := PyProof.Rows.sortedAll_at s.heap its out.toArray
    exact ⟨.ref _, upd H (s.heap.objs.size + 1) (.lst (byKey (fun v => key3 (f v)) xs)), I.laid (t' := s.toks) (fun _ _ => PyProof.Rows.sortedAll_old) (Nat.le_succ _) ⟨by rw [show (byKey (fun v => key3 (f v)) xs).length = xs.length from List.length_mergeSort _]; exact hz, out, ep, of_each eo, he'⟩, rfl, q _ (I.hok.fresh (Nat.le_succ _))⟩
end SrtK
/-! ### xs.count(z), a list of texts -/
namespace CntS
open PySem PySem.Spec PyProof.Rows L2
theorem flat_s : ∀ ys : List Str, (ys.map V.str).all flatV = true
  | [] => rfl
  | _ :: r => flat_s r
theorem count_s (z : Str) : ∀ {ws : List Str} {us : List Value}, Vals (ws.map V.str) us → us.countP (eqU (.str z)) = ws.count z
  | [], _, .nil => rfl
  | w :: r, _, .cons h tl => by
    obtain ⟨tw, rfl⟩ := (show ∃ t, _ = Value.str w t from h)
    rw [List.countP_cons, count_s z tl, List.count_cons]
    congr 1
def rCntS (K : PySem.W.Frag) : V → List V → Hp → VK → Prop := fun x xs H Q => ∃ (p : Addr) (ws : List Str) (z : Str), x = .ref p ∧ xs = [.str z] ∧ SqL K H p (ws.map V.str) ∧ Q (.int (ws.count z : Nat)) H
theorem mt_countS {X : Cx} : MtR X "list.count" (rCntS X.K) := by
  intro pins s σ H x xs v us Q I rx rs h
  obtain ⟨p, ws, z, rfl, rfl, hs, q⟩ := h
  cases rx
  obtain ⟨u, rfl, t, rfl⟩ := vals1 rs
  obtain ⟨its, rv, ⟨⟨cls, dd, data, sl⟩, n, ho, hc, hdn, hd⟩, hlen⟩ := I.list hs
  simp only at hc hd
  subst hc hd
  refine call_meets PySem.F.slot_list_count ⟨_, ho, rfl⟩ PySem.F.entry_list_count (PySem.F.args_list_count_2 _ _)
    (SeqAt.list_countAt p its.toArray n dd sl (.str z t) (eqU (.str z))) ⟨ho, fun y hy => mem_eqAt (x := .str z) ⟨t, rfl⟩ rfl rv (flat_s ws) y (by simpa using hy), ?_⟩
  have ec : its.toArray.toList.countP (eqU (.str z)) = ws.count z := count_s z rv
  refine ⟨.int (ws.count z : Nat), H, I.tok _, ⟨s.toks, ?_⟩, q⟩
  show Value.int ((its.toArray.toList.countP (eqU (.str z)) : Nat) : Int) s.toks = Value.int ((ws.count z : Nat) : Int) s.toks
  rw [ec]
theorem cntS {X : Cx} {K : PySem.W.Frag} (h : X.K = K) : MtR X "list.count" (rCntS K) := by
  subst h
  exact mt_countS
end CntS
/-! ### a method of a built-in thing, within a comprehension -/
namespace BmK
open PySem PySem.Spec PyProof.Rows L2
theorem pe_bmK {X : Cx} {K : PySem.W.Frag} {o e : Expr} {es : List Expr} {to : TE} {t : TA} {name : Str} {T id : String} {r : V → List V → Hp → VK → Prop} {apos cpos : Pos} (hK : X.K = K) (pa : PlainAttrs T) (slot : Slot T name id) (hty : typeOf (.builtin id) = pure (.type "method_descriptor")) (hm : MtR X id r) (ho : PE X o to) (ha : PA X (e :: es) t)
    (hbase : attributeBase o name X.env (eval o X.env) = eval o X.env := by rfl)
    (hfew : ((backTo cpos (starEach (e :: es) X.env)).all (fun x => !x.1) && (backToKw cpos (keywordEach [] X.env)).all (fun x => x.1.isSome)
      && decide ((e :: es).length + ([] : List Keyword).length + (if ([] : List Keyword).isEmpty then 0 else 1) < 30)) = true := by rfl)
    (hline : (apos.endLine == cpos.line) = true := by rfl) (hs : starEach (e :: es) X.env = (false, eval e X.env) :: starEach es X.env := by rfl) (hplain : (backTo cpos (starEach es X.env)).any (·.1) = false := by rfl) :
    PE X (.Call (.Attribute o name apos) (e :: es) [] cpos) (tBM K T r to t) := by
  subst hK
  exact pe_bm pa slot hty hm ho ha hbase hfew hline hs hplain
end BmK
/-! the head by one kernel run: what the top has left is read off the tree, at places that are said as numbers -/
namespace HX
open PySem PySem.Spec PyProof.Rows L2
abbrev FnZ : Type := Option (Str × Str × Arguments × FuncBody × Scope × Addr × List (Str × Addr) × Addr)
def rv : Option Addr → Value
  | none => .none
  | some a => .ref a
def vB : Option Addr → Value → Bool
  | none, .none => true
  | some a, .ref b => Nat.beq a b
  | _, _ => false
theorem vB_ok {o : Option Addr} {v : Value} (h : vB o v = true) : v = rv o := by
  cases o with
  | none => cases v <;> first | rfl | cases h
  | some a =>
    cases v with
    | ref b =>
      have e : a = b := Nat.eq_of_beq_eq_true h
      rw [e]
      rfl
    | _ => cases h
/-- one def: its place, name, qualified name, parameters, body, scope, cells, the places of its defaults and its code -/
structure FD where
  a : Addr
  name : Str
  qual : Str
  params : Arguments
  body : List Stmt
  scope : Scope
  cl : List (Str × Addr)
  dV : Option Addr
  kV : Option Addr
  cd : Option Addr
def fnY (K : PySem.W.Frag) (a : Addr) : FnZ := match K.lookup a with
  | some ⟨_, _, .func fd, _⟩ => some (fd.name, fd.qualname, fd.params, fd.body, fd.scope, fd.globals, fd.closure, fd.builtins)
  | _ => none
def FD.val (d : FD) : FnZ := some (d.name, d.qual, d.params, .stmts d.body, d.scope, mainGlobals, d.cl, builtinsNs)
def FD.ok (K : PySem.W.Frag) (d : FD) : Bool := (match K.lookup d.a with
  | some ⟨_, _, .func fd, _⟩ => vB d.dV fd.defaults && (vB d.kV fd.kwdefaults && vB d.cd fd.code)
  | _ => false) && PySem.W.codeIn K (rv d.cd) d.qual
theorem FD.told {K : PySem.W.Frag} {d : FD} (e : fnY K d.a = d.val) (c : d.ok K = true) :
    ∃ (oc : Value) (od : Option Addr) (doc pm : Value) (an : Option Addr) (ct : Value) (sl : Array (Option Value)), K.lookup d.a = some ⟨oc, od, .func { name := d.name, qualname := d.qual, params := d.params, body := .stmts d.body, scope := d.scope, globals := mainGlobals, closure := d.cl, defaults := rv d.dV, kwdefaults := rv d.kV, doc, pyModule := pm, annotations := an, code := rv d.cd, closureTuple := ct, builtins := builtinsNs }, sl⟩ ∧ PySem.W.codeIn K (rv d.cd) d.qual = true := by
  obtain ⟨c1, c2⟩ := He.ba c
  unfold fnY at e
  cases q : K.lookup d.a with
  | none =>
    rw [q] at e
    cases e
  | some o =>
    obtain ⟨oc, od, dt, osl⟩ := o
    rw [q] at e c1
    cases dt with
    | func fd =>
      obtain ⟨n1, n2, n3, n4, n5, n6, n7, n8, n9, n10, n11, n12, n13, n14, n15⟩ := fd
      have e2 : (some (n1, n2, n3, n4, n5, n6, n7, n15) : FnZ) = some (d.name, d.qual, d.params, .stmts d.body, d.scope, mainGlobals, d.cl, builtinsNs) := e
      simp only [Option.some.injEq, Prod.mk.injEq] at e2
      obtain ⟨h1, h2, h3, h4, h5, h6, h7, h8⟩ := e2
      have c3 : (vB d.dV n8 && (vB d.kV n9 && vB d.cd n13)) = true := c1
      obtain ⟨k1, k2⟩ := He.ba c3
      obtain ⟨k3, k4⟩ := He.ba k2
      have g1 := vB_ok k1
      have g2 := vB_ok k3
      have g3 := vB_ok k4
      subst h1 h2 h3 h4 h5 h6 h7 h8 g1 g2 g3
      exact ⟨oc, od, n10, n11, n12, n14, osl, rfl, c2⟩
    | _ => cases e
/-! facts -/
def refB (v : Option (Option Value)) (a : Addr) : Bool := match v with
  | some (some (.ref b)) => Nat.beq b a
  | _ => false
theorem refB_ok {v : Option (Option Value)} {a : Addr} (h : refB v a = true) : v = some (some (.ref a)) := by
  unfold refB at h
  split at h
  · rename_i b
    have e : b = a := Nat.eq_of_beq_eq_true h
    rw [e]
  · cases h
def noB (v : Option (Option Value)) : Bool := match v with
  | some none => true
  | _ => false
theorem noB_ok {v : Option (Option Value)} (h : noB v = true) : v = some none := by
  unfold noB at h
  split at h
  · rfl
  · cases h
def litB (v : Option (Option Value)) (u : V) : Bool := match v with
  | some (some x) => He.relB u x
  | _ => false
theorem litB_ok {v : Option (Option Value)} {u : V} (h : litB v u = true) : ∃ x, v = some (some x) ∧ RelV u x := by
  unfold litB at h
  split at h
  · exact ⟨_, rfl, He.relB_ok h⟩
  · cases h
theorem litInt {v : Option (Option Value)} {i : Int} (h : litB v (.int i) = true) : ∃ t, v = some (some (.int i t)) := by
  obtain ⟨x, e, t, rfl⟩ := litB_ok h
  exact ⟨t, e⟩
theorem litStr {v : Option (Option Value)} {z : Str} (h : litB v (.str z) = true) : ∃ t, v = some (some (.str z t)) := by
  obtain ⟨x, e, t, rfl⟩ := litB_ok h
  exact ⟨t, e⟩
theorem litBl {v : Option (Option Value)} {b : Bool} (h : litB v (.bl b) = true) : v = some (some (.bool b)) := by
  obtain ⟨x, e, rfl⟩ := litB_ok h
  exact e
theorem litNon {v : Option (Option Value)} (h : litB v .non = true) : v = some (some .none) := by
  obtain ⟨x, e, rfl⟩ := litB_ok h
  exact e
def cellB (K : PySem.W.Frag) (cc C : Addr) : Bool := match K.lookup cc with
  | some ⟨_, _, .cell (some (.ref b)), _⟩ => Nat.beq b C
  | _ => false
theorem cellB_ok {K : PySem.W.Frag} {cc C : Addr} (h : cellB K cc C = true) : ∃ cl cld csl, K.lookup cc = some ⟨cl, cld, .cell (some (.ref C)), csl⟩ := by
  unfold cellB at h
  split at h
  · rename_i b _ q
    have e : b = C := Nat.eq_of_beq_eq_true h
    rw [e] at q
    exact ⟨_, _, _, q⟩
  · cases h
def fileB (K : PySem.W.Frag) (cda : Addr) (file : Str) : Bool := match K.lookup cda with
  | some ⟨_, _, .fields vs, _⟩ => (match (vs[2]? : Option Value) with
    | some (.str f _) => file == f
    | _ => false)
  | _ => false
theorem fileB_ok {K : PySem.W.Frag} {cda : Addr} {file : Str} (h : fileB K cda file = true) : ∃ (ccl : Value) (cdd : Option Addr) (cvs : Array Value) (ccs : Array (Option Value)) (fil : Str) (tf : Tok), K.lookup cda = some ⟨ccl, cdd, .fields cvs, ccs⟩ ∧ cvs[2]? = some (.str fil tf) ∧ (file == fil) = true := by
  unfold fileB at h
  split at h
  · rename_i vs _ q
    split at h
    · rename_i f t q2
      exact ⟨_, _, vs, _, f, t, q, q2, h⟩
    · cases h
  · cases h
def seqB (K : PySem.W.Frag) (a : Addr) (vs : List V) : Bool := match K.lookup a with
  | some ⟨_, _, .seq its _, _⟩ => He.relAll vs its.toList
  | _ => false
theorem seqB_ok {K : PySem.W.Frag} {a : Addr} {vs : List V} (h : seqB K a vs = true) : ∃ (oc : Value) (od : Option Addr) (us : List Value) (n : Nat) (sl : Array (Option Value)), K.lookup a = some ⟨oc, od, .seq us.toArray n, sl⟩ ∧ Vals vs us := by
  unfold seqB at h
  split at h
  · rename_i its n _ q
    obtain ⟨us⟩ := its
    exact ⟨_, _, us, n, _, q, He.relAll_ok h⟩
  · cases h
def tupB (K : PySem.W.Frag) (a : Addr) (vs : List V) : Bool := match K.lookup a with
  | some ⟨.type c, _, .seq its _, _⟩ => decide (c = "tuple") && He.relAll vs its.toList
  | _ => false
theorem tupB_ok {K : PySem.W.Frag} {a : Addr} {vs : List V} (h : tupB K a vs = true) : ∃ (od : Option Addr) (us : List Value) (n : Nat) (sl : Array (Option Value)), K.lookup a = some ⟨.type "tuple", od, .seq us.toArray n, sl⟩ ∧ Vals vs us := by
  unfold tupB at h
  split at h
  · rename_i c _ its n _ q
    obtain ⟨us⟩ := its
    obtain ⟨h1, h2⟩ := He.ba h
    have e := of_decide_eq_true h1
    subst e
    exact ⟨_, us, n, _, q, He.relAll_ok h2⟩
  · cases h
/-! a part of the heap, at places that are said -/
theorem frG_none {g : Addr → Option Obj} {t : Addr} : ∀ {as : List Addr}, (as.all fun b => !(Nat.beq t b)) = true → (He.frG g as).lookup t = none
  | [], _ => rfl
  | b :: r, h => by
    obtain ⟨h1, h2⟩ := He.ba (show ((!(Nat.beq t b)) && r.all fun b => !(Nat.beq t b)) = true from h)
    have ih := frG_none (g := g) h2
    have ne : (t == b) = false := by
      cases q : (t == b) with
      | false => rfl
      | true =>
        have e : t = b := beq_iff_eq.mp q
        subst e
        have z : Nat.beq t t = true := Nat.beq_refl t
        rw [z] at h1
        cases h1
    unfold He.frG at ih ⊢
    rw [List.filterMap_cons]
    cases hb : g b with
    | none => exact ih
    | some o =>
      show List.lookup t ((b, o) :: _) = none
      rw [List.lookup_cons, ne]
      exact ih
def tabsB (g : Addr → Option Obj) (as ts : List Addr) : Bool := ts.all fun t => (as.all fun b => !(Nat.beq t b)) && (match g t with
  | some o => He.emptyTab o
  | none => false)
abbrev AlY : Type := List FnZ × Bool
def obsY (as ts : List Addr) (fn : List FD) (fs : List (List (PySem.W.Frag → Bool))) (g : Addr → Option Obj) : AlY :=
  (fn.map fun d => fnY (He.frG g as) d.a, (fn.all fun d => d.ok (He.frG g as)) && ((fs.all fun l => l.all fun f => f (He.frG g as)) && tabsB g as ts))
def valY (fn : List FD) : AlY := (fn.map FD.val, true)
structure SaysY (ts : List Addr) (fn : List FD) (fs : List (List (PySem.W.Frag → Bool))) (h : Heap) (K : PySem.W.Frag) : Prop where
  fns : fn.map (fun d => fnY K d.a) = fn.map FD.val
  oks : ∀ d ∈ fn, d.ok K = true
  fcs : ∀ l ∈ fs, ∀ f ∈ l, f K = true
  out : ∀ t ∈ ts, K.lookup t = none
  empty : ∀ t ∈ ts, h.get? t = some (PySem.W.tabObj #[])
theorem saysY_of {as ts : List Addr} {fn : List FD} {fs : List (List (PySem.W.Frag → Bool))} {h : Heap} (e : obsY as ts fn fs h.get? = valY fn) : SaysY ts fn fs h (He.frG h.get? as) := by
  have e1 : fn.map (fun d => fnY (He.frG h.get? as) d.a) = fn.map FD.val := congrArg (fun z : AlY => z.1) e
  have e2 : ((fn.all fun d => d.ok (He.frG h.get? as)) && ((fs.all fun l => l.all fun f => f (He.frG h.get? as)) && tabsB h.get? as ts)) = true := congrArg (fun z : AlY => z.2) e
  obtain ⟨h1, h2⟩ := He.ba e2
  obtain ⟨h3, h4⟩ := He.ba h2
  have key : ∀ t ∈ ts, (as.all fun b => !(Nat.beq t b)) = true ∧ ∃ o, h.get? t = some o ∧ He.emptyTab o = true := fun t ht => by
    obtain ⟨h5, h6⟩ := He.ba (List.all_eq_true.mp h4 t ht)
    refine ⟨h5, ?_⟩
    cases q : h.get? t with
    | none =>
      rw [q] at h6
      cases h6
    | some o =>
      rw [q] at h6
      exact ⟨o, rfl, h6⟩
  exact ⟨e1, fun d hd => List.all_eq_true.mp h1 d hd, fun l hl f hf => List.all_eq_true.mp (List.all_eq_true.mp h3 l hl) f hf, fun t ht => frG_none (key t ht).1, fun t ht => by
    obtain ⟨_, o, q, z⟩ := key t ht
    rw [q, He.emptyTab_eq z]⟩
def hookY (as ts : List Addr) (fn : List FD) (fs : List (List (PySem.W.Frag → Bool))) : PySem.W.Hook where
  α := AlY
  obs := fun s => obsY as ts fn fs s.heap.get?
  val := fun _ => valY fn
  says := fun _ h => ∃ K : PySem.W.Frag, K.In h ∧ SaysY ts fn fs h K
  of := fun _ _ e => ⟨_, He.frG_in, saysY_of e⟩
  keeps := fun _ _ _ ⟨K, hK, c⟩ k => ⟨K, PySem.W.Frag.In.keeps hK k, ⟨c.fns, c.oks, c.fcs, c.out, fun t ht => k _ _ (c.empty t ht)⟩⟩
theorem obsY_eq {as ts : List Addr} {fn : List FD} {fs : List (List (PySem.W.Frag → Bool))} {g : Addr → Option Obj} {s : Shared} (h : ∀ a, g a = s.heap.get? a) : obsY as ts fn fs g = (hookY as ts fn fs).obs s := by
  have e : g = s.heap.get? := funext h
  rw [e] <;> rfl
section
variable {ts : List Addr} {fn : List FD} {fs : List (List (PySem.W.Frag → Bool))} {h : Heap} {K : PySem.W.Frag}
theorem SaysY.fact (c : SaysY ts fn fs h K) (i j : Nat) {l : List (PySem.W.Frag → Bool)} {f : PySem.W.Frag → Bool} (hi : fs[i]? = some l := by rfl) (hj : l[j]? = some f := by rfl) : f K = true := c.fcs l (List.mem_of_getElem? hi) f (List.mem_of_getElem? hj)
theorem SaysY.def_ (c : SaysY ts fn fs h K) (i : Nat) {d : FD} (hi : fn[i]? = some d := by rfl) :
    ∃ (oc : Value) (od : Option Addr) (doc pm : Value) (an : Option Addr) (ct : Value) (sl : Array (Option Value)), K.lookup d.a = some ⟨oc, od, .func { name := d.name, qualname := d.qual, params := d.params, body := .stmts d.body, scope := d.scope, globals := mainGlobals, closure := d.cl, defaults := rv d.dV, kwdefaults := rv d.kV, doc, pyModule := pm, annotations := an, code := rv d.cd, closureTuple := ct, builtins := builtinsNs }, sl⟩ ∧ PySem.W.codeIn K (rv d.cd) d.qual = true := by
  have e2 : (fn.map fun d => fnY K d.a)[i]? = (fn.map FD.val)[i]? := by rw [c.fns]
  rw [List.getElem?_map, List.getElem?_map, hi] at e2
  exact FD.told (Option.some.inj e2) (c.oks d (List.mem_of_getElem? hi))
end
/-! .. and dicts of the module with text keys -/
abbrev DT : Type := Addr × List Str
abbrev AlZ : Type := AlY × List (Option (List (Option (Str × Int))))
def obsZ (as ts : List Addr) (fn : List FD) (fs : List (List (PySem.W.Frag → Bool))) (ds : List DT) (g : Addr → Option Obj) : AlZ := (obsY as ts fn fs g, ds.map fun d => He.dicW (He.frG g as) d.1)
def valZ (fn : List FD) (ds : List DT) (w : World) : AlZ := (valY fn, ds.map fun d => some (He.keysIn w.params d.2))
structure SaysZ (ts : List Addr) (fn : List FD) (fs : List (List (PySem.W.Frag → Bool))) (ds : List DT) (w : World) (h : Heap) (K : PySem.W.Frag) : Prop where
  y : SaysY ts fn fs h K
  t : (ds.map fun d => He.dicW K d.1) = ds.map fun d => some (He.keysIn w.params d.2)
def hookZ (as ts : List Addr) (fn : List FD) (fs : List (List (PySem.W.Frag → Bool))) (ds : List DT) : PySem.W.Hook where
  α := AlZ
  obs := fun s => obsZ as ts fn fs ds s.heap.get?
  val := fun w => valZ fn ds w
  says := fun w h => ∃ K : PySem.W.Frag, K.In h ∧ SaysZ ts fn fs ds w h K
  of := fun _ _ e => ⟨_, He.frG_in, saysY_of (congrArg (fun z : AlZ => z.1) e), congrArg (fun z : AlZ => z.2) e⟩
  keeps := fun _ _ _ ⟨K, hK, c⟩ k => ⟨K, PySem.W.Frag.In.keeps hK k, ⟨c.y.fns, c.y.oks, c.y.fcs, c.y.out, fun t ht => k _ _ (c.y.empty t ht)⟩, c.t⟩
theorem obsZ_eq {as ts : List Addr} {fn : List FD} {fs : List (List (PySem.W.Frag → Bool))} {ds : List DT} {g : Addr → Option Obj} {s : Shared} (h : ∀ a, g a = s.heap.get? a) : obsZ as ts fn fs ds g = (hookZ as ts fn fs ds).obs s := by
  have e : g = s.heap.get? := funext h
  rw [e] <;> rfl
theorem SaysZ.tab {ts : List Addr} {fn : List FD} {fs : List (List (PySem.W.Frag → Bool))} {ds : List DT} {w : World} {h : Heap} {K : PySem.W.Frag} (c : SaysZ ts fn fs ds w h K) (i : Nat) {d : DT} (hd : ds[i]? = some d := by rfl) : ∃ es n, L2.KDict K w d.1 es n := by
  have e2 : (ds.map fun t => He.dicW K t.1)[i]? = (ds.map fun t => some (He.keysIn w.params t.2))[i]? := by rw [c.t]
  rw [List.getElem?_map, List.getElem?_map, hd] at e2
  exact He.dicW_ok (Option.some.inj e2)
/-! a run in two: the facts of the second part are read in a run of their own -/
theorem obsY_app {as ts : List Addr} {fn : List FD} {A B : List (List (PySem.W.Frag → Bool))} {g : Addr → Option Obj} (h1 : obsY as ts fn A g = valY fn) (h2 : (B.all fun l => l.all fun f => f (He.frG g as)) = true) : obsY as ts fn (A ++ B) g = valY fn := by
  have e1 : fn.map (fun d => fnY (He.frG g as) d.a) = fn.map FD.val := congrArg (fun z : AlY => z.1) h1
  have e2 : ((fn.all fun d => d.ok (He.frG g as)) && ((A.all fun l => l.all fun f => f (He.frG g as)) && tabsB g as ts)) = true := congrArg (fun z : AlY => z.2) h1
  obtain ⟨h3, h4⟩ := He.ba e2
  obtain ⟨h5, h6⟩ := He.ba h4
  unfold obsY valY
  rw [e1, h3, List.all_append, h5, h2, h6]
  rfl
theorem run_two {r : PySem.W.OpenRow} {q : Program} {as ts : List Addr} {fn : List FD} {A B : List (List (PySem.W.Frag → Bool))} {M : Nat} {loose : List PySem.Str} {w : World}
    (h1 : HandSHeadRun.RunEq r q (hookY as ts fn A) (fun s => obsY as ts fn A (HandSHeadRun.getT s)) M loose w)
    (h2 : ∀ os : OsState, (HandSHeadRun.endF (HandSHeadRun.stepQ (HandSHeadRun.denQ HandSHeadRun.tabQ) r.prog w) M r.prog w os).map (fun s => B.all fun l => l.all fun f => f (He.frG (HandSHeadRun.getT s) as)) = some true) :
    HandSHeadRun.RunEq r q (hookY as ts fn (A ++ B)) (fun s => obsY as ts fn (A ++ B) (HandSHeadRun.getT s)) M loose w := fun os => by
  have z1 := h1 os
  have z2 := h2 os
  cases e : HandSHeadRun.endF (HandSHeadRun.stepQ (HandSHeadRun.denQ HandSHeadRun.tabQ) r.prog w) M r.prog w os with
  | none =>
    rw [e] at z1
    cases z1
  | some s =>
    rw [e] at z1 z2
    have y1 := Option.some.inj z1
    have y2 := Option.some.inj z2
    have p1 := congrArg (fun z => z.1) y1
    have p2 := congrArg (fun z => z.2.1) y1
    have p3 : obsY as ts fn A (HandSHeadRun.getT s) = valY fn := congrArg (fun z => z.2.2) y1
    have p4 := obsY_app p3 y2
    refine congrArg some (Prod.ext p1 (Prod.ext p2 p4))
theorem run_three {r : PySem.W.OpenRow} {q : Program} {as ts : List Addr} {fn : List FD} {A : List (List (PySem.W.Frag → Bool))} {M : Nat} {loose : List PySem.Str} {w : World}
    (h1 : ∀ os : OsState, (HandSHeadRun.endF (HandSHeadRun.stepQ (HandSHeadRun.denQ HandSHeadRun.tabQ) r.prog w) M r.prog w os).map (fun s => (HandSHeadRun.looksF r.prog (PySem.W.boot_heap w.params) s.abs, HandSHeadRun.seenQ q loose (importedModules r.prog.main.body) (fun s => PySem.W.xlAt q [] s && PySem.W.recOk r.toRowW.records s) s.abs)) = some (true, PySem.W.openGood q loose))
    (h2 : ∀ os : OsState, (HandSHeadRun.endF (HandSHeadRun.stepQ (HandSHeadRun.denQ HandSHeadRun.tabQ) r.prog w) M r.prog w os).map (fun s => obsY as ts fn A (HandSHeadRun.getT s)) = some (valY fn)) :
    HandSHeadRun.RunEq r q (hookY as ts fn A) (fun s => obsY as ts fn A (HandSHeadRun.getT s)) M loose w := fun os => by
  have z1 := h1 os
  have z2 := h2 os
  cases e : HandSHeadRun.endF (HandSHeadRun.stepQ (HandSHeadRun.denQ HandSHeadRun.tabQ) r.prog w) M r.prog w os with
  | none =>
    rw [e] at z1
    cases z1
  | some s =>
    rw [e] at z1 z2
    have y1 := Option.some.inj z1
    have y2 := Option.some.inj z2
    exact congrArg some (Prod.ext (congrArg (fun z => z.1) y1) (Prod.ext (congrArg (fun z => z.2) y1) y2))
end HX
namespace K37
open PySem PySem.Spec PyProof.Rows L2 Evl My TL
def topS (i : Nat) : Stmt := PySem.Challenge.pw_blocksearch_k37_whole_bounds_hold.main.body.getD i (.Pass ⟨0, 0, 0, 0⟩)
abbrev N_is_whole : List Str := ["thing"]
theorem sc_is_whole : FnScope N_is_whole ["thing"] (defScope (topS 17)) := ⟨rfl, rfl, rfl, by decide +kernel, rfl, by decide +kernel, by decide +kernel⟩
abbrev N_is_within : List Str := ["thing", "least", "most"]
theorem sc_is_within : FnScope N_is_within ["thing", "least", "most"] (defScope (topS 18)) := ⟨rfl, rfl, rfl, by decide +kernel, rfl, by decide +kernel, by decide +kernel⟩
abbrev N_is_word : List Str := ["thing", "sign"]
theorem sc_is_word : FnScope N_is_word ["thing"] (defScope (topS 22)) := ⟨rfl, rfl, rfl, by decide +kernel, rfl, by decide +kernel, by decide +kernel⟩
abbrev N_are_words : List Str := ["things", "thing"]
theorem sc_are_words : FnScope N_are_words ["things"] (defScope (topS 23)) := ⟨rfl, rfl, rfl, by decide +kernel, rfl, by decide +kernel, by decide +kernel⟩
abbrev N_check_word : List Str := ["word"]
theorem sc_check_word : FnScope N_check_word ["word"] (defScope (topS 24)) := ⟨rfl, rfl, rfl, by decide +kernel, rfl, by decide +kernel, by decide +kernel⟩
abbrev N_words_of : List Str := ["text", "words"]
theorem sc_words_of : FnScope N_words_of ["text"] (defScope (topS 25)) := ⟨rfl, rfl, rfl, by decide +kernel, rfl, by decide +kernel, by decide +kernel⟩
abbrev N_check_words : List Str := ["words"]
theorem sc_check_words : FnScope N_check_words ["words"] (defScope (topS 26)) := ⟨rfl, rfl, rfl, by decide +kernel, rfl, by decide +kernel, by decide +kernel⟩
abbrev N_lowest : List Str := ["top", "bottom", "divisor", "rest"]
theorem sc_lowest : FnScope N_lowest ["top", "bottom"] (defScope (topS 32)) := ⟨rfl, rfl, rfl, by decide +kernel, rfl, by decide +kernel, by decide +kernel⟩
abbrev N_check_figures : List Str := ["number"]
theorem sc_check_figures : FnScope N_check_figures ["number"] (defScope (topS 33)) := ⟨rfl, rfl, rfl, by decide +kernel, rfl, by decide +kernel, by decide +kernel⟩
abbrev N_is_count : List Str := ["thing"]
theorem sc_is_count : FnScope N_is_count ["thing"] (defScope (topS 38)) := ⟨rfl, rfl, rfl, by decide +kernel, rfl, by decide +kernel, by decide +kernel⟩
abbrev N_code : List Str := ["number", "signs", "digit"]
theorem sc_code : FnScope N_code ["number"] (defScope (topS 39)) := ⟨rfl, rfl, rfl, by decide +kernel, rfl, by decide +kernel, by decide +kernel⟩
abbrev N_code_all : List Str := ["numbers", "at", "number"]
theorem sc_code_all : FnScope N_code_all ["numbers"] (defScope (topS 40)) := ⟨rfl, rfl, rfl, by decide +kernel, rfl, by decide +kernel, by decide +kernel⟩
abbrev N_code_entries : List Str := ["entries", "texts", "slot", "places"]
theorem sc_code_entries : FnScope N_code_entries ["entries"] (defScope (topS 41)) := ⟨rfl, rfl, rfl, by decide +kernel, rfl, by decide +kernel, by decide +kernel⟩
abbrev N_decode_entries : List Str := ["text", "many", "at", "slot_gaps", "entries", "slot", "further", "place_gaps"]
theorem sc_decode_entries : FnScope N_decode_entries ["text"] (defScope (topS 42)) := ⟨rfl, rfl, rfl, by decide +kernel, rfl, by decide +kernel, by decide +kernel⟩
abbrev N_check_entries : List Str := ["entries", "ahead", "at", "entry"]
theorem sc_check_entries : FnScope N_check_entries ["entries"] (defScope (topS 43)) := ⟨rfl, rfl, rfl, by decide +kernel, rfl, by decide +kernel, by decide +kernel⟩
abbrev N_is_entry : List Str := ["thing"]
theorem sc_is_entry : FnScope N_is_entry ["thing"] (defScope (topS 44)) := ⟨rfl, rfl, rfl, by decide +kernel, rfl, by decide +kernel, by decide +kernel⟩
abbrev N_are_places : List Str := ["thing"]
theorem sc_are_places : FnScope N_are_places ["thing"] (defScope (topS 45)) := ⟨rfl, rfl, rfl, by decide +kernel, rfl, by decide +kernel, by decide +kernel⟩
abbrev N_first_fall : List Str := ["things", "ahead", "at", "thing"]
theorem sc_first_fall : FnScope N_first_fall ["things"] (defScope (topS 46)) := ⟨rfl, rfl, rfl, by decide +kernel, rfl, by decide +kernel, by decide +kernel⟩
abbrev N_gaps_of : List Str := ["numbers", "gaps", "ahead", "number"]
theorem sc_gaps_of : FnScope N_gaps_of ["numbers"] (defScope (topS 47)) := ⟨rfl, rfl, rfl, by decide +kernel, rfl, by decide +kernel, by decide +kernel⟩
abbrev N_risen : List Str := ["gaps", "numbers", "ahead", "gap"]
theorem sc_risen : FnScope N_risen ["gaps"] (defScope (topS 48)) := ⟨rfl, rfl, rfl, by decide +kernel, rfl, by decide +kernel, by decide +kernel⟩
abbrev N_check_text : List Str := ["text"]
theorem sc_check_text : FnScope N_check_text ["text"] (defScope (topS 49)) := ⟨rfl, rfl, rfl, by decide +kernel, rfl, by decide +kernel, by decide +kernel⟩
abbrev N_read_number : List Str := ["text", "start", "number", "worth", "at", "last", "digit"]
theorem sc_read_number : FnScope N_read_number ["text", "start"] (defScope (topS 50)) := ⟨rfl, rfl, rfl, by decide +kernel, rfl, by decide +kernel, by decide +kernel⟩
abbrev N_read_numbers : List Str := ["text", "at", "many", "numbers", "number"]
theorem sc_read_numbers : FnScope N_read_numbers ["text", "at", "many"] (defScope (topS 51)) := ⟨rfl, rfl, rfl, by decide +kernel, rfl, by decide +kernel, by decide +kernel⟩
abbrev N_check_page_number : List Str := ["number"]
theorem sc_check_page_number : FnScope N_check_page_number ["number"] (defScope (topS 55)) := ⟨rfl, rfl, rfl, by decide +kernel, rfl, by decide +kernel, by decide +kernel⟩
abbrev N_check_pages : List Str := ["pages", "least", "most", "ahead", "at", "page"]
theorem sc_check_pages : FnScope N_check_pages ["pages", "least", "most"] (defScope (topS 56)) := ⟨rfl, rfl, rfl, by decide +kernel, rfl, by decide +kernel, by decide +kernel⟩
abbrev N_check_lengths : List Str := ["lengths", "length"]
theorem sc_check_lengths : FnScope N_check_lengths ["lengths"] (defScope (topS 63)) := ⟨rfl, rfl, rfl, by decide +kernel, rfl, by decide +kernel, by decide +kernel⟩
abbrev N_check_size : List Str := ["size"]
theorem sc_check_size : FnScope N_check_size ["size"] (defScope (topS 64)) := ⟨rfl, rfl, rfl, by decide +kernel, rfl, by decide +kernel, by decide +kernel⟩
abbrev N_check_fit : List Str := ["entries", "lengths", "at", "slot", "places"]
theorem sc_check_fit : FnScope N_check_fit ["entries", "lengths"] (defScope (topS 65)) := ⟨rfl, rfl, rfl, by decide +kernel, rfl, by decide +kernel, by decide +kernel⟩
abbrev N_check_number : List Str := ["slot"]
theorem sc_check_number : FnScope N_check_number ["slot"] (defScope (topS 68)) := ⟨rfl, rfl, rfl, by decide +kernel, rfl, by decide +kernel, by decide +kernel⟩
abbrev N_rows_of : List Str := ["pages", "size", "lengths", "entries", "slot", "page", "places", "word"]
theorem sc_rows_of : FnScope N_rows_of ["pages", "size"] (defScope (topS 73)) := ⟨rfl, rfl, rfl, by decide +kernel, rfl, by decide +kernel, by decide +kernel⟩
abbrev N_places_by_word : List Str := ["page", "places", "at", "word"]
theorem sc_places_by_word : FnScope N_places_by_word ["page"] (defScope (topS 74)) := ⟨rfl, rfl, rfl, by decide +kernel, rfl, by decide +kernel, by decide +kernel⟩
abbrev N_check_shelf : List Str := ["shelf", "ahead", "at", "part", "segment", "gone", "number"]
theorem sc_check_shelf : FnScope N_check_shelf ["shelf"] (defScope (topS 77)) := ⟨rfl, rfl, rfl, by decide +kernel, rfl, by decide +kernel, by decide +kernel⟩
abbrev N_is_shelved : List Str := ["thing", "segment", "gone"]
theorem sc_is_shelved : FnScope N_is_shelved ["thing"] (defScope (topS 78)) := ⟨rfl, rfl, rfl, by decide +kernel, rfl, by decide +kernel, by decide +kernel⟩
abbrev N_are_slots : List Str := ["things", "many"]
theorem sc_are_slots : FnScope N_are_slots ["things", "many"] (defScope (topS 79)) := ⟨rfl, rfl, rfl, by decide +kernel, rfl, by decide +kernel, by decide +kernel⟩
abbrev N_standing_slots : List Str := ["segment", "gone", "slot"]
theorem sc_standing_slots : FnScope N_standing_slots ["segment", "gone"] (defScope (topS 80)) := ⟨rfl, rfl, rfl, by decide +kernel, rfl, by decide +kernel, by decide +kernel⟩
abbrev N_standing_numbers : List Str := ["segment", "gone", "numbers", "slot"]
theorem sc_standing_numbers : FnScope N_standing_numbers ["segment", "gone"] (defScope (topS 81)) := ⟨rfl, rfl, rfl, by decide +kernel, rfl, by decide +kernel, by decide +kernel⟩
abbrev N_standing_words : List Str := ["segment", "gone", "lengths", "slot"]
theorem sc_standing_words : FnScope N_standing_words ["segment", "gone"] (defScope (topS 84)) := ⟨rfl, rfl, rfl, by decide +kernel, rfl, by decide +kernel, by decide +kernel⟩
abbrev N_standing_holders : List Str := ["segment", "gone", "word", "row", "walker", "slot"]
theorem sc_standing_holders : FnScope N_standing_holders ["segment", "gone", "word"] (defScope (topS 85)) := ⟨rfl, rfl, rfl, by decide +kernel, rfl, by decide +kernel, by decide +kernel⟩
abbrev N_share : List Str := ["figures", "word", "often", "length", "holders", "pages", "words"]
theorem sc_share : FnScope N_share ["figures", "word", "often", "length"] (defScope (topS 86)) := ⟨rfl, rfl, rfl, by decide +kernel, rfl, by decide +kernel, by decide +kernel⟩
abbrev N_check_count : List Str := ["many"]
theorem sc_check_count : FnScope N_check_count ["many"] (defScope (topS 87)) := ⟨rfl, rfl, rfl, by decide +kernel, rfl, by decide +kernel, by decide +kernel⟩
abbrev N_bound : List Str := ["figures", "row", "block"]
theorem sc_bound : FnScope N_bound ["figures", "row", "block"] (defScope (topS 88)) := ⟨rfl, rfl, rfl, by decide +kernel, rfl, by decide +kernel, by decide +kernel⟩
abbrev N_l_purse : List Str := ["_law_script", "_law_at", "_law_cell", "_law_great"]
theorem sc_l_purse : FnScope N_l_purse ["_law_script", "_law_at"] (defScope (topS 90)) := ⟨rfl, rfl, rfl, by decide +kernel, rfl, by decide +kernel, by decide +kernel⟩
abbrev N_l_take : List Str := ["_law_purse_here", "_law_many", "_law_digit", "_law_one"]
theorem sc_l_take : FnScope N_l_take ["_law_purse_here", "_law_many"] (defScope (topS 91)) := ⟨rfl, rfl, rfl, by decide +kernel, rfl, by decide +kernel, by decide +kernel⟩
abbrev N_l_words : List Str := ["_law_purse_here", "_law_letters", "_law_sort", "_law_first", "_law_base", "_law_at", "_law_nth"]
theorem sc_l_words : FnScope N_l_words ["_law_purse_here"] (defScope (topS 92)) := ⟨rfl, rfl, rfl, by decide +kernel, rfl, by decide +kernel, by decide +kernel⟩
abbrev N_l_text_words : List Str := ["_law_purse_here", "_law_words_here", "_law_is_long", "_law_sort", "_law_near", "_law_many", "_law_turn"]
theorem sc_l_text_words : FnScope N_l_text_words ["_law_purse_here", "_law_words_here", "_law_is_long"] (defScope (topS 93)) := ⟨rfl, rfl, rfl, by decide +kernel, rfl, by decide +kernel, by decide +kernel⟩
abbrev N_l_pages : List Str := ["_law_purse_here", "_law_words_here", "_law_many", "_law_most", "_law_pages_here", "_law_taken", "_law_near", "_law_long_one", "_law_nth", "_law_number", "_law_text"]
theorem sc_l_pages : FnScope N_l_pages ["_law_purse_here", "_law_words_here", "_law_many", "_law_most"] (defScope (topS 94)) := ⟨rfl, rfl, rfl, by decide +kernel, rfl, by decide +kernel, by decide +kernel⟩
abbrev N_l_shelf : List Str := ["_law_purse_here", "_law_words_here", "_law_segments", "_law_most", "_law_shelf_here", "_law_alive", "_law_nth", "_law_broad", "_law_pages_here", "_law_gone", "_law_slot", "_law_page_here"]
theorem sc_l_shelf : FnScope N_l_shelf ["_law_purse_here", "_law_words_here", "_law_segments", "_law_most"] (defScope (topS 95)) := ⟨rfl, rfl, rfl, by decide +kernel, rfl, by decide +kernel, by decide +kernel⟩
abbrev N_l_page : List Str := ["_law_page_here"]
theorem sc_l_page : FnScope N_l_page ["_law_page_here"] (defScope (topS 96)) := ⟨rfl, rfl, rfl, by decide +kernel, rfl, by decide +kernel, by decide +kernel⟩
abbrev N_l_made : List Str := ["_law_shelf_here", "_law_pages_here", "_law_broad", "_law_gone", "_law_page_here"]
theorem sc_l_made : FnScope N_l_made ["_law_shelf_here"] (defScope (topS 97)) := ⟨rfl, rfl, rfl, by decide +kernel, rfl, by decide +kernel, by decide +kernel⟩
abbrev N_l_low : List Str := ["_law_upper", "_law_lower", "_law_one", "_law_other"]
theorem sc_l_low : FnScope N_l_low ["_law_upper", "_law_lower"] (defScope (topS 98)) := ⟨rfl, rfl, rfl, by decide +kernel, rfl, by decide +kernel, by decide +kernel⟩
abbrev N_l_is_ratio : List Str := ["_law_told", "_law_due", "_law_number"]
theorem sc_l_is_ratio : FnScope N_l_is_ratio ["_law_told", "_law_due"] (defScope (topS 99)) := ⟨rfl, rfl, rfl, by decide +kernel, rfl, by decide +kernel, by decide +kernel⟩
abbrev N_l_standing : List Str := ["_law_shelf_here", "_law_got", "_law_pages_here", "_law_broad", "_law_gone", "_law_slot", "_law_page_here"]
theorem sc_l_standing : FnScope N_l_standing ["_law_shelf_here"] (defScope (topS 100)) := ⟨rfl, rfl, rfl, by decide +kernel, rfl, by decide +kernel, by decide +kernel⟩
abbrev N_l_holders : List Str := ["_law_alive", "_law_word", "_law_number", "_law_words_here"]
theorem sc_l_holders : FnScope N_l_holders ["_law_alive", "_law_word"] (defScope (topS 101)) := ⟨rfl, rfl, rfl, by decide +kernel, rfl, by decide +kernel, by decide +kernel⟩
abbrev N_l_share : List Str := ["_law_alive", "_law_word", "_law_often", "_law_length", "_law_holders_here", "_law_many", "_law_in_all", "_law_upper", "_law_number", "_law_words_here"]
theorem sc_l_share : FnScope N_l_share ["_law_alive", "_law_word", "_law_often", "_law_length"] (defScope (topS 102)) := ⟨rfl, rfl, rfl, by decide +kernel, rfl, by decide +kernel, by decide +kernel⟩
abbrev N_l_block_right : List Str := ["_law_figures", "_law_alive", "_law_row", "_law_block", "_law_here", "_law_most", "_law_least", "_law_told", "_law_slot", "_law_words_here", "_law_one"]
theorem sc_l_block_right : FnScope N_l_block_right ["_law_figures", "_law_alive", "_law_row", "_law_block", "_law_here"] (defScope (topS 103)) := ⟨rfl, rfl, rfl, by decide +kernel, rfl, by decide +kernel, by decide +kernel⟩
abbrev N_l_segment_right : List Str := ["_law_figures", "_law_alive", "_law_segment", "_law_pages_here", "_law_broad", "_law_word", "_law_some", "_law_row", "_law_blocks", "_law_nth", "_law_block", "_law_slot", "_law_page_here"]
theorem sc_l_segment_right : FnScope N_l_segment_right ["_law_figures", "_law_alive", "_law_segment", "_law_pages_here", "_law_broad", "_law_word"] (defScope (topS 104)) := ⟨rfl, rfl, rfl, by decide +kernel, rfl, by decide +kernel, by decide +kernel⟩
abbrev N_law : List Str := ["_law_script", "_law_at", "_law_purse_here", "_law_words_here", "_law_shelf_here", "_law_alive", "_law_handed", "_law_figures", "_law_turn", "_law_segment", "_law_gone", "_law_pages_here", "_law_broad", "_law_some", "_law_word"]
theorem sc_law : FnScope N_law ["_law_script"] (defScope (topS 105)) := ⟨rfl, rfl, rfl, by decide +kernel, rfl, by decide +kernel, by decide +kernel⟩
abbrev N_Page_init : List Str := ["self", "number", "text"]
theorem sc_Page_init : FnScope N_Page_init ["self", "number", "text"] (defScope (inClass (topS 54) 0)) := ⟨rfl, rfl, rfl, by decide +kernel, rfl, by decide +kernel, by decide +kernel⟩
abbrev N_Page_len : List Str := ["self"]
theorem sc_Page_len : FnScope N_Page_len ["self"] (defScope (inClass (topS 54) 2)) := ⟨rfl, rfl, rfl, by decide +kernel, rfl, by decide +kernel, by decide +kernel⟩
abbrev N_Page_words : List Str := ["self"]
theorem sc_Page_words : FnScope N_Page_words ["self"] (defScope (inClass (topS 54) 5)) := ⟨rfl, rfl, rfl, by decide +kernel, rfl, by decide +kernel, by decide +kernel⟩
abbrev N_Block_init : List Str := ["self", "entries", "lengths", "slot", "places"]
theorem sc_Block_init : FnScope N_Block_init ["self", "entries", "lengths"] (defScope (inClass (topS 61) 0)) := ⟨rfl, rfl, rfl, by decide +kernel, rfl, by decide +kernel, by decide +kernel⟩
abbrev N_Row_init : List Str := ["self", "word", "entries", "lengths", "size", "at"]
theorem sc_Row_init : FnScope N_Row_init ["self", "word", "entries", "lengths", "size"] (defScope (inClass (topS 62) 0)) := ⟨rfl, rfl, rfl, by decide +kernel, rfl, by decide +kernel, by decide +kernel⟩
abbrev N_Row_len : List Str := ["self", "block"]
theorem sc_Row_len : FnScope N_Row_len ["self"] (defScope (inClass (topS 62) 2)) := ⟨rfl, rfl, rfl, by decide +kernel, rfl, by decide +kernel, by decide +kernel⟩
abbrev N_Row_blocks : List Str := ["self"]
theorem sc_Row_blocks : FnScope N_Row_blocks ["self"] (defScope (inClass (topS 62) 3)) := ⟨rfl, rfl, rfl, by decide +kernel, rfl, by decide +kernel, by decide +kernel⟩
abbrev N_Walker_init : List Str := ["self", "row"]
theorem sc_Walker_init : FnScope N_Walker_init ["self", "row"] (defScope (inClass (topS 67) 0)) := ⟨rfl, rfl, rfl, by decide +kernel, rfl, by decide +kernel, by decide +kernel⟩
abbrev N_Walker_slot : List Str := ["self"]
theorem sc_Walker_slot : FnScope N_Walker_slot ["self"] (defScope (inClass (topS 67) 1)) := ⟨rfl, rfl, rfl, by decide +kernel, rfl, by decide +kernel, by decide +kernel⟩
abbrev N_Walker_seek : List Str := ["self", "slot"]
theorem sc_Walker_seek : FnScope N_Walker_seek ["self", "slot"] (defScope (inClass (topS 67) 3)) := ⟨rfl, rfl, rfl, by decide +kernel, rfl, by decide +kernel, by decide +kernel⟩
abbrev N_Walker_entries_in : List Str := ["self", "at"]
theorem sc_Walker_entries_in : FnScope N_Walker_entries_in ["self", "at"] (defScope (inClass (topS 67) 10)) := ⟨rfl, rfl, rfl, by decide +kernel, rfl, by decide +kernel, by decide +kernel⟩
abbrev N_Walker_slot_at : List Str := ["self", "standing", "at", "entry"]
theorem sc_Walker_slot_at : FnScope N_Walker_slot_at ["self", "standing"] (defScope (inClass (topS 67) 11)) := ⟨rfl, rfl, rfl, by decide +kernel, rfl, by decide +kernel, by decide +kernel⟩
abbrev N_Walker_reaching : List Str := ["self", "slot", "at"]
theorem sc_Walker_reaching : FnScope N_Walker_reaching ["self", "slot", "at"] (defScope (inClass (topS 67) 12)) := ⟨rfl, rfl, rfl, by decide +kernel, rfl, by decide +kernel, by decide +kernel⟩
abbrev N_Walker_sought : List Str := ["self", "slot", "standing", "here", "at", "one", "places"]
theorem sc_Walker_sought : FnScope N_Walker_sought ["self", "slot", "standing"] (defScope (inClass (topS 67) 13)) := ⟨rfl, rfl, rfl, by decide +kernel, rfl, by decide +kernel, by decide +kernel⟩
abbrev N_Segment_init : List Str := ["self", "pages", "size", "by_slots", "page"]
theorem sc_Segment_init : FnScope N_Segment_init ["self", "pages", "size"] (defScope (inClass (topS 71) 0)) := ⟨rfl, rfl, rfl, by decide +kernel, rfl, by decide +kernel, by decide +kernel⟩
abbrev N_Segment_len : List Str := ["self"]
theorem sc_Segment_len : FnScope N_Segment_len ["self"] (defScope (inClass (topS 71) 2)) := ⟨rfl, rfl, rfl, by decide +kernel, rfl, by decide +kernel, by decide +kernel⟩
abbrev N_Segment_numbers : List Str := ["self"]
theorem sc_Segment_numbers : FnScope N_Segment_numbers ["self"] (defScope (inClass (topS 71) 3)) := ⟨rfl, rfl, rfl, by decide +kernel, rfl, by decide +kernel, by decide +kernel⟩
abbrev N_Segment_lengths : List Str := ["self"]
theorem sc_Segment_lengths : FnScope N_Segment_lengths ["self"] (defScope (inClass (topS 71) 4)) := ⟨rfl, rfl, rfl, by decide +kernel, rfl, by decide +kernel, by decide +kernel⟩
abbrev N_Segment_row : List Str := ["self", "word"]
theorem sc_Segment_row : FnScope N_Segment_row ["self", "word"] (defScope (inClass (topS 71) 6)) := ⟨rfl, rfl, rfl, by decide +kernel, rfl, by decide +kernel, by decide +kernel⟩
abbrev N_Figures_init : List Str := ["self", "shelf", "segment", "gone"]
theorem sc_Figures_init : FnScope N_Figures_init ["self", "shelf"] (defScope (inClass (topS 83) 0)) := ⟨rfl, rfl, rfl, by decide +kernel, rfl, by decide +kernel, by decide +kernel⟩
abbrev N_Figures_holders : List Str := ["self", "word", "segment", "gone"]
theorem sc_Figures_holders : FnScope N_Figures_holders ["self", "word"] (defScope (inClass (topS 83) 1)) := ⟨rfl, rfl, rfl, by decide +kernel, rfl, by decide +kernel, by decide +kernel⟩
abbrev N_Ratio_init : List Str := ["self", "top", "bottom"]
theorem sc_Ratio_init : FnScope N_Ratio_init ["self", "top", "bottom"] (defScope (inClass (topS 31) 0)) := ⟨rfl, rfl, rfl, by decide +kernel, rfl, by decide +kernel, by decide +kernel⟩
abbrev N_Ratio_eq : List Str := ["self", "other"]
theorem sc_Ratio_eq : FnScope N_Ratio_eq ["self", "other"] (defScope (inClass (topS 31) 1)) := ⟨rfl, rfl, rfl, by decide +kernel, rfl, by decide +kernel, by decide +kernel⟩
abbrev N_Ratio_is_less : List Str := ["self", "other"]
theorem sc_Ratio_is_less : FnScope N_Ratio_is_less ["self", "other"] (defScope (inClass (topS 31) 6)) := ⟨rfl, rfl, rfl, by decide +kernel, rfl, by decide +kernel, by decide +kernel⟩
/-- what the top has left: A the defs' places, FD their data, TK the constants' tokens -/
structure TX (K : PySem.W.Frag) (mg : Str → Option Value) (A : Nat → Addr) (FD : Nat → FuncData) (TK : Nat → Tok) (CC : Nat → Addr) : Prop where
  f_is_whole : Fun K "is_whole" "is_whole" (topS 17) (A 17) (FD 17)
  b_is_whole : Binds K (FD 17) ["thing"] []
  g_is_whole : mg "is_whole" = some (.ref (A 17))
  f_is_within : Fun K "is_within" "is_within" (topS 18) (A 18) (FD 18)
  b_is_within : Binds K (FD 18) ["thing", "least", "most"] []
  g_is_within : mg "is_within" = some (.ref (A 18))
  f_is_word : Fun K "is_word" "is_word" (topS 22) (A 22) (FD 22)
  b_is_word : Binds K (FD 22) ["thing"] []
  g_is_word : mg "is_word" = some (.ref (A 22))
  f_are_words : Fun K "are_words" "are_words" (topS 23) (A 23) (FD 23)
  b_are_words : Binds K (FD 23) ["things"] []
  g_are_words : mg "are_words" = some (.ref (A 23))
  f_check_word : Fun K "check_word" "check_word" (topS 24) (A 24) (FD 24)
  b_check_word : Binds K (FD 24) ["word"] []
  g_check_word : mg "check_word" = some (.ref (A 24))
  f_words_of : Fun K "words_of" "words_of" (topS 25) (A 25) (FD 25)
  b_words_of : Binds K (FD 25) ["text"] []
  g_words_of : mg "words_of" = some (.ref (A 25))
  f_check_words : Fun K "check_words" "check_words" (topS 26) (A 26) (FD 26)
  b_check_words : Binds K (FD 26) ["words"] []
  g_check_words : mg "check_words" = some (.ref (A 26))
  f_lowest : Fun K "lowest" "lowest" (topS 32) (A 32) (FD 32)
  b_lowest : Binds K (FD 32) ["top", "bottom"] []
  g_lowest : mg "lowest" = some (.ref (A 32))
  f_check_figures : Fun K "check_figures" "check_figures" (topS 33) (A 33) (FD 33)
  b_check_figures : Binds K (FD 33) ["number"] []
  g_check_figures : mg "check_figures" = some (.ref (A 33))
  f_is_count : Fun K "is_count" "is_count" (topS 38) (A 38) (FD 38)
  b_is_count : Binds K (FD 38) ["thing"] []
  g_is_count : mg "is_count" = some (.ref (A 38))
  f_code : Fun K "code" "code" (topS 39) (A 39) (FD 39)
  b_code : Binds K (FD 39) ["number"] []
  g_code : mg "code" = some (.ref (A 39))
  f_code_all : Fun K "code_all" "code_all" (topS 40) (A 40) (FD 40)
  b_code_all : Binds K (FD 40) ["numbers"] []
  g_code_all : mg "code_all" = some (.ref (A 40))
  f_code_entries : Fun K "code_entries" "code_entries" (topS 41) (A 41) (FD 41)
  b_code_entries : Binds K (FD 41) ["entries"] []
  g_code_entries : mg "code_entries" = some (.ref (A 41))
  f_decode_entries : Fun K "decode_entries" "decode_entries" (topS 42) (A 42) (FD 42)
  b_decode_entries : Binds K (FD 42) ["text"] []
  g_decode_entries : mg "decode_entries" = some (.ref (A 42))
  f_check_entries : Fun K "check_entries" "check_entries" (topS 43) (A 43) (FD 43)
  b_check_entries : Binds K (FD 43) ["entries"] []
  g_check_entries : mg "check_entries" = some (.ref (A 43))
  f_is_entry : Fun K "is_entry" "is_entry" (topS 44) (A 44) (FD 44)
  b_is_entry : Binds K (FD 44) ["thing"] []
  g_is_entry : mg "is_entry" = some (.ref (A 44))
  f_are_places : Fun K "are_places" "are_places" (topS 45) (A 45) (FD 45)
  b_are_places : Binds K (FD 45) ["thing"] []
  g_are_places : mg "are_places" = some (.ref (A 45))
  f_first_fall : Fun K "first_fall" "first_fall" (topS 46) (A 46) (FD 46)
  b_first_fall : Binds K (FD 46) ["things"] []
  g_first_fall : mg "first_fall" = some (.ref (A 46))
  f_gaps_of : Fun K "gaps_of" "gaps_of" (topS 47) (A 47) (FD 47)
  b_gaps_of : Binds K (FD 47) ["numbers"] []
  g_gaps_of : mg "gaps_of" = some (.ref (A 47))
  f_risen : Fun K "risen" "risen" (topS 48) (A 48) (FD 48)
  b_risen : Binds K (FD 48) ["gaps"] []
  g_risen : mg "risen" = some (.ref (A 48))
  f_check_text : Fun K "check_text" "check_text" (topS 49) (A 49) (FD 49)
  b_check_text : Binds K (FD 49) ["text"] []
  g_check_text : mg "check_text" = some (.ref (A 49))
  f_read_number : Fun K "read_number" "read_number" (topS 50) (A 50) (FD 50)
  b_read_number : Binds K (FD 50) ["text", "start"] []
  g_read_number : mg "read_number" = some (.ref (A 50))
  f_read_numbers : Fun K "read_numbers" "read_numbers" (topS 51) (A 51) (FD 51)
  b_read_numbers : Binds K (FD 51) ["text", "at", "many"] []
  g_read_numbers : mg "read_numbers" = some (.ref (A 51))
  f_check_page_number : Fun K "check_page_number" "check_page_number" (topS 55) (A 55) (FD 55)
  b_check_page_number : Binds K (FD 55) ["number"] []
  g_check_page_number : mg "check_page_number" = some (.ref (A 55))
  f_check_pages : Fun K "check_pages" "check_pages" (topS 56) (A 56) (FD 56)
  g_check_pages : mg "check_pages" = some (.ref (A 56))
  f_check_lengths : Fun K "check_lengths" "check_lengths" (topS 63) (A 63) (FD 63)
  b_check_lengths : Binds K (FD 63) ["lengths"] []
  g_check_lengths : mg "check_lengths" = some (.ref (A 63))
  f_check_size : Fun K "check_size" "check_size" (topS 64) (A 64) (FD 64)
  b_check_size : Binds K (FD 64) ["size"] []
  g_check_size : mg "check_size" = some (.ref (A 64))
  f_check_fit : Fun K "check_fit" "check_fit" (topS 65) (A 65) (FD 65)
  b_check_fit : Binds K (FD 65) ["entries", "lengths"] []
  g_check_fit : mg "check_fit" = some (.ref (A 65))
  f_check_number : Fun K "check_number" "check_number" (topS 68) (A 68) (FD 68)
  b_check_number : Binds K (FD 68) ["slot"] []
  g_check_number : mg "check_number" = some (.ref (A 68))
  f_rows_of : Fun K "rows_of" "rows_of" (topS 73) (A 73) (FD 73)
  b_rows_of : Binds K (FD 73) ["pages", "size"] []
  g_rows_of : mg "rows_of" = some (.ref (A 73))
  f_places_by_word : Fun K "places_by_word" "places_by_word" (topS 74) (A 74) (FD 74)
  b_places_by_word : Binds K (FD 74) ["page"] []
  g_places_by_word : mg "places_by_word" = some (.ref (A 74))
  f_check_shelf : Fun K "check_shelf" "check_shelf" (topS 77) (A 77) (FD 77)
  b_check_shelf : Binds K (FD 77) ["shelf"] []
  g_check_shelf : mg "check_shelf" = some (.ref (A 77))
  f_is_shelved : Fun K "is_shelved" "is_shelved" (topS 78) (A 78) (FD 78)
  b_is_shelved : Binds K (FD 78) ["thing"] []
  g_is_shelved : mg "is_shelved" = some (.ref (A 78))
  f_are_slots : Fun K "are_slots" "are_slots" (topS 79) (A 79) (FD 79)
  b_are_slots : Binds K (FD 79) ["things", "many"] []
  g_are_slots : mg "are_slots" = some (.ref (A 79))
  f_standing_slots : Fun K "standing_slots" "standing_slots" (topS 80) (A 80) (FD 80)
  b_standing_slots : Binds K (FD 80) ["segment", "gone"] []
  g_standing_slots : mg "standing_slots" = some (.ref (A 80))
  f_standing_numbers : Fun K "standing_numbers" "standing_numbers" (topS 81) (A 81) (FD 81)
  b_standing_numbers : Binds K (FD 81) ["segment", "gone"] []
  g_standing_numbers : mg "standing_numbers" = some (.ref (A 81))
  f_standing_words : Fun K "standing_words" "standing_words" (topS 84) (A 84) (FD 84)
  b_standing_words : Binds K (FD 84) ["segment", "gone"] []
  g_standing_words : mg "standing_words" = some (.ref (A 84))
  f_standing_holders : Fun K "standing_holders" "standing_holders" (topS 85) (A 85) (FD 85)
  b_standing_holders : Binds K (FD 85) ["segment", "gone", "word"] []
  g_standing_holders : mg "standing_holders" = some (.ref (A 85))
  f_share : Fun K "share" "share" (topS 86) (A 86) (FD 86)
  b_share : Binds K (FD 86) ["figures", "word", "often", "length"] []
  g_share : mg "share" = some (.ref (A 86))
  f_check_count : Fun K "check_count" "check_count" (topS 87) (A 87) (FD 87)
  b_check_count : Binds K (FD 87) ["many"] []
  g_check_count : mg "check_count" = some (.ref (A 87))
  f_bound : Fun K "bound" "bound" (topS 88) (A 88) (FD 88)
  b_bound : Binds K (FD 88) ["figures", "row", "block"] []
  g_bound : mg "bound" = some (.ref (A 88))
  f_l_purse : Fun K "_law_purse" "_law_purse" (topS 90) (A 90) (FD 90)
  b_l_purse : Binds K (FD 90) ["_law_script", "_law_at"] []
  g_l_purse : mg "_law_purse" = some (.ref (A 90))
  f_l_take : Fun K "_law_take" "_law_take" (topS 91) (A 91) (FD 91)
  b_l_take : Binds K (FD 91) ["_law_purse_here", "_law_many"] []
  g_l_take : mg "_law_take" = some (.ref (A 91))
  f_l_words : Fun K "_law_words" "_law_words" (topS 92) (A 92) (FD 92)
  b_l_words : Binds K (FD 92) ["_law_purse_here"] []
  g_l_words : mg "_law_words" = some (.ref (A 92))
  f_l_text_words : Fun K "_law_text_words" "_law_text_words" (topS 93) (A 93) (FD 93)
  b_l_text_words : Binds K (FD 93) ["_law_purse_here", "_law_words_here", "_law_is_long"] []
  g_l_text_words : mg "_law_text_words" = some (.ref (A 93))
  f_l_pages : Fun K "_law_pages" "_law_pages" (topS 94) (A 94) (FD 94)
  b_l_pages : Binds K (FD 94) ["_law_purse_here", "_law_words_here", "_law_many", "_law_most"] []
  g_l_pages : mg "_law_pages" = some (.ref (A 94))
  f_l_shelf : Fun K "_law_shelf" "_law_shelf" (topS 95) (A 95) (FD 95)
  b_l_shelf : Binds K (FD 95) ["_law_purse_here", "_law_words_here", "_law_segments", "_law_most"] []
  g_l_shelf : mg "_law_shelf" = some (.ref (A 95))
  f_l_page : Fun K "_law_page" "_law_page" (topS 96) (A 96) (FD 96)
  b_l_page : Binds K (FD 96) ["_law_page_here"] []
  g_l_page : mg "_law_page" = some (.ref (A 96))
  f_l_made : Fun K "_law_made" "_law_made" (topS 97) (A 97) (FD 97)
  b_l_made : Binds K (FD 97) ["_law_shelf_here"] []
  g_l_made : mg "_law_made" = some (.ref (A 97))
  f_l_low : Fun K "_law_low" "_law_low" (topS 98) (A 98) (FD 98)
  b_l_low : Binds K (FD 98) ["_law_upper", "_law_lower"] []
  g_l_low : mg "_law_low" = some (.ref (A 98))
  f_l_is_ratio : Fun K "_law_is_ratio" "_law_is_ratio" (topS 99) (A 99) (FD 99)
  b_l_is_ratio : Binds K (FD 99) ["_law_told", "_law_due"] []
  g_l_is_ratio : mg "_law_is_ratio" = some (.ref (A 99))
  f_l_standing : Fun K "_law_standing" "_law_standing" (topS 100) (A 100) (FD 100)
  b_l_standing : Binds K (FD 100) ["_law_shelf_here"] []
  g_l_standing : mg "_law_standing" = some (.ref (A 100))
  f_l_holders : Fun K "_law_holders" "_law_holders" (topS 101) (A 101) (FD 101)
  b_l_holders : Binds K (FD 101) ["_law_alive", "_law_word"] []
  g_l_holders : mg "_law_holders" = some (.ref (A 101))
  f_l_share : Fun K "_law_share" "_law_share" (topS 102) (A 102) (FD 102)
  b_l_share : Binds K (FD 102) ["_law_alive", "_law_word", "_law_often", "_law_length"] []
  g_l_share : mg "_law_share" = some (.ref (A 102))
  f_l_block_right : Fun K "_law_block_right" "_law_block_right" (topS 103) (A 103) (FD 103)
  b_l_block_right : Binds K (FD 103) ["_law_figures", "_law_alive", "_law_row", "_law_block", "_law_here"] []
  g_l_block_right : mg "_law_block_right" = some (.ref (A 103))
  f_l_segment_right : Fun K "_law_segment_right" "_law_segment_right" (topS 104) (A 104) (FD 104)
  b_l_segment_right : Binds K (FD 104) ["_law_figures", "_law_alive", "_law_segment", "_law_pages_here", "_law_broad", "_law_word"] []
  g_l_segment_right : mg "_law_segment_right" = some (.ref (A 104))
  f_law : Fun K "law" "law" (topS 105) (A 105) (FD 105)
  b_law : Binds K (FD 105) ["_law_script"] []
  g_law : mg "law" = some (.ref (A 105))
  m_IndexError : mg "IndexError" = none
  m_KeyError : mg "KeyError" = none
  m_ValueError : mg "ValueError" = none
  m_ZeroDivisionError : mg "ZeroDivisionError" = none
  m_abs : mg "abs" = none
  m_all : mg "all" = none
  m_bool : mg "bool" = none
  m_divmod : mg "divmod" = none
  m_enumerate : mg "enumerate" = none
  m_int : mg "int" = none
  m_isinstance : mg "isinstance" = none
  m_len : mg "len" = none
  m_list : mg "list" = none
  m_max : mg "max" = none
  m_min : mg "min" = none
  m_range : mg "range" = none
  m_set : mg "set" = none
  m_sorted : mg "sorted" = none
  m_str : mg "str" = none
  m_sum : mg "sum" = none
  m_tuple : mg "tuple" = none
  m_zip : mg "zip" = none
  c_MOST_LETTERS : mg "MOST_LETTERS" = some (.int 12 (TK 20))
  c_MOST_WORDS : mg "MOST_WORDS" = some (.int 120 (TK 21))
  c_TOO_GREAT : mg "TOO_GREAT" = some (.int 1000000000000000000000000000000000000000000000000000000000000000000000000000000000000000000000000000000000000000000000000000000000000000000000000000000000000000000000000000000000000000000000000000000000000000000000000000000000000000000000000000000000000000000000000000000000000000000000000000000000000 (TK 28))
  c_FIGURES_AT_ONCE : mg "FIGURES_AT_ONCE" = some (.int 60 (TK 29))
  c_ONE_BEYOND : mg "ONE_BEYOND" = some (.int 1000000000000000000000000000000000000000000000000000000000000 (TK 30))
  c_DIGITS_AHEAD : mg "DIGITS_AHEAD" = some (.str "ABCDEFGHIJKLMNOP" (TK 36))
  c_LAST_DIGITS : mg "LAST_DIGITS" = some (.str "abcdefghijklmnop" (TK 37))
  c_MOST_NUMBER : mg "MOST_NUMBER" = some (.int 9999 (TK 53))
  c_SIZE : mg "SIZE" = some (.int 4 (TK 58))
  c_MOST_SIZE : mg "MOST_SIZE" = some (.int 8 (TK 59))
  c_MOST_LENGTHS : mg "MOST_LENGTHS" = some (.int 60 (TK 60))
  c_MOST_SEGMENTS : mg "MOST_SEGMENTS" = some (.int 8 (TK 76))
  k_Wrong : mg "Wrong" = some (.ref (A 2))
  k_NoWord : mg "NoWord" = some (.ref (A 3))
  k_NoText : mg "NoText" = some (.ref (A 4))
  k_NoNumber : mg "NoNumber" = some (.ref (A 5))
  k_NoSize : mg "NoSize" = some (.ref (A 6))
  k_NoLengths : mg "NoLengths" = some (.ref (A 7))
  k_NoCode : mg "NoCode" = some (.ref (A 8))
  k_NoRow : mg "NoRow" = some (.ref (A 9))
  k_NoEntries : mg "NoEntries" = some (.ref (A 10))
  k_NoPages : mg "NoPages" = some (.ref (A 11))
  k_NoShelf : mg "NoShelf" = some (.ref (A 12))
  k_NoPlace : mg "NoPlace" = some (.ref (A 13))
  k_NoSlot : mg "NoSlot" = some (.ref (A 14))
  k_NoRatio : mg "NoRatio" = some (.ref (A 15))
  k_Ratio : mg "Ratio" = some (.ref (A 31))
  k_Page : mg "Page" = some (.ref (A 54))
  k_Block : mg "Block" = some (.ref (A 61))
  k_Row : mg "Row" = some (.ref (A 62))
  k_Walker : mg "Walker" = some (.ref (A 67))
  k_Segment : mg "Segment" = some (.ref (A 71))
  k_Figures : mg "Figures" = some (.ref (A 83))
  cl_Page : Cls K (A 54)
  n_Page_number : NoAttr K (A 54) "number"
  n_Page_in_turn : NoAttr K (A 54) "in_turn"
  cl_Block : Cls K (A 61)
  n_Block_first : NoAttr K (A 61) "first"
  n_Block_last : NoAttr K (A 61) "last"
  n_Block_many : NoAttr K (A 61) "many"
  n_Block_most : NoAttr K (A 61) "most"
  n_Block_least : NoAttr K (A 61) "least"
  n_Block_coded : NoAttr K (A 61) "coded"
  cl_Row : Cls K (A 62)
  n_Row_word : NoAttr K (A 62) "word"
  n_Row_size : NoAttr K (A 62) "size"
  n_Row_cut : NoAttr K (A 62) "cut"
  cl_Walker : Cls K (A 67)
  n_Walker_heads : NoAttr K (A 67) "heads"
  n_Walker_decoded : NoAttr K (A 67) "decoded"
  n_Walker_standing : NoAttr K (A 67) "standing"
  cl_Segment : Cls K (A 71)
  n_Segment_size : NoAttr K (A 71) "size"
  n_Segment_slot_numbers : NoAttr K (A 71) "slot_numbers"
  n_Segment_slot_lengths : NoAttr K (A 71) "slot_lengths"
  n_Segment_rows : NoAttr K (A 71) "rows"
  cl_Figures : Cls K (A 83)
  n_Figures_parts : NoAttr K (A 83) "parts"
  n_Figures_pages_in_all : NoAttr K (A 83) "pages_in_all"
  n_Figures_words_in_all : NoAttr K (A 83) "words_in_all"
  n_Figures_counted : NoAttr K (A 83) "counted"
  cl_Ratio : Cls K (A 31)
  n_Ratio_top : NoAttr K (A 31) "top"
  n_Ratio_bottom : NoAttr K (A 31) "bottom"
  f_Page_init : FunD K "__init__" "Page.__init__" (defArgs (inClass (topS 54) 0)) (defBody (inClass (topS 54) 0)) (defScope (inClass (topS 54) 0)) [.str ""] [] (A 106) (FD 106)
  M_Page : Mk K (A 54) (A 106)
  f_Page_len : Fun K "__len__" "Page.__len__" (inClass (topS 54) 2) (A 107) (FD 107)
  b_Page_len : Binds K (FD 107) ["self"] []
  M_Page_len : Meth K (A 54) "__len__" (A 107)
  f_Page_words : Fun K "words" "Page.words" (inClass (topS 54) 5) (A 108) (FD 108)
  b_Page_words : Binds K (FD 108) ["self"] []
  M_Page_words : Meth K (A 54) "words" (A 108)
  f_Block_init : Fun K "__init__" "Block.__init__" (inClass (topS 61) 0) (A 109) (FD 109)
  b_Block_init : Binds K (FD 109) ["self", "entries", "lengths"] []
  M_Block : Mk K (A 61) (A 109)
  f_Row_init : FunD K "__init__" "Row.__init__" (defArgs (inClass (topS 62) 0)) (defBody (inClass (topS 62) 0)) (defScope (inClass (topS 62) 0)) [] [("size", .int 4)] (A 110) (FD 110)
  M_Row : Mk K (A 62) (A 110)
  f_Row_len : Fun K "__len__" "Row.__len__" (inClass (topS 62) 2) (A 111) (FD 111)
  b_Row_len : Binds K (FD 111) ["self"] []
  M_Row_len : Meth K (A 62) "__len__" (A 111)
  f_Row_blocks : Fun K "blocks" "Row.blocks" (inClass (topS 62) 3) (A 112) (FD 112)
  b_Row_blocks : Binds K (FD 112) ["self"] []
  M_Row_blocks : Meth K (A 62) "blocks" (A 112)
  f_Walker_init : Fun K "__init__" "Walker.__init__" (inClass (topS 67) 0) (A 113) (FD 113)
  b_Walker_init : Binds K (FD 113) ["self", "row"] []
  M_Walker : Mk K (A 67) (A 113)
  f_Walker_slot : Fun K "slot" "Walker.slot" (inClass (topS 67) 1) (A 114) (FD 114)
  b_Walker_slot : Binds K (FD 114) ["self"] []
  M_Walker_slot : Meth K (A 67) "slot" (A 114)
  f_Walker_seek : Fun K "seek" "Walker.seek" (inClass (topS 67) 3) (A 115) (FD 115)
  b_Walker_seek : Binds K (FD 115) ["self", "slot"] []
  M_Walker_seek : Meth K (A 67) "seek" (A 115)
  f_Walker_entries_in : Fun K "entries_in" "Walker.entries_in" (inClass (topS 67) 10) (A 116) (FD 116)
  b_Walker_entries_in : Binds K (FD 116) ["self", "at"] []
  M_Walker_entries_in : Meth K (A 67) "entries_in" (A 116)
  f_Walker_slot_at : Fun K "slot_at" "Walker.slot_at" (inClass (topS 67) 11) (A 117) (FD 117)
  b_Walker_slot_at : Binds K (FD 117) ["self", "standing"] []
  M_Walker_slot_at : Meth K (A 67) "slot_at" (A 117)
  f_Walker_reaching : Fun K "reaching" "Walker.reaching" (inClass (topS 67) 12) (A 118) (FD 118)
  b_Walker_reaching : Binds K (FD 118) ["self", "slot", "at"] []
  M_Walker_reaching : Meth K (A 67) "reaching" (A 118)
  f_Walker_sought : Fun K "sought" "Walker.sought" (inClass (topS 67) 13) (A 119) (FD 119)
  b_Walker_sought : Binds K (FD 119) ["self", "slot", "standing"] []
  M_Walker_sought : Meth K (A 67) "sought" (A 119)
  f_Segment_init : FunD K "__init__" "Segment.__init__" (defArgs (inClass (topS 71) 0)) (defBody (inClass (topS 71) 0)) (defScope (inClass (topS 71) 0)) [] [("size", .int 4)] (A 120) (FD 120)
  F_Segment_init : FunDC K "__init__" "Segment.__init__" (defArgs (inClass (topS 71) 0)) (defBody (inClass (topS 71) 0)) (defScope (inClass (topS 71) 0)) (A 120) (FD 120) (CC 120)
  M_Segment : Mk K (A 71) (A 120)
  f_Segment_len : Fun K "__len__" "Segment.__len__" (inClass (topS 71) 2) (A 121) (FD 121)
  b_Segment_len : Binds K (FD 121) ["self"] []
  M_Segment_len : Meth K (A 71) "__len__" (A 121)
  f_Segment_numbers : Fun K "numbers" "Segment.numbers" (inClass (topS 71) 3) (A 122) (FD 122)
  b_Segment_numbers : Binds K (FD 122) ["self"] []
  M_Segment_numbers : Meth K (A 71) "numbers" (A 122)
  f_Segment_lengths : Fun K "lengths" "Segment.lengths" (inClass (topS 71) 4) (A 123) (FD 123)
  b_Segment_lengths : Binds K (FD 123) ["self"] []
  M_Segment_lengths : Meth K (A 71) "lengths" (A 123)
  f_Segment_row : Fun K "row" "Segment.row" (inClass (topS 71) 6) (A 124) (FD 124)
  b_Segment_row : Binds K (FD 124) ["self", "word"] []
  M_Segment_row : Meth K (A 71) "row" (A 124)
  f_Figures_init : Fun K "__init__" "Figures.__init__" (inClass (topS 83) 0) (A 125) (FD 125)
  b_Figures_init : Binds K (FD 125) ["self", "shelf"] []
  M_Figures : Mk K (A 83) (A 125)
  f_Figures_holders : Fun K "holders" "Figures.holders" (inClass (topS 83) 1) (A 126) (FD 126)
  b_Figures_holders : Binds K (FD 126) ["self", "word"] []
  M_Figures_holders : Meth K (A 83) "holders" (A 126)
  f_Ratio_init : FunD K "__init__" "Ratio.__init__" (defArgs (inClass (topS 31) 0)) (defBody (inClass (topS 31) 0)) (defScope (inClass (topS 31) 0)) [.int 1] [] (A 127) (FD 127)
  M_Ratio : Mk K (A 31) (A 127)
  f_Ratio_eq : Fun K "__eq__" "Ratio.__eq__" (inClass (topS 31) 1) (A 128) (FD 128)
  b_Ratio_eq : Binds K (FD 128) ["self", "other"] []
  M_Ratio_eq : Meth K (A 31) "__eq__" (A 128)
  f_Ratio_is_less : Fun K "is_less" "Ratio.is_less" (inClass (topS 31) 6) (A 129) (FD 129)
  b_Ratio_is_less : Binds K (FD 129) ["self", "other"] []
  M_Ratio_is_less : Meth K (A 31) "is_less" (A 129)
  cs : PySem.W.specialIn K (.builtin "object.__class__") "__get__" = some (some (.builtin "getset_descriptor.__get__"))
  ct : PySem.W.takesIn K (.builtin "object.__class__") = some true
  ciP : PySem.W.findIn K (.ref (A 54)) "__class__" = some (some (.builtin "object.__class__"))
  moP : PySem.W.mroIn K (A 54) (.type "object") = some true
  kp : PySem.W.kitOne K (.ref (A 54)) (.ref (A 54)) = some true
  ciS : PySem.W.findIn K (.ref (A 71)) "__class__" = some (some (.builtin "object.__class__"))
  moS : PySem.W.mroIn K (A 71) (.type "object") = some true
  kS : PySem.W.kitOne K (.ref (A 71)) (.ref (A 71)) = some true
  ciQ : PySem.W.findIn K (.ref (A 31)) "__class__" = some (some (.builtin "object.__class__"))
  moQ : PySem.W.mroIn K (A 31) (.type "object") = some true
  kQ : PySem.W.kitOne K (.ref (A 31)) (.ref (A 31)) = some true
  neQ : PySem.W.findIn K (.ref (A 31)) "__ne__" = some (some (.builtin "object.__ne__"))
end K37
namespace K37
open PySem PySem.Spec PyProof.Rows L2 My
def hd17 : HX.FD := ⟨250, "is_whole", "is_whole", defArgs (topS 17), defBody (topS 17), defScope (topS 17), [], none, none, (some 249)⟩
def hd18 : HX.FD := ⟨257, "is_within", "is_within", defArgs (topS 18), defBody (topS 18), defScope (topS 18), [], none, none, (some 256)⟩
def hd22 : HX.FD := ⟨262, "is_word", "is_word", defArgs (topS 22), defBody (topS 22), defScope (topS 22), [], none, none, (some 261)⟩
def hd23 : HX.FD := ⟨267, "are_words", "are_words", defArgs (topS 23), defBody (topS 23), defScope (topS 23), [], none, none, (some 266)⟩
def hd24 : HX.FD := ⟨274, "check_word", "check_word", defArgs (topS 24), defBody (topS 24), defScope (topS 24), [], none, none, (some 273)⟩
def hd25 : HX.FD := ⟨281, "words_of", "words_of", defArgs (topS 25), defBody (topS 25), defScope (topS 25), [], none, none, (some 280)⟩
def hd26 : HX.FD := ⟨288, "check_words", "check_words", defArgs (topS 26), defBody (topS 26), defScope (topS 26), [], none, none, (some 287)⟩
def hd32 : HX.FD := ⟨359, "lowest", "lowest", defArgs (topS 32), defBody (topS 32), defScope (topS 32), [], none, none, (some 358)⟩
def hd33 : HX.FD := ⟨366, "check_figures", "check_figures", defArgs (topS 33), defBody (topS 33), defScope (topS 33), [], none, none, (some 365)⟩
def hd38 : HX.FD := ⟨380, "is_count", "is_count", defArgs (topS 38), defBody (topS 38), defScope (topS 38), [], none, none, (some 379)⟩
def hd39 : HX.FD := ⟨387, "code", "code", defArgs (topS 39), defBody (topS 39), defScope (topS 39), [], none, none, (some 386)⟩
def hd40 : HX.FD := ⟨392, "code_all", "code_all", defArgs (topS 40), defBody (topS 40), defScope (topS 40), [], none, none, (some 391)⟩
def hd41 : HX.FD := ⟨397, "code_entries", "code_entries", defArgs (topS 41), defBody (topS 41), defScope (topS 41), [], none, none, (some 396)⟩
def hd42 : HX.FD := ⟨404, "decode_entries", "decode_entries", defArgs (topS 42), defBody (topS 42), defScope (topS 42), [], none, none, (some 403)⟩
def hd43 : HX.FD := ⟨411, "check_entries", "check_entries", defArgs (topS 43), defBody (topS 43), defScope (topS 43), [], none, none, (some 410)⟩
def hd44 : HX.FD := ⟨418, "is_entry", "is_entry", defArgs (topS 44), defBody (topS 44), defScope (topS 44), [], none, none, (some 417)⟩
def hd45 : HX.FD := ⟨425, "are_places", "are_places", defArgs (topS 45), defBody (topS 45), defScope (topS 45), [], none, none, (some 424)⟩
def hd46 : HX.FD := ⟨432, "first_fall", "first_fall", defArgs (topS 46), defBody (topS 46), defScope (topS 46), [], none, none, (some 431)⟩
def hd47 : HX.FD := ⟨439, "gaps_of", "gaps_of", defArgs (topS 47), defBody (topS 47), defScope (topS 47), [], none, none, (some 438)⟩
def hd48 : HX.FD := ⟨446, "risen", "risen", defArgs (topS 48), defBody (topS 48), defScope (topS 48), [], none, none, (some 445)⟩
def hd49 : HX.FD := ⟨453, "check_text", "check_text", defArgs (topS 49), defBody (topS 49), defScope (topS 49), [], none, none, (some 452)⟩
def hd50 : HX.FD := ⟨460, "read_number", "read_number", defArgs (topS 50), defBody (topS 50), defScope (topS 50), [], none, none, (some 459)⟩
def hd51 : HX.FD := ⟨467, "read_numbers", "read_numbers", defArgs (topS 51), defBody (topS 51), defScope (topS 51), [], none, none, (some 466)⟩
def hd55 : HX.FD := ⟨543, "check_page_number", "check_page_number", defArgs (topS 55), defBody (topS 55), defScope (topS 55), [], none, none, (some 542)⟩
def hd56 : HX.FD := ⟨550, "check_pages", "check_pages", defArgs (topS 56), defBody (topS 56), defScope (topS 56), [], none, none, (some 549)⟩
def hd63 : HX.FD := ⟨639, "check_lengths", "check_lengths", defArgs (topS 63), defBody (topS 63), defScope (topS 63), [], none, none, (some 638)⟩
def hd64 : HX.FD := ⟨646, "check_size", "check_size", defArgs (topS 64), defBody (topS 64), defScope (topS 64), [], none, none, (some 645)⟩
def hd65 : HX.FD := ⟨653, "check_fit", "check_fit", defArgs (topS 65), defBody (topS 65), defScope (topS 65), [], none, none, (some 652)⟩
def hd68 : HX.FD := ⟨770, "check_number", "check_number", defArgs (topS 68), defBody (topS 68), defScope (topS 68), [], none, none, (some 769)⟩
def hd73 : HX.FD := ⟨872, "rows_of", "rows_of", defArgs (topS 73), defBody (topS 73), defScope (topS 73), [], none, none, (some 871)⟩
def hd74 : HX.FD := ⟨879, "places_by_word", "places_by_word", defArgs (topS 74), defBody (topS 74), defScope (topS 74), [], none, none, (some 878)⟩
def hd77 : HX.FD := ⟨886, "check_shelf", "check_shelf", defArgs (topS 77), defBody (topS 77), defScope (topS 77), [], none, none, (some 885)⟩
def hd78 : HX.FD := ⟨893, "is_shelved", "is_shelved", defArgs (topS 78), defBody (topS 78), defScope (topS 78), [], none, none, (some 892)⟩
def hd79 : HX.FD := ⟨900, "are_slots", "are_slots", defArgs (topS 79), defBody (topS 79), defScope (topS 79), [], none, none, (some 899)⟩
def hd80 : HX.FD := ⟨905, "standing_slots", "standing_slots", defArgs (topS 80), defBody (topS 80), defScope (topS 80), [], none, none, (some 904)⟩
def hd81 : HX.FD := ⟨910, "standing_numbers", "standing_numbers", defArgs (topS 81), defBody (topS 81), defScope (topS 81), [], none, none, (some 909)⟩
def hd84 : HX.FD := ⟨939, "standing_words", "standing_words", defArgs (topS 84), defBody (topS 84), defScope (topS 84), [], none, none, (some 938)⟩
def hd85 : HX.FD := ⟨944, "standing_holders", "standing_holders", defArgs (topS 85), defBody (topS 85), defScope (topS 85), [], none, none, (some 943)⟩
def hd86 : HX.FD := ⟨951, "share", "share", defArgs (topS 86), defBody (topS 86), defScope (topS 86), [], none, none, (some 950)⟩
def hd87 : HX.FD := ⟨958, "check_count", "check_count", defArgs (topS 87), defBody (topS 87), defScope (topS 87), [], none, none, (some 957)⟩
def hd88 : HX.FD := ⟨965, "bound", "bound", defArgs (topS 88), defBody (topS 88), defScope (topS 88), [], none, none, (some 964)⟩
def hd90 : HX.FD := ⟨972, "_law_purse", "_law_purse", defArgs (topS 90), defBody (topS 90), defScope (topS 90), [], none, none, (some 971)⟩
def hd91 : HX.FD := ⟨979, "_law_take", "_law_take", defArgs (topS 91), defBody (topS 91), defScope (topS 91), [], none, none, (some 978)⟩
def hd92 : HX.FD := ⟨984, "_law_words", "_law_words", defArgs (topS 92), defBody (topS 92), defScope (topS 92), [], none, none, (some 983)⟩
def hd93 : HX.FD := ⟨989, "_law_text_words", "_law_text_words", defArgs (topS 93), defBody (topS 93), defScope (topS 93), [], none, none, (some 988)⟩
def hd94 : HX.FD := ⟨996, "_law_pages", "_law_pages", defArgs (topS 94), defBody (topS 94), defScope (topS 94), [], none, none, (some 995)⟩
def hd95 : HX.FD := ⟨1003, "_law_shelf", "_law_shelf", defArgs (topS 95), defBody (topS 95), defScope (topS 95), [], none, none, (some 1002)⟩
def hd96 : HX.FD := ⟨1010, "_law_page", "_law_page", defArgs (topS 96), defBody (topS 96), defScope (topS 96), [], none, none, (some 1009)⟩
def hd97 : HX.FD := ⟨1015, "_law_made", "_law_made", defArgs (topS 97), defBody (topS 97), defScope (topS 97), [], none, none, (some 1014)⟩
def hd98 : HX.FD := ⟨1022, "_law_low", "_law_low", defArgs (topS 98), defBody (topS 98), defScope (topS 98), [], none, none, (some 1021)⟩
def hd99 : HX.FD := ⟨1029, "_law_is_ratio", "_law_is_ratio", defArgs (topS 99), defBody (topS 99), defScope (topS 99), [], none, none, (some 1028)⟩
def hd100 : HX.FD := ⟨1034, "_law_standing", "_law_standing", defArgs (topS 100), defBody (topS 100), defScope (topS 100), [], none, none, (some 1033)⟩
def hd101 : HX.FD := ⟨1039, "_law_holders", "_law_holders", defArgs (topS 101), defBody (topS 101), defScope (topS 101), [], none, none, (some 1038)⟩
def hd102 : HX.FD := ⟨1044, "_law_share", "_law_share", defArgs (topS 102), defBody (topS 102), defScope (topS 102), [], none, none, (some 1043)⟩
def hd103 : HX.FD := ⟨1049, "_law_block_right", "_law_block_right", defArgs (topS 103), defBody (topS 103), defScope (topS 103), [], none, none, (some 1048)⟩
def hd104 : HX.FD := ⟨1054, "_law_segment_right", "_law_segment_right", defArgs (topS 104), defBody (topS 104), defScope (topS 104), [], none, none, (some 1053)⟩
def hd105 : HX.FD := ⟨1061, "law", "law", defArgs (topS 105), defBody (topS 105), defScope (topS 105), [], none, none, (some 1060)⟩
def hd106 : HX.FD := ⟨482, "__init__", "Page.__init__", defArgs (inClass (topS 54) 0), defBody (inClass (topS 54) 0), defScope (inClass (topS 54) 0), [], (some 475), none, (some 481)⟩
def hd107 : HX.FD := ⟨496, "__len__", "Page.__len__", defArgs (inClass (topS 54) 2), defBody (inClass (topS 54) 2), defScope (inClass (topS 54) 2), [], none, none, (some 495)⟩
def hd108 : HX.FD := ⟨517, "words", "Page.words", defArgs (inClass (topS 54) 5), defBody (inClass (topS 54) 5), defScope (inClass (topS 54) 5), [], none, none, (some 516)⟩
def hd109 : HX.FD := ⟨562, "__init__", "Block.__init__", defArgs (inClass (topS 61) 0), defBody (inClass (topS 61) 0), defScope (inClass (topS 61) 0), [], none, none, (some 561)⟩
def hd110 : HX.FD := ⟨603, "__init__", "Row.__init__", defArgs (inClass (topS 62) 0), defBody (inClass (topS 62) 0), defScope (inClass (topS 62) 0), [], none, (some 598), (some 602)⟩
def hd111 : HX.FD := ⟨615, "__len__", "Row.__len__", defArgs (inClass (topS 62) 2), defBody (inClass (topS 62) 2), defScope (inClass (topS 62) 2), [], none, none, (some 614)⟩
def hd112 : HX.FD := ⟨622, "blocks", "Row.blocks", defArgs (inClass (topS 62) 3), defBody (inClass (topS 62) 3), defScope (inClass (topS 62) 3), [], none, none, (some 621)⟩
def hd113 : HX.FD := ⟨667, "__init__", "Walker.__init__", defArgs (inClass (topS 67) 0), defBody (inClass (topS 67) 0), defScope (inClass (topS 67) 0), [], none, none, (some 666)⟩
def hd114 : HX.FD := ⟨674, "slot", "Walker.slot", defArgs (inClass (topS 67) 1), defBody (inClass (topS 67) 1), defScope (inClass (topS 67) 1), [], none, none, (some 673)⟩
def hd115 : HX.FD := ⟨688, "seek", "Walker.seek", defArgs (inClass (topS 67) 3), defBody (inClass (topS 67) 3), defScope (inClass (topS 67) 3), [], none, none, (some 687)⟩
def hd116 : HX.FD := ⟨737, "entries_in", "Walker.entries_in", defArgs (inClass (topS 67) 10), defBody (inClass (topS 67) 10), defScope (inClass (topS 67) 10), [], none, none, (some 736)⟩
def hd117 : HX.FD := ⟨744, "slot_at", "Walker.slot_at", defArgs (inClass (topS 67) 11), defBody (inClass (topS 67) 11), defScope (inClass (topS 67) 11), [], none, none, (some 743)⟩
def hd118 : HX.FD := ⟨751, "reaching", "Walker.reaching", defArgs (inClass (topS 67) 12), defBody (inClass (topS 67) 12), defScope (inClass (topS 67) 12), [], none, none, (some 750)⟩
def hd119 : HX.FD := ⟨756, "sought", "Walker.sought", defArgs (inClass (topS 67) 13), defBody (inClass (topS 67) 13), defScope (inClass (topS 67) 13), [], none, none, (some 755)⟩
def hd120 : HX.FD := ⟨790, "__init__", "Segment.__init__", defArgs (inClass (topS 71) 0), defBody (inClass (topS 71) 0), defScope (inClass (topS 71) 0), [], none, (some 785), (some 789)⟩
def hd121 : HX.FD := ⟨804, "__len__", "Segment.__len__", defArgs (inClass (topS 71) 2), defBody (inClass (topS 71) 2), defScope (inClass (topS 71) 2), [], none, none, (some 803)⟩
def hd122 : HX.FD := ⟨811, "numbers", "Segment.numbers", defArgs (inClass (topS 71) 3), defBody (inClass (topS 71) 3), defScope (inClass (topS 71) 3), [], none, none, (some 810)⟩
def hd123 : HX.FD := ⟨818, "lengths", "Segment.lengths", defArgs (inClass (topS 71) 4), defBody (inClass (topS 71) 4), defScope (inClass (topS 71) 4), [], none, none, (some 817)⟩
def hd124 : HX.FD := ⟨832, "row", "Segment.row", defArgs (inClass (topS 71) 6), defBody (inClass (topS 71) 6), defScope (inClass (topS 71) 6), [], none, none, (some 831)⟩
def hd125 : HX.FD := ⟨922, "__init__", "Figures.__init__", defArgs (inClass (topS 83) 0), defBody (inClass (topS 83) 0), defScope (inClass (topS 83) 0), [], none, none, (some 921)⟩
def hd126 : HX.FD := ⟨927, "holders", "Figures.holders", defArgs (inClass (topS 83) 1), defBody (inClass (topS 83) 1), defScope (inClass (topS 83) 1), [], none, none, (some 926)⟩
def hd127 : HX.FD := ⟨303, "__init__", "Ratio.__init__", defArgs (inClass (topS 31) 0), defBody (inClass (topS 31) 0), defScope (inClass (topS 31) 0), [], (some 296), none, (some 302)⟩
def hd128 : HX.FD := ⟨310, "__eq__", "Ratio.__eq__", defArgs (inClass (topS 31) 1), defBody (inClass (topS 31) 1), defScope (inClass (topS 31) 1), [], none, none, (some 309)⟩
def hd129 : HX.FD := ⟨345, "is_less", "Ratio.is_less", defArgs (inClass (topS 31) 6), defBody (inClass (topS 31) 6), defScope (inClass (topS 31) 6), [], none, none, (some 344)⟩
def hfn0 : List HX.FD := [hd17, hd18, hd22, hd23, hd24, hd25, hd26, hd32, hd33, hd38, hd39, hd40, hd41, hd42, hd43, hd44, hd45, hd46, hd47, hd48, hd49, hd50, hd51, hd55, hd56, hd63, hd64, hd65, hd68, hd73]
def hfn1 : List HX.FD := [hd74, hd77, hd78, hd79, hd80, hd81, hd84, hd85, hd86, hd87, hd88, hd90, hd91, hd92, hd93, hd94, hd95, hd96, hd97, hd98, hd99, hd100, hd101, hd102, hd103, hd104, hd105, hd106, hd107, hd108]
def hfn2 : List HX.FD := [hd109, hd110, hd111, hd112, hd113, hd114, hd115, hd116, hd117, hd118, hd119, hd120, hd121, hd122, hd123, hd124, hd125, hd126, hd127, hd128, hd129]
def hfn : List HX.FD := hfn0 ++ hfn1 ++ hfn2
def hfs0 : List (PySem.W.Frag → Bool) := [
  fun K => HX.refB (PySem.W.nsIn K mainGlobals "is_whole") 250,
  fun K => PySem.W.keepIn K (.ref 250),
  fun K => HX.refB (PySem.W.nsIn K mainGlobals "is_within") 257,
  fun K => PySem.W.keepIn K (.ref 257),
  fun K => HX.refB (PySem.W.nsIn K mainGlobals "is_word") 262,
  fun K => PySem.W.keepIn K (.ref 262),
  fun K => HX.refB (PySem.W.nsIn K mainGlobals "are_words") 267,
  fun K => PySem.W.keepIn K (.ref 267),
  fun K => HX.refB (PySem.W.nsIn K mainGlobals "check_word") 274,
  fun K => PySem.W.keepIn K (.ref 274),
  fun K => HX.refB (PySem.W.nsIn K mainGlobals "words_of") 281,
  fun K => PySem.W.keepIn K (.ref 281),
  fun K => HX.refB (PySem.W.nsIn K mainGlobals "check_words") 288,
  fun K => PySem.W.keepIn K (.ref 288),
  fun K => HX.refB (PySem.W.nsIn K mainGlobals "lowest") 359,
  fun K => PySem.W.keepIn K (.ref 359),
  fun K => HX.refB (PySem.W.nsIn K mainGlobals "check_figures") 366,
  fun K => PySem.W.keepIn K (.ref 366),
  fun K => HX.refB (PySem.W.nsIn K mainGlobals "is_count") 380,
  fun K => PySem.W.keepIn K (.ref 380),
  fun K => HX.refB (PySem.W.nsIn K mainGlobals "code") 387,
  fun K => PySem.W.keepIn K (.ref 387),
  fun K => HX.refB (PySem.W.nsIn K mainGlobals "code_all") 392,
  fun K => PySem.W.keepIn K (.ref 392),
  fun K => HX.refB (PySem.W.nsIn K mainGlobals "code_entries") 397,
  fun K => PySem.W.keepIn K (.ref 397),
  fun K => HX.refB (PySem.W.nsIn K mainGlobals "decode_entries") 404,
  fun K => PySem.W.keepIn K (.ref 404),
  fun K => HX.refB (PySem.W.nsIn K mainGlobals "check_entries") 411,
  fun K => PySem.W.keepIn K (.ref 411)]
def hfs1 : List (PySem.W.Frag → Bool) := [
  fun K => HX.refB (PySem.W.nsIn K mainGlobals "is_entry") 418,
  fun K => PySem.W.keepIn K (.ref 418),
  fun K => HX.refB (PySem.W.nsIn K mainGlobals "are_places") 425,
  fun K => PySem.W.keepIn K (.ref 425),
  fun K => HX.refB (PySem.W.nsIn K mainGlobals "first_fall") 432,
  fun K => PySem.W.keepIn K (.ref 432),
  fun K => HX.refB (PySem.W.nsIn K mainGlobals "gaps_of") 439,
  fun K => PySem.W.keepIn K (.ref 439),
  fun K => HX.refB (PySem.W.nsIn K mainGlobals "risen") 446,
  fun K => PySem.W.keepIn K (.ref 446),
  fun K => HX.refB (PySem.W.nsIn K mainGlobals "check_text") 453,
  fun K => PySem.W.keepIn K (.ref 453),
  fun K => HX.refB (PySem.W.nsIn K mainGlobals "read_number") 460,
  fun K => PySem.W.keepIn K (.ref 460),
  fun K => HX.refB (PySem.W.nsIn K mainGlobals "read_numbers") 467,
  fun K => PySem.W.keepIn K (.ref 467),
  fun K => HX.refB (PySem.W.nsIn K mainGlobals "check_page_number") 543,
  fun K => PySem.W.keepIn K (.ref 543),
  fun K => HX.refB (PySem.W.nsIn K mainGlobals "check_pages") 550,
  fun K => PySem.W.keepIn K (.ref 550),
  fun K => HX.refB (PySem.W.nsIn K mainGlobals "check_lengths") 639,
  fun K => PySem.W.keepIn K (.ref 639),
  fun K => HX.refB (PySem.W.nsIn K mainGlobals "check_size") 646,
  fun K => PySem.W.keepIn K (.ref 646),
  fun K => HX.refB (PySem.W.nsIn K mainGlobals "check_fit") 653,
  fun K => PySem.W.keepIn K (.ref 653),
  fun K => HX.refB (PySem.W.nsIn K mainGlobals "check_number") 770,
  fun K => PySem.W.keepIn K (.ref 770),
  fun K => HX.refB (PySem.W.nsIn K mainGlobals "rows_of") 872,
  fun K => PySem.W.keepIn K (.ref 872)]
def hfs2 : List (PySem.W.Frag → Bool) := [
  fun K => HX.refB (PySem.W.nsIn K mainGlobals "places_by_word") 879,
  fun K => PySem.W.keepIn K (.ref 879),
  fun K => HX.refB (PySem.W.nsIn K mainGlobals "check_shelf") 886,
  fun K => PySem.W.keepIn K (.ref 886),
  fun K => HX.refB (PySem.W.nsIn K mainGlobals "is_shelved") 893,
  fun K => PySem.W.keepIn K (.ref 893),
  fun K => HX.refB (PySem.W.nsIn K mainGlobals "are_slots") 900,
  fun K => PySem.W.keepIn K (.ref 900),
  fun K => HX.refB (PySem.W.nsIn K mainGlobals "standing_slots") 905,
  fun K => PySem.W.keepIn K (.ref 905),
  fun K => HX.refB (PySem.W.nsIn K mainGlobals "standing_numbers") 910,
  fun K => PySem.W.keepIn K (.ref 910),
  fun K => HX.refB (PySem.W.nsIn K mainGlobals "standing_words") 939,
  fun K => PySem.W.keepIn K (.ref 939),
  fun K => HX.refB (PySem.W.nsIn K mainGlobals "standing_holders") 944,
  fun K => PySem.W.keepIn K (.ref 944),
  fun K => HX.refB (PySem.W.nsIn K mainGlobals "share") 951,
  fun K => PySem.W.keepIn K (.ref 951),
  fun K => HX.refB (PySem.W.nsIn K mainGlobals "check_count") 958,
  fun K => PySem.W.keepIn K (.ref 958),
  fun K => HX.refB (PySem.W.nsIn K mainGlobals "bound") 965,
  fun K => PySem.W.keepIn K (.ref 965),
  fun K => HX.refB (PySem.W.nsIn K mainGlobals "_law_purse") 972,
  fun K => PySem.W.keepIn K (.ref 972),
  fun K => HX.refB (PySem.W.nsIn K mainGlobals "_law_take") 979,
  fun K => PySem.W.keepIn K (.ref 979),
  fun K => HX.refB (PySem.W.nsIn K mainGlobals "_law_words") 984,
  fun K => PySem.W.keepIn K (.ref 984),
  fun K => HX.refB (PySem.W.nsIn K mainGlobals "_law_text_words") 989,
  fun K => PySem.W.keepIn K (.ref 989)]
def hfs3 : List (PySem.W.Frag → Bool) := [
  fun K => HX.refB (PySem.W.nsIn K mainGlobals "_law_pages") 996,
  fun K => PySem.W.keepIn K (.ref 996),
  fun K => HX.refB (PySem.W.nsIn K mainGlobals "_law_shelf") 1003,
  fun K => PySem.W.keepIn K (.ref 1003),
  fun K => HX.refB (PySem.W.nsIn K mainGlobals "_law_page") 1010,
  fun K => PySem.W.keepIn K (.ref 1010),
  fun K => HX.refB (PySem.W.nsIn K mainGlobals "_law_made") 1015,
  fun K => PySem.W.keepIn K (.ref 1015),
  fun K => HX.refB (PySem.W.nsIn K mainGlobals "_law_low") 1022,
  fun K => PySem.W.keepIn K (.ref 1022),
  fun K => HX.refB (PySem.W.nsIn K mainGlobals "_law_is_ratio") 1029,
  fun K => PySem.W.keepIn K (.ref 1029),
  fun K => HX.refB (PySem.W.nsIn K mainGlobals "_law_standing") 1034,
  fun K => PySem.W.keepIn K (.ref 1034),
  fun K => HX.refB (PySem.W.nsIn K mainGlobals "_law_holders") 1039,
  fun K => PySem.W.keepIn K (.ref 1039),
  fun K => HX.refB (PySem.W.nsIn K mainGlobals "_law_share") 1044,
  fun K => PySem.W.keepIn K (.ref 1044),
  fun K => HX.refB (PySem.W.nsIn K mainGlobals "_law_block_right") 1049,
  fun K => PySem.W.keepIn K (.ref 1049),
  fun K => HX.refB (PySem.W.nsIn K mainGlobals "_law_segment_right") 1054,
  fun K => PySem.W.keepIn K (.ref 1054),
  fun K => HX.refB (PySem.W.nsIn K mainGlobals "law") 1061,
  fun K => PySem.W.keepIn K (.ref 1061),
  fun K => HX.noB (PySem.W.nsIn K mainGlobals "IndexError"),
  fun K => HX.noB (PySem.W.nsIn K mainGlobals "KeyError"),
  fun K => HX.noB (PySem.W.nsIn K mainGlobals "ValueError"),
  fun K => HX.noB (PySem.W.nsIn K mainGlobals "ZeroDivisionError"),
  fun K => HX.noB (PySem.W.nsIn K mainGlobals "abs"),
  fun K => HX.noB (PySem.W.nsIn K mainGlobals "all")]
def hfs4 : List (PySem.W.Frag → Bool) := [
  fun K => HX.noB (PySem.W.nsIn K mainGlobals "bool"),
  fun K => HX.noB (PySem.W.nsIn K mainGlobals "divmod"),
  fun K => HX.noB (PySem.W.nsIn K mainGlobals "enumerate"),
  fun K => HX.noB (PySem.W.nsIn K mainGlobals "int"),
  fun K => HX.noB (PySem.W.nsIn K mainGlobals "isinstance"),
  fun K => HX.noB (PySem.W.nsIn K mainGlobals "len"),
  fun K => HX.noB (PySem.W.nsIn K mainGlobals "list"),
  fun K => HX.noB (PySem.W.nsIn K mainGlobals "max"),
  fun K => HX.noB (PySem.W.nsIn K mainGlobals "min"),
  fun K => HX.noB (PySem.W.nsIn K mainGlobals "range"),
  fun K => HX.noB (PySem.W.nsIn K mainGlobals "set"),
  fun K => HX.noB (PySem.W.nsIn K mainGlobals "sorted"),
  fun K => HX.noB (PySem.W.nsIn K mainGlobals "str"),
  fun K => HX.noB (PySem.W.nsIn K mainGlobals "sum"),
  fun K => HX.noB (PySem.W.nsIn K mainGlobals "tuple"),
  fun K => HX.noB (PySem.W.nsIn K mainGlobals "zip"),
  fun K => HX.litB (PySem.W.nsIn K mainGlobals "MOST_LETTERS") (.int 12),
  fun K => HX.litB (PySem.W.nsIn K mainGlobals "MOST_WORDS") (.int 120),
  fun K => HX.litB (PySem.W.nsIn K mainGlobals "TOO_GREAT") (.int 1000000000000000000000000000000000000000000000000000000000000000000000000000000000000000000000000000000000000000000000000000000000000000000000000000000000000000000000000000000000000000000000000000000000000000000000000000000000000000000000000000000000000000000000000000000000000000000000000000000000000),
  fun K => HX.litB (PySem.W.nsIn K mainGlobals "FIGURES_AT_ONCE") (.int 60),
  fun K => HX.litB (PySem.W.nsIn K mainGlobals "ONE_BEYOND") (.int 1000000000000000000000000000000000000000000000000000000000000),
  fun K => HX.litB (PySem.W.nsIn K mainGlobals "DIGITS_AHEAD") (.str "ABCDEFGHIJKLMNOP"),
  fun K => HX.litB (PySem.W.nsIn K mainGlobals "LAST_DIGITS") (.str "abcdefghijklmnop"),
  fun K => HX.litB (PySem.W.nsIn K mainGlobals "MOST_NUMBER") (.int 9999),
  fun K => HX.litB (PySem.W.nsIn K mainGlobals "SIZE") (.int 4),
  fun K => HX.litB (PySem.W.nsIn K mainGlobals "MOST_SIZE") (.int 8),
  fun K => HX.litB (PySem.W.nsIn K mainGlobals "MOST_LENGTHS") (.int 60),
  fun K => HX.litB (PySem.W.nsIn K mainGlobals "MOST_SEGMENTS") (.int 8),
  fun K => HX.refB (PySem.W.nsIn K mainGlobals "Wrong") 31,
  fun K => HX.refB (PySem.W.nsIn K mainGlobals "NoWord") 44]
def hfs5 : List (PySem.W.Frag → Bool) := [
  fun K => HX.refB (PySem.W.nsIn K mainGlobals "NoText") 56,
  fun K => HX.refB (PySem.W.nsIn K mainGlobals "NoNumber") 68,
  fun K => HX.refB (PySem.W.nsIn K mainGlobals "NoSize") 80,
  fun K => HX.refB (PySem.W.nsIn K mainGlobals "NoLengths") 92,
  fun K => HX.refB (PySem.W.nsIn K mainGlobals "NoCode") 114,
  fun K => HX.refB (PySem.W.nsIn K mainGlobals "NoRow") 136,
  fun K => HX.refB (PySem.W.nsIn K mainGlobals "NoEntries") 158,
  fun K => HX.refB (PySem.W.nsIn K mainGlobals "NoPages") 180,
  fun K => HX.refB (PySem.W.nsIn K mainGlobals "NoShelf") 202,
  fun K => HX.refB (PySem.W.nsIn K mainGlobals "NoPlace") 214,
  fun K => HX.refB (PySem.W.nsIn K mainGlobals "NoSlot") 227,
  fun K => HX.refB (PySem.W.nsIn K mainGlobals "NoRatio") 240,
  fun K => HX.refB (PySem.W.nsIn K mainGlobals "Ratio") 348,
  fun K => HX.refB (PySem.W.nsIn K mainGlobals "Page") 532,
  fun K => HX.refB (PySem.W.nsIn K mainGlobals "Block") 586,
  fun K => HX.refB (PySem.W.nsIn K mainGlobals "Row") 630,
  fun K => HX.refB (PySem.W.nsIn K mainGlobals "Walker") 759,
  fun K => HX.refB (PySem.W.nsIn K mainGlobals "Segment") 856,
  fun K => HX.refB (PySem.W.nsIn K mainGlobals "Figures") 930,
  fun K => PySem.W.plainGet K 532 Str.empty,
  fun K => PySem.W.hasDictIn K 532,
  fun K => PySem.W.plainOver K 532,
  fun K => He.eqO (PySem.W.findIn K (.ref 532) "__setattr__") (some (some (.builtin "object.__setattr__"))),
  fun K => PySem.W.makesIn K 532,
  fun K => PySem.W.keepIn K (.ref 532),
  fun K => HX.noB (PySem.W.findIn K (.ref 532) "number"),
  fun K => HX.noB (PySem.W.findIn K (.ref 532) "in_turn"),
  fun K => PySem.W.plainGet K 586 Str.empty,
  fun K => PySem.W.hasDictIn K 586,
  fun K => PySem.W.plainOver K 586]
def hfs6 : List (PySem.W.Frag → Bool) := [
  fun K => He.eqO (PySem.W.findIn K (.ref 586) "__setattr__") (some (some (.builtin "object.__setattr__"))),
  fun K => PySem.W.makesIn K 586,
  fun K => PySem.W.keepIn K (.ref 586),
  fun K => HX.noB (PySem.W.findIn K (.ref 586) "first"),
  fun K => HX.noB (PySem.W.findIn K (.ref 586) "last"),
  fun K => HX.noB (PySem.W.findIn K (.ref 586) "many"),
  fun K => HX.noB (PySem.W.findIn K (.ref 586) "most"),
  fun K => HX.noB (PySem.W.findIn K (.ref 586) "least"),
  fun K => HX.noB (PySem.W.findIn K (.ref 586) "coded"),
  fun K => PySem.W.plainGet K 630 Str.empty,
  fun K => PySem.W.hasDictIn K 630,
  fun K => PySem.W.plainOver K 630,
  fun K => He.eqO (PySem.W.findIn K (.ref 630) "__setattr__") (some (some (.builtin "object.__setattr__"))),
  fun K => PySem.W.makesIn K 630,
  fun K => PySem.W.keepIn K (.ref 630),
  fun K => HX.noB (PySem.W.findIn K (.ref 630) "word"),
  fun K => HX.noB (PySem.W.findIn K (.ref 630) "size"),
  fun K => HX.noB (PySem.W.findIn K (.ref 630) "cut"),
  fun K => PySem.W.plainGet K 759 Str.empty,
  fun K => PySem.W.hasDictIn K 759,
  fun K => PySem.W.plainOver K 759,
  fun K => He.eqO (PySem.W.findIn K (.ref 759) "__setattr__") (some (some (.builtin "object.__setattr__"))),
  fun K => PySem.W.makesIn K 759,
  fun K => PySem.W.keepIn K (.ref 759),
  fun K => HX.noB (PySem.W.findIn K (.ref 759) "heads"),
  fun K => HX.noB (PySem.W.findIn K (.ref 759) "decoded"),
  fun K => HX.noB (PySem.W.findIn K (.ref 759) "standing"),
  fun K => PySem.W.plainGet K 856 Str.empty,
  fun K => PySem.W.hasDictIn K 856,
  fun K => PySem.W.plainOver K 856]
def hfs7 : List (PySem.W.Frag → Bool) := [
  fun K => He.eqO (PySem.W.findIn K (.ref 856) "__setattr__") (some (some (.builtin "object.__setattr__"))),
  fun K => PySem.W.makesIn K 856,
  fun K => PySem.W.keepIn K (.ref 856),
  fun K => HX.noB (PySem.W.findIn K (.ref 856) "size"),
  fun K => HX.noB (PySem.W.findIn K (.ref 856) "slot_numbers"),
  fun K => HX.noB (PySem.W.findIn K (.ref 856) "slot_lengths"),
  fun K => HX.noB (PySem.W.findIn K (.ref 856) "rows"),
  fun K => PySem.W.plainGet K 930 Str.empty,
  fun K => PySem.W.hasDictIn K 930,
  fun K => PySem.W.plainOver K 930,
  fun K => He.eqO (PySem.W.findIn K (.ref 930) "__setattr__") (some (some (.builtin "object.__setattr__"))),
  fun K => PySem.W.makesIn K 930,
  fun K => PySem.W.keepIn K (.ref 930),
  fun K => HX.noB (PySem.W.findIn K (.ref 930) "parts"),
  fun K => HX.noB (PySem.W.findIn K (.ref 930) "pages_in_all"),
  fun K => HX.noB (PySem.W.findIn K (.ref 930) "words_in_all"),
  fun K => HX.noB (PySem.W.findIn K (.ref 930) "counted"),
  fun K => PySem.W.plainGet K 348 Str.empty,
  fun K => PySem.W.hasDictIn K 348,
  fun K => PySem.W.plainOver K 348,
  fun K => He.eqO (PySem.W.findIn K (.ref 348) "__setattr__") (some (some (.builtin "object.__setattr__"))),
  fun K => PySem.W.makesIn K 348,
  fun K => PySem.W.keepIn K (.ref 348),
  fun K => HX.noB (PySem.W.findIn K (.ref 348) "top"),
  fun K => HX.noB (PySem.W.findIn K (.ref 348) "bottom"),
  fun K => HX.refB (PySem.W.findIn K (.ref 532) "__init__") 482,
  fun K => PySem.W.isFn K (.ref 482),
  fun K => PySem.W.keepIn K (.ref 482),
  fun K => HX.seqB K 475 [.str ""],
  fun K => HX.refB (PySem.W.findIn K (.ref 532) "__len__") 496]
def hfs8 : List (PySem.W.Frag → Bool) := [
  fun K => PySem.W.isFn K (.ref 496),
  fun K => PySem.W.keepIn K (.ref 496),
  fun K => HX.refB (PySem.W.findIn K (.ref 532) "words") 517,
  fun K => PySem.W.isFn K (.ref 517),
  fun K => PySem.W.keepIn K (.ref 517),
  fun K => HX.refB (PySem.W.findIn K (.ref 586) "__init__") 562,
  fun K => PySem.W.isFn K (.ref 562),
  fun K => PySem.W.keepIn K (.ref 562),
  fun K => HX.refB (PySem.W.findIn K (.ref 630) "__init__") 603,
  fun K => PySem.W.isFn K (.ref 603),
  fun K => PySem.W.keepIn K (.ref 603),
  fun K => HX.litB (PySem.W.nsIn K 598 "size") (.int 4),
  fun K => HX.refB (PySem.W.findIn K (.ref 630) "__len__") 615,
  fun K => PySem.W.isFn K (.ref 615),
  fun K => PySem.W.keepIn K (.ref 615),
  fun K => HX.refB (PySem.W.findIn K (.ref 630) "blocks") 622,
  fun K => PySem.W.isFn K (.ref 622),
  fun K => PySem.W.keepIn K (.ref 622),
  fun K => HX.refB (PySem.W.findIn K (.ref 759) "__init__") 667,
  fun K => PySem.W.isFn K (.ref 667),
  fun K => PySem.W.keepIn K (.ref 667),
  fun K => HX.refB (PySem.W.findIn K (.ref 759) "slot") 674,
  fun K => PySem.W.isFn K (.ref 674),
  fun K => PySem.W.keepIn K (.ref 674),
  fun K => HX.refB (PySem.W.findIn K (.ref 759) "seek") 688,
  fun K => PySem.W.isFn K (.ref 688),
  fun K => PySem.W.keepIn K (.ref 688),
  fun K => HX.refB (PySem.W.findIn K (.ref 759) "entries_in") 737,
  fun K => PySem.W.isFn K (.ref 737),
  fun K => PySem.W.keepIn K (.ref 737)]
def hfs9 : List (PySem.W.Frag → Bool) := [
  fun K => HX.refB (PySem.W.findIn K (.ref 759) "slot_at") 744,
  fun K => PySem.W.isFn K (.ref 744),
  fun K => PySem.W.keepIn K (.ref 744),
  fun K => HX.refB (PySem.W.findIn K (.ref 759) "reaching") 751,
  fun K => PySem.W.isFn K (.ref 751),
  fun K => PySem.W.keepIn K (.ref 751),
  fun K => HX.refB (PySem.W.findIn K (.ref 759) "sought") 756,
  fun K => PySem.W.isFn K (.ref 756),
  fun K => PySem.W.keepIn K (.ref 756),
  fun K => HX.refB (PySem.W.findIn K (.ref 856) "__init__") 790,
  fun K => PySem.W.isFn K (.ref 790),
  fun K => PySem.W.keepIn K (.ref 790),
  fun K => HX.litB (PySem.W.nsIn K 785 "size") (.int 4),
  fun K => HX.refB (PySem.W.findIn K (.ref 856) "__len__") 804,
  fun K => PySem.W.isFn K (.ref 804),
  fun K => PySem.W.keepIn K (.ref 804),
  fun K => HX.refB (PySem.W.findIn K (.ref 856) "numbers") 811,
  fun K => PySem.W.isFn K (.ref 811),
  fun K => PySem.W.keepIn K (.ref 811),
  fun K => HX.refB (PySem.W.findIn K (.ref 856) "lengths") 818,
  fun K => PySem.W.isFn K (.ref 818),
  fun K => PySem.W.keepIn K (.ref 818),
  fun K => HX.refB (PySem.W.findIn K (.ref 856) "row") 832,
  fun K => PySem.W.isFn K (.ref 832),
  fun K => PySem.W.keepIn K (.ref 832),
  fun K => HX.refB (PySem.W.findIn K (.ref 930) "__init__") 922,
  fun K => PySem.W.isFn K (.ref 922),
  fun K => PySem.W.keepIn K (.ref 922),
  fun K => HX.refB (PySem.W.findIn K (.ref 930) "holders") 927,
  fun K => PySem.W.isFn K (.ref 927)]
def hfs10 : List (PySem.W.Frag → Bool) := [
  fun K => PySem.W.keepIn K (.ref 927),
  fun K => HX.refB (PySem.W.findIn K (.ref 348) "__init__") 303,
  fun K => PySem.W.isFn K (.ref 303),
  fun K => PySem.W.keepIn K (.ref 303),
  fun K => HX.seqB K 296 [.int 1],
  fun K => HX.refB (PySem.W.findIn K (.ref 348) "__eq__") 310,
  fun K => PySem.W.isFn K (.ref 310),
  fun K => PySem.W.keepIn K (.ref 310),
  fun K => HX.refB (PySem.W.findIn K (.ref 348) "is_less") 345,
  fun K => PySem.W.isFn K (.ref 345),
  fun K => PySem.W.keepIn K (.ref 345),
  fun K => decide (PySem.W.specialIn K (.builtin "object.__class__") "__get__" = some (some (.builtin "getset_descriptor.__get__"))),
  fun K => decide (PySem.W.takesIn K (.builtin "object.__class__") = some true),
  fun K => decide (PySem.W.findIn K (.ref 532) "__class__" = some (some (.builtin "object.__class__"))),
  fun K => decide (PySem.W.mroIn K 532 (.type "object") = some true),
  fun K => decide (PySem.W.kitOne K (.ref 532) (.ref 532) = some true),
  fun K => decide (PySem.W.findIn K (.ref 856) "__class__" = some (some (.builtin "object.__class__"))),
  fun K => decide (PySem.W.mroIn K 856 (.type "object") = some true),
  fun K => decide (PySem.W.kitOne K (.ref 856) (.ref 856) = some true),
  fun K => decide (PySem.W.findIn K (.ref 348) "__class__" = some (some (.builtin "object.__class__"))),
  fun K => decide (PySem.W.mroIn K 348 (.type "object") = some true),
  fun K => decide (PySem.W.kitOne K (.ref 348) (.ref 348) = some true),
  fun K => decide (PySem.W.findIn K (.ref 348) "__ne__" = some (some (.builtin "object.__ne__"))),
  fun K => PySem.W.codeHdIn K 789 787]
def hfs : List (List (PySem.W.Frag → Bool)) := [hfs0, hfs1, hfs2, hfs3, hfs4, hfs5, hfs6, hfs7, hfs8, hfs9, hfs10]
def has0 : List Addr := [2, 3, 250, 249, 257, 256, 262, 261, 267, 266, 274, 273, 281, 280, 288, 287, 359, 358, 366, 365, 380, 379, 387, 386, 392, 391, 397, 396, 404, 403]
def has1 : List Addr := [411, 410, 418, 417, 425, 424, 432, 431, 439, 438, 446, 445, 453, 452, 460, 459, 467, 466, 543, 542, 550, 549, 639, 638, 646, 645, 653, 652, 770, 769]
def has2 : List Addr := [872, 871, 879, 878, 886, 885, 893, 892, 900, 899, 905, 904, 910, 909, 939, 938, 944, 943, 951, 950, 958, 957, 965, 964, 972, 971, 979, 978, 984, 983]
def has3 : List Addr := [989, 988, 996, 995, 1003, 1002, 1010, 1009, 1015, 1014, 1022, 1021, 1029, 1028, 1034, 1033, 1039, 1038, 1044, 1043, 1049, 1048, 1054, 1053, 1061, 1060, 31, 30, 44, 43]
def has4 : List Addr := [56, 55, 68, 67, 80, 79, 92, 91, 114, 113, 136, 135, 158, 157, 180, 179, 202, 201, 214, 213, 227, 226, 240, 239, 348, 347, 532, 531, 586, 585]
def has5 : List Addr := [630, 629, 759, 758, 856, 855, 930, 929, 482, 481, 475, 496, 495, 517, 516, 562, 561, 603, 602, 598, 615, 614, 622, 621, 667, 666, 674, 673, 688, 687]
def has6 : List Addr := [737, 736, 744, 743, 751, 750, 756, 755, 790, 789, 785, 804, 803, 811, 810, 818, 817, 832, 831, 922, 921, 927, 926, 303, 302, 296, 310, 309, 345, 344]
def has : List Addr := has0 ++ has1 ++ has2 ++ has3 ++ has4 ++ has5 ++ has6
def hts : List Addr := [787]
def hloose0 : List PySem.Str := [PySem.Str.ofString "_wall", PySem.Str.ofString "Wrong", PySem.Str.ofString "NoWord", PySem.Str.ofString "NoText", PySem.Str.ofString "NoNumber", PySem.Str.ofString "NoSize", PySem.Str.ofString "NoLengths", PySem.Str.ofString "NoCode", PySem.Str.ofString "NoRow", PySem.Str.ofString "NoEntries", PySem.Str.ofString "NoPages", PySem.Str.ofString "NoShelf", PySem.Str.ofString "NoPlace", PySem.Str.ofString "NoSlot", PySem.Str.ofString "NoRatio", PySem.Str.ofString "is_whole", PySem.Str.ofString "is_within", PySem.Str.ofString "MOST_LETTERS", PySem.Str.ofString "MOST_WORDS", PySem.Str.ofString "is_word", PySem.Str.ofString "are_words", PySem.Str.ofString "check_word", PySem.Str.ofString "words_of", PySem.Str.ofString "check_words", PySem.Str.ofString "TOO_GREAT", PySem.Str.ofString "FIGURES_AT_ONCE", PySem.Str.ofString "ONE_BEYOND", PySem.Str.ofString "Ratio", PySem.Str.ofString "lowest", PySem.Str.ofString "check_figures"]
def hloose1 : List PySem.Str := [PySem.Str.ofString "figures_of", PySem.Str.ofString "DIGITS_AHEAD", PySem.Str.ofString "LAST_DIGITS", PySem.Str.ofString "is_count", PySem.Str.ofString "code", PySem.Str.ofString "code_all", PySem.Str.ofString "code_entries", PySem.Str.ofString "decode_entries", PySem.Str.ofString "check_entries", PySem.Str.ofString "is_entry", PySem.Str.ofString "are_places", PySem.Str.ofString "first_fall", PySem.Str.ofString "gaps_of", PySem.Str.ofString "risen", PySem.Str.ofString "check_text", PySem.Str.ofString "read_number", PySem.Str.ofString "read_numbers", PySem.Str.ofString "MOST_NUMBER", PySem.Str.ofString "Page", PySem.Str.ofString "check_page_number", PySem.Str.ofString "check_pages", PySem.Str.ofString "SIZE", PySem.Str.ofString "MOST_SIZE", PySem.Str.ofString "MOST_LENGTHS", PySem.Str.ofString "Block", PySem.Str.ofString "Row", PySem.Str.ofString "check_lengths", PySem.Str.ofString "check_size", PySem.Str.ofString "check_fit", PySem.Str.ofString "Walker"]
def hloose2 : List PySem.Str := [PySem.Str.ofString "check_number", PySem.Str.ofString "places_at", PySem.Str.ofString "Segment", PySem.Str.ofString "check_slot", PySem.Str.ofString "rows_of", PySem.Str.ofString "places_by_word", PySem.Str.ofString "MOST_SEGMENTS", PySem.Str.ofString "check_shelf", PySem.Str.ofString "is_shelved", PySem.Str.ofString "are_slots", PySem.Str.ofString "standing_slots", PySem.Str.ofString "standing_numbers", PySem.Str.ofString "Figures", PySem.Str.ofString "standing_words", PySem.Str.ofString "standing_holders", PySem.Str.ofString "share", PySem.Str.ofString "check_count", PySem.Str.ofString "bound", PySem.Str.ofString "_law_purse", PySem.Str.ofString "_law_take", PySem.Str.ofString "_law_words", PySem.Str.ofString "_law_text_words", PySem.Str.ofString "_law_pages", PySem.Str.ofString "_law_shelf", PySem.Str.ofString "_law_page", PySem.Str.ofString "_law_made", PySem.Str.ofString "_law_low", PySem.Str.ofString "_law_is_ratio", PySem.Str.ofString "_law_standing", PySem.Str.ofString "_law_holders"]
def hloose3 : List PySem.Str := [PySem.Str.ofString "_law_share", PySem.Str.ofString "_law_block_right", PySem.Str.ofString "_law_segment_right"]
def hloose : List PySem.Str := hloose0 ++ hloose1 ++ hloose2 ++ hloose3
abbrev hR : PySem.W.OpenRow := PySem.W.OpenLaw.row PySem.Challenge.rw_blocksearch_k37_whole_bounds_hold
abbrev hk : PySem.W.Hook := HX.hookY has hts hfn hfs
def hob (s : PySem.W.SharedT) : HX.AlY := HX.obsY has hts hfn hfs (HandSHeadRun.getT s)
theorem hob_eq (s : PySem.W.SharedT) : hob s = hk.obs s.abs := HX.obsY_eq (HandSHeadRun.getT_eq s)
set_option maxHeartbeats 0 in
theorem hrun (w : World) : HandSHeadRun.RunEq hR (PySem.W.view hR.prog [105]) hk hob 17164 hloose w := by
  intro os
  kernel_rfl
end K37
namespace K37
open PySem PySem.Spec PyProof.Rows L2 Evl My TL
section
variable {P : Program} {w : World} {K : PySem.W.Frag} {mg : Str → Option Value} {base : Heap} {A : Nat → Addr} {FD : Nat → FuncData} {TK : Nat → Tok} {CC : Nat → Addr}
/-! ### great numbers, fields as targets -/
theorem op_fdivWN {X : Cx} : OpR X (binaryOp .FloorDiv) (rI (fun _ j => j ≠ 0 ∧ j.natAbs.log2 < 9000) fun i j => .int (i.fdiv j)) := opI fun _ _ _ _ _ _ _ hc q => floordiv_int hc.1 q (.inl (PyProof.noPylong_of_log2 hc.2))
theorem op_powW {X : Cx} : OpR X (binaryOp .Pow) (rI (fun i j => 0 ≤ j ∧ j ≤ 1000 ∧ i.natAbs < 2 ^ 10000) fun i j => .int (i ^ j.toNat)) := opI fun i j _ _ _ _ _ hc q => by
  obtain ⟨h1, h2, h3⟩ := hc
  refine pow_int h1 ?_ q
  have hb := PyProof.Rows.intBits_le h3
  have e : (Builtin.Int.intBits i : Int) * j ≤ 10000 * 1000 := Int.mul_le_mul (by omega) h2 h1 (by decide)
  exact Int.le_trans e (by decide)
/-- o.f = .. as a target -/
def gFld (K : PySem.W.Frag) (ta : TE) (f : Str) : TG := fun v σ H Q => ta σ H fun x H2 => ∃ a C dx fs, x = .ref a ∧ H2 a = some (.ins C dx fs) ∧ Cls K C ∧ NoAttr K C f ∧ fs.length < 1000 ∧ Q σ (upd H2 a (.ins C dx (putF f v fs)))
theorem pg_fld {X : Cx} {o : Expr} {ta : TE} {f : Str} {pos : Pos} (ha : PE X o ta) : PG X (.Attribute o f pos) (gFld X.K ta f) := by
  refine ⟨fun pins s σ H v u Q I r h => ?_⟩
  rw [PySem.assign_Attribute]
  refine wpAny_bind (wpAny_holding (thn (ha.run pins s σ H _ I h) fun ov s1 ⟨x, H1, I1, rx, a, C, dx, fs, ex, ea, c, n, l, q⟩ => ?_))
  subst ex
  obtain rfl : ov = Value.ref a := rx
  refine wpAny_bind (wpAny_standAt (wpAny_bind (wpAny_holding (setattr_ok I1 ea c n l r fun s2 I2 => ?_))))
  exact wpAny_release ⟨σ, _, I2, q⟩
theorem lt2 {z : Int} {n m : Nat} (h : z.natAbs < 2 ^ n) (l : n ≤ m) : z.natAbs < 2 ^ m := Nat.lt_of_lt_of_le h (Nat.pow_le_pow_right (by decide) l)
theorem add2 {x y : Int} {n : Nat} (h : x.natAbs < 2 ^ n) (h' : y.natAbs < 2 ^ n) : (x + y).natAbs < 2 ^ (n + 1) := by
  rw [Nat.pow_succ]
  omega
theorem mul2 {x y : Int} {n m : Nat} (h : x.natAbs < 2 ^ n) (h' : y.natAbs < 2 ^ m) : (x * y).natAbs < 2 ^ (n + m) := wide_lt h h'
theorem log9 {z : Int} {n : Nat} (h : z.natAbs < 2 ^ n) (h0 : 0 < n) (l : n ≤ 9000) : z.natAbs.log2 < 9000 := Nat.lt_of_lt_of_le (PySem.Flt.log2_lt_of h0 h) l
theorem cmul2 {x y : Int} {n m : Nat} (h : x.natAbs < 2 ^ n) (h' : y.natAbs < 2 ^ m) (l : n + m ≤ 900000) : CMulW x y := wide_mul (lt2 h (Nat.le_succ n)) (lt2 h' (Nat.le_succ m)) (by omega) (by omega) (by omega)

/-! ### lowest terms -/
def gd (t b : Int) : Int := if b < 0 then -((Nat.gcd t.natAbs b.natAbs : Nat) : Int) else ((Nat.gcd t.natAbs b.natAbs : Nat) : Int)
def lwT (t b : Int) : Int := t.fdiv (gd t b)
def lwB (t b : Int) : Int := b.fdiv (gd t b)
/-- in lowest terms -/
def Nm (t b : Int) : Prop := 0 < b ∧ Nat.gcd t.natAbs b.natAbs = 1
theorem gcd_pos {t b : Int} (h : b ≠ 0) : 0 < Nat.gcd t.natAbs b.natAbs := Nat.gcd_pos_of_pos_right _ (by omega)
theorem gd_ne {t b : Int} (h : b ≠ 0) : gd t b ≠ 0 := by
  have := gcd_pos (t := t) h
  unfold gd
  split <;> omega
theorem gd_abs (t b : Int) : (gd t b).natAbs = Nat.gcd t.natAbs b.natAbs := by
  unfold gd
  split <;> omega
theorem gd_le {t b : Int} {n : Nat} (h : b ≠ 0) (hb : b.natAbs < 2 ^ n) : (gd t b).natAbs < 2 ^ n := by
  rw [gd_abs]
  exact Nat.lt_of_le_of_lt (Nat.gcd_le_right _ (by omega)) hb
theorem gd_dvd_t (t b : Int) : gd t b ∣ t := by
  rw [← Int.natAbs_dvd_natAbs, gd_abs]
  exact Nat.gcd_dvd_left ..
theorem gd_dvd_b (t b : Int) : gd t b ∣ b := by
  rw [← Int.natAbs_dvd_natAbs, gd_abs]
  exact Nat.gcd_dvd_right ..
theorem lw_mul_t {t b : Int} : lwT t b * gd t b = t := by
  unfold lwT
  exact Int.fdiv_mul_cancel (gd_dvd_t t b)
theorem lw_mul_b {t b : Int} : lwB t b * gd t b = b := by
  unfold lwB
  exact Int.fdiv_mul_cancel (gd_dvd_b t b)
theorem abs_le_of_mul {x g y : Int} (h : x * g = y) (hg : g ≠ 0) : x.natAbs ≤ y.natAbs := by
  rw [← h, Int.natAbs_mul]
  exact Nat.le_mul_of_pos_right _ (by omega)
theorem lwT_le {t b : Int} (h : b ≠ 0) : (lwT t b).natAbs ≤ t.natAbs := abs_le_of_mul lw_mul_t (gd_ne h)
theorem lwB_le {t b : Int} (h : b ≠ 0) : (lwB t b).natAbs ≤ b.natAbs := abs_le_of_mul lw_mul_b (gd_ne h)
theorem lw_nm {t b : Int} (h : b ≠ 0) : Nm (lwT t b) (lwB t b) := by
  have ht := lw_mul_t (t := t) (b := b)
  have hb := lw_mul_b (t := t) (b := b)
  have hg := gd_ne (t := t) h
  constructor
  · have p : (0 : Int) < ((Nat.gcd t.natAbs b.natAbs : Nat) : Int) := by have := gcd_pos (t := t) h; omega
    generalize lwB t b = y at hb
    unfold gd at hb
    generalize ((Nat.gcd t.natAbs b.natAbs : Nat) : Int) = g at hb p
    refine Int.lt_of_not_ge fun z => ?_
    have z1 : y * g ≤ 0 := Int.mul_nonpos_of_nonpos_of_nonneg z (Int.le_of_lt p)
    split at hb
    · have : y * -g = -(y * g) := Int.mul_neg ..
      omega
    · omega
  · have e : Nat.gcd t.natAbs b.natAbs = Nat.gcd (lwT t b).natAbs (lwB t b).natAbs * (gd t b).natAbs := by
      rw [← Nat.gcd_mul_right, ← Int.natAbs_mul, ← Int.natAbs_mul, ht, hb]
    rw [gd_abs] at e
    have p := gcd_pos (t := t) h
    exact Nat.eq_of_mul_eq_mul_right p (by rw [← e, Nat.one_mul])
theorem nm_gd {t b : Int} (h : Nm t b) : gd t b = 1 := by
  unfold gd
  rw [h.2, if_neg (by have := h.1; omega)]
  rfl
theorem nm_t {t b : Int} (h : Nm t b) : lwT t b = t := by
  unfold lwT
  rw [nm_gd h, Int.fdiv_one]
theorem nm_b {t b : Int} (h : Nm t b) : lwB t b = b := by
  unfold lwB
  rw [nm_gd h, Int.fdiv_one]
theorem nm_neg {t b : Int} (h : Nm t b) : Nm (0 - t) b := ⟨h.1, by rw [show (0 - t).natAbs = t.natAbs by omega]; exact h.2⟩

/-! ### _law_take of a purse -/
def spTake : Sp := fun vs H Q _ => ∃ (p : Addr) (m : Int) (c : Nat), vs = [.ref p, .int m] ∧ Pl H p c ∧ 0 < m ∧ m < 18446744073709551616 ∧ c < 1000000 ∧
  ∀ (d : Int) (H' : Hp), 0 ≤ d → d < m → Pl H' p (c + 1) → Fx p H H' → Q (.int d) H'
set_option maxHeartbeats 4000000 in
theorem ok_l_take (T : TX K mg A FD TK CC) : FnOk P w K mg base CX0 1 (A 91) (FD 91) ["_law_purse_here", "_law_many"] spTake := by
  refine T.f_l_take.ok sc_l_take (fun vs H Q E h => ?_) (fun cdv A' outer s H vs Q E hr h => ?_)
  · obtain ⟨p, m, c, rfl, _⟩ := h
    rfl
  · obtain ⟨p, m, c, rfl, ⟨g, b, k, hp, hg, hb, hb2, hk⟩, hm, hm2, hc, q⟩ := h
    refine ⟨_, (pss_cons (ps_if (pt_cmpR op_gt (pe_ix (ixLK (K := K) rfl) (pv 0) pe_int (fun _ _ => rfl)) pe_int (nomark _))
      (pss_cons (ps_set (i := 2) sc_l_take.nd rfl (.inl rfl) (pe_op op_mod (pe_ix (ixLK (K := K) rfl) (pv 0) pe_int (fun _ _ => rfl)) (pv 1)))
      (pss_cons (ps_asg (pe_op op_fdivW (pe_ix (ixLK (K := K) rfl) (pv 0) pe_int (fun _ _ => rfl)) (pv 1)) (pg_sub (pv 0) pe_int set_list))
      (pss_one (ps_ret (pv 2)))))
      pss_nil)
      (pss_cons (ps_asg (pe_op op_add (pe_ix (ixLK (K := K) rfl) (pv 0) pe_int (fun _ _ => rfl)) pe_int) (pg_sub (pv 0) pe_int set_list))
      (pss_cons (ps_set (i := 3) sc_l_take.nd rfl (.inl rfl) (pe_op op_mod (pe_op op_powW (pe_op op_add (pe_ix (ixLK (K := K) rfl) (pv 0) pe_int (fun _ _ => rfl)) (pe_op op_mulW (pe_op op_mulW pe_int (pe_ix (ixLK (K := K) rfl) (pv 0) pe_int (fun _ _ => rfl))) (pe_ix (ixLK (K := K) rfl) (pv 0) pe_int (fun _ _ => rfl)))) pe_int) pe_int))
      (pss_one (ps_ret (pe_op op_mod (pe_op op_fdivW (pe_op op_mod (pe_op op_add (pe_op op_mulW (pv 3) (pe_op op_add (pv 3) pe_int)) (pe_ix (ixLK (K := K) rfl) (pv 0) pe_int (fun _ _ => rfl))) pe_int) pe_int) (pv 1))))))), ?_⟩
    refine ⟨.ref p, rfl, p, _, 0, .int g, rfl, rfl, SqL.of hp, atI_nat (j := 0) rfl, g, 0, rfl, rfl, _, rfl, ite2 (fun e => ?_) (fun e => ?_)⟩
    · refine ⟨.ref p, rfl, p, _, 0, .int g, rfl, rfl, SqL.of hp, atI_nat (j := 0) rfl, .int m, rfl, g, m, rfl, rfl, hm, ?_⟩
      refine ⟨.ref p, rfl, p, _, 0, .int g, rfl, rfl, SqL.of hp, atI_nat (j := 0) rfl, .int m, rfl, g, m, rfl, rfl, wide_div (b := 64) hm (by omega) (by decide) (by decide), .ref p, rfl, p, _, 0, 0, rfl, rfl, hp, rfl, ?_⟩
      refine ⟨.int (g % m), rfl, ?_⟩
      exact q _ _ (Int.emod_nonneg _ (by omega)) (Int.emod_lt_of_pos _ hm) ⟨g / m, b, k, upd_same, Int.ediv_nonneg hg (by omega), hb, hb2, by omega⟩ Fx.upd
    · have hp1 : (upd H p (.lst [.int g, .int b, .int ((k : Int) + 1)])) p = some (.lst [.int g, .int b, .int ((k : Int) + 1)]) := upd_same
      refine ⟨.ref p, rfl, p, _, 2, .int k, rfl, rfl, SqL.of hp, atI_nat (j := 2) rfl, k, 1, rfl, rfl, .ref p, rfl, p, _, 2, 2, rfl, rfl, hp, rfl, ?_⟩
      have t0 : (0 : Int) ≤ (k : Int) + 1 := by omega
      have t1 : (k : Int) + 1 ≤ 1000000 := by omega
      have s1 : 0 ≤ 50021 * ((k : Int) + 1) ∧ 50021 * ((k : Int) + 1) ≤ 50021000000 := by omega
      have s2 : 0 ≤ 50021 * ((k : Int) + 1) * ((k : Int) + 1) := mul_nn s1.1 t0
      have s3 : 50021 * ((k : Int) + 1) * ((k : Int) + 1) ≤ 50021000000 * 1000000 := mul_le s1.1 s1.2 t0 t1
      have b1 : (b + 50021 * ((k : Int) + 1) * ((k : Int) + 1)).natAbs < 2 ^ 100 := natAbs_lt (by omega) (by omega)
      refine ⟨.ref p, rfl, p, _, 1, .int b, rfl, rfl, SqL.of hp1, atI_nat (j := 1) rfl, .ref p, rfl, p, _, 2, .int ((k : Int) + 1), rfl, rfl, SqL.of hp1, atI_nat (j := 2) rfl, 50021, (k : Int) + 1, rfl, rfl, cmul2 (n := 20) (m := 20) (by decide) (by omega) (by decide), .ref p, rfl, p, _, 2, .int ((k : Int) + 1), rfl, rfl, SqL.of hp1, atI_nat (j := 2) rfl, 50021 * ((k : Int) + 1), (k : Int) + 1, rfl, rfl, cmul2 (n := 40) (m := 20) (by omega) (by omega) (by decide),
        b, 50021 * ((k : Int) + 1) * ((k : Int) + 1), rfl, rfl, b + 50021 * ((k : Int) + 1) * ((k : Int) + 1), 2, rfl, rfl, ⟨by decide, by decide, lt2 b1 (by decide)⟩,
        _, 2305843009213693951, rfl, rfl, (show (0 : Int) < 2305843009213693951 by decide), ?_⟩
      have o0 : 0 ≤ (b + 50021 * ((k : Int) + 1) * ((k : Int) + 1)) ^ Int.toNat 2 % 2305843009213693951 := Int.emod_nonneg _ (by decide)
      have o1 : (b + 50021 * ((k : Int) + 1) * ((k : Int) + 1)) ^ Int.toNat 2 % 2305843009213693951 < 2305843009213693951 := Int.emod_lt_of_pos _ (by decide)
      dsimp only
      generalize (b + 50021 * ((k : Int) + 1) * ((k : Int) + 1)) ^ Int.toNat 2 % 2305843009213693951 = one at o0 o1 ⊢
      refine ⟨.int one, rfl, .int one, rfl, one, 3, rfl, rfl, one, one + 3, rfl, rfl, cmul2 (n := 64) (m := 64) (by omega) (by omega) (by decide), .ref p, rfl, p, _, 2, .int ((k : Int) + 1), rfl, rfl, SqL.of hp1, atI_nat (j := 2) rfl, _, _, rfl, rfl, _, 998244353, rfl, rfl, (show (0 : Int) < 998244353 by decide), _, 7, rfl, rfl, wide_div (b := 64) (by decide) (by decide) (by decide) (by decide), .int m, rfl, _, m, rfl, rfl, hm, ?_⟩
      exact q _ _ (Int.emod_nonneg _ (by omega)) (Int.emod_lt_of_pos _ hm) ⟨g, b, k + 1, upd_same, hg, hb, hb2, by omega⟩ Fx.upd

/-! ### _law_purse -/
def spPurse (K : PySem.W.Frag) : Sp := fun vs H Q _ => ∃ (a : Addr) (ns : List Int) (j : Nat), vs = [.ref a, .int (j : Int)] ∧ SqL K H a (ns.map V.int) ∧ ns.length ≤ 63 ∧ j ≤ 1000 ∧
  ∀ (p : Addr) (H' : Hp), H p = none → Ex H H' → Pl H' p 0 → Q (.ref p) H'
set_option maxHeartbeats 4000000 in
theorem ok_l_purse (T : TX K mg A FD TK CC) : FnOk P w K mg base CX0 1 (A 90) (FD 90) ["_law_script", "_law_at"] (spPurse K) := by
  refine T.f_l_purse.ok sc_l_purse (fun vs H Q E h => ?_) (fun cdv A' outer s H vs Q E hr h => ?_)
  · obtain ⟨a, ns, j, rfl, _⟩ := h
    rfl
  · obtain ⟨a, ns, j, rfl, hS, hn, hj, q⟩ := h
    refine ⟨_, (pss_cons (ps_set (i := 2) sc_l_purse.nd rfl (.inl rfl) pe_int)
      (pss_cut (ps_if (pt_cmpR op_lt (pv 1) (pe_callB (lenK (K := K) rfl) (by rfl) T.m_len (by decide +kernel) (pa_cons (pv 0) pa_nil)) (nomark _))
      (pss_one (ps_set (i := 2) sc_l_purse.nd rfl (.inl rfl) (pe_ix (ixLK (K := K) rfl) (pv 0) (pv 1) (fun _ _ => rfl))))
      pss_nil)
      (pss_cons (ps_set (i := 3) sc_l_purse.nd rfl (.inl rfl) (pe_op op_mul (pe_callB call_abs (by rfl) T.m_abs (by decide +kernel) (pa_cons (pv 2) pa_nil)) (pe_callTy call_int1 (by rfl) T.m_int (by decide +kernel) (pa_cons (pe_cmpR op_ge (pe_callB call_abs (by rfl) T.m_abs (by decide +kernel) (pa_cons (pv 2) pa_nil)) (pe_op op_pow pe_int pe_int) (nomark _)) pa_nil))))
      (pss_one (ps_ret (pe_lst (pa_cons (pv 3) (pa_cons (pe_op op_add (pe_op op_add (pe_op op_mul (pe_op op_mod (pv 2) (pe_op op_pow pe_int pe_int)) pe_int) (pe_op op_mul pe_int (pv 1))) pe_int) (pa_cons pe_int pa_nil))))))))), ?_⟩
    refine ⟨fun σ' H' => H' = H ∧ ∃ z : Int, σ' = [some (.ref a), some (.int (j : Int)), some (.int z), none], ?_, ?_⟩
    · refine ⟨.int (j : Int), rfl, .ref a, rfl, a, _, rfl, .inl hS, _, _, rfl, rfl, _, rfl, ite2 (fun e => ?_) (fun e => ?_)⟩
      · have e0 : (j : Int) < ((ns.map V.int).length : Int) := of_decide_eq_true e
        have e1 : j < ns.length := by
          rw [List.length_map] at e0
          omega
        refine ⟨.ref a, rfl, .int (j : Int), rfl, a, _, _, .int ns[j], rfl, rfl, hS, atI_nat (j := j) ?_, rfl, ns[j], rfl⟩
        rw [List.getElem?_map, List.getElem?_eq_getElem e1]
        rfl
      · exact ⟨rfl, 0, rfl⟩
    · rintro σ' H' ⟨rfl, z, rfl⟩
      have f0 : 0 ≤ (if z < 0 then -z else z) := by split <;> omega
      refine ⟨.int z, rfl, z, rfl, .int z, rfl, z, rfl, ?_⟩
      generalize (if z < 0 then -z else z) = far at f0 ⊢
      refine ⟨10, 18, rfl, rfl, ⟨by decide, by decide, by decide⟩, far, _, rfl, rfl, .inr ⟨_, rfl, ?_⟩⟩
      generalize hd : decide ((10 : Int) ^ Int.toNat 18 ≤ far) = big
      refine ⟨far, _, rfl, rfl, .inr ⟨?_, ?_⟩, ?_⟩
      · cases big <;> decide
      · cases big <;> decide
      have m0 : 0 ≤ z % (10 ^ Int.toNat 18) := Int.emod_nonneg _ (by decide)
      have m1 : z % (10 ^ Int.toNat 18) < (10 ^ Int.toNat 18) := Int.emod_lt_of_pos _ (by decide)
      refine ⟨.int (far * b2i big), rfl, .int z, rfl, 10, 18, rfl, rfl, ⟨by decide, by decide, by decide⟩, z, _, rfl, rfl, (show (0 : Int) < 10 ^ Int.toNat 18 by decide), ?_⟩
      dsimp only
      generalize z % (10 ^ Int.toNat 18) = y at m0 m1 ⊢
      have m2 : y < 1000000000000000000 := m1
      refine ⟨y, 1000003, rfl, rfl, .inl ⟨by omega, by omega⟩, .int (j : Int), rfl, 7919, (j : Int), rfl, rfl, .inl ⟨by decide, by decide⟩, _, _, rfl, rfl, _, 17, rfl, rfl, (by show 3 ≤ sizeLine; decide), fun p np => ?_⟩
      refine q p _ np (ex_upd np) ⟨_, _, 0, upd_same, ?_, ?_, ?_, Nat.le_refl _⟩
      · cases big
        · show (0 : Int) ≤ far * 0
          omega
        · show (0 : Int) ≤ far * 1
          omega
      · omega
      · omega

theorem pool_ne {H : Hp} {p a : Addr} {c : Nat} (h : Pl H p c) (n : H a = none) : a ≠ p := by
  obtain ⟨xs, hx⟩ := h.some
  exact (ne_of_none hx n).symm
theorem pl_upd {H : Hp} {p a : Addr} {c : Nat} {o : HO} (h : Pl H p c) (n : a ≠ p) : Pl (upd H a o) p c := by
  obtain ⟨g, b, k, x1, x2⟩ := h
  exact ⟨g, b, k, by rw [upd_ne n.symm]; exact x1, x2⟩

/-! ### texts: words, pieces between blanks -/
/-- a word: one to twelve letters a to z -/
def isW (z : Str) : Bool := decide (1 ≤ z.cps.size) && decide (z.cps.size ≤ 12) && z.cps.toList.all fun c => decide (97 ≤ c) && decide (c ≤ 122)
def wordV : V → Bool
  | .str z => isW z
  | _ => false
/-- the things that are asked of -/
inductive Th (H : Hp) : V → Prop
  | str (z : Str) (h : z.length ≤ 100000) : Th H (.str z)
  | non : Th H .non
  | bl (b : Bool) : Th H (.bl b)
  | int (i : Int) : Th H (.int i)
  | lst {a : Addr} {xs : List V} (h : H a = some (.lst xs)) : Th H (.ref a)
  | tup {a : Addr} {xs : List V} (h : H a = some (.tup xs)) : Th H (.ref a)
theorem Th.ex {H H' : Hp} {v : V} (t : Th H v) (e : Ex H H') : Th H' v := by
  cases t with
  | str z h => exact .str z h
  | non => exact .non
  | bl b => exact .bl b
  | int i => exact .int i
  | lst h => exact .lst (e _ _ h)
  | tup h => exact .tup (e _ _ h)
theorem Th.exN {H H' : Hp} {v : V} (t : Th H v) (e : LamX.ExtN H H') : Th H' v := by
  cases t with
  | str z h => exact .str z h
  | non => exact .non
  | bl b => exact .bl b
  | int i => exact .int i
  | lst h => exact .lst (e _ _ h (by intro ps z; cases z))
  | tup h => exact .tup (e _ _ h (by intro ps z; cases z))
/-- a text, or a thing of another kind -/
theorem Th.kinds (K : PySem.W.Frag) {H : Hp} {v : V} (t : Th H v) : (∃ z, v = .str z ∧ z.length ≤ 100000) ∨ (∃ ty, TyX K H v (.type ty) ∧ kitB ty "str" = some false ∧ wordV v = false ∧ ∀ z, v ≠ .str z) := by
  cases t with
  | str z h => exact .inl ⟨z, rfl, h⟩
  | non => exact .inr ⟨_, .base .non, by decide +kernel, rfl, fun z e => by cases e⟩
  | bl b => exact .inr ⟨_, .base (.bl b), by decide +kernel, rfl, fun z e => by cases e⟩
  | int i => exact .inr ⟨_, .base (.int i), by decide +kernel, rfl, fun z e => by cases e⟩
  | lst h => exact .inr ⟨_, .base (.lst h), by decide +kernel, rfl, fun z e => by cases e⟩
  | tup h => exact .inr ⟨_, .base (.tup h), by decide +kernel, rfl, fun z e => by cases e⟩
theorem lt_one (a b : Nat) : decide (([a] : List Nat) < [b]) = decide (a < b) := by
  by_cases h : a < b
  · rw [decide_eq_true h]
    exact decide_eq_true (List.Lex.rel h)
  · rw [decide_eq_false h]
    refine decide_eq_false fun z => ?_
    cases z with
    | rel h' => exact h h'
    | cons h' => cases h'
theorem isW_len {z : Str} (h : isW z = true) : z.length ≤ 12 := by
  unfold isW at h
  rw [Bool.and_eq_true, Bool.and_eq_true, decide_eq_true_eq, decide_eq_true_eq] at h
  exact h.1.2
/-! ### split by a blank, joined again -/
theorem spl_len : ∀ (xs acc : List Nat), (spl [32] 0 acc xs).length ≤ xs.length + 1
  | [], acc => Nat.le_refl _
  | c :: r, acc => by
    rw [spl]
    split
    · have := spl_len r []
      show (spl [32] 0 [] r).length + 1 ≤ (c :: r).length + 1
      rw [List.length_cons]
      omega
    · have := spl_len r (acc ++ [c])
      rw [List.length_cons]
      omega
theorem spl_short : ∀ (xs acc : List Nat), ∀ p ∈ spl [32] 0 acc xs, p.length ≤ acc.length + xs.length
  | [], acc, p, h => by
    rw [spl, List.mem_singleton] at h
    rw [h]
    exact Nat.le_refl _
  | c :: r, acc, p, h => by
    rw [spl] at h
    split at h
    · rcases List.mem_cons.mp h with rfl | h
      · omega
      · have := spl_short r [] p h
        rw [List.length_nil] at this
        rw [List.length_cons]
        omega
    · have := spl_short r (acc ++ [c]) p h
      rw [List.length_append, List.length_cons, List.length_nil] at this
      rw [List.length_cons]
      omega
theorem spl_ne (xs acc : List Nat) : spl [32] 0 acc xs ≠ [] := by
  cases xs with
  | nil => rw [spl]; simp
  | cons c r =>
    rw [spl]
    split
    · simp
    · exact spl_ne r (acc ++ [c])
theorem joinL_cons {S p : List Nat} {q : List (List Nat)} (h : q ≠ []) : joinL S (p :: q) = p ++ (S ++ joinL S q) := by
  cases q with
  | nil => exact absurd rfl h
  | cons x r => rw [joinL]
theorem join_spl : ∀ (xs acc : List Nat), joinL [32] (spl [32] 0 acc xs) = acc ++ xs
  | [], acc => by
    rw [spl, joinL, List.append_nil]
  | c :: r, acc => by
    rw [spl]
    split
    · rename_i h
      have hc : c = 32 := by simpa [pre] using h
      show joinL [32] (acc :: spl [32] 0 [] r) = _
      rw [joinL_cons (spl_ne r []), join_spl r [], hc]
      simp
    · rw [join_spl r (acc ++ [c])]
      simp
theorem split_tl (z : Str) : (Txt.split z " ").map tl = spl [32] 0 [] (tl z) := split_spl z " " (by decide) (kind_ok (by decide +kernel))
theorem join_split (z : Str) : Txt.join " " (Txt.split z " ") = z := by
  refine ext_tl ?_
  rw [join_eq, tl_join, split_tl]
  exact (join_spl (tl z) []).trans (List.nil_append _)
theorem tl_len (z : Str) : (tl z).length = z.length := by
  show z.cps.toList.length = z.cps.size
  simp
theorem split_len (z : Str) : (Txt.split z " ").length ≤ z.length + 1 := by
  have h := spl_len (tl z) []
  rw [← split_tl, List.length_map, tl_len] at h
  exact h
theorem split_short {z p : Str} (h : p ∈ Txt.split z " ") : p.length ≤ z.length := by
  have h2 : tl p ∈ spl [32] 0 [] (tl z) := by
    rw [← split_tl]
    exact List.mem_map_of_mem h
  have h3 := spl_short _ _ _ h2
  rw [tl_len, tl_len, List.length_nil] at h3
  omega
/-- the words of a text, if it were one -/
def piecesOf (z : Str) : List Str := if z.length = 0 then [] else Txt.split z " "
def okP (ps : List Str) : Bool := decide (ps.length ≤ 120) && ps.all isW
theorem pieces_len (z : Str) : (piecesOf z).length ≤ z.length + 1 := by
  unfold piecesOf
  split
  · exact Nat.zero_le _
  · exact split_len z
theorem pieces_short {z p : Str} (h : p ∈ piecesOf z) : p.length ≤ z.length := by
  unfold piecesOf at h
  split at h
  · cases h
  · exact split_short h
theorem join_pieces (z : Str) : Txt.join " " (piecesOf z) = z := by
  unfold piecesOf
  split
  · rename_i h
    refine ext_tl ?_
    rw [join_eq, tl_join]
    have : tl z = [] := List.length_eq_zero_iff.mp (by rw [tl_len]; exact h)
    rw [this]
    rfl
  · exact join_split z
/-! ### lists of texts, compared -/
theorem isW_ok {z : Str} (h : isW z = true) : PyData.canLay0 (.str z) = true := by
  unfold isW at h
  rw [Bool.and_eq_true, List.all_eq_true] at h
  show z.cps.all (fun c => decide (c < 0x110000)) = true
  rw [← Array.all_toList, List.all_eq_true]
  intro c hc
  have := h.2 c hc
  rw [Bool.and_eq_true, decide_eq_true_eq, decide_eq_true_eq] at this
  exact decide_eq_true (by omega)
theorem dpS {K : PySem.W.Frag} {H : Hp} : ∀ zs : List Str, DpAll K H (zs.map V.str) (zs.map PyData.str)
  | [] => .nil
  | z :: r => .cons (.str z) (dpS r)
theorem shapeS {zs : List Str} (h : zs.all isW = true) : SeqAt.shaped (.list (zs.map PyData.str)) = true := by
  have h1 : ∀ zs : List Str, zs.all isW = true → PyData.canLayAll0 (zs.map PyData.str) = true := by
    intro zs
    induction zs with
    | nil => intro _; rfl
    | cons z r ih =>
      intro h
      rw [List.all_cons, Bool.and_eq_true] at h
      rw [List.map_cons, PyData.canLayAll0, isW_ok h.1, ih h.2]
      rfl
  have h2 : ∀ zs : List Str, PyData.depthAll (zs.map PyData.str) = 0 := by
    intro zs
    induction zs with
    | nil => rfl
    | cons z r ih =>
      rw [List.map_cons, PyData.depthAll, ih, PyData.depth]
      rfl
  unfold SeqAt.shaped
  rw [PyData.canLay0, PyData.depth, h1 zs h, h2 zs]
  rfl
theorem eqvS {zs : List Str} (h : zs.all isW = true) : PyData.eqv (.list (zs.map PyData.str)) (.list (zs.map PyData.str)) = true := by
  refine SeqAt.eqv_refl _ ?_
  have := shapeS h
  unfold SeqAt.shaped at this
  rw [Bool.and_eq_true] at this
  exact this.1
theorem no_str {x y : Str} {A B : Prop} (h : x ≠ y) (b : B) : if decide (V.str x = V.str y) = true then A else B := by
  rw [decide_eq_false fun z => h (V.str.inj z)]
  exact b
theorem yes_str {x : Str} {A B : Prop} (a : A) : if decide (V.str x = V.str x) = true then A else B := by
  rw [decide_eq_true rfl]
  exact a
theorem yes_le {c A B : Prop} [Decidable c] (h : c) (a : A) : if decide c = true then A else B := by
  rw [decide_eq_true h]
  exact a
theorem no_le {c A B : Prop} [Decidable c] (h : ¬ c) (b : B) : if decide c = true then A else B := by
  rw [decide_eq_false h]
  exact b
theorem joinL_len (S : List Nat) : ∀ ps : List (List Nat), (joinL S ps).length ≤ (ps.map List.length).sum + ps.length * S.length
  | [] => Nat.zero_le _
  | [p] => by
    rw [joinL, List.map_cons, List.sum_cons, List.map_nil, List.sum_nil]
    omega
  | p :: q :: r => by
    have ih := joinL_len S (q :: r)
    rw [joinL, List.length_append, List.length_append, List.map_cons, List.sum_cons, List.length_cons, Nat.add_mul, Nat.one_mul]
    omega
theorem join_len (y : Str) (ps : List Str) : (Txt.join y ps).length ≤ (ps.map (·.length)).sum + ps.length * y.length := by
  have h := joinL_len (tl y) (ps.map tl)
  rw [← tl_join, ← join_eq, tl_len, tl_len, List.length_map, List.map_map] at h
  rw [show (ps.map (·.length)) = ps.map (List.length ∘ tl) from List.map_congr_left fun p _ => (tl_len p).symm]
  exact h
theorem sum_le {ps : List Str} {n : Nat} (h : ∀ p ∈ ps, p.length ≤ n) : (ps.map (·.length)).sum ≤ ps.length * n := by
  induction ps with
  | nil => simp
  | cons p r ih =>
    have h1 := h p (List.mem_cons_self ..)
    have h2 := ih fun x hx => h x (List.mem_cons_of_mem _ hx)
    rw [List.map_cons, List.sum_cons, List.length_cons, Nat.add_mul, Nat.one_mul]
    omega

/-! ### is_whole, is_within, is_word, are_words -/
/-- a word: one to twelve letters a to z -/
def spWholeI : Sp := fun vs H Q _ => ∃ i : Int, vs = [.int i] ∧ RetV (.bl true) H Q
theorem ok_is_whole (T : TX K mg A FD TK CC) : FnOk P w K mg base CX0 1 (A 17) (FD 17) ["thing"] spWholeI := by
  refine T.f_is_whole.ok sc_is_whole (fun vs H Q E h => ?_) (fun cdv A' outer s H vs Q E hr h => ?_)
  · obtain ⟨i, rfl, _⟩ := h
    rfl
  · obtain ⟨i, rfl, q⟩ := h
    refine ⟨_, (pss_one (ps_ret (pe_and (pe_callB (isiK (K := K) rfl) (by rfl) T.m_isinstance (by decide +kernel) (pa_cons (pv 0) (pa_cons (pe_bltn (v := .ty "int") (by rfl) T.m_int (by decide +kernel) rfl) pa_nil))) (pe_one (pe_not (pe_callB (isiK (K := K) rfl) (by rfl) T.m_isinstance (by decide +kernel) (pa_cons (pv 0) (pa_cons (pe_bltn (v := .ty "bool") (by rfl) T.m_bool (by decide +kernel) rfl) pa_nil)))))))), ?_⟩
    refine ⟨.int i, rfl, .int i, .ty "int", .type "int", .type "int", true, rfl, .ty _, .base (.int i), kit_ty (by decide +kernel), true, rfl, iteT ?_⟩
    exact ⟨.int i, rfl, .int i, .ty "bool", .type "int", .type "bool", false, rfl, .ty _, .base (.int i), kit_ty (by decide +kernel), false, rfl, ret_v q⟩
def spWithinI : Sp := fun vs H Q _ => ∃ i lo hi : Int, vs = [.int i, .int lo, .int hi] ∧ RetV (.bl (decide (lo ≤ i) && decide (i ≤ hi))) H Q
theorem ok_is_within (T : TX K mg A FD TK CC) : FnOk P w K mg base CX0 2 (A 18) (FD 18) ["thing", "least", "most"] spWithinI := by
  have G_is_whole := ok_is_whole (P := P) (w := w) (base := base) T
  refine T.f_is_within.ok sc_is_within (fun vs H Q E h => ?_) (fun cdv A' outer s H vs Q E hr h => ?_)
  · obtain ⟨i, lo, hi, rfl, _⟩ := h
    rfl
  · obtain ⟨i, lo, hi, rfl, q⟩ := h
    refine ⟨_, (pss_one (ps_ret (pe_and (pe_call G_is_whole hr (by rfl) T.g_is_whole T.f_is_whole.kp T.b_is_whole .nil pass0 (pa_cons (pv 0) pa_nil)) (pe_one (pe_chain op_le op_le (pv 1) (pv 0) (pv 2)))))), ?_⟩
    refine ⟨.int i, rfl, i, rfl, fun H1 e1 => ⟨true, rfl, iteT ?_⟩⟩
    refine ⟨.int lo, rfl, .int i, rfl, lo, i, rfl, rfl, _, rfl, ite2 (fun c => ?_) (fun c => ?_)⟩
    · refine ⟨.int hi, rfl, i, hi, rfl, rfl, ?_⟩
      have z := q.go e1
      rw [c, Bool.true_and] at z
      exact z
    · have z := q.go e1
      rw [Bool.eq_false_iff.mpr c, Bool.false_and] at z
      exact z
def spWordS : Sp := fun vs H Q _ => ∃ z : Str, vs = [.str z] ∧ z.length ≤ 100000 ∧ RetV (.bl (isW z)) H Q
set_option maxHeartbeats 4000000 in
theorem ok_is_word (T : TX K mg A FD TK CC) : FnOk P w K mg base CX0 1 (A 22) (FD 22) ["thing"] spWordS := by
  refine T.f_is_word.ok sc_is_word (fun vs H Q E h => ?_) (fun cdv A' outer s H vs Q E hr h => ?_)
  · obtain ⟨z, rfl, _⟩ := h
    rfl
  · obtain ⟨z, rfl, hz, q⟩ := h
    refine ⟨_, (pss_cons (ps_if (PW.pt (pw_or (pt_not (pt_val (pe_callB (isiK (K := K) rfl) (by rfl) T.m_isinstance (by decide +kernel) (pa_cons (pv 0) (pa_cons (pe_bltn (v := .ty "str") (by rfl) T.m_str (by decide +kernel) rfl) pa_nil))))) (pw_or1 (pt_not (pt_chain op_le op_le pe_int (pe_callB call_len_str (by rfl) T.m_len (by decide +kernel) (pa_cons (pv 0) pa_nil)) (pe_glob (v := .int 12) (by rfl) T.c_MOST_LETTERS ⟨_, rfl⟩))))))
      (pss_one (ps_ret pe_bl))
      pss_nil)
      (pss_one (ps_ret (pe_callB (allK (K := K) rfl rfl) (by rfl) T.m_all (by decide +kernel) (pa_cons (pe_lc (own := [("sign", 1)])  rfl sc_is_word.nd (pi_str (pv 0)) (blkOk_by (own := [("sign", 1)]) (N := N_is_word) (sc := defScope (topS 22)) (by decide +kernel)) (fun _ _ _ _ _ => (pg_name (i := 1) sc_is_word.nd rfl (Or.inl rfl))) (fun _ _ _ _ _ => pts_nil) (fun _ _ _ _ _ => (pe_chain op_le_str op_le_str pe_str (pv 1) pe_str))) pa_nil))))), ?_⟩
    refine ⟨.str z, rfl, .str z, .ty "str", .type "str", .type "str", true, rfl, .ty _, .base (.str z), kit_ty (by decide +kernel), true, rfl, iteF ?_⟩
    have no : ¬ (decide ((1 : Int) ≤ (z.length : Int)) = true ∧ decide ((z.length : Int) ≤ 12) = true) → isW z = false := fun h => by
      unfold isW
      have e : z.length = z.cps.size := rfl
      by_cases h1 : 1 ≤ z.cps.size
      · by_cases h2 : z.cps.size ≤ 12
        · exact absurd ⟨decide_eq_true (by omega), decide_eq_true (by omega)⟩ h
        · rw [decide_eq_false h2, Bool.and_false, Bool.false_and]
      · rw [decide_eq_false h1, Bool.false_and, Bool.false_and]
    refine ⟨.str z, rfl, z, rfl, sz hz, 1, (z.length : Int), rfl, rfl, _, rfl, ite2 (fun c1 => ?_) (fun c1 => ?_)⟩
    · refine ⟨(z.length : Int), 12, rfl, rfl, _, rfl, ?_⟩
      by_cases c2 : (z.length : Int) ≤ 12
      · rw [decide_eq_true c2]
        refine iteF ?_
        have e : z.length = z.cps.size := rfl
        have c1' : (1 : Int) ≤ (z.length : Int) := of_decide_eq_true c1
        refine ⟨.str z, rfl, z, rfl, fun D hD => ?_⟩
        refine lc_it (walk_str (z := z)) (fun i H' => Ex H H' ∧ H' D = some (.lst ((z.cps.toList.take i).map fun c => .bl (decide (97 ≤ c) && decide (c ≤ 122))))) ⟨Ex.new hD, upd_same⟩ (fun _ _ _ _ => True.intro) (fun i x H1 H2 hi p y => ?_) (fun H1 p => ?_)
        · obtain ⟨p1, p2⟩ := p
          obtain ⟨rfl, c, hc, rfl⟩ := y
          have g : z.cps.toList[i]? = some c := by
            rw [Array.getElem?_toList]
            exact hc
          have stepE : (z.cps.toList.take (i + 1)).map (fun c => V.bl (decide (97 ≤ c) && decide (c ≤ 122))) = (z.cps.toList.take i).map (fun c => V.bl (decide (97 ≤ c) && decide (c ≤ 122))) ++ [V.bl (decide (97 ≤ c) && decide (c ≤ 122))] := by
            rw [List.take_add_one, g, List.map_append]
            rfl
          have lenE : ((z.cps.toList.take i).map (fun c => V.bl (decide (97 ≤ c) && decide (c ≤ 122)))).length < sizeLine := by
            rw [List.length_map, List.length_take]
            refine sz_lt ?_
            have : z.cps.toList.length = z.cps.size := by simp
            omega
          refine ⟨rfl, .str ⟨#[c]⟩, rfl, _, _, rfl, rfl, _, rfl, ?_⟩
          have e1 : (!decide (((⟨#[c]⟩ : Str).cps.toList) < (Str.ofString "a").cps.toList)) = decide (97 ≤ c) := by
            show (!decide ([c] < [97])) = _
            rw [lt_one]
            by_cases h : 97 ≤ c
            · rw [decide_eq_true h, decide_eq_false (by omega)]
              rfl
            · rw [decide_eq_false h, decide_eq_true (by omega)]
              rfl
          have e2 : (!decide ((Str.ofString "z").cps.toList < (⟨#[c]⟩ : Str).cps.toList)) = decide (c ≤ 122) := by
            show (!decide ([122] < [c])) = _
            rw [lt_one]
            by_cases h : c ≤ 122
            · rw [decide_eq_true h, decide_eq_false (by omega)]
              rfl
            · rw [decide_eq_false h, decide_eq_true (by omega)]
              rfl
          refine ite2 (fun b1 => ?_) (fun b1 => ?_)
          · refine ⟨_, _, rfl, rfl, _, p2, lenE, Ex.mut p1 hD, ?_⟩
            rw [upd_same, stepE, ← e1, ← e2, b1, Bool.true_and]
          · refine ⟨_, p2, lenE, Ex.mut p1 hD, ?_⟩
            rw [upd_same, stepE, ← e1, Bool.eq_false_iff.mpr b1, Bool.false_and]
        · obtain ⟨p1, p2⟩ := p
          refine ⟨D, (z.cps.toList.map fun c => (decide (97 ≤ c) && decide (c ≤ 122))), rfl, SqL.of ?_, ?_⟩
          · rw [p2, List.take_of_length_le (by simp), List.map_map]
            rfl
          · have v := q.go p1
            have ev : isW z = ((z.cps.toList.map fun c => (decide (97 ≤ c) && decide (c ≤ 122))).all id) := by
              unfold isW
              rw [decide_eq_true (by omega), decide_eq_true (by omega), List.all_map]
              rfl
            rw [ev] at v
            exact v
      · rw [decide_eq_false c2]
        refine iteT ?_
        have v := ret_v q
        rw [no (fun h => c2 (of_decide_eq_true h.2))] at v
        exact v
    · have v := ret_v q
      rw [no (fun h => c1 h.1)] at v
      exact ⟨false, rfl, v⟩
/-- a list or a tuple of texts -/
def spWordsT (K : PySem.W.Frag) : Sp := fun vs H Q _ => ∃ (a : Addr) (zs : List Str), vs = [.ref a] ∧ (SqL K H a (zs.map V.str) ∨ SqT K H a (zs.map V.str)) ∧ zs.length ≤ 1000 ∧ (∀ z ∈ zs, z.length ≤ 100000) ∧ RetV (.bl (zs.all isW)) H Q
set_option maxHeartbeats 4000000 in
theorem ok_are_words (T : TX K mg A FD TK CC) : FnOk P w K mg base CX0 2 (A 23) (FD 23) ["things"] (spWordsT K) := by
  have G_is_word := ok_is_word (P := P) (w := w) (base := base) T
  refine T.f_are_words.ok sc_are_words (fun vs H Q E h => ?_) (fun cdv A' outer s H vs Q E hr h => ?_)
  · obtain ⟨a, zs, rfl, _⟩ := h
    rfl
  · obtain ⟨a, zs, rfl, hS, hl, hz, q⟩ := h
    refine ⟨_, (pss_one (ps_ret (pe_callB (allK (K := K) rfl rfl) (by rfl) T.m_all (by decide +kernel) (pa_cons (pe_lc (own := [("thing", 1)])  rfl sc_are_words.nd (piOr (piLK (K := K) rfl (pv 0)) (piTK (K := K) rfl (pv 0))) (blkOk_by (own := [("thing", 1)]) (N := N_are_words) (sc := defScope (topS 23)) (by decide +kernel)) (fun _ _ _ _ _ => (pg_name (i := 1) sc_are_words.nd rfl (Or.inl rfl))) (fun _ _ _ _ _ => pts_nil) (fun _ _ _ _ _ => (pe_call G_is_word hr (by rfl) T.g_is_word T.f_is_word.kp T.b_is_word .nil pass0 (pa_cons (pv 1) pa_nil)))) pa_nil)))), ?_⟩
    have fin : ∀ D H1, Ex H H1 → H1 D = some (.lst ((zs.take zs.length).map fun z => .bl (isW z))) → ∃ (p : Addr) (bs : List Bool), [V.ref D] = [V.ref p] ∧ SqL K H1 p (bs.map V.bl) ∧ Q (.bl (bs.all id)) H1 := fun D H1 p1 p2 => by
      refine ⟨D, zs.map isW, rfl, SqL.of ?_, ?_⟩
      · rw [p2, List.take_of_length_le (Nat.le_refl _), List.map_map]
        rfl
      · have v := q.go p1
        rw [show ((zs.map isW).all id) = zs.all isW by rw [List.all_map]; rfl]
        exact v
    have step : ∀ (D : Addr) (i : Nat) (x : V) (H1 : Hp), H D = none → (zs.map V.str)[i]? = some x → Ex H H1 ∧ H1 D = some (.lst ((zs.take i).map fun z => .bl (isW z))) → ∃ z, x = .str z ∧ z.length ≤ 100000 ∧ ∀ H2, Ex H1 H2 → ∃ acc, H2 D = some (.lst acc) ∧ acc.length < sizeLine ∧ Ex H (upd H2 D (.lst (acc ++ [.bl (isW z)]))) ∧ (upd H2 D (.lst (acc ++ [.bl (isW z)]))) D = some (.lst ((zs.take (i + 1)).map fun z => .bl (isW z))) := fun D i x H1 hD hx p => by
      obtain ⟨p1, p2⟩ := p
      rw [List.getElem?_map] at hx
      obtain ⟨z, g, rfl⟩ := Option.map_eq_some_iff.mp hx
      refine ⟨z, rfl, hz z (List.mem_of_getElem? g), fun H2 e2 => ⟨_, e2 _ _ p2, ?_, Ex.mut (p1.trans e2) hD, ?_⟩⟩
      · rw [List.length_map, List.length_take]
        exact sz_lt (by omega)
      · rw [upd_same, List.take_add_one, g, List.map_append]
        rfl
    rcases hS with hS | hS
    · refine .inl ⟨.ref a, rfl, a, rfl, ⟨_, hS⟩, fun D hD => ?_⟩
      refine lc_list (xs := zs.map V.str) (fun i H' => Ex H H' ∧ H' D = some (.lst ((zs.take i).map fun z => .bl (isW z)))) ⟨Ex.new hD, upd_same⟩ (fun i H' _ p => ex_l p.1 hS) (fun i x H1 hx p => ?_) (fun H1 p => ?_)
      · obtain ⟨z, rfl, hz', k⟩ := step D i x H1 hD hx p
        exact ⟨rfl, .str z, rfl, z, rfl, hz', fun H2 e2 => k H2 e2⟩
      · rw [List.length_map] at p
        exact fin D H1 p.1 p.2
    · refine .inr ⟨.ref a, rfl, a, rfl, ⟨_, hS⟩, fun D hD => ?_⟩
      refine lc_tup (xs := zs.map V.str) (fun i H' => Ex H H' ∧ H' D = some (.lst ((zs.take i).map fun z => .bl (isW z)))) ⟨Ex.new hD, upd_same⟩ (fun i H' _ p => ex_t p.1 hS) (fun i x H1 hx p => ?_) (fun H1 p => ?_)
      · obtain ⟨z, rfl, hz', k⟩ := step D i x H1 hD hx p
        exact ⟨rfl, .str z, rfl, z, rfl, hz', fun H2 e2 => k H2 e2⟩
      · rw [List.length_map] at p
        exact fin D H1 p.1 p.2

/-! ### words joined by blanks -/
theorem no32 {z : Str} (h : isW z = true) : 32 ∉ tl z := fun m => by
  unfold isW at h
  rw [Bool.and_eq_true, List.all_eq_true] at h
  have := h.2 32 m
  revert this
  decide
theorem isW_one {z : Str} (h : isW z = true) : 1 ≤ z.length := by
  unfold isW at h
  rw [Bool.and_eq_true, Bool.and_eq_true, decide_eq_true_eq, decide_eq_true_eq] at h
  exact h.1.1
theorem pieces_join {zs : List Str} (h : zs.all isW = true) : piecesOf (Txt.join " " zs) = zs := by
  cases zs with
  | nil => decide +kernel
  | cons z r =>
    have h1 : isW z = true := by
      rw [List.all_cons, Bool.and_eq_true] at h
      exact h.1
    have h2 : ¬ (Txt.join " " (z :: r)).length = 0 := by
      have e : (tl (Txt.join " " (z :: r))).length = (Txt.join " " (z :: r)).length := tl_len _
      rw [join_eq, tl_join] at e
      have l1 := isW_one h1
      rw [← tl_len] at l1
      intro e0
      rw [join_eq] at e0
      rw [e0, List.map_cons] at e
      cases r with
      | nil =>
        have e : (tl z).length = 0 := e
        omega
      | cons y t =>
        rw [List.map_cons, joinL, List.length_append] at e
        omega
    unfold piecesOf
    rw [if_neg h2]
    exact split_join (y := " ") (s := 32) (S := []) (by decide +kernel) (by decide +kernel) (by simp) fun p hp => no32 (List.all_eq_true.mp h p hp)
theorem len_sum (zs : List Str) (h : zs.all isW = true) : (zs.map (·.length)).sum ≤ 12 * zs.length := by
  induction zs with
  | nil => exact Nat.le_refl _
  | cons z r ih =>
    rw [List.all_cons, Bool.and_eq_true] at h
    have := ih h.2
    have := isW_len h.1
    rw [List.map_cons, List.sum_cons, List.length_cons]
    omega
theorem eqvAllS : ∀ zs ys : List Str, PyData.eqvAll (zs.map PyData.str) (ys.map PyData.str) = decide (zs = ys)
  | [], [] => by simp [PyData.eqvAll]
  | [], y :: ys => by simp [PyData.eqvAll]
  | z :: zs, [] => by simp [PyData.eqvAll]
  | z :: zs, y :: ys => by
    rw [List.map_cons, List.map_cons, PyData.eqvAll, eqvAllS zs ys, PyData.eqv]
    by_cases h1 : z = y
    · subst h1
      by_cases h2 : zs = ys
      · simp [h2]
      · simp [h2]
    · rw [show (z == y) = false from beq_eq_false_iff_ne.mpr h1, Bool.false_and]
      simp [h1]
theorem eqvL2 (zs ys : List Str) : PyData.eqv (.list (zs.map PyData.str)) (.list (ys.map PyData.str)) = decide (zs = ys) := by
  rw [PyData.eqv]
  exact eqvAllS zs ys
theorem eqvT2 (zs ys : List Str) : PyData.eqv (.tuple (zs.map PyData.str)) (.tuple (ys.map PyData.str)) = decide (zs = ys) := by
  rw [PyData.eqv]
  exact eqvAllS zs ys
theorem shapeT {zs : List Str} (h : zs.all isW = true) : SeqAt.shaped (.tuple (zs.map PyData.str)) = true := by
  have := shapeS h
  unfold SeqAt.shaped at this ⊢
  rw [show PyData.canLay0 (.tuple (zs.map PyData.str)) = PyData.canLay0 (.list (zs.map PyData.str)) by simp only [PyData.canLay0], show PyData.depth (.tuple (zs.map PyData.str)) = PyData.depth (.list (zs.map PyData.str)) by simp only [PyData.depth]]
  exact this
/-- signs that stand for themselves -/
theorem plain_sign : ∀ c, c < 123 → (c = 32 ∨ 97 ≤ c) → Builtin.Str.reprChar 39 c = [c] := by decide +kernel
theorem foldl_plain : ∀ (l : List Nat) (acc : Array Nat), (∀ c ∈ l, c = 32 ∨ (97 ≤ c ∧ c ≤ 122)) → l.foldl (fun out c => out ++ (Builtin.Str.reprChar 39 c).toArray) acc = acc ++ l.toArray
  | [], acc, _ => by simp
  | c :: r, acc, h => by
    have hc := h c (List.mem_cons_self ..)
    rw [List.foldl_cons, plain_sign c (by omega) (by omega), foldl_plain r _ fun d hd => h d (List.mem_cons_of_mem _ hd)]
    simp
theorem mem_joinL {c s : Nat} : ∀ {ps : List (List Nat)}, c ∈ joinL [s] ps → c = s ∨ ∃ p ∈ ps, c ∈ p
  | [], h => by cases h
  | [p], h => .inr ⟨p, List.mem_cons_self .., h⟩
  | p :: q :: r, h => by
    rw [joinL] at h
    rcases List.mem_append.mp h with h | h
    · exact .inr ⟨p, List.mem_cons_self .., h⟩
    · rcases List.mem_append.mp h with h | h
      · exact .inl (List.mem_singleton.mp h)
      · rcases mem_joinL h with h | ⟨x, hx, h⟩
        · exact .inl h
        · exact .inr ⟨x, List.mem_cons_of_mem _ hx, h⟩
theorem join_plain {zs : List Str} (h : zs.all isW = true) : ∀ c ∈ tl (Txt.join " " zs), c = 32 ∨ (97 ≤ c ∧ c ≤ 122) := by
  intro c hc
  rw [join_eq, tl_join] at hc
  rcases mem_joinL (s := 32) hc with h2 | ⟨p, hp, h2⟩
  · exact .inl h2
  · obtain ⟨z, hz, rfl⟩ := List.mem_map.mp hp
    have w := List.all_eq_true.mp h z hz
    unfold isW at w
    rw [Bool.and_eq_true, List.all_eq_true] at w
    have := w.2 c h2
    rw [Bool.and_eq_true, decide_eq_true_eq, decide_eq_true_eq] at this
    exact .inr this
theorem repr_join {zs : List Str} (h : zs.all isW = true) : reprText (Txt.join " " zs) = Str.ofString "'" ++ Txt.join " " zs ++ Str.ofString "'" := by
  have hp := join_plain h
  generalize Txt.join " " zs = z at hp ⊢
  have hq : reprQuote z = 39 := by
    unfold reprQuote
    have : z.cps.contains 39 = false := by
      rw [Bool.eq_false_iff]
      intro hc
      have := hp 39 (by
        show 39 ∈ z.cps.toList
        simpa using hc)
      omega
    rw [this, Bool.false_and]
    rfl
  refine ext_tl ?_
  unfold reprText
  rw [hq]
  show ((z.cps.foldl (fun out c => out ++ (Builtin.Str.reprChar 39 c).toArray) #[39]).push 39).toList = _
  rw [← Array.foldl_toList, foldl_plain _ _ hp]
  show _ = (Str.ofString "'" ++ z ++ Str.ofString "'").cps.toList
  show _ = ((Str.ofString "'").cps ++ z.cps ++ (Str.ofString "'").cps).toList
  rw [show (Str.ofString "'").cps = #[39] by decide +kernel]
  simp
theorem join_le {zs : List Str} (h : zs.all isW = true) (hl : zs.length ≤ 120) : (Txt.join " " zs).length ≤ 1560 := by
  have h1 := join_len " " zs
  have h2 := len_sum zs h
  rw [show (Str.ofString " ").length = 1 by decide +kernel] at h1
  omega

/-! ### codes of numbers: the mathematics -/
theorem ip_mulI {X : Cx} : PIp X .Mult (fun x y H Q => ∃ i j, x = .int i ∧ y = .int j ∧ CMul i j ∧ Q (.int (i * j)) H) := by
  intro pins s σ H x y v u Q I r1 r2 h
  obtain ⟨i, j, e1, e2, hc, q⟩ := h
  subst e1; subst e2
  obtain ⟨t, rfl⟩ := r1
  obtain ⟨t', rfl⟩ := r2
  exact imul_int ⟨.int _, H, I.tok _, ⟨_, rfl⟩, q⟩ hc.ok
theorem tlen (z : Str) : (tl z).length = z.length := by
  simp [tl, Str.length]
def one (c : Nat) : Str := ⟨#[c]⟩
def txt (l : List Nat) : Str := ⟨l.toArray⟩
theorem tl_txt (l : List Nat) : tl (txt l) = l := rfl
theorem txt_len (l : List Nat) : (txt l).length = l.length := List.size_toArray
theorem txt_tl (z : Str) : txt (tl z) = z := ext_tl rfl
theorem joinL_no : ∀ ps : List (List Nat), joinL [] ps = ps.flatten
  | [] => rfl
  | [p] => by simp [joinL]
  | p :: q :: r => by
    rw [joinL, joinL_no (q :: r)]
    rfl
theorem join_txts (ls : List (List Nat)) : Txt.join "" (ls.map txt) = txt ls.flatten := by
  refine ext_tl ?_
  rw [join_eq, tl_join, List.map_map]
  refine (joinL_no _).trans ?_
  rw [show (tl ∘ txt) = id from rfl, List.map_id]
  rfl
theorem flat_ones : ∀ cs : List Nat, (cs.map fun c => [c]).flatten = cs
  | [] => rfl
  | c :: r => by rw [List.map_cons, List.flatten_cons, flat_ones r]; rfl
theorem join_ones (cs : List Nat) : Txt.join "" (cs.map one) = txt cs := by
  have := join_txts (cs.map fun c => [c])
  rw [List.map_map, flat_ones] at this
  exact this
theorem sum_txts (ls : List (List Nat)) : ((ls.map txt).map (·.length)).sum = ls.flatten.length := by
  induction ls with
  | nil => rfl
  | cons l r ih =>
    rw [List.map_cons, List.map_cons, List.sum_cons, ih, List.flatten_cons, List.length_append]
    rfl
theorem sum_ones (cs : List Nat) : ((cs.map one).map (·.length)).sum = cs.length := by
  induction cs with
  | nil => rfl
  | cons c r ih =>
    rw [List.map_cons, List.map_cons, List.sum_cons, ih, List.length_cons]
    show 1 + r.length = r.length + 1
    omega
/-- the code of a number -/
def codeN (n : Nat) : List Nat := if n < 16 then [97 + n] else (65 + n % 16) :: codeN (n / 16)
termination_by n
decreasing_by omega
theorem codeN_low {n : Nat} (h : n < 16) : codeN n = [97 + n] := by rw [codeN, if_pos h]
theorem codeN_up {n : Nat} (h : ¬ n < 16) : codeN n = (65 + n % 16) :: codeN (n / 16) := by rw [codeN, if_neg h]
theorem codeN_len : ∀ (k n : Nat), n < 16 ^ (k + 1) → (codeN n).length ≤ k + 1
  | 0, n, h => by
    rw [codeN_low (by simpa using h)]
    exact Nat.le_refl _
  | k + 1, n, h => by
    by_cases l : n < 16
    · rw [codeN_low l]
      simp
    · rw [codeN_up l, List.length_cons]
      have := codeN_len k (n / 16) (Nat.div_lt_of_lt_mul (by rw [Nat.mul_comm, ← Nat.pow_succ]; exact h))
      omega
theorem codeN_pos (n : Nat) : 1 ≤ (codeN n).length := by
  by_cases l : n < 16
  · rw [codeN_low l]
    exact Nat.le_refl _
  · rw [codeN_up l]
    simp
def upS : Str := "ABCDEFGHIJKLMNOP"
def loS : Str := "abcdefghijklmnop"
theorem up_at (d : Nat) (h : d < 16) : atI upS.cps.toList (d : Int) = some (65 + d) := by
  refine atI_nat ?_
  have k : ∀ d, d < 16 → upS.cps.toList[d]? = some (65 + d) := by decide +kernel
  exact k d h
theorem lo_at (d : Nat) (h : d < 16) : atI loS.cps.toList (d : Int) = some (97 + d) := by
  refine atI_nat ?_
  have k : ∀ d, d < 16 → loS.cps.toList[d]? = some (97 + d) := by decide +kernel
  exact k d h
theorem lo_find (d : Nat) (h : d < 16) : Txt.find loS (one (97 + d)) = (d : Int) := by
  have k : ∀ d, d < 16 → Txt.find loS (one (97 + d)) = (d : Int) := by decide +kernel
  exact k d h
theorem lo_none (d : Nat) (h : d < 16) : Txt.find loS (one (65 + d)) = -1 := by
  have k : ∀ d, d < 16 → Txt.find loS (one (65 + d)) = -1 := by decide +kernel
  exact k d h
theorem up_find (d : Nat) (h : d < 16) : Txt.find upS (one (65 + d)) = (d : Int) := by
  have k : ∀ d, d < 16 → Txt.find upS (one (65 + d)) = (d : Int) := by decide +kernel
  exact k d h

/-! ### code, code_all -/
def spWhl : Sp := fun vs H Q _ => ∃ z : Int, vs = [.int z] ∧ Q (.bl true) H
set_option maxHeartbeats 4000000 in
theorem ok_whl (T : TX K mg A FD TK CC) : FnOk P w K mg base CX0 1 (A 17) (FD 17) ["thing"] spWhl := by
  refine T.f_is_whole.ok sc_is_whole (fun vs H Q E h => ?_) (fun cdv A' outer s H vs Q E hr h => ?_)
  · obtain ⟨z, rfl, _⟩ := h
    rfl
  · obtain ⟨i, rfl, q⟩ := h
    refine ⟨_, (pss_one (ps_ret (pe_and (pe_callB (isiK (K := K) rfl) (by rfl) T.m_isinstance (by decide +kernel) (pa_cons (pv 0) (pa_cons (pe_bltn (v := .ty "int") (by rfl) T.m_int (by decide +kernel) rfl) pa_nil))) (pe_one (pe_not (pe_callB (isiK (K := K) rfl) (by rfl) T.m_isinstance (by decide +kernel) (pa_cons (pv 0) (pa_cons (pe_bltn (v := .ty "bool") (by rfl) T.m_bool (by decide +kernel) rfl) pa_nil)))))))), ?_⟩
    refine ⟨.int i, rfl, .int i, .ty "int", .type "int", .type "int", true, rfl, .ty _, .base (.int i), kit_ty (by decide +kernel), true, rfl, ?_⟩
    exact ⟨.int i, rfl, .int i, .ty "bool", .type "int", .type "bool", false, rfl, .ty _, .base (.int i), kit_ty (by decide +kernel), false, rfl, q⟩
def spCnt : Sp := fun vs H Q _ => ∃ n : Nat, vs = [.int (n : Int)] ∧ Q (.bl true) H
set_option maxHeartbeats 4000000 in
theorem ok_cnt (T : TX K mg A FD TK CC) : FnOk P w K mg base CX0 2 (A 38) (FD 38) ["thing"] spCnt := by
  have G_is_whole := ok_whl (P := P) (w := w) (base := base) T
  refine T.f_is_count.ok (k := 1) sc_is_count (fun vs H Q E h => ?_) (fun cdv A' outer s H vs Q E hr h => ?_)
  · obtain ⟨n, rfl, _⟩ := h
    rfl
  · obtain ⟨n, rfl, q⟩ := h
    refine ⟨_, (pss_one (ps_ret (pe_and (pe_call G_is_whole hr (by rfl) T.g_is_whole T.f_is_whole.kp T.b_is_whole .nil pass0 (pa_cons (pv 0) pa_nil)) (pe_one (pe_cmpR op_ge (pv 0) pe_int (nomark _)))))), ?_⟩
    refine ⟨.int n, rfl, n, rfl, true, rfl, .int n, rfl, n, 0, rfl, rfl, ?_⟩
    show Q (.bl (decide ((0 : Int) ≤ (n : Int)))) H
    rw [decide_eq_true (show (0 : Int) ≤ (n : Int) by omega)]
    exact q
def muN : L2.St → Hp → Nat := fun σ _ => match σ with
  | some (.int r) :: _ => r.toNat
  | _ => 0
def spCode : Sp := fun vs H Q _ => ∃ n : Nat, vs = [.int (n : Int)] ∧ n < 16 ^ 100 ∧ ∀ H', Ex H H' → Q (.str (txt (codeN n))) H'
set_option maxHeartbeats 4000000 in
theorem ok_code (T : TX K mg A FD TK CC) : FnOk P w K mg base CX0 3 (A 39) (FD 39) ["number"] spCode := by
  have G_is_count := ok_cnt (P := P) (w := w) (base := base) T
  refine T.f_code.ok (k := 2) sc_code (fun vs H Q E h => ?_) (fun cdv A' outer s H vs Q E hr h => ?_)
  · obtain ⟨n, rfl, _⟩ := h
    rfl
  · obtain ⟨n, rfl, hn, q⟩ := h
    have hl := codeN_len 99 n hn
    refine ⟨_, (pss_cons (ps_if (pt_not (pt_val (pe_call G_is_count hr (by rfl) T.g_is_count T.f_is_count.kp T.b_is_count .nil pass0 (pa_cons (pv 0) pa_nil))))
      (pss_one ps_never)
      pss_nil)
      (pss_cons (ps_set (i := 1) sc_code.nd rfl (.inl rfl) (pe_lst pa_nil))
      (pss_cons (ps_while PassesOwn.never (pt_cmpR op_ge (pv 0) pe_int (nomark _))
      (pss_cons (ps_asg (pe_callB call_divmod (by rfl) T.m_divmod (by decide +kernel) (pa_cons (pv 0) (pa_cons pe_int pa_nil))) (pg_tup rfl (pgs_cons (pg_name (i := 0) sc_code.nd rfl (.inl rfl)) (pgs_cons (pg_name (i := 2) sc_code.nd rfl (.inl rfl)) pgs_nil))))
      (pss_one (ps_expr (pe_bm PySem.F.plainAttrs_list PySem.F.slot_list_append PySem.F.type_list_append mt_append (pv 1) (pa_cons (pe_ix ix_str (pe_glob (v := .str "ABCDEFGHIJKLMNOP") (by rfl) T.c_DIGITS_AHEAD ⟨_, rfl⟩) (pv 2) (fun _ _ => rfl)) pa_nil))))))
      (pss_cons (ps_expr (pe_bm PySem.F.plainAttrs_list PySem.F.slot_list_append PySem.F.type_list_append mt_append (pv 1) (pa_cons (pe_ix ix_str (pe_glob (v := .str "abcdefghijklmnop") (by rfl) T.c_LAST_DIGITS ⟨_, rfl⟩) (pv 0) (fun _ _ => rfl)) pa_nil)))
      (pss_one (ps_ret (pe_join pe_str (pv 1)))))))), ?_⟩
    refine ⟨.int n, rfl, n, rfl, _, rfl, ite2 (fun c => absurd c (by decide)) (fun _ => ?_)⟩
    refine ⟨Nat.zero_le _, fun D nD => ?_⟩
    refine while_by (fun σ' H' => ∃ (m : Nat) (cs : List Nat) (o : Option V), σ' = [some (.int (m : Int)), some (.ref D), o] ∧ H' D = some (.lst ((cs.map one).map V.str)) ∧ cs ++ codeN m = codeN n ∧ Ex H H') muN ⟨n, [], none, rfl, upd_same, rfl, Ex.new nD⟩ (fun σ' H' p => ?_) (fun σ' H' Q Q' m h => ?_)
    · obtain ⟨m, cs, o, rfl, hD, hc, x⟩ := p
      have lc : cs.length ≤ 100 := by
        have := congrArg List.length hc
        rw [List.length_append] at this
        omega
      refine ⟨.int m, rfl, m, 16, rfl, rfl, _, rfl, ite2 (fun e => ?_) (fun e => ?_)⟩
      · have e0 : (16 : Int) ≤ (m : Int) := of_decide_eq_true e
        refine ⟨.int m, rfl, m, 16, rfl, ⟨by decide, by decide⟩, fun t nt => ?_⟩
        have x2 := x.trans (Ex.new (o := .tup [.int ((m : Int) / 16), .int ((m : Int) % 16)]) nt)
        have hD2 := (Ex.new (o := .tup [.int ((m : Int) / 16), .int ((m : Int) % 16)]) nt) _ _ hD
        have ht := upd_same (H := H') (a := t) (o := .tup [.int ((m : Int) / 16), .int ((m : Int) % 16)])
        generalize upd H' t (.tup [.int ((m : Int) / 16), .int ((m : Int) % 16)]) = H2 at x2 hD2 ht ⊢
        have em : (m : Int) % 16 = ((m % 16 : Nat) : Int) := by omega
        have ed : (m : Int) / 16 = ((m / 16 : Nat) : Int) := by omega
        rw [em, ed] at ht
        have m16 : m % 16 < 16 := Nat.mod_lt _ (by decide)
        have ul : upS.length = 16 := by decide +kernel
        refine ⟨t, _, rfl, SqT.of ht, rfl, _, _, rfl, _, _, rfl, rfl, .ref D, rfl, .inl ⟨rfl, _, SqL.of hD2⟩, .int ((m % 16 : Nat) : Int), rfl, upS, _, _, rfl, rfl, sz (by omega), up_at _ m16, D, _, _, rfl, rfl, hD2, ?_, ?_, ?_⟩
        · rw [List.length_map, List.length_map]
          exact sz_lt (by omega)
        · refine ⟨m / 16, cs ++ [65 + m % 16], _, rfl, ?_, ?_, Ex.mut x2 nD⟩
          · rw [upd_same, List.map_append, List.map_append]
            rfl
          · rw [List.append_assoc, ← hc, codeN_up (n := m) (by omega)]
            rfl
        · show (((m / 16 : Nat) : Int)).toNat < (m : Int).toNat
          omega
      · have e0 : ¬ (16 : Int) ≤ (m : Int) := fun z => e (decide_eq_true z)
        have m16 : m < 16 := by omega
        have ll : loS.length = 16 := by decide +kernel
        refine ⟨.ref D, rfl, .inl ⟨rfl, _, SqL.of hD⟩, .int (m : Int), rfl, loS, _, _, rfl, rfl, sz (by omega), lo_at _ m16, D, _, _, rfl, rfl, hD, ?_, ?_⟩
        · rw [List.length_map, List.length_map]
          exact sz_lt (by omega)
        have hf : cs ++ [97 + m] = codeN n := by rw [← hc, codeN_low m16]
        have hD2 : (upd H' D (.lst ((cs.map one).map V.str ++ [.str ⟨#[97 + m]⟩]))) D = some (.lst (((codeN n).map one).map V.str)) := by
          rw [upd_same, ← hf, List.map_append, List.map_append]
          rfl
        refine ⟨⟨_, rfl⟩, .ref D, rfl, "", D, (codeN n).map one, rfl, rfl, .inl (SqL.of hD2), ?_, ?_⟩
        · rw [sum_ones]
          show _ + _ * 0 ≤ 16777216
          omega
        · rw [join_ones]
          exact q _ (Ex.mut x nD)
    · obtain ⟨v, hv, i, j, e1, e2, k, hk, hq⟩ := h
      exact ⟨v, hv, i, j, e1, e2, k, hk, m _ _ hq⟩

/-! ### code_all; rising numbers and their gaps -/
def nvs (ns : List Nat) : List V := ns.map fun (n : Nat) => V.int (n : Int)
theorem nvs_len (ns : List Nat) : (nvs ns).length = ns.length := List.length_map ..
theorem nvs_at {ns : List Nat} {i : Nat} {x : V} (g : (nvs ns)[i]? = some x) : ∃ n, ns[i]? = some n ∧ x = .int (n : Int) ∧ i < ns.length := by
  unfold nvs at g
  rw [List.getElem?_map] at g
  cases e : ns[i]? with
  | none => rw [e] at g; cases g
  | some n =>
    rw [e] at g
    cases g
    exact ⟨n, rfl, rfl, (List.getElem?_eq_some_iff.mp e).1⟩
theorem nvs_snoc (ns : List Nat) (n : Nat) : nvs (ns ++ [n]) = nvs ns ++ [.int (n : Int)] := by
  unfold nvs
  rw [List.map_append]
  rfl
theorem take_up {α : Type} {l : List α} {i : Nat} {x : α} (g : l[i]? = some x) : l.take (i + 1) = l.take i ++ [x] := by
  rw [List.take_add_one, g]
  rfl
def codeL (ns : List Nat) : List Nat := (ns.map codeN).flatten
theorem codeL_len {ns : List Nat} (h : ∀ n ∈ ns, n < 16 ^ 100) : (codeL ns).length ≤ ns.length * 100 := by
  induction ns with
  | nil => exact Nat.zero_le _
  | cons n r ih =>
    have a := codeN_len 99 n (h n (List.mem_cons_self ..))
    have b := ih fun m hm => h m (List.mem_cons_of_mem _ hm)
    unfold codeL at b ⊢
    rw [List.map_cons, List.flatten_cons, List.length_append, List.length_cons, Nat.add_mul]
    omega
def spCodeAll (K : PySem.W.Frag) : Sp := fun vs H Q _ => ∃ (a : Addr) (ns : List Nat), vs = [.ref a] ∧ H a = some (.lst (nvs ns)) ∧ ns.length ≤ 900 ∧ (∀ n ∈ ns, n < 16 ^ 100) ∧ ∀ H', Ex H H' → Q (.str (txt (codeL ns))) H'
set_option maxHeartbeats 4000000 in
theorem ok_code_all (T : TX K mg A FD TK CC) : FnOk P w K mg base CX0 4 (A 40) (FD 40) ["numbers"] (spCodeAll K) := by
  have G_is_count := (ok_cnt (P := P) (w := w) (base := base) T).mono (show 2 ≤ 3 by decide)
  have G_code := ok_code (P := P) (w := w) (base := base) T
  refine T.f_code_all.ok (k := 3) sc_code_all (fun vs H Q E h => ?_) (fun cdv A' outer s H vs Q E hr h => ?_)
  · obtain ⟨a, ns, rfl, _⟩ := h
    rfl
  · obtain ⟨a, ns, rfl, hS0, hn, hb, q⟩ := h
    have hS : SqL K H a (nvs ns) := SqL.of hS0
    refine ⟨_, (pss_cons (ps_if (pt_not (pt_val (pe_callB (isiK (K := K) rfl) (by rfl) T.m_isinstance (by decide +kernel) (pa_cons (pv 0) (pa_cons (pe_bltn (v := .ty "list") (by rfl) T.m_list (by decide +kernel) rfl) pa_nil)))))
      (pss_one ps_never)
      pss_nil)
      (pss_cons (ps_for PassesOwn.never rfl (pi_enum (by rfl) T.m_enumerate (pa_cons (pv 0) pa_nil)) (pg_tup rfl (pgs_cons (pg_name (i := 1) sc_code_all.nd rfl (.inl rfl)) (pgs_cons (pg_name (i := 2) sc_code_all.nd rfl (.inl rfl)) pgs_nil)))
      (pss_one (ps_if (pt_not (pt_val (pe_call G_is_count hr (by rfl) T.g_is_count T.f_is_count.kp T.b_is_count .nil pass0 (pa_cons (pv 2) pa_nil))))
      (pss_one ps_never)
      pss_nil)))
      (pss_one (ps_ret (pe_join pe_str (pe_lc (own := [("number", 2)])  rfl sc_code_all.nd (piLK (K := K) rfl (pv 0)) (blkOk_by (own := [("number", 2)]) (N := N_code_all) (sc := defScope (topS 40)) (by decide +kernel)) (fun _ _ _ _ _ => (pg_name (i := 2) sc_code_all.nd rfl (Or.inl rfl))) (fun _ _ _ _ _ => pts_nil) (fun _ _ _ _ _ => (pe_call G_code hr (by rfl) T.g_code T.f_code.kp T.b_code .nil pass0 (pa_cons (pv 2) pa_nil))))))))), ?_⟩
    refine ⟨.ref a, rfl, .ref a, .ty "list", .type "list", .type "list", true, rfl, .ty _, .base (.lst hS0), kit_ty (by decide +kernel), _, rfl, ite2 (fun c => absurd c (by decide)) (fun _ => ?_)⟩
    refine ⟨.ref a, rfl, a, _, rfl, hS, ?_⟩
    refine for_it (walk_enum (K := K) (a := a) (xs := nvs ns)) (fun i σ' H' => (∃ o1 o2, σ' = [some (.ref a), o1, o2]) ∧ Ex H H') ⟨⟨none, none, rfl⟩, Ex.refl H⟩ (fun i σ' H' _ p => ex_l p.2 hS) (fun i x σ' H1 H2 hi p y => ?_) (fun σ' H1 p => ?_)
    · obtain ⟨⟨o1, o2, rfl⟩, x1⟩ := p
      obtain ⟨Tt, u1, u2, rfl, nT, rfl, g1, g2⟩ := y
      cases g1
      obtain ⟨n, gn, rfl, _⟩ := nvs_at g2
      refine ⟨Tt, _, rfl, SqT.of upd_same, rfl, _, _, rfl, _, _, rfl, rfl, .int (n : Int), rfl, n, rfl, _, rfl, ite2 (fun c => absurd c (by decide)) (fun _ => ⟨⟨_, _, rfl⟩, x1.trans (Ex.new nT)⟩)⟩
    · obtain ⟨⟨o1, o2, rfl⟩, x1⟩ := p
      refine ⟨⟨_, rfl⟩, .ref a, rfl, a, rfl, ⟨_, ex_l x1 hS⟩, fun D hD => ?_⟩
      refine lc_list (K := K) (xs := nvs ns) (fun i H' => Ex H1 H' ∧ H' D = some (.lst ((((ns.take i).map codeN).map txt).map V.str))) ⟨Ex.new hD, upd_same⟩ (fun i H' _ p => ex_l p.1 (ex_l x1 hS)) (fun i x H2 hx p => ?_) (fun H2 p => ?_)
      · obtain ⟨p1, p2⟩ := p
        obtain ⟨n, gn, rfl, il⟩ := nvs_at hx
        refine ⟨rfl, .int (n : Int), rfl, n, rfl, hb n (List.mem_of_getElem? gn), fun H3 e3 => ⟨_, e3 _ _ p2, ?_, Ex.mut (p1.trans e3) hD, ?_⟩⟩
        · rw [List.length_map, List.length_map, List.length_map, List.length_take]
          exact sz_lt (by omega)
        · rw [upd_same, take_up gn, List.map_append, List.map_append, List.map_append]
          rfl
      · obtain ⟨p1, p2⟩ := p
        rw [nvs_len, List.take_length] at p2
        refine ⟨"", D, (ns.map codeN).map txt, rfl, rfl, .inl (SqL.of p2), ?_, ?_⟩
        · rw [sum_txts]
          have : (ns.map codeN).flatten.length ≤ ns.length * 100 := codeL_len hb
          show _ + _ * 0 ≤ 16777216
          omega
        · rw [join_txts]
          exact q _ (x1.trans p1)
/-- the number ahead of the i-th -/
def ah (xs : List Nat) : Nat → Int
  | 0 => -1
  | i + 1 => ((xs.getD i 0 : Nat) : Int)
def Ris (xs : List Nat) : Prop := ∀ (i x : Nat), xs[i]? = some x → ah xs i < (x : Int)
def gapI (xs : List Nat) (j : Nat) : Nat := (((xs.getD j 0 : Nat) : Int) - ah xs j - 1).toNat
def gapsL (xs : List Nat) : List Nat := (List.range xs.length).map (gapI xs)
theorem getD_at {xs : List Nat} {i x : Nat} (g : xs[i]? = some x) : xs.getD i 0 = x := by
  rw [List.getD_eq_getElem?_getD, g]
  rfl
theorem gap_is {xs : List Nat} (h : Ris xs) {i x : Nat} (g : xs[i]? = some x) : (x : Int) - ah xs i - 1 = ((gapI xs i : Nat) : Int) := by
  have := h i x g
  unfold gapI
  rw [getD_at g]
  omega
def spGaps (K : PySem.W.Frag) : Sp := fun vs H Q _ => ∃ (a : Addr) (xs : List Nat), vs = [.ref a] ∧ (SqL K H a (nvs xs) ∨ SqT K H a (nvs xs)) ∧ Ris xs ∧ xs.length ≤ 900 ∧ ∀ (l : Addr) (H' : Hp), H l = none → Ex H H' → H' l = some (.lst (nvs (gapsL xs))) → Q (.ref l) H'
set_option maxHeartbeats 4000000 in
theorem ok_gaps_of (T : TX K mg A FD TK CC) : FnOk P w K mg base CX0 1 (A 47) (FD 47) ["numbers"] (spGaps K) := by
  refine T.f_gaps_of.ok sc_gaps_of (fun vs H Q E h => ?_) (fun cdv A' outer s H vs Q E hr h => ?_)
  · obtain ⟨a, xs, rfl, _⟩ := h
    rfl
  · obtain ⟨a, xs, rfl, hS, hR, hn, q⟩ := h
    refine ⟨_, (pss_cons (ps_set (i := 1) sc_gaps_of.nd rfl (.inl rfl) (pe_lst pa_nil))
      (pss_cons (ps_set (i := 2) sc_gaps_of.nd rfl (.inl rfl) (pe_un un_neg pe_int))
      (pss_cons (ps_for PassesOwn.never rfl (piOr (piLK (K := K) rfl (pv 0)) (piTK (K := K) rfl (pv 0))) (pg_name (i := 3) sc_gaps_of.nd rfl (.inl rfl))
      (pss_cons (ps_expr (pe_bm PySem.F.plainAttrs_list PySem.F.slot_list_append PySem.F.type_list_append mt_append (pv 1) (pa_cons (pe_op op_sub (pe_op op_sub (pv 3) (pv 2)) pe_int) pa_nil)))
      (pss_one (ps_set (i := 2) sc_gaps_of.nd rfl (.inl rfl) (pv 3)))))
      (pss_one (ps_ret (pv 1)))))), ?_⟩
    refine ⟨Nat.zero_le _, fun D nD => ⟨1, rfl, ?_⟩⟩
    have e1 : Ex H (upd H D (.lst [])) := Ex.new nD
    rcases hS with hS | hS
    · refine .inl ⟨.ref a, rfl, a, rfl, ⟨_, ex_l e1 hS⟩, ?_⟩
      refine for_list (K := K) (xs := nvs xs) (fun i σ' H' => (∃ o, σ' = [some (.ref a), some (.ref D), some (.int (ah xs i)), o]) ∧ H' D = some (.lst (nvs ((List.range i).map (gapI xs)))) ∧ Ex H H') ⟨⟨none, rfl⟩, upd_same, e1⟩ (fun i σ' H' _ p => ex_l p.2.2 hS) (fun i x σ' H1 g p => ?_) (fun σ' H1 p => ?_)
      · obtain ⟨⟨o, rfl⟩, hD, x1⟩ := p
        obtain ⟨n, gn, rfl, il⟩ := nvs_at g
        refine ⟨.ref D, rfl, .inl ⟨rfl, _, SqL.of hD⟩, .int (n : Int), rfl, .int (ah xs i), rfl, _, _, rfl, rfl, _, 1, rfl, rfl, D, _, _, rfl, rfl, hD, ?_, .int (n : Int), rfl, ⟨some (.int (n : Int)), ?_⟩, ?_, Ex.mut x1 nD⟩
        · rw [nvs_len, List.length_map, List.length_range]
          exact sz_lt (by omega)
        · show [some (V.ref a), some (V.ref D), some (V.int (n : Int)), some (V.int (n : Int))] = [some (V.ref a), some (V.ref D), some (V.int (ah xs (i + 1))), some (V.int (n : Int))]
          rw [ah, getD_at gn]
        · rw [upd_same, List.range_succ, List.map_append]
          show some (HO.lst (nvs ((List.range i).map (gapI xs)) ++ [V.int ((n : Int) - ah xs i - 1)])) = some (HO.lst (nvs ((List.range i).map (gapI xs) ++ [gapI xs i])))
          rw [nvs_snoc, gap_is hR gn]
      · obtain ⟨⟨o, rfl⟩, hD, x1⟩ := p
        rw [nvs_len] at hD
        exact ⟨.ref D, rfl, q D H1 nD x1 hD⟩
    · refine .inr ⟨.ref a, rfl, a, rfl, ⟨_, ex_t e1 hS⟩, ?_⟩
      refine for_tup (K := K) (xs := nvs xs) (fun i σ' H' => (∃ o, σ' = [some (.ref a), some (.ref D), some (.int (ah xs i)), o]) ∧ H' D = some (.lst (nvs ((List.range i).map (gapI xs)))) ∧ Ex H H') ⟨⟨none, rfl⟩, upd_same, e1⟩ (fun i σ' H' _ p => ex_t p.2.2 hS) (fun i x σ' H1 g p => ?_) (fun σ' H1 p => ?_)
      · obtain ⟨⟨o, rfl⟩, hD, x1⟩ := p
        obtain ⟨n, gn, rfl, il⟩ := nvs_at g
        refine ⟨.ref D, rfl, .inl ⟨rfl, _, SqL.of hD⟩, .int (n : Int), rfl, .int (ah xs i), rfl, _, _, rfl, rfl, _, 1, rfl, rfl, D, _, _, rfl, rfl, hD, ?_, .int (n : Int), rfl, ⟨some (.int (n : Int)), ?_⟩, ?_, Ex.mut x1 nD⟩
        · rw [nvs_len, List.length_map, List.length_range]
          exact sz_lt (by omega)
        · show [some (V.ref a), some (V.ref D), some (V.int (n : Int)), some (V.int (n : Int))] = [some (V.ref a), some (V.ref D), some (V.int (ah xs (i + 1))), some (V.int (n : Int))]
          rw [ah, getD_at gn]
        · rw [upd_same, List.range_succ, List.map_append]
          show some (HO.lst (nvs ((List.range i).map (gapI xs)) ++ [V.int ((n : Int) - ah xs i - 1)])) = some (HO.lst (nvs ((List.range i).map (gapI xs) ++ [gapI xs i])))
          rw [nvs_snoc, gap_is hR gn]
      · obtain ⟨⟨o, rfl⟩, hD, x1⟩ := p
        rw [nvs_len] at hD
        exact ⟨.ref D, rfl, q D H1 nD x1 hD⟩
/-! ### entries -/
def spFall (K : PySem.W.Frag) : Sp := fun vs H Q _ => ∃ (a : Addr) (xs : List Nat), vs = [.ref a] ∧ SqT K H a (nvs xs) ∧ Ris xs ∧ ∀ H', Ex H H' → Q .non H'
set_option maxHeartbeats 4000000 in
theorem ok_first_fall (T : TX K mg A FD TK CC) : FnOk P w K mg base CX0 2 (A 46) (FD 46) ["things"] (spFall K) := by
  have G_is_whole := ok_whl (P := P) (w := w) (base := base) T
  refine T.f_first_fall.ok (k := 1) sc_first_fall (fun vs H Q E h => ?_) (fun cdv A' outer s H vs Q E hr h => ?_)
  · obtain ⟨a, xs, rfl, _⟩ := h
    rfl
  · obtain ⟨a, xs, rfl, hS, hR, q⟩ := h
    refine ⟨_, (pss_cons (ps_set (i := 1) sc_first_fall.nd rfl (.inl rfl) (pe_un un_neg pe_int))
      (pss_cons (ps_for PassesOwn.never rfl (EnT.pi_enumT (K := K) rfl (by rfl) T.m_enumerate (pa_cons (pv 0) pa_nil)) (pg_tup rfl (pgs_cons (pg_name (i := 2) sc_first_fall.nd rfl (.inl rfl)) (pgs_cons (pg_name (i := 3) sc_first_fall.nd rfl (.inl rfl)) pgs_nil)))
      (pss_cons (ps_if (PW.pt (pw_or (pt_not (pt_val (pe_call G_is_whole hr (by rfl) T.g_is_whole T.f_is_whole.kp T.b_is_whole .nil pass0 (pa_cons (pv 3) pa_nil)))) (pw_or1 (pt_cmpR op_le (pv 3) (pv 1) (nomark _)))))
      (pss_one (ps_ret (pv 2)))
      pss_nil)
      (pss_one (ps_set (i := 1) sc_first_fall.nd rfl (.inl rfl) (pv 3)))))
      (pss_one (ps_ret pe_non)))), ?_⟩
    refine ⟨1, rfl, .ref a, rfl, a, _, rfl, hS, ?_⟩
    refine for_it (EnT.walkT (K := K) (a := a) (xs := nvs xs)) (fun i σ' H' => (∃ o1 o2, σ' = [some (.ref a), some (.int (ah xs i)), o1, o2]) ∧ Ex H H') ⟨⟨none, none, rfl⟩, Ex.refl H⟩ (fun i σ' H' _ p => ex_t p.2 hS) (fun i x σ' H1 H2 hi p y => ?_) (fun σ' H1 p => ?_)
    · obtain ⟨⟨o1, o2, rfl⟩, x1⟩ := p
      obtain ⟨Tt, u1, u2, rfl, nT, rfl, g1, g2⟩ := y
      cases g1
      obtain ⟨n, gn, rfl, _⟩ := nvs_at g2
      have lt := hR i n gn
      refine ⟨Tt, _, rfl, SqT.of upd_same, rfl, _, _, rfl, _, _, rfl, rfl, .int (n : Int), rfl, n, rfl, _, rfl, ite2 (fun c => absurd c (by decide)) (fun _ => ?_)⟩
      refine ⟨.int (n : Int), rfl, .int (ah xs i), rfl, _, _, rfl, rfl, _, rfl, ite2 (fun c => ?_) (fun _ => ?_)⟩
      · have : (n : Int) ≤ ah xs i := of_decide_eq_true c
        omega
      · refine ⟨.int (n : Int), rfl, ⟨some (.int (i : Nat)), some (.int (n : Int)), ?_⟩, x1.trans (Ex.new nT)⟩
        show [some (V.ref a), some (V.int (n : Int)), some (V.int (i : Nat)), some (V.int (n : Int))] = [some (V.ref a), some (V.int (ah xs (i + 1))), some (V.int (i : Nat)), some (V.int (n : Int))]
        rw [ah, getD_at gn]
    · obtain ⟨⟨o1, o2, rfl⟩, x1⟩ := p
      exact q _ x1
def spArePl (K : PySem.W.Frag) : Sp := fun vs H Q _ => ∃ (a : Addr) (xs : List Nat), vs = [.ref a] ∧ H a = some (.tup (nvs xs)) ∧ Ris xs ∧ 0 < xs.length ∧ ∀ H', Ex H H' → Q (.bl true) H'
set_option maxHeartbeats 4000000 in
theorem ok_are_places (T : TX K mg A FD TK CC) : FnOk P w K mg base CX0 3 (A 45) (FD 45) ["thing"] (spArePl K) := by
  have G_first_fall := ok_first_fall (P := P) (w := w) (base := base) T
  refine T.f_are_places.ok (k := 2) sc_are_places (fun vs H Q E h => ?_) (fun cdv A' outer s H vs Q E hr h => ?_)
  · obtain ⟨a, xs, rfl, _⟩ := h
    rfl
  · obtain ⟨a, xs, rfl, hS, hR, h0, q⟩ := h
    refine ⟨_, (pss_one (ps_ret (pe_and (pe_callB (isiK (K := K) rfl) (by rfl) T.m_isinstance (by decide +kernel) (pa_cons (pv 0) (pa_cons (pe_bltn (v := .ty "tuple") (by rfl) T.m_tuple (by decide +kernel) rfl) pa_nil))) (pe_and (pe_cmpR op_gt (pe_callB (lenK (K := K) rfl) (by rfl) T.m_len (by decide +kernel) (pa_cons (pv 0) pa_nil)) pe_int (nomark _)) (pe_one (pe_cmpR op_isN (pe_call G_first_fall hr (by rfl) T.g_first_fall T.f_first_fall.kp T.b_first_fall .nil pass0 (pa_cons (pv 0) pa_nil)) pe_non (nomark _))))))), ?_⟩
    refine ⟨.ref a, rfl, .ref a, .ty "tuple", .type "tuple", .type "tuple", true, rfl, .ty _, .base (.tup hS), kit_ty (by decide +kernel), true, rfl, ?_⟩
    refine ⟨.ref a, rfl, a, _, rfl, .inr (SqT.of hS), _, 0, rfl, rfl, _, rfl, ite2 (fun _ => ?_) (fun c => ?_)⟩
    · refine ⟨.ref a, rfl, a, xs, rfl, SqT.of hS, hR, fun H1 e1 => ?_⟩
      refine ⟨rfl, ?_⟩
      exact q _ e1
    · refine absurd (decide_eq_true ?_) c
      rw [nvs_len]
      omega
/-- an entry at a: a slot and rising places -/
def EnA (H : Hp) (a : Addr) (e : Nat × List Nat) : Prop := ∃ t, H a = some (.tup [.int (e.1 : Int), .ref t]) ∧ H t = some (.tup (nvs e.2))
structure EnOk (e : Nat × List Nat) : Prop where
  ris : Ris e.2
  some : 0 < e.2.length
  few : e.2.length ≤ 120
  slot : e.1 < 16 ^ 100
  small : ∀ n ∈ e.2, n < 16 ^ 100
def EnsA (H : Hp) (xs : List V) (es : List (Nat × List Nat)) : Prop := xs.length = es.length ∧ ∀ (i : Nat) (e : Nat × List Nat), es[i]? = some e → ∃ a, xs[i]? = some (.ref a) ∧ EnA H a e
theorem EnA.ex {H H' : Hp} {a : Addr} {e : Nat × List Nat} (h : EnA H a e) (x : Ex H H') : EnA H' a e := by
  obtain ⟨t, h1, h2⟩ := h
  exact ⟨t, x _ _ h1, x _ _ h2⟩
theorem EnsA.ex {H H' : Hp} {xs : List V} {es : List (Nat × List Nat)} (h : EnsA H xs es) (x : Ex H H') : EnsA H' xs es := ⟨h.1, fun i e g => let ⟨a, h1, h2⟩ := h.2 i e g; ⟨a, h1, h2.ex x⟩⟩
theorem EnsA.at {H : Hp} {xs : List V} {es : List (Nat × List Nat)} (h : EnsA H xs es) {i : Nat} {v : V} (g : xs[i]? = .some v) : ∃ e a, es[i]? = .some e ∧ v = .ref a ∧ EnA H a e := by
  have hi : i < es.length := by rw [← h.1]; exact (List.getElem?_eq_some_iff.mp g).1
  obtain ⟨a, g1, g2⟩ := h.2 i es[i] (List.getElem?_eq_getElem hi)
  rw [g] at g1
  exact ⟨es[i], a, List.getElem?_eq_getElem hi, Option.some.inj g1, g2⟩
def spIsEn (K : PySem.W.Frag) : Sp := fun vs H Q _ => ∃ (a : Addr) (e : Nat × List Nat), vs = [.ref a] ∧ EnA H a e ∧ EnOk e ∧ ∀ H', Ex H H' → Q (.bl true) H'
set_option maxHeartbeats 4000000 in
theorem ok_is_entry (T : TX K mg A FD TK CC) : FnOk P w K mg base CX0 4 (A 44) (FD 44) ["thing"] (spIsEn K) := by
  have G_is_count := (ok_cnt (P := P) (w := w) (base := base) T).mono (show 2 ≤ 3 by decide)
  have G_are_places := ok_are_places (P := P) (w := w) (base := base) T
  refine T.f_is_entry.ok (k := 3) sc_is_entry (fun vs H Q E h => ?_) (fun cdv A' outer s H vs Q E hr h => ?_)
  · obtain ⟨a, e, rfl, _⟩ := h
    rfl
  · obtain ⟨a, e, rfl, ⟨t, ha, ht⟩, he, q⟩ := h
    refine ⟨_, (pss_one (ps_ret (pe_and (pe_callB (isiK (K := K) rfl) (by rfl) T.m_isinstance (by decide +kernel) (pa_cons (pv 0) (pa_cons (pe_bltn (v := .ty "tuple") (by rfl) T.m_tuple (by decide +kernel) rfl) pa_nil))) (pe_and (pe_cmpR op_eq (pe_callB (lenK (K := K) rfl) (by rfl) T.m_len (by decide +kernel) (pa_cons (pv 0) pa_nil)) pe_int (nomark _)) (pe_and (pe_call G_is_count hr (by rfl) T.g_is_count T.f_is_count.kp T.b_is_count .nil pass0 (pa_cons (pe_ix (ixTK (K := K) rfl) (pv 0) pe_int (fun _ _ => rfl)) pa_nil)) (pe_one (pe_call G_are_places hr (by rfl) T.g_are_places T.f_are_places.kp T.b_are_places .nil pass0 (pa_cons (pe_ix (ixTK (K := K) rfl) (pv 0) pe_int (fun _ _ => rfl)) pa_nil)))))))), ?_⟩
    refine ⟨.ref a, rfl, .ref a, .ty "tuple", .type "tuple", .type "tuple", true, rfl, .ty _, .base (.tup ha), kit_ty (by decide +kernel), true, rfl, ?_⟩
    refine ⟨.ref a, rfl, a, _, rfl, .inr (SqT.of ha), rfl, _, rfl, ite2 (fun _ => ?_) (fun c => absurd (decide_eq_true rfl) c)⟩
    refine ⟨.ref a, rfl, a, _, 0, _, rfl, rfl, SqT.of ha, atI_nat (j := 0) rfl, e.1, rfl, true, rfl, ?_⟩
    exact ⟨.ref a, rfl, a, _, 1, _, rfl, rfl, SqT.of ha, atI_nat (j := 1) rfl, t, e.2, rfl, ht, he.ris, he.some, q⟩
def slots (es : List (Nat × List Nat)) : List Nat := es.map (·.1)
def spChkEn (K : PySem.W.Frag) : Sp := fun vs H Q _ => ∃ (l : Addr) (xs : List V) (es : List (Nat × List Nat)), vs = [.ref l] ∧ H l = some (.lst xs) ∧ EnsA H xs es ∧ (∀ e ∈ es, EnOk e) ∧ Ris (slots es) ∧ ∀ H', Ex H H' → Q .non H'
theorem slots_at {es : List (Nat × List Nat)} {i : Nat} {e : Nat × List Nat} (g : es[i]? = some e) : (slots es)[i]? = some e.1 := by
  unfold slots
  rw [List.getElem?_map, g]
  rfl
set_option maxHeartbeats 4000000 in
theorem ok_check_entries (T : TX K mg A FD TK CC) : FnOk P w K mg base CX0 5 (A 43) (FD 43) ["entries"] (spChkEn K) := by
  have G_is_entry := ok_is_entry (P := P) (w := w) (base := base) T
  refine T.f_check_entries.ok (k := 4) sc_check_entries (fun vs H Q E h => ?_) (fun cdv A' outer s H vs Q E hr h => ?_)
  · obtain ⟨l, xs, es, rfl, _⟩ := h
    rfl
  · obtain ⟨l, xs, es, rfl, hl, hE, ho, hR, q⟩ := h
    refine ⟨_, (pss_cons (ps_if (pt_not (pt_val (pe_callB (isiK (K := K) rfl) (by rfl) T.m_isinstance (by decide +kernel) (pa_cons (pv 0) (pa_cons (pe_bltn (v := .ty "list") (by rfl) T.m_list (by decide +kernel) rfl) pa_nil)))))
      (pss_one ps_never)
      pss_nil)
      (pss_cons (ps_set (i := 1) sc_check_entries.nd rfl (.inl rfl) (pe_un un_neg pe_int))
      (pss_one (ps_for PassesOwn.never rfl (pi_enum (by rfl) T.m_enumerate (pa_cons (pv 0) pa_nil)) (pg_tup rfl (pgs_cons (pg_name (i := 2) sc_check_entries.nd rfl (.inl rfl)) (pgs_cons (pg_name (i := 3) sc_check_entries.nd rfl (.inl rfl)) pgs_nil)))
      (pss_cons (ps_if (PW.pt (pw_or (pt_not (pt_val (pe_call G_is_entry hr (by rfl) T.g_is_entry T.f_is_entry.kp T.b_is_entry .nil pass0 (pa_cons (pv 3) pa_nil)))) (pw_or1 (pt_cmpR op_le (pe_ix (ixTK (K := K) rfl) (pv 3) pe_int (fun _ _ => rfl)) (pv 1) (nomark _)))))
      (pss_one ps_never)
      pss_nil)
      (pss_one (ps_set (i := 1) sc_check_entries.nd rfl (.inl rfl) (pe_ix (ixTK (K := K) rfl) (pv 3) pe_int (fun _ _ => rfl))))))))), ?_⟩
    refine ⟨.ref l, rfl, .ref l, .ty "list", .type "list", .type "list", true, rfl, .ty _, .base (.lst hl), kit_ty (by decide +kernel), _, rfl, ite2 (fun c => absurd c (by decide)) (fun _ => ?_)⟩
    refine ⟨1, rfl, .ref l, rfl, l, _, rfl, SqL.of hl, ?_⟩
    refine for_it (walk_enum (K := K) (a := l) (xs := xs)) (fun i σ' H' => (∃ o1 o2, σ' = [some (.ref l), some (.int (ah (slots es) i)), o1, o2]) ∧ Ex H H') ⟨⟨none, none, rfl⟩, Ex.refl H⟩ (fun i σ' H' _ p => SqL.of (p.2 _ _ hl)) (fun i x σ' H1 H2 hi p y => ?_) (fun σ' H1 p => ?_)
    · obtain ⟨⟨o1, o2, rfl⟩, x1⟩ := p
      obtain ⟨Tt, u1, u2, rfl, nT, rfl, g1, g2⟩ := y
      cases g1
      obtain ⟨e, a, ge, rfl, hA⟩ := hE.at g2
      have eT := Ex.new (o := .tup [V.int (i : Nat), .ref a]) nT
      have hA2 := hA.ex (x1.trans eT)
      have lt := hR i e.1 (slots_at ge)
      obtain ⟨t, ha, ht⟩ := id hA2
      refine ⟨Tt, _, rfl, SqT.of upd_same, rfl, _, _, rfl, _, _, rfl, rfl, .ref a, rfl, a, e, rfl, hA2, ho e (List.mem_of_getElem? ge), fun H3 e3 => ⟨_, rfl, ite2 (fun c => absurd c (by decide)) (fun _ => ?_)⟩⟩
      refine ⟨.ref a, rfl, a, _, 0, _, rfl, rfl, SqT.of (e3 _ _ ha), atI_nat (j := 0) rfl, .int (ah (slots es) i), rfl, _, _, rfl, rfl, _, rfl, ite2 (fun c => ?_) (fun _ => ?_)⟩
      · have : (e.1 : Int) ≤ ah (slots es) i := of_decide_eq_true c
        omega
      · refine ⟨.ref a, rfl, a, _, 0, _, rfl, rfl, SqT.of (e3 _ _ ha), atI_nat (j := 0) rfl, ⟨some (.int (i : Nat)), some (.ref a), ?_⟩, (x1.trans eT).trans e3⟩
        show [some (V.ref l), some (V.int (e.1 : Int)), some (V.int (i : Nat)), some (V.ref a)] = [some (V.ref l), some (V.int (ah (slots es) (i + 1))), some (V.int (i : Nat)), some (V.ref a)]
        rw [ah, getD_at (slots_at ge)]
    · obtain ⟨⟨o1, o2, rfl⟩, x1⟩ := p
      exact q _ x1

/-! ### code_entries -/
theorem gaps_small {xs : List Nat} (h : ∀ n ∈ xs, n < 16 ^ 100) : ∀ g ∈ gapsL xs, g < 16 ^ 100 := fun g hg => by
  obtain ⟨j, hj, rfl⟩ := List.mem_map.mp hg
  have jl : j < xs.length := List.mem_range.mp hj
  have hx := h xs[j] (List.getElem_mem jl)
  have e : xs.getD j 0 = xs[j] := getD_at (List.getElem?_eq_getElem jl)
  have a1 : -1 ≤ ah xs j := by
    cases j with
    | zero => exact Int.le_refl _
    | succ i =>
      show (-1 : Int) ≤ ((xs.getD i 0 : Nat) : Int)
      omega
  unfold gapI
  rw [e]
  omega
theorem gapsL_len (xs : List Nat) : (gapsL xs).length = xs.length := by
  unfold gapsL
  rw [List.length_map, List.length_range]
/-- the code of an entry's places -/
def codeP (e : Nat × List Nat) : List (List Nat) := [codeN (e.2.length - 1), codeL (gapsL e.2)]
def codeE (es : List (Nat × List Nat)) : List (List Nat) := [codeN es.length, codeL (gapsL (slots es))] ++ (es.map codeP).flatten
structure Ens (es : List (Nat × List Nat)) : Prop where
  ok : ∀ e ∈ es, EnOk e
  ris : Ris (slots es)
  few : es.length ≤ 60
theorem slots_small {es : List (Nat × List Nat)} (h : ∀ e ∈ es, EnOk e) : ∀ n ∈ slots es, n < 16 ^ 100 := fun n hn => by
  obtain ⟨e, he, rfl⟩ := List.mem_map.mp hn
  exact (h e he).slot
theorem small_nat {n : Nat} (h : n ≤ 1000) : n < 16 ^ 100 := Nat.lt_of_le_of_lt h (by decide +kernel)
theorem codeP_flat_len {es : List (Nat × List Nat)} (h : ∀ e ∈ es, EnOk e) : ((es.map codeP).flatten).flatten.length ≤ es.length * 13000 := by
  induction es with
  | nil => exact Nat.zero_le _
  | cons e r ih =>
    have he := h e (List.mem_cons_self ..)
    have i := ih fun f hf => h f (List.mem_cons_of_mem _ hf)
    have a := codeN_len 99 (e.2.length - 1) (small_nat (by have := he.few; omega))
    have b := codeL_len (gaps_small he.small)
    rw [gapsL_len] at b
    have c := he.few
    have d : e.2.length * 100 ≤ 12000 := by omega
    rw [List.map_cons, List.flatten_cons, List.flatten_append, List.length_append, List.length_cons, Nat.add_mul]
    have k : (codeP e).flatten.length = (codeN (e.2.length - 1)).length + (codeL (gapsL e.2)).length := by
      unfold codeP
      simp
    omega
def spCodeE (K : PySem.W.Frag) : Sp := fun vs H Q _ => ∃ (l : Addr) (xs : List V) (es : List (Nat × List Nat)), vs = [.ref l] ∧ H l = some (.lst xs) ∧ EnsA H xs es ∧ Ens es ∧ ∀ H', Ex H H' → Q (.str (txt (codeE es).flatten)) H'
set_option maxHeartbeats 8000000 in
theorem ok_code_entries (T : TX K mg A FD TK CC) : FnOk P w K mg base CX0 6 (A 41) (FD 41) ["entries"] (spCodeE K) := by
  have G_check_entries := ok_check_entries (P := P) (w := w) (base := base) T
  have G_code := (ok_code (P := P) (w := w) (base := base) T).mono (show 3 ≤ 5 by decide)
  have G_code_all := (ok_code_all (P := P) (w := w) (base := base) T).mono (show 4 ≤ 5 by decide)
  have G_gaps_of := (ok_gaps_of (P := P) (w := w) (base := base) T).mono (show 1 ≤ 5 by decide)
  refine T.f_code_entries.ok (k := 5) sc_code_entries (fun vs H Q E h => ?_) (fun cdv A' outer s H vs Q E hr h => ?_)
  · obtain ⟨l, xs, es, rfl, _⟩ := h
    rfl
  · obtain ⟨l, xs, es, rfl, hl, hE, hs, q⟩ := h
    have few := hs.few
    refine ⟨_, (pss_cons (ps_expr (pe_call G_check_entries hr (by rfl) T.g_check_entries T.f_check_entries.kp T.b_check_entries .nil pass0 (pa_cons (pv 0) pa_nil)))
      (pss_cons (ps_set (i := 1) sc_code_entries.nd rfl (.inl rfl) (pe_lst (pa_cons (pe_call G_code hr (by rfl) T.g_code T.f_code.kp T.b_code .nil pass0 (pa_cons (pe_callB (lenK (K := K) rfl) (by rfl) T.m_len (by decide +kernel) (pa_cons (pv 0) pa_nil)) pa_nil)) (pa_cons (pe_call G_code_all hr (by rfl) T.g_code_all T.f_code_all.kp T.b_code_all .nil pass0 (pa_cons (pe_call G_gaps_of hr (by rfl) T.g_gaps_of T.f_gaps_of.kp T.b_gaps_of .nil pass0 (pa_cons (pe_lc (own := [("slot", 2), ("places", 3)])  rfl sc_code_entries.nd (piLK (K := K) rfl (pv 0)) (blkOk_by (own := [("slot", 2), ("places", 3)]) (N := N_code_entries) (sc := defScope (topS 41)) (by decide +kernel)) (fun _ _ _ _ _ => (tupGK (K := K) (n := 2) rfl rfl (pgs_cons (pg_name (i := 2) sc_code_entries.nd rfl (Or.inl rfl)) (pgs_cons (pg_name (i := 3) sc_code_entries.nd rfl (Or.inl rfl)) pgs_nil)))) (fun _ _ _ _ _ => pts_nil) (fun _ _ _ _ _ => (pv 2))) pa_nil)) pa_nil)) pa_nil))))
      (pss_cons (ps_for PassesOwn.never rfl (piLK (K := K) rfl (pv 0)) (pg_tup rfl (pgs_cons (pg_name (i := 2) sc_code_entries.nd rfl (.inl rfl)) (pgs_cons (pg_name (i := 3) sc_code_entries.nd rfl (.inl rfl)) pgs_nil)))
      (pss_cons (ps_expr (pe_bm PySem.F.plainAttrs_list PySem.F.slot_list_append PySem.F.type_list_append mt_append (pv 1) (pa_cons (pe_call G_code hr (by rfl) T.g_code T.f_code.kp T.b_code .nil pass0 (pa_cons (pe_op op_sub (pe_callB (lenK (K := K) rfl) (by rfl) T.m_len (by decide +kernel) (pa_cons (pv 3) pa_nil)) pe_int) pa_nil)) pa_nil)))
      (pss_one (ps_expr (pe_bm PySem.F.plainAttrs_list PySem.F.slot_list_append PySem.F.type_list_append mt_append (pv 1) (pa_cons (pe_call G_code_all hr (by rfl) T.g_code_all T.f_code_all.kp T.b_code_all .nil pass0 (pa_cons (pe_call G_gaps_of hr (by rfl) T.g_gaps_of T.f_gaps_of.kp T.b_gaps_of .nil pass0 (pa_cons (pv 3) pa_nil)) pa_nil)) pa_nil))))))
      (pss_one (ps_ret (pe_join pe_str (pv 1))))))), ?_⟩
    refine ⟨.ref l, rfl, l, xs, es, rfl, hl, hE, hs.ok, hs.ris, fun H1 e1 => ?_⟩
    have hl1 := e1 _ _ hl
    have hE1 := hE.ex e1
    refine ⟨.ref l, rfl, l, _, rfl, .inl (SqL.of hl1), es.length, ?_, small_nat (by omega), fun H2 e2 => ?_⟩
    · rw [hE.1]
      rfl
    have hl2 := e2 _ _ hl1
    have hE2 := hE1.ex e2
    refine ⟨.ref l, rfl, l, rfl, ⟨_, SqL.of hl2⟩, fun D nD => ?_⟩
    refine lc_list (K := K) (xs := xs) (fun i H' => Ex H2 H' ∧ H' D = some (.lst (nvs (slots (es.take i))))) ⟨Ex.new nD, upd_same⟩ (fun i H' _ z => SqL.of (z.1 _ _ hl2)) (fun i v H' gv z => ?_) (fun H3 z => ?_)
    · obtain ⟨z1, z2⟩ := z
      obtain ⟨e, a, ge, rfl, hA⟩ := hE2.at gv
      obtain ⟨t, ha, ht⟩ := hA.ex z1
      have il : i < es.length := (List.getElem?_eq_some_iff.mp ge).1
      refine ⟨a, _, rfl, SqT.of ha, rfl, _, _, rfl, _, _, rfl, rfl, rfl, .int (e.1 : Int), rfl, _, z2, ?_, Ex.mut z1 nD, ?_⟩
      · rw [nvs_len]
        unfold slots
        rw [List.length_map, List.length_take]
        exact sz_lt (by omega)
      · rw [upd_same, take_up ge]
        unfold slots nvs
        rw [List.map_append, List.map_append]
        rfl
    · obtain ⟨e3, hD⟩ := z
      rw [hE.1, List.take_length] at hD
      have sl : (slots es).length = es.length := List.length_map ..
      refine ⟨D, slots es, rfl, .inl (SqL.of hD), hs.ris, by omega, fun g H4 ng e4 hg => ?_⟩
      refine ⟨g, gapsL (slots es), rfl, hg, ?_, gaps_small (slots_small hs.ok), fun H5 e5 => ⟨by show 2 ≤ sizeLine; decide, fun TX nTX => ?_⟩⟩
      · rw [gapsL_len]
        omega
      have x5 : Ex H H5 := ((((e1.trans e2).trans e3).trans e4).trans e5)
      have nTX0 : H TX = none := fresh_back x5 nTX
      refine ⟨.ref l, rfl, l, rfl, ⟨_, SqL.of ((x5.trans (Ex.new nTX)) _ _ hl)⟩, ?_⟩
      refine for_list (K := K) (xs := xs) (fun i σ' H' => (∃ o1 o2, σ' = [some (.ref l), some (.ref TX), o1, o2]) ∧ H' TX = some (.lst ((([codeN es.length, codeL (gapsL (slots es))] ++ ((es.take i).map codeP).flatten).map txt).map V.str)) ∧ Ex H H') ⟨⟨none, none, rfl⟩, upd_same, x5.trans (Ex.new nTX)⟩ (fun i σ' H' _ p => SqL.of (p.2.2 _ _ hl)) (fun i v σ' H6 gv p => ?_) (fun σ' H6 p => ?_)
      · obtain ⟨⟨o1, o2, rfl⟩, hX, x6⟩ := p
        obtain ⟨e, a, ge, rfl, hA⟩ := hE.at gv
        obtain ⟨t, ha, ht⟩ := hA.ex x6
        have il : i < es.length := (List.getElem?_eq_some_iff.mp ge).1
        have he := hs.ok e (List.mem_of_getElem? ge)
        have hfew := he.few
        have hsome := he.some
        have lX : ((([codeN es.length, codeL (gapsL (slots es))] ++ ((es.take i).map codeP).flatten).map txt).map V.str).length ≤ 2 + 2 * i := by
          rw [List.length_map, List.length_map, List.length_append]
          have : ∀ fs : List (Nat × List Nat), ((fs.map codeP).flatten).length = 2 * fs.length := by
            intro fs
            induction fs with
            | nil => rfl
            | cons f r ih =>
              rw [List.map_cons, List.flatten_cons, List.length_append, ih, List.length_cons]
              show 2 + 2 * r.length = _
              omega
          rw [this, List.length_take]
          show 2 + _ ≤ _
          omega
        refine ⟨a, _, rfl, SqT.of ha, rfl, _, _, rfl, _, _, rfl, rfl, .ref TX, rfl, .inl ⟨rfl, _, SqL.of hX⟩, .ref t, rfl, t, _, rfl, .inr (SqT.of ht), _, 1, rfl, rfl, e.2.length - 1, ?_, small_nat (by omega), fun H7 e7 => ⟨TX, _, _, rfl, rfl, e7 _ _ hX, sz_lt (by omega), ?_⟩⟩
        · rw [nvs_len]
          show [V.int ((e.2.length : Int) - 1)] = [V.int ((e.2.length - 1 : Nat) : Int)]
          rw [show (e.2.length : Int) - 1 = ((e.2.length - 1 : Nat) : Int) by omega]
        have x8 := Ex.mut (o := .lst ((([codeN es.length, codeL (gapsL (slots es))] ++ ((es.take i).map codeP).flatten).map txt).map V.str ++ [.str (txt (codeN (e.2.length - 1)))])) (x6.trans e7) nTX0
        have h8 := upd_same (H := H7) (a := TX) (o := .lst ((([codeN es.length, codeL (gapsL (slots es))] ++ ((es.take i).map codeP).flatten).map txt).map V.str ++ [.str (txt (codeN (e.2.length - 1)))]))
        have ht8 : (upd H7 TX (.lst ((([codeN es.length, codeL (gapsL (slots es))] ++ ((es.take i).map codeP).flatten).map txt).map V.str ++ [.str (txt (codeN (e.2.length - 1)))]))) t = some (.tup (nvs e.2)) := by
          rw [upd_ne (ne_of ht hX (by intro z; cases z))]
          exact e7 _ _ ht
        generalize upd H7 TX (.lst ((([codeN es.length, codeL (gapsL (slots es))] ++ ((es.take i).map codeP).flatten).map txt).map V.str ++ [.str (txt (codeN (e.2.length - 1)))])) = H8 at x8 h8 ht8 ⊢
        refine ⟨.ref TX, rfl, .inl ⟨rfl, _, SqL.of h8⟩, .ref t, rfl, t, e.2, rfl, .inr (SqT.of ht8), he.ris, by omega, fun g2 H9 ng2 e9 hg2 => ⟨g2, gapsL e.2, rfl, hg2, ?_, gaps_small he.small, fun HA eA => ⟨TX, _, _, rfl, rfl, eA _ _ (e9 _ _ h8), ?_, ⟨_, _, rfl⟩, ?_, Ex.mut ((x8.trans e9).trans eA) nTX0⟩⟩⟩
        · rw [gapsL_len]
          omega
        · rw [List.length_append]
          exact sz_lt (by show _ + 1 < 100000; omega)
        · have ee : [codeN es.length, codeL (gapsL (slots es))] ++ ((es.take i ++ [e]).map codeP).flatten = ([codeN es.length, codeL (gapsL (slots es))] ++ ((es.take i).map codeP).flatten) ++ [codeN (e.2.length - 1), codeL (gapsL e.2)] := by simp [codeP]
          rw [upd_same, take_up ge, ee]
          generalize [codeN es.length, codeL (gapsL (slots es))] ++ ((es.take i).map codeP).flatten = bs
          rw [List.map_append, List.map_append, List.append_assoc]
          rfl
      · obtain ⟨⟨o1, o2, rfl⟩, hX, x6⟩ := p
        rw [hE.1, List.take_length] at hX
        refine ⟨⟨_, rfl⟩, .ref TX, rfl, "", TX, (codeE es).map txt, rfl, rfl, .inl (SqL.of hX), ?_, ?_⟩
        · rw [sum_txts]
          have a := codeP_flat_len hs.ok
          have b := codeN_len 99 es.length (small_nat (by omega))
          have c := codeL_len (gaps_small (slots_small hs.ok))
          rw [gapsL_len] at c
          have k : (codeE es).flatten.length = (codeN es.length).length + (codeL (gapsL (slots es))).length + ((es.map codeP).flatten).flatten.length := by
            unfold codeE
            rw [List.flatten_append, List.length_append]
            simp
          show _ + _ * 0 ≤ 16777216
          have d : es.length * 13000 ≤ 60 * 13000 := Nat.mul_le_mul few (Nat.le_refl _)
          omega
        · rw [join_txts]
          exact q _ x6

/-! ### read_number -/
def pw (i : Nat) : Nat := 16 ^ i
theorem pw_succ (i : Nat) : pw (i + 1) = pw i * 16 := Nat.pow_succ ..
theorem pw_pos (i : Nat) : 0 < pw i := Nat.pow_pos (by decide)
theorem div_succ (n i : Nat) : n / pw (i + 1) = n / pw i / 16 := by rw [pw_succ, Nat.div_div_eq_div_mul]
theorem mod_succ' (n i : Nat) : n % pw (i + 1) = n % pw i + (n / pw i % 16) * pw i := by
  rw [pw_succ, Nat.mod_mul, Nat.mul_comm (pw i)]
theorem split_at (n i : Nat) : n % pw i + (n / pw i) * pw i = n := by
  rw [Nat.mul_comm]
  exact Nat.mod_add_div n (pw i)
theorem codeN_drop (n : Nat) : ∀ i, i < (codeN n).length → (codeN n).drop i = codeN (n / pw i)
  | 0, _ => by rw [show pw 0 = 1 from rfl, Nat.div_one, List.drop_zero]
  | i + 1, h => by
    have a := codeN_drop n i (by omega)
    have l : ((codeN n).drop i).length = (codeN n).length - i := List.length_drop ..
    rw [a] at l
    have up : ¬ n / pw i < 16 := fun z => by
      rw [codeN_low z] at l
      have l : 1 = (codeN n).length - i := l
      omega
    have b : (codeN n).drop (i + 1) = ((codeN n).drop i).drop 1 := by rw [List.drop_drop]
    rw [b, a, codeN_up up, div_succ]
    rfl
theorem codeN_end (n i : Nat) (h : i < (codeN n).length) : (n / pw i < 16 ↔ (codeN n).length = i + 1) := by
  have l : ((codeN n).drop i).length = (codeN n).length - i := List.length_drop ..
  rw [codeN_drop n i h] at l
  constructor
  · intro z
    rw [codeN_low z] at l
    have l : 1 = (codeN n).length - i := l
    omega
  · intro z
    apply Classical.byContradiction
    intro up
    rw [codeN_up up, List.length_cons] at l
    have := codeN_pos (n / pw i / 16)
    omega
theorem codeN_head (n i : Nat) (h : i < (codeN n).length) : (codeN n)[i]? = some (if n / pw i < 16 then 97 + n / pw i else 65 + n / pw i % 16) := by
  have e : (codeN n)[i]? = ((codeN n).drop i)[0]? := by rw [List.getElem?_drop, Nat.add_zero]
  rw [e, codeN_drop n i h]
  by_cases z : n / pw i < 16
  · rw [codeN_low z, if_pos z]
    rfl
  · rw [codeN_up z, if_neg z]
    rfl
theorem pos_in (n : Nat) : ∀ i, i < (codeN n).length → i = 0 ∨ 0 < n / pw i
  | 0, _ => .inl rfl
  | i + 1, h => .inr (by
    have z : ¬ n / pw i < 16 := fun z => by
      have := (codeN_end n i (by omega)).mp z
      omega
    rw [div_succ]
    omega)
def spRead : Sp := fun vs H Q _ => ∃ (L rest : List Nat) (st n : Nat), vs = [.str (txt L), .int (st : Int)] ∧ L.length ≤ 90000 ∧ L.drop st = codeN n ++ rest ∧ st + (codeN n).length ≤ L.length ∧
  ∀ p, H p = none → Q (.ref p) (upd H p (.tup [.int (n : Int), .int ((st + (codeN n).length : Nat) : Int)]))
theorem L_at {L rest : List Nat} {st n : Nat} (h : L.drop st = codeN n ++ rest) {i : Nat} (hi : i < (codeN n).length) : L[st + i]? = (codeN n)[i]? := by
  rw [← List.getElem?_drop, h, List.getElem?_append_left hi]
set_option maxHeartbeats 8000000 in
theorem ok_read_number (T : TX K mg A FD TK CC) : FnOk P w K mg base CX0 1 (A 50) (FD 50) ["text", "start"] spRead := by
  refine T.f_read_number.ok sc_read_number (fun vs H Q E h => ?_) (fun cdv A' outer s H vs Q E hr h => ?_)
  · obtain ⟨L, rest, st, n, rfl, _⟩ := h
    rfl
  · obtain ⟨L, rest, st, n, rfl, hL, hd, hle, q⟩ := h
    have cp := codeN_pos n
    have tlL : (txt L).length = L.length := txt_len L
    refine ⟨_, (pss_cons (ps_set (i := 2) sc_read_number.nd rfl (.inl rfl) pe_int)
      (pss_cons (ps_set (i := 3) sc_read_number.nd rfl (.inl rfl) pe_int)
      (pss_cons (ps_for PassesOwn.never rfl (pi_range2 (by rfl) T.m_range (pa_cons (pv 1) (pa_cons (pe_callB call_len_str (by rfl) T.m_len (by decide +kernel) (pa_cons (pv 0) pa_nil)) pa_nil))) (pg_name (i := 4) sc_read_number.nd rfl (.inl rfl))
      (pss_cons (ps_set (i := 5) sc_read_number.nd rfl (.inl rfl) (pe_bm PySem.F.plainAttrs_str PySem.F.slot_str_find PySem.F.type_str_find mt_find (pe_glob (v := .str "abcdefghijklmnop") (by rfl) T.c_LAST_DIGITS ⟨_, rfl⟩) (pa_cons (pe_ix ix_str (pv 0) (pv 4) (fun _ _ => rfl)) pa_nil)))
      (pss_cons (ps_if (PW.pt (pw_or (pt_cmpR op_gt (pv 5) pe_int (nomark _)) (pw_or1 (PW.pt (pw_and (pt_cmpR op_eq (pv 5) pe_int (nomark _)) (pw_and1 (pt_cmpR op_eq (pv 4) (pv 1) (nomark _))))))))
      (pss_one (ps_ret (pe_tup (pa_cons (pe_op op_add (pv 2) (pe_op op_mul (pv 5) (pv 3))) (pa_cons (pe_op op_add (pv 4) pe_int) pa_nil)))))
      pss_nil)
      (pss_cons (ps_set (i := 6) sc_read_number.nd rfl (.inl rfl) (pe_bm PySem.F.plainAttrs_str PySem.F.slot_str_find PySem.F.type_str_find mt_find (pe_glob (v := .str "ABCDEFGHIJKLMNOP") (by rfl) T.c_DIGITS_AHEAD ⟨_, rfl⟩) (pa_cons (pe_ix ix_str (pv 0) (pv 4) (fun _ _ => rfl)) pa_nil)))
      (pss_cons (ps_if (pt_cmpR op_lt (pv 6) pe_int (nomark _))
      (pss_one ps_never)
      pss_nil)
      (pss_cons (ps_aug (i := 2) sc_read_number.nd rfl (.inl rfl) (pe_op op_mul (pv 6) (pv 3)) ip_add)
      (pss_one (ps_aug (i := 3) sc_read_number.nd rfl (.inl rfl) pe_int ip_mulI))))))))
      (pss_one ps_never)))), ?_⟩
    refine ⟨.int (st : Int), rfl, .str (txt L), rfl, txt L, rfl, sz (by omega), (st : Int), ((txt L).length : Int), rfl, by omega, ?_⟩
    refine for_range (lo := (st : Int)) (n := (((txt L).length : Int) - (st : Int)).toNat) (fun i σ' H' => H' = H ∧ i < (codeN n).length ∧ ∃ o4 o5 o6, σ' = [some (.str (txt L)), some (.int (st : Int)), some (.int ((n % pw i : Nat) : Int)), some (.int ((pw i : Nat) : Int)), o4, o5, o6]) ⟨rfl, by omega, none, none, none, ?_⟩ (fun i σ' H' hi p => ?_) (fun σ' H' p => ?_)
    · rw [show pw 0 = 1 from rfl, Nat.mod_one]
      rfl
    · obtain ⟨rfl, hi2, o4, o5, o6, rfl⟩ := p
      have g := (L_at hd hi2).trans (codeN_head n i hi2)
      have ga : atI (txt L).cps.toList ((st : Int) + (i : Int)) = some (if n / pw i < 16 then 97 + n / pw i else 65 + n / pw i % 16) := by
        rw [show (st : Int) + (i : Int) = ((st + i : Nat) : Int) by omega]
        exact atI_nat g
      refine ⟨rfl, .str (txt L), rfl, .int ((st : Int) + (i : Int)), rfl, txt L, _, _, rfl, rfl, sz (by omega), ga, loS, one _, rfl, rfl, ?_⟩
      by_cases z : n / pw i < 16
      · have zl := (codeN_end n i hi2).mp z
        rw [if_pos z, lo_find _ z]
        have fin : ∀ p, H' p = none → Q (.ref p) (upd H' p (.tup [.int (((n % pw i : Nat) : Int) + ((n / pw i : Nat) : Int) * ((pw i : Nat) : Int)), .int ((st : Int) + (i : Int) + 1)])) := fun p np => by
          have e1 : ((n % pw i : Nat) : Int) + ((n / pw i : Nat) : Int) * ((pw i : Nat) : Int) = (n : Int) := by
            rw [← Int.natCast_mul, ← Int.natCast_add, split_at]
          have e2 : (st : Int) + (i : Int) + 1 = ((st + (codeN n).length : Nat) : Int) := by omega
          rw [e1, e2]
          exact q p np
        have cm : CMul ((n / pw i : Nat) : Int) ((pw i : Nat) : Int) := .inl ⟨Int.lt_of_lt_of_le (by decide) (Int.natCast_nonneg _), Int.lt_trans (Int.ofNat_lt.mpr z) (by decide)⟩
        refine ⟨.int ((n / pw i : Nat) : Int), rfl, _, 0, rfl, rfl, _, rfl, ite2 (fun c => ?_) (fun c => ?_)⟩
        · exact ⟨.int _, rfl, .int ((n / pw i : Nat) : Int), rfl, .int ((pw i : Nat) : Int), rfl, _, _, rfl, rfl, cm, _, _, rfl, rfl, .int ((st : Int) + (i : Int)), rfl, _, 1, rfl, rfl, by show 2 ≤ sizeLine; decide, fin⟩
        · have m0 : n / pw i = 0 := by
            have : ¬ (0 : Int) < ((n / pw i : Nat) : Int) := fun y => c (decide_eq_true y)
            exact Nat.eq_zero_of_not_pos fun h => this (Int.ofNat_lt.mpr h)
          have i0 : i = 0 := by
            rcases pos_in n i hi2 with k | k
            · exact k
            · omega
          refine ⟨.int ((n / pw i : Nat) : Int), rfl, rfl, _, rfl, ite2 (fun _ => ?_) (fun c2 => ?_)⟩
          · refine ⟨.int ((st : Int) + (i : Int)), rfl, .int (st : Int), rfl, rfl, _, rfl, ite2 (fun _ => ?_) (fun c3 => ?_)⟩
            · exact ⟨.int _, rfl, .int ((n / pw i : Nat) : Int), rfl, .int ((pw i : Nat) : Int), rfl, _, _, rfl, rfl, cm, _, _, rfl, rfl, .int ((st : Int) + (i : Int)), rfl, _, 1, rfl, rfl, by show 2 ≤ sizeLine; decide, fin⟩
            · refine absurd (decide_eq_true ?_) c3
              rw [i0]
              show V.int ((st : Int) + 0) = V.int (st : Int)
              rw [Int.add_zero]
          · refine absurd (decide_eq_true ?_) c2
            rw [m0]
            rfl
      · have zl : (codeN n).length ≠ i + 1 := fun e => z ((codeN_end n i hi2).mpr e)
        have m16 : n / pw i % 16 < 16 := Nat.mod_lt _ (by decide)
        rw [if_neg z] at ga
        rw [if_neg z, lo_none _ m16]
        refine ⟨.int (-1), rfl, _, 0, rfl, rfl, _, rfl, ite2 (fun c => absurd c (by decide)) (fun _ => ?_)⟩
        refine ⟨.int (-1), rfl, rfl, _, rfl, ite2 (fun c => absurd c (by decide)) (fun _ => ?_)⟩
        refine ⟨rfl, .str (txt L), rfl, .int ((st : Int) + (i : Int)), rfl, txt L, _, _, rfl, rfl, sz (by omega), ga, upS, one _, rfl, rfl, ?_⟩
        rw [up_find _ m16]
        refine ⟨.int ((n / pw i % 16 : Nat) : Int), rfl, _, 0, rfl, rfl, _, rfl, ite2 (fun c => ?_) (fun _ => ?_)⟩
        · have : ((n / pw i % 16 : Nat) : Int) < 0 := of_decide_eq_true c
          omega
        have cm : CMul ((n / pw i % 16 : Nat) : Int) ((pw i : Nat) : Int) := .inl ⟨by omega, by omega⟩
        have cm2 : CMul ((pw i : Nat) : Int) 16 := .inr ⟨by decide, by decide⟩
        refine ⟨.int ((n % pw i : Nat) : Int), rfl, .int ((n / pw i % 16 : Nat) : Int), rfl, .int ((pw i : Nat) : Int), rfl, _, _, rfl, rfl, cm, _, _, rfl, rfl, .int ((pw i : Nat) : Int), rfl, _, 16, rfl, rfl, cm2, rfl, by omega, some (.int ((st : Int) + (i : Int))), some (.int (-1)), some (.int ((n / pw i % 16 : Nat) : Int)), ?_⟩
        have e1 : ((n % pw i : Nat) : Int) + ((n / pw i % 16 : Nat) : Int) * ((pw i : Nat) : Int) = ((n % pw (i + 1) : Nat) : Int) := by
          rw [mod_succ', Int.natCast_add, Int.natCast_mul]
        have e2 : ((pw i : Nat) : Int) * 16 = ((pw (i + 1) : Nat) : Int) := by
          rw [pw_succ, Int.natCast_mul]
          rfl
        rw [← e1, ← e2]
        rfl
    · obtain ⟨rfl, hi2, _⟩ := p
      exfalso
      omega
/-! ### read_numbers, risen -/
def spReads : Sp := fun vs H Q _ => ∃ (L rest : List Nat) (st : Nat) (ns : List Nat), vs = [.str (txt L), .int (st : Int), .int (ns.length : Int)] ∧ L.length ≤ 90000 ∧ ns.length ≤ 900 ∧ L.drop st = codeL ns ++ rest ∧ st + (codeL ns).length ≤ L.length ∧
  ∀ (l p : Addr) (H' : Hp), H l = none → H p = none → Ex H H' → H' l = some (.lst (nvs ns)) → H' p = some (.tup [.ref l, .int ((st + (codeL ns).length : Nat) : Int)]) → Q (.ref p) H'
def muR (k : Nat) (f : Hp → Nat) : L2.St → Hp → Nat := fun _ H => k - f H
theorem codeL_cons (n : Nat) (r : List Nat) : codeL (n :: r) = codeN n ++ codeL r := by
  unfold codeL
  rw [List.map_cons, List.flatten_cons]
theorem codeL_app (a b : List Nat) : codeL (a ++ b) = codeL a ++ codeL b := by
  unfold codeL
  rw [List.map_append, List.flatten_append]
def spRisen (K : PySem.W.Frag) : Sp := fun vs H Q _ => ∃ (a : Addr) (xs : List Nat), vs = [.ref a] ∧ SqL K H a (nvs (gapsL xs)) ∧ Ris xs ∧ xs.length ≤ 900 ∧ ∀ (l : Addr) (H' : Hp), H l = none → Ex H H' → H' l = some (.lst (nvs xs)) → Q (.ref l) H'
theorem gaps_at {xs : List Nat} {i g : Nat} (e : (gapsL xs)[i]? = some g) : i < xs.length ∧ g = gapI xs i := by
  have h := (List.getElem?_eq_some_iff.mp e).1
  rw [gapsL_len] at h
  refine ⟨h, ?_⟩
  unfold gapsL at e
  rw [List.getElem?_map, List.getElem?_range h] at e
  exact (Option.some.inj e).symm
set_option maxHeartbeats 4000000 in
theorem ok_risen (T : TX K mg A FD TK CC) : FnOk P w K mg base CX0 1 (A 48) (FD 48) ["gaps"] (spRisen K) := by
  refine T.f_risen.ok sc_risen (fun vs H Q E h => ?_) (fun cdv A' outer s H vs Q E hr h => ?_)
  · obtain ⟨a, xs, rfl, _⟩ := h
    rfl
  · obtain ⟨a, xs, rfl, hS, hR, hn, q⟩ := h
    refine ⟨_, (pss_cons (ps_set (i := 1) sc_risen.nd rfl (.inl rfl) (pe_lst pa_nil))
      (pss_cons (ps_set (i := 2) sc_risen.nd rfl (.inl rfl) (pe_un un_neg pe_int))
      (pss_cons (ps_for PassesOwn.never rfl (piLK (K := K) rfl (pv 0)) (pg_name (i := 3) sc_risen.nd rfl (.inl rfl))
      (pss_cons (ps_aug (i := 2) sc_risen.nd rfl (.inl rfl) (pe_op op_add (pv 3) pe_int) ip_add)
      (pss_one (ps_expr (pe_bm PySem.F.plainAttrs_list PySem.F.slot_list_append PySem.F.type_list_append mt_append (pv 1) (pa_cons (pv 2) pa_nil))))))
      (pss_one (ps_ret (pv 1)))))), ?_⟩
    refine ⟨Nat.zero_le _, fun D nD => ⟨1, rfl, ?_⟩⟩
    have e1 : Ex H (upd H D (.lst [])) := Ex.new nD
    refine ⟨.ref a, rfl, a, rfl, ⟨_, ex_l e1 hS⟩, ?_⟩
    refine for_list (K := K) (xs := nvs (gapsL xs)) (fun i σ' H' => (∃ o, σ' = [some (.ref a), some (.ref D), some (.int (ah xs i)), o]) ∧ H' D = some (.lst (nvs (xs.take i))) ∧ Ex H H') ⟨⟨none, rfl⟩, upd_same, e1⟩ (fun i σ' H' _ p => ex_l p.2.2 hS) (fun i x σ' H1 g p => ?_) (fun σ' H1 p => ?_)
    · obtain ⟨⟨o, rfl⟩, hD, x1⟩ := p
      obtain ⟨gg, gn, rfl, _⟩ := nvs_at g
      obtain ⟨il, rfl⟩ := gaps_at gn
      have gx : xs[i]? = some xs[i] := List.getElem?_eq_getElem il
      have gi := gap_is hR gx
      have e2 : ah xs i + (((gapI xs i : Nat) : Int) + 1) = ah xs (i + 1) := by
        rw [← gi, ah, getD_at gx]
        omega
      refine ⟨.int (ah xs i), rfl, .int ((gapI xs i : Nat) : Int), rfl, _, 1, rfl, rfl, _, _, rfl, rfl, .ref D, rfl, .inl ⟨rfl, _, SqL.of hD⟩, .int (ah xs (i + 1)), ?_, D, _, _, rfl, rfl, hD, ?_, ⟨some (.int ((gapI xs i : Nat) : Int)), ?_⟩, ?_, Ex.mut x1 nD⟩
      · rw [← e2]
        rfl
      · rw [nvs_len, List.length_take]
        exact sz_lt (by omega)
      · rw [← e2]
        rfl
      · rw [upd_same, take_up gx, nvs_snoc, ah, getD_at gx]
    · obtain ⟨⟨o, rfl⟩, hD, x1⟩ := p
      rw [nvs_len, gapsL_len, List.take_length] at hD
      exact ⟨.ref D, rfl, q D H1 nD x1 hD⟩

/-! ### read_numbers, decode_entries -/
def lenAt (D : Addr) (H : Hp) : Nat := match H D with
  | some (.lst xs) => xs.length
  | _ => 0
theorem lenAt_is {D : Addr} {H : Hp} {xs : List V} (h : H D = some (.lst xs)) : lenAt D H = xs.length := by
  unfold lenAt
  rw [h]
theorem drop_more {L a b : List Nat} {st : Nat} (h : L.drop st = a ++ b) : L.drop (st + a.length) = b := by
  rw [← List.drop_drop, h, List.drop_left' rfl]
set_option maxHeartbeats 8000000 in
theorem ok_read_numbers (T : TX K mg A FD TK CC) : FnOk P w K mg base CX0 2 (A 51) (FD 51) ["text", "at", "many"] spReads := by
  have G_read_number := ok_read_number (P := P) (w := w) (base := base) T
  refine T.f_read_numbers.ok (k := 1) sc_read_numbers (fun vs H Q E h => ?_) (fun cdv A' outer s H vs Q E hr h => ?_)
  · obtain ⟨L, rest, st, ns, rfl, _⟩ := h
    rfl
  · obtain ⟨L, rest, st, ns, rfl, hL, hn, hd, hle, q⟩ := h
    refine ⟨_, (pss_cons (ps_set (i := 3) sc_read_numbers.nd rfl (.inl rfl) (pe_lst pa_nil))
      (pss_cons (ps_while PassesOwn.never (pt_cmpR op_lt (pe_callB (lenK (K := K) rfl) (by rfl) T.m_len (by decide +kernel) (pa_cons (pv 3) pa_nil)) (pv 2) (nomark _))
      (pss_cons (ps_asg (pe_call G_read_number hr (by rfl) T.g_read_number T.f_read_number.kp T.b_read_number .nil pass0 (pa_cons (pv 0) (pa_cons (pv 1) pa_nil))) (pg_tup rfl (pgs_cons (pg_name (i := 4) sc_read_numbers.nd rfl (.inl rfl)) (pgs_cons (pg_name (i := 1) sc_read_numbers.nd rfl (.inl rfl)) pgs_nil))))
      (pss_one (ps_expr (pe_bm PySem.F.plainAttrs_list PySem.F.slot_list_append PySem.F.type_list_append mt_append (pv 3) (pa_cons (pv 4) pa_nil))))))
      (pss_one (ps_ret (pe_tup (pa_cons (pv 3) (pa_cons (pv 1) pa_nil))))))), ?_⟩
    refine ⟨Nat.zero_le _, fun D nD => ?_⟩
    refine while_by (fun σ' H' => ∃ (i : Nat) (o : Option V), i ≤ ns.length ∧ σ' = [some (.str (txt L)), some (.int ((st + (codeL (ns.take i)).length : Nat) : Int)), some (.int (ns.length : Int)), some (.ref D), o] ∧ H' D = some (.lst (nvs (ns.take i))) ∧ Ex H H') (fun _ H' => ns.length - lenAt D H') ⟨0, none, Nat.zero_le _, rfl, upd_same, Ex.new nD⟩ (fun σ' H' p => ?_) (fun σ' H' Q Q' m h => ?_)
    · obtain ⟨i, o, hi, rfl, hD, x⟩ := p
      have li : (nvs (ns.take i)).length = i := by
        rw [nvs_len, List.length_take]
        omega
      refine ⟨.ref D, rfl, D, _, rfl, .inl (SqL.of hD), .int (ns.length : Int), rfl, _, _, rfl, rfl, _, rfl, ite2 (fun c => ?_) (fun c => ?_)⟩
      · rw [li] at c
        have il : i < ns.length := by
          have : (i : Int) < (ns.length : Int) := of_decide_eq_true c
          omega
        have gi : ns[i]? = some ns[i] := List.getElem?_eq_getElem il
        have hsp : codeL ns = codeL (ns.take i) ++ (codeN ns[i] ++ codeL (ns.drop (i + 1))) := by
          rw [← codeL_cons, ← codeL_app, List.getElem_cons_drop, List.take_append_drop]
        have hd2 : L.drop (st + (codeL (ns.take i)).length) = codeN ns[i] ++ (codeL (ns.drop (i + 1)) ++ rest) := by
          refine drop_more (a := codeL (ns.take i)) ?_
          rw [hd, hsp]
          simp
        have hl2 : (codeL ns).length = (codeL (ns.take i)).length + ((codeN ns[i]).length + (codeL (ns.drop (i + 1))).length) := by
          rw [hsp, List.length_append, List.length_append]
        refine ⟨.str (txt L), rfl, .int ((st + (codeL (ns.take i)).length : Nat) : Int), rfl, L, _, _, ns[i], rfl, hL, hd2, by omega, fun t nt => ?_⟩
        have x2 := x.trans (Ex.new (o := .tup [.int (ns[i] : Int), .int ((st + (codeL (ns.take i)).length + (codeN ns[i]).length : Nat) : Int)]) nt)
        have hD2 := (Ex.new (o := .tup [.int (ns[i] : Int), .int ((st + (codeL (ns.take i)).length + (codeN ns[i]).length : Nat) : Int)]) nt) _ _ hD
        have ht := upd_same (H := H') (a := t) (o := .tup [.int (ns[i] : Int), .int ((st + (codeL (ns.take i)).length + (codeN ns[i]).length : Nat) : Int)])
        generalize upd H' t (.tup [.int (ns[i] : Int), .int ((st + (codeL (ns.take i)).length + (codeN ns[i]).length : Nat) : Int)]) = H2 at x2 hD2 ht ⊢
        refine ⟨t, _, rfl, SqT.of ht, rfl, _, _, rfl, _, _, rfl, rfl, .ref D, rfl, .inl ⟨rfl, _, SqL.of hD2⟩, .int (ns[i] : Int), rfl, D, _, _, rfl, rfl, hD2, sz_lt (by omega), ⟨i + 1, some (.int (ns[i] : Int)), by omega, ?_, ?_, Ex.mut x2 nD⟩, ?_⟩
        · have e : (codeL (ns.take (i + 1))).length = (codeL (ns.take i)).length + (codeN ns[i]).length := by
            rw [take_up gi, codeL_app, List.length_append]
            simp [codeL]
          rw [e, ← Nat.add_assoc]
          rfl
        · rw [upd_same, take_up gi, nvs_snoc]
        · show ns.length - lenAt D (upd H2 D _) < ns.length - lenAt D H'
          rw [lenAt_is upd_same, lenAt_is hD, List.length_append, li]
          show ns.length - (i + 1) < ns.length - i
          omega
      · rw [li] at c
        have ie : i = ns.length := by
          have : ¬ (i : Int) < (ns.length : Int) := fun z => c (decide_eq_true z)
          omega
        subst ie
        rw [List.take_length] at hD ⊢
        exact ⟨.ref D, rfl, .int ((st + (codeL ns).length : Nat) : Int), rfl, by show 2 ≤ sizeLine; decide, fun p np => q D p _ nD (fresh_back x np) (x.trans (Ex.new np)) ((Ex.new np) _ _ hD) upd_same⟩
    · obtain ⟨v, hv, a, xs, e, hS, w', hw, i, j, e1, e2, k, hk, hq⟩ := h
      exact ⟨v, hv, a, xs, e, hS, w', hw, i, j, e1, e2, k, hk, m _ _ hq⟩
def spCkT : Sp := fun vs H Q _ => ∃ z : Str, vs = [.str z] ∧ Q .non H
set_option maxHeartbeats 4000000 in
theorem ok_check_text (T : TX K mg A FD TK CC) : FnOk P w K mg base CX0 1 (A 49) (FD 49) ["text"] spCkT := by
  refine T.f_check_text.ok sc_check_text (fun vs H Q E h => ?_) (fun cdv A' outer s H vs Q E hr h => ?_)
  · obtain ⟨z, rfl, _⟩ := h
    rfl
  · obtain ⟨z, rfl, q⟩ := h
    refine ⟨_, (pss_one (ps_if (pt_not (pt_val (pe_callB (isiK (K := K) rfl) (by rfl) T.m_isinstance (by decide +kernel) (pa_cons (pv 0) (pa_cons (pe_bltn (v := .ty "str") (by rfl) T.m_str (by decide +kernel) rfl) pa_nil)))))
      (pss_one ps_never)
      pss_nil)), ?_⟩
    exact ⟨.str z, rfl, .str z, .ty "str", .type "str", .type "str", true, rfl, .ty _, .base (.str z), kit_ty (by decide +kernel), _, rfl, ite2 (fun c => absurd c (by decide)) (fun _ => q)⟩
def restE (es : List (Nat × List Nat)) : List Nat := ((es.map codeP).flatten).flatten
theorem codeE_flat (es : List (Nat × List Nat)) : (codeE es).flatten = codeN es.length ++ (codeL (gapsL (slots es)) ++ restE es) := by
  unfold codeE restE
  simp
theorem restE_app (a b : List (Nat × List Nat)) : restE (a ++ b) = restE a ++ restE b := by
  unfold restE
  rw [List.map_append, List.flatten_append, List.flatten_append]
theorem restE_one (e : Nat × List Nat) : restE [e] = codeN (e.2.length - 1) ++ codeL (gapsL e.2) := by
  unfold restE codeP
  simp
theorem restE_cons (e : Nat × List Nat) (r : List (Nat × List Nat)) : restE (e :: r) = codeN (e.2.length - 1) ++ (codeL (gapsL e.2) ++ restE r) := by
  have := restE_app [e] r
  rw [restE_one, List.append_assoc] at this
  exact this
theorem EnsA.mono {H H' : Hp} {xs : List V} {es : List (Nat × List Nat)} (h : EnsA H xs es) (k : ∀ b zs, H b = some (.tup zs) → H' b = some (.tup zs)) : EnsA H' xs es := ⟨h.1, fun i e g => by
  obtain ⟨a, h1, t, h2, h3⟩ := h.2 i e g
  exact ⟨a, h1, t, k _ _ h2, k _ _ h3⟩⟩
theorem EnsA.snoc {H : Hp} {xs : List V} {es : List (Nat × List Nat)} {a : Addr} {e : Nat × List Nat} (h : EnsA H xs es) (g : EnA H a e) : EnsA H (xs ++ [.ref a]) (es ++ [e]) := by
  refine ⟨by rw [List.length_append, List.length_append, h.1]; rfl, fun i f q => ?_⟩
  by_cases l : i < es.length
  · rw [List.getElem?_append_left l] at q
    obtain ⟨b, h1, h2⟩ := h.2 i f q
    exact ⟨b, by rw [List.getElem?_append_left (by rw [h.1]; exact l)]; exact h1, h2⟩
  · rw [List.getElem?_append_right (by omega)] at q
    have i0 : i - es.length = 0 := by
      have := (List.getElem?_eq_some_iff.mp q).1
      simp at this
      omega
    rw [i0] at q
    cases q
    exact ⟨a, by rw [List.getElem?_append_right (by rw [h.1]; omega), h.1, i0]; rfl, g⟩
def spDec (K : PySem.W.Frag) : Sp := fun vs H Q _ => ∃ es : List (Nat × List Nat), vs = [.str (txt (codeE es).flatten)] ∧ Ens es ∧ (codeE es).flatten.length ≤ 90000 ∧ ∀ (l : Addr) (xs : List V) (H' : Hp), H l = none → Ex H H' → H' l = some (.lst xs) → EnsA H' xs es → Q (.ref l) H'
set_option maxHeartbeats 16000000 in
theorem ok_decode_entries (T : TX K mg A FD TK CC) : FnOk P w K mg base CX0 3 (A 42) (FD 42) ["text"] (spDec K) := by
  have G_check_text := (ok_check_text (P := P) (w := w) (base := base) T).mono (show 1 ≤ 2 by decide)
  have G_read_number := (ok_read_number (P := P) (w := w) (base := base) T).mono (show 1 ≤ 2 by decide)
  have G_read_numbers := ok_read_numbers (P := P) (w := w) (base := base) T
  have G_risen := (ok_risen (P := P) (w := w) (base := base) T).mono (show 1 ≤ 2 by decide)
  refine T.f_decode_entries.ok (k := 2) sc_decode_entries (fun vs H Q E h => ?_) (fun cdv A' outer s H vs Q E hr h => ?_)
  · obtain ⟨es, rfl, _⟩ := h
    rfl
  · obtain ⟨es, rfl, hs, hL, q⟩ := h
    have few := hs.few
    have sl : (slots es).length = es.length := List.length_map ..
    have gl : (gapsL (slots es)).length = es.length := by rw [gapsL_len, sl]
    have fl := codeE_flat es
    have ll : (codeE es).flatten.length = (codeN es.length).length + ((codeL (gapsL (slots es))).length + (restE es).length) := by
      rw [fl, List.length_append, List.length_append]
    generalize hLL : (codeE es).flatten = L at fl ll hL ⊢
    refine ⟨_, (pss_cons (ps_expr (pe_call G_check_text hr (by rfl) T.g_check_text T.f_check_text.kp T.b_check_text .nil pass0 (pa_cons (pv 0) pa_nil)))
      (pss_cons (ps_asg (pe_call G_read_number hr (by rfl) T.g_read_number T.f_read_number.kp T.b_read_number .nil pass0 (pa_cons (pv 0) (pa_cons pe_int pa_nil))) (pg_tup rfl (pgs_cons (pg_name (i := 1) sc_decode_entries.nd rfl (.inl rfl)) (pgs_cons (pg_name (i := 2) sc_decode_entries.nd rfl (.inl rfl)) pgs_nil))))
      (pss_cons (ps_asg (pe_call G_read_numbers hr (by rfl) T.g_read_numbers T.f_read_numbers.kp T.b_read_numbers .nil pass0 (pa_cons (pv 0) (pa_cons (pv 2) (pa_cons (pv 1) pa_nil)))) (pg_tup rfl (pgs_cons (pg_name (i := 3) sc_decode_entries.nd rfl (.inl rfl)) (pgs_cons (pg_name (i := 2) sc_decode_entries.nd rfl (.inl rfl)) pgs_nil))))
      (pss_cons (ps_set (i := 4) sc_decode_entries.nd rfl (.inl rfl) (pe_lst pa_nil))
      (pss_cons (ps_for PassesOwn.never rfl (piLK (K := K) rfl (pe_call G_risen hr (by rfl) T.g_risen T.f_risen.kp T.b_risen .nil pass0 (pa_cons (pv 3) pa_nil))) (pg_name (i := 5) sc_decode_entries.nd rfl (.inl rfl))
      (pss_cons (ps_asg (pe_call G_read_number hr (by rfl) T.g_read_number T.f_read_number.kp T.b_read_number .nil pass0 (pa_cons (pv 0) (pa_cons (pv 2) pa_nil))) (pg_tup rfl (pgs_cons (pg_name (i := 6) sc_decode_entries.nd rfl (.inl rfl)) (pgs_cons (pg_name (i := 2) sc_decode_entries.nd rfl (.inl rfl)) pgs_nil))))
      (pss_cons (ps_asg (pe_call G_read_numbers hr (by rfl) T.g_read_numbers T.f_read_numbers.kp T.b_read_numbers .nil pass0 (pa_cons (pv 0) (pa_cons (pv 2) (pa_cons (pe_op op_add (pv 6) pe_int) pa_nil)))) (pg_tup rfl (pgs_cons (pg_name (i := 7) sc_decode_entries.nd rfl (.inl rfl)) (pgs_cons (pg_name (i := 2) sc_decode_entries.nd rfl (.inl rfl)) pgs_nil))))
      (pss_one (ps_expr (pe_bm PySem.F.plainAttrs_list PySem.F.slot_list_append PySem.F.type_list_append mt_append (pv 4) (pa_cons (pe_tup (pa_cons (pv 5) (pa_cons (pe_callTy (tupK (K := K) rfl) (by rfl) T.m_tuple (by decide +kernel) (pa_cons (pe_call G_risen hr (by rfl) T.g_risen T.f_risen.kp T.b_risen .nil pass0 (pa_cons (pv 7) pa_nil)) pa_nil)) pa_nil))) pa_nil)))))))
      (pss_cons (ps_if (pt_cmpR op_lt (pv 2) (pe_callB call_len_str (by rfl) T.m_len (by decide +kernel) (pa_cons (pv 0) pa_nil)) (nomark _))
      (pss_one ps_never)
      pss_nil)
      (pss_one (ps_ret (pv 4))))))))), ?_⟩
    refine ⟨.str (txt L), rfl, txt L, rfl, .str (txt L), rfl, L, codeL (gapsL (slots es)) ++ restE es, 0, es.length, rfl, hL, ?_, by omega, fun t1 nt1 => ?_⟩
    · rw [List.drop_zero]
      exact fl
    have e1 := Ex.new (o := .tup [.int (es.length : Int), .int ((0 + (codeN es.length).length : Nat) : Int)]) nt1
    have h1 := upd_same (H := H) (a := t1) (o := .tup [.int (es.length : Int), .int ((0 + (codeN es.length).length : Nat) : Int)])
    generalize upd H t1 (.tup [.int (es.length : Int), .int ((0 + (codeN es.length).length : Nat) : Int)]) = H1 at e1 h1 ⊢
    rw [Nat.zero_add] at h1
    refine ⟨t1, _, rfl, SqT.of h1, rfl, _, _, rfl, _, _, rfl, rfl, .str (txt L), rfl, .int (((codeN es.length).length : Nat) : Int), rfl, .int (es.length : Int), rfl, L, restE es, (codeN es.length).length, gapsL (slots es), ?_, hL, by omega, ?_, by omega, fun lg t2 H2 nlg nt2 e2 hlg h2 => ?_⟩
    · rw [gl]
      rfl
    · rw [fl, List.drop_left' rfl]
    refine ⟨t2, _, rfl, SqT.of h2, rfl, _, _, rfl, _, _, rfl, rfl, Nat.zero_le _, fun D nD => ?_⟩
    have x2 : Ex H H2 := e1.trans e2
    have nD0 : H D = none := fresh_back x2 nD
    refine ⟨.ref lg, rfl, lg, slots es, rfl, SqL.of ((Ex.new nD) _ _ hlg), hs.ris, by omega, fun ls H3 nls e3 hls => ?_⟩
    have x3 : Ex H H3 := (x2.trans (Ex.new nD)).trans e3
    have hD3 : H3 D = some (.lst []) := e3 _ _ upd_same
    have nlsD : ls ≠ D := (ne_of_none (upd_same (H := H2) (a := D) (o := .lst [])) nls).symm
    refine ⟨ls, rfl, ⟨_, SqL.of hls⟩, ?_⟩
    refine for_list (K := K) (xs := nvs (slots es)) (fun i σ' H' => (∃ o5 o6 o7, σ' = [some (.str (txt L)), some (.int (es.length : Int)), some (.int (((codeN es.length).length + (codeL (gapsL (slots es))).length + (restE (es.take i)).length : Nat) : Int)), some (.ref lg), some (.ref D), o5, o6, o7]) ∧ (∃ ys, H' D = some (.lst ys) ∧ EnsA H' ys (es.take i)) ∧ H' ls = some (.lst (nvs (slots es))) ∧ Ex H H')
      ⟨⟨none, none, none, rfl⟩, ⟨[], hD3, rfl, fun i e g => by simp at g⟩, hls, x3⟩ (fun i σ' H' _ p => SqL.of p.2.2.1) (fun i v σ' H4 gv p => ?_) (fun σ' H4 p => ?_)
    · obtain ⟨⟨o5, o6, o7, rfl⟩, ⟨ys, hD4, hE4⟩, hls4, x4⟩ := p
      obtain ⟨sn, gs, rfl, il⟩ := nvs_at gv
      have il2 : i < es.length := by omega
      have ge : es[i]? = some es[i] := List.getElem?_eq_getElem il2
      have es1 := slots_at ge
      rw [gs] at es1
      cases es1
      have he := hs.ok es[i] (List.getElem_mem il2)
      have hfew := he.few
      have hsome := he.some
      have hsp : restE es = restE (es.take i) ++ (codeN (es[i].2.length - 1) ++ (codeL (gapsL es[i].2) ++ restE (es.drop (i + 1)))) := by
        rw [← restE_cons, ← restE_app, List.getElem_cons_drop, List.take_append_drop]
      have hl2 := congrArg List.length hsp
      rw [List.length_append, List.length_append, List.length_append] at hl2
      have d0 : L.drop ((codeN es.length).length + (codeL (gapsL (slots es))).length + (restE (es.take i)).length) = codeN (es[i].2.length - 1) ++ (codeL (gapsL es[i].2) ++ restE (es.drop (i + 1))) := by
        refine drop_more (a := restE (es.take i)) ?_
        rw [← hsp]
        refine drop_more (a := codeL (gapsL (slots es))) ?_
        rw [fl, List.drop_left' rfl]
      generalize ha0 : (codeN es.length).length + (codeL (gapsL (slots es))).length + (restE (es.take i)).length = a0 at d0 ⊢
      refine ⟨.str (txt L), rfl, .int (a0 : Int), rfl, L, _, a0, es[i].2.length - 1, rfl, hL, d0, by omega, fun t5 nt5 => ?_⟩
      have e5 := Ex.new (o := .tup [.int ((es[i].2.length - 1 : Nat) : Int), .int ((a0 + (codeN (es[i].2.length - 1)).length : Nat) : Int)]) nt5
      have h5 := upd_same (H := H4) (a := t5) (o := .tup [.int ((es[i].2.length - 1 : Nat) : Int), .int ((a0 + (codeN (es[i].2.length - 1)).length : Nat) : Int)])
      generalize upd H4 t5 (.tup [.int ((es[i].2.length - 1 : Nat) : Int), .int ((a0 + (codeN (es[i].2.length - 1)).length : Nat) : Int)]) = H5 at e5 h5 ⊢
      have g2 : (gapsL es[i].2).length = es[i].2.length := gapsL_len _
      refine ⟨t5, _, rfl, SqT.of h5, rfl, _, _, rfl, _, _, rfl, rfl, .str (txt L), rfl, .int _, rfl, .int _, rfl, _, 1, rfl, rfl, L, restE (es.drop (i + 1)), a0 + (codeN (es[i].2.length - 1)).length, gapsL es[i].2, ?_, hL, by omega, drop_more d0, by omega, fun lp t6 H6 nlp nt6 e6 hlp h6 => ?_⟩
      · rw [g2]
        show [V.str (txt L), V.int ((a0 + (codeN (es[i].2.length - 1)).length : Nat) : Int), V.int (((es[i].2.length - 1 : Nat) : Int) + 1)] = _
        rw [show ((es[i].2.length - 1 : Nat) : Int) + 1 = (es[i].2.length : Int) by omega]
      have x6 : Ex H4 H6 := e5.trans e6
      refine ⟨t6, _, rfl, SqT.of h6, rfl, _, _, rfl, _, _, rfl, rfl, .ref D, rfl, .inl ⟨rfl, _, SqL.of (x6 _ _ hD4)⟩, .int _, rfl, .ref lp, rfl, lp, es[i].2, rfl, SqL.of hlp, he.ris, by omega, fun lr H7 nlr e7 hlr => ?_⟩
      refine ⟨lr, _, rfl, .inl ⟨SqL.of hlr, fun tp ntp => ?_⟩⟩
      have e8 := Ex.new (o := .tup (nvs es[i].2)) ntp
      have h8 := upd_same (H := H7) (a := tp) (o := .tup (nvs es[i].2))
      generalize upd H7 tp (.tup (nvs es[i].2)) = H8 at e8 h8 ⊢
      refine ⟨by show 2 ≤ sizeLine; decide, fun te nte => ?_⟩
      have e9 := Ex.new (o := .tup [.int (es[i].1 : Int), .ref tp]) nte
      have h9 := upd_same (H := H8) (a := te) (o := .tup [.int (es[i].1 : Int), .ref tp])
      have x9 : Ex H4 (upd H8 te (.tup [.int (es[i].1 : Int), .ref tp])) := ((x6.trans e7).trans e8).trans e9
      have h89 := e9 _ _ h8
      generalize upd H8 te (.tup [.int (es[i].1 : Int), .ref tp]) = H9 at e9 h9 x9 h89 ⊢
      have hD9 := x9 _ _ hD4
      have lys : ys.length ≤ 60 := by
        rw [hE4.1, List.length_take]
        omega
      refine ⟨D, _, _, rfl, rfl, hD9, sz_lt (by omega), ⟨some (.int (es[i].1 : Int)), some (.int ((es[i].2.length - 1 : Nat) : Int)), some (.ref lp), ?_⟩, ⟨ys ++ [.ref te], upd_same, ?_⟩, ?_, Ex.mut (x4.trans x9) nD0⟩
      · have e : (restE (es.take (i + 1))).length = (restE (es.take i)).length + ((codeN (es[i].2.length - 1)).length + (codeL (gapsL es[i].2)).length) := by
          rw [take_up ge, restE_app, restE_one, List.length_append, List.length_append]
        rw [e, show (codeN es.length).length + (codeL (gapsL (slots es))).length + ((restE (es.take i)).length + ((codeN (es[i].2.length - 1)).length + (codeL (gapsL es[i].2)).length)) = a0 + (codeN (es[i].2.length - 1)).length + (codeL (gapsL es[i].2)).length by omega]
        rfl
      · have k : ∀ b zs, H9 b = some (.tup zs) → (upd H9 D (.lst (ys ++ [.ref te]))) b = some (.tup zs) := fun b zs hb => by
          rw [upd_ne (ne_of hb hD9 (by intro z; cases z))]
          exact hb
        rw [take_up ge]
        exact ((hE4.ex x9).mono k).snoc ⟨tp, k _ _ h9, k _ _ h89⟩
      · rw [upd_ne nlsD]
        exact x9 _ _ hls4
    · obtain ⟨⟨o5, o6, o7, rfl⟩, ⟨ys, hD4, hE4⟩, hls4, x4⟩ := p
      rw [nvs_len, sl, List.take_length] at hE4
      refine ⟨.int _, rfl, .str (txt L), rfl, txt L, rfl, sz (by rw [txt_len]; omega), _, _, rfl, rfl, _, rfl, ite2 (fun c => ?_) (fun _ => ?_)⟩
      · rw [nvs_len, sl, List.take_length, txt_len] at c
        have := of_decide_eq_true c
        omega
      · exact ⟨.ref D, rfl, q D ys H4 nD0 x4 hD4 hE4⟩

/-! ### blocks: the mathematics -/
abbrev En := Nat × List Nat
def zsI (ns : List Nat) : List Int := ns.map fun (n : Nat) => (n : Int)
theorem nvs_zs (ns : List Nat) : nvs ns = (zsI ns).map V.int := by
  unfold nvs zsI
  rw [List.map_map]
  rfl
theorem zsI_len (ns : List Nat) : (zsI ns).length = ns.length := List.length_map ..
def mxL : List Nat → Nat
  | [] => 0
  | x :: r => max x (mxL r)
def mnL : List Nat → Nat
  | [] => 0
  | [x] => x
  | x :: y :: r => min x (mnL (y :: r))
theorem mxL_ge : ∀ {ns : List Nat} {n : Nat}, n ∈ ns → n ≤ mxL ns
  | x :: r, n, h => by
    rcases List.mem_cons.mp h with rfl | h
    · exact Nat.le_max_left ..
    · exact Nat.le_trans (mxL_ge h) (Nat.le_max_right ..)
theorem mxL_mem : ∀ {ns : List Nat}, ns ≠ [] → mxL ns ∈ ns
  | [x], _ => by simp [mxL]
  | x :: y :: r, _ => by
    have i := mxL_mem (ns := y :: r) (by simp)
    show max x (mxL (y :: r)) ∈ _
    rcases Nat.le_total x (mxL (y :: r)) with h | h
    · rw [Nat.max_eq_right h]
      exact List.mem_cons_of_mem _ i
    · rw [Nat.max_eq_left h]
      exact List.mem_cons_self ..
theorem mnL_le : ∀ {ns : List Nat} {n : Nat}, n ∈ ns → mnL ns ≤ n
  | [x], n, h => by
    rw [List.mem_singleton.mp h]
    exact Nat.le_refl _
  | x :: y :: r, n, h => by
    show min x (mnL (y :: r)) ≤ n
    rcases List.mem_cons.mp h with rfl | h
    · exact Nat.min_le_left ..
    · exact Nat.le_trans (Nat.min_le_right ..) (mnL_le h)
theorem mnL_mem : ∀ {ns : List Nat}, ns ≠ [] → mnL ns ∈ ns
  | [x], _ => by simp [mnL]
  | x :: y :: r, _ => by
    have i := mnL_mem (ns := y :: r) (by simp)
    show min x (mnL (y :: r)) ∈ _
    rcases Nat.le_total x (mnL (y :: r)) with h | h
    · rw [Nat.min_eq_left h]
      exact List.mem_cons_self ..
    · rw [Nat.min_eq_right h]
      exact List.mem_cons_of_mem _ i
theorem zs_mem {ns : List Nat} {m : Int} (h : m ∈ zsI ns) : ∃ n : Nat, n ∈ ns ∧ m = (n : Int) := by
  obtain ⟨n, hn, e⟩ := List.mem_map.mp h
  exact ⟨n, hn, e.symm⟩
theorem mem_zs {ns : List Nat} {n : Nat} (h : n ∈ ns) : (n : Int) ∈ zsI ns := List.mem_map.mpr ⟨n, h, rfl⟩
theorem ne_nil {α : Type} {l : List α} (h : 0 < l.length) : l ≠ [] := fun z => by
  rw [z] at h
  exact absurd h (by simp)
theorem mx_is {ns : List Nat} {m : Int} (hm : m ∈ zsI ns) (hx : ∀ y, y ∈ zsI ns → y ≤ m) : m = ((mxL ns : Nat) : Int) := by
  obtain ⟨n, hn, rfl⟩ := zs_mem hm
  have a := mxL_ge hn
  have b := hx _ (mem_zs (mxL_mem (fun z => by rw [z] at hn; cases hn)))
  omega
theorem mn_is {ns : List Nat} {m : Int} (hm : m ∈ zsI ns) (hx : ∀ y, y ∈ zsI ns → m ≤ y) : m = ((mnL ns : Nat) : Int) := by
  obtain ⟨n, hn, rfl⟩ := zs_mem hm
  have a := mnL_le hn
  have b := hx _ (mem_zs (mnL_mem (fun z => by rw [z] at hn; cases hn)))
  omega
/-- the i-th block of s entries -/
def cutE (es : List En) (s i : Nat) : List En := (es.drop (i * s)).take s
def nb (n s : Nat) : Nat := (n + s - 1) / s
theorem nb_lt {n s i : Nat} (hs : 0 < s) : i < nb n s ↔ i * s < n := by
  unfold nb
  rw [Nat.lt_div_iff_mul_lt hs]
  omega
theorem nb_mul {n s : Nat} (hs : 0 < s) : n ≤ nb n s * s := by
  rcases Nat.lt_or_ge (nb n s * s) n with h | h
  · exact absurd ((nb_lt hs).mpr h) (Nat.lt_irrefl _)
  · exact h
theorem nb_le {n s : Nat} (hs : 0 < s) : nb n s ≤ n := by
  rcases Nat.lt_or_ge n (nb n s) with h | h
  · have := (nb_lt hs).mp h
    have : n ≤ n * s := Nat.le_mul_of_pos_right _ hs
    omega
  · exact h
theorem cutE_len (es : List En) (s i : Nat) : (cutE es s i).length = min s (es.length - i * s) := by
  unfold cutE
  rw [List.length_take, List.length_drop]
theorem cutE_pos {es : List En} {s i : Nat} (hs : 0 < s) (hi : i < nb es.length s) : 0 < (cutE es s i).length := by
  have := (nb_lt hs).mp hi
  rw [cutE_len]
  omega
theorem cutE_mem {es : List En} {s i : Nat} {e : En} (h : e ∈ cutE es s i) : e ∈ es := List.mem_of_mem_drop (List.mem_of_mem_take h)
theorem cutE_at {es : List En} {s i j : Nat} {e : En} (h : (cutE es s i)[j]? = some e) : es[i * s + j]? = some e ∧ j < s := by
  unfold cutE at h
  rw [List.getElem?_take] at h
  by_cases hj : j < s
  · rw [if_pos hj, List.getElem?_drop] at h
    exact ⟨h, hj⟩
  · rw [if_neg hj] at h
    cases h
theorem ah_ge (xs : List Nat) (i : Nat) : -1 ≤ ah xs i := by
  cases i with
  | zero => exact Int.le_refl _
  | succ i =>
    show (-1 : Int) ≤ ((xs.getD i 0 : Nat) : Int)
    omega
theorem ris_drop {xs : List Nat} (h : Ris xs) (k : Nat) : Ris (xs.drop k) := fun i x g => by
  rw [List.getElem?_drop] at g
  cases i with
  | zero =>
    show (-1 : Int) < (x : Int)
    omega
  | succ i =>
    have := h _ _ g
    rw [show k + (i + 1) = (k + i) + 1 by omega] at this
    show ((((xs.drop k).getD i 0 : Nat)) : Int) < (x : Int)
    have e : (xs.drop k).getD i 0 = xs.getD (k + i) 0 := by
      rw [List.getD_eq_getElem?_getD, List.getElem?_drop, List.getD_eq_getElem?_getD]
    rw [e]
    exact this
theorem ris_take {xs : List Nat} (h : Ris xs) (k : Nat) : Ris (xs.take k) := fun i x g => by
  rw [List.getElem?_take] at g
  by_cases hi : i < k
  · rw [if_pos hi] at g
    have := h _ _ g
    cases i with
    | zero => exact this
    | succ i =>
      show ((((xs.take k).getD i 0 : Nat)) : Int) < (x : Int)
      have e : (xs.take k).getD i 0 = xs.getD i 0 := by
        rw [List.getD_eq_getElem?_getD, List.getElem?_take, if_pos (by omega), List.getD_eq_getElem?_getD]
      rw [e]
      exact this
  · rw [if_neg hi] at g
    cases g
theorem cutE_slots (es : List En) (s i : Nat) : slots (cutE es s i) = ((slots es).drop (i * s)).take s := by
  unfold slots cutE
  rw [List.map_take, List.map_drop]
theorem Ens.cut {es : List En} (h : Ens es) (s i : Nat) : Ens (cutE es s i) := ⟨fun e he => h.ok e (cutE_mem he), by rw [cutE_slots]; exact ris_take (ris_drop h.ris _) _, by
  have := h.few
  rw [cutE_len]
  omega⟩
/-- small entries: the code stays short -/
def Sml (es : List En) : Prop := ∀ e ∈ es, e.1 < 256 ∧ ∀ n ∈ e.2, n < 256
theorem Sml.cut {es : List En} (h : Sml es) (s i : Nat) : Sml (cutE es s i) := fun e he => h e (cutE_mem he)
theorem codeL_len2 {ns : List Nat} (h : ∀ n ∈ ns, n < 256) : (codeL ns).length ≤ ns.length * 2 := by
  induction ns with
  | nil => exact Nat.zero_le _
  | cons n r ih =>
    have a := codeN_len 1 n (h n (List.mem_cons_self ..))
    have b := ih fun m hm => h m (List.mem_cons_of_mem _ hm)
    unfold codeL at b ⊢
    rw [List.map_cons, List.flatten_cons, List.length_append, List.length_cons, Nat.add_mul]
    omega
theorem gaps_lt {xs : List Nat} {B : Nat} (h : ∀ n ∈ xs, n < B) : ∀ g ∈ gapsL xs, g < B := fun g hg => by
  obtain ⟨j, hj, rfl⟩ := List.mem_map.mp hg
  have jl : j < xs.length := List.mem_range.mp hj
  have hx := h xs[j] (List.getElem_mem jl)
  have e : xs.getD j 0 = xs[j] := getD_at (List.getElem?_eq_getElem jl)
  have a1 := ah_ge xs j
  unfold gapI
  rw [e]
  omega
theorem codeP_len2 {es : List En} (h : Ens es) (k : Sml es) : (restE es).length ≤ es.length * 242 := by
  have ok := h.ok
  clear h
  induction es with
  | nil => exact Nat.zero_le _
  | cons e r ih =>
    have he := ok e (List.mem_cons_self ..)
    have ke := k e (List.mem_cons_self ..)
    have i := ih (fun f hf => k f (List.mem_cons_of_mem _ hf)) (fun f hf => ok f (List.mem_cons_of_mem _ hf))
    have c := he.few
    have a := codeN_len 1 (e.2.length - 1) (show e.2.length - 1 < 256 by omega)
    have b := codeL_len2 (gaps_lt ke.2)
    rw [gapsL_len] at b
    rw [restE_cons, List.length_append, List.length_append, List.length_cons, Nat.add_mul]
    omega
theorem codeE_len2 {es : List En} (h : Ens es) (k : Sml es) : (codeE es).flatten.length ≤ 2 + es.length * 244 := by
  have f := h.few
  have a := codeN_len 1 es.length (show es.length < 256 by omega)
  have b := codeL_len2 (gaps_lt (xs := slots es) (B := 256) fun n hn => by
    obtain ⟨e, he, rfl⟩ := List.mem_map.mp hn
    exact (k e he).1)
  rw [gapsL_len] at b
  have l : (slots es).length = es.length := List.length_map ..
  have c := codeP_len2 h k
  rw [codeE_flat, List.length_append, List.length_append]
  omega
/-- the entries of the first i blocks -/
theorem take_more (es : List En) (s i : Nat) : es.take ((i + 1) * s) = es.take (i * s) ++ cutE es s i := by
  unfold cutE
  rw [Nat.add_mul, Nat.one_mul, List.take_add]
theorem EnsA.cut {H : Hp} {xs : List V} {es : List En} (h : EnsA H xs es) (s i : Nat) : EnsA H ((xs.drop (i * s)).take s) (cutE es s i) := by
  refine ⟨?_, fun j e g => ?_⟩
  · rw [cutE_len, List.length_take, List.length_drop, h.1]
  · obtain ⟨g1, hj⟩ := cutE_at g
    obtain ⟨a, h1, h2⟩ := h.2 _ _ g1
    exact ⟨a, by rw [List.getElem?_take, if_pos hj, List.getElem?_drop]; exact h1, h2⟩
theorem EnsA.app {H : Hp} {xs ys : List V} {es fs : List En} (h : EnsA H xs es) (k : EnsA H ys fs) : EnsA H (xs ++ ys) (es ++ fs) := by
  refine ⟨by rw [List.length_append, List.length_append, h.1, k.1], fun i e g => ?_⟩
  by_cases hi : i < es.length
  · rw [List.getElem?_append_left hi] at g
    obtain ⟨a, h1, h2⟩ := h.2 i e g
    exact ⟨a, by rw [List.getElem?_append_left (by rw [h.1]; exact hi)]; exact h1, h2⟩
  · rw [List.getElem?_append_right (by omega)] at g
    obtain ⟨a, h1, h2⟩ := k.2 _ e g
    exact ⟨a, by rw [List.getElem?_append_right (by rw [h.1]; omega), h.1]; exact h1, h2⟩
def fstE (es : List En) : Nat := (slots es).headD 0
def lstE (es : List En) : Nat := (slots es).getLastD 0
def mostE (es : List En) : Nat := mxL (es.map fun e => e.2.length)
def leastE (es : List En) (ls : List Nat) : Nat := mnL (es.map fun e => ls.getD e.1 0)
def headE (es : List En) (ls : List Nat) : List Nat := [fstE es, lstE es, es.length, mostE es, leastE es ls]
def blkF (es : List En) (ls : List Nat) : List (Str × V) := [("first", .int (fstE es : Nat)), ("last", .int (lstE es : Nat)), ("many", .int (es.length : Nat)), ("most", .int (mostE es : Nat)), ("least", .int (leastE es ls : Nat)), ("coded", .str (txt (codeE es).flatten))]
def BlkAt (C : Addr) (H : Hp) (b : Addr) (es : List En) (ls : List Nat) : Prop := ∃ dx, H b = some (.ins C dx (blkF es ls))
theorem BlkAt.ex {C : Addr} {H H' : Hp} {b : Addr} {es : List En} {ls : List Nat} (h : BlkAt C H b es ls) (x : Ex H H') : BlkAt C H' b es ls := by
  obtain ⟨dx, h⟩ := h
  exact ⟨dx, x _ _ h⟩
theorem fst_at {es : List En} {e : En} (g : es[0]? = some e) : fstE es = e.1 := by
  cases es with
  | nil => cases g
  | cons a r =>
    cases g
    rfl
theorem lst_at {es : List En} {e : En} (g : es[es.length - 1]? = some e) : lstE es = e.1 := by
  unfold lstE
  rw [List.getLastD_eq_getLast?, List.getLast?_eq_getElem?]
  have l : (slots es).length = es.length := List.length_map ..
  rw [l, slots_at g]
  rfl
theorem atI_end {α : Type} {xs : List α} {x : α} (g : xs[xs.length - 1]? = some x) : atI xs (-1) = some x := by
  have hl := (List.getElem?_eq_some_iff.mp g).1
  have e : ixN xs.length (-1) = some (xs.length - 1) := by
    unfold ixN
    rw [if_neg (by decide), if_pos (by omega)]
    congr 1
    omega
  unfold atI
  rw [e]
  exact g
/-- entries and the lengths of pages that fit -/
structure Fit (es : List En) (ls : List Nat) : Prop where
  few : ls.length ≤ 60
  most : ∀ n ∈ ls, n ≤ 120
  fit : ∀ e ∈ es, e.1 < ls.length ∧ ∀ n ∈ e.2, n < ls.getD e.1 0
theorem getD_mem {ls : List Nat} {i : Nat} (h : i < ls.length) : ls.getD i 0 ∈ ls := by
  rw [getD_at (List.getElem?_eq_getElem h)]
  exact List.getElem_mem h
theorem Fit.sml {es : List En} {ls : List Nat} (h : Fit es ls) : Sml es := fun e he => by
  obtain ⟨a, b⟩ := h.fit e he
  have := h.few
  refine ⟨by omega, fun n hn => ?_⟩
  have c := b n hn
  have d := h.most _ (getD_mem a)
  omega
theorem Fit.cut {es : List En} {ls : List Nat} (h : Fit es ls) (s i : Nat) : Fit (cutE es s i) ls := ⟨h.few, h.most, fun e he => h.fit e (cutE_mem he)⟩

/-! ### check_word, check_lengths, check_size, check_fit -/
def spCkWd : Sp := fun vs H Q _ => ∃ z : Str, vs = [.str z] ∧ isW z = true ∧ ∀ H', Ex H H' → Q .non H'
set_option maxHeartbeats 4000000 in
theorem ok_check_word (T : TX K mg A FD TK CC) : FnOk P w K mg base CX0 2 (A 24) (FD 24) ["word"] spCkWd := by
  have G_is_word := ok_is_word (P := P) (w := w) (base := base) T
  refine T.f_check_word.ok sc_check_word (fun vs H Q E h => ?_) (fun cdv A' outer s H vs Q E hr h => ?_)
  · obtain ⟨z, rfl, _⟩ := h
    rfl
  · obtain ⟨z, rfl, hz, q⟩ := h
    refine ⟨_, (pss_one (ps_if (pt_not (pt_val (pe_call G_is_word hr (by rfl) T.g_is_word T.f_is_word.kp T.b_is_word .nil pass0 (pa_cons (pv 0) pa_nil))))
      (pss_one ps_never)
      pss_nil)), ?_⟩
    refine ⟨.str z, rfl, z, rfl, by have := isW_len hz; omega, fun H1 e1 => ⟨_, rfl, ?_⟩⟩
    rw [hz]
    exact iteF (q _ e1)
def spCkSz : Sp := fun vs H Q _ => ∃ n : Nat, vs = [.int (n : Int)] ∧ 1 ≤ n ∧ n ≤ 8 ∧ ∀ H', Ex H H' → Q .non H'
set_option maxHeartbeats 4000000 in
theorem ok_check_size (T : TX K mg A FD TK CC) : FnOk P w K mg base CX0 3 (A 64) (FD 64) ["size"] spCkSz := by
  have G_is_within := ok_is_within (P := P) (w := w) (base := base) T
  refine T.f_check_size.ok sc_check_size (fun vs H Q E h => ?_) (fun cdv A' outer s H vs Q E hr h => ?_)
  · obtain ⟨n, rfl, _⟩ := h
    rfl
  · obtain ⟨n, rfl, h1, h2, q⟩ := h
    refine ⟨_, (pss_one (ps_if (pt_not (pt_val (pe_call G_is_within hr (by rfl) T.g_is_within T.f_is_within.kp T.b_is_within .nil pass0 (pa_cons (pv 0) (pa_cons pe_int (pa_cons (pe_glob (v := .int 8) (by rfl) T.c_MOST_SIZE ⟨_, rfl⟩) pa_nil))))))
      (pss_one ps_never)
      pss_nil)), ?_⟩
    refine ⟨.int (n : Int), rfl, n, 1, 8, rfl, fun H1 e1 => ⟨_, rfl, ?_⟩⟩
    rw [decide_eq_true (show (1 : Int) ≤ n by omega), decide_eq_true (show (n : Int) ≤ 8 by omega)]
    exact q _ e1
def spCkLn : Sp := fun vs H Q _ => ∃ (m : Addr) (ls : List Nat), vs = [.ref m] ∧ H m = some (.lst (nvs ls)) ∧ ls.length ≤ 60 ∧ (∀ n ∈ ls, n ≤ 120) ∧ ∀ H', Ex H H' → Q .non H'
set_option maxHeartbeats 4000000 in
theorem ok_check_lengths (T : TX K mg A FD TK CC) : FnOk P w K mg base CX0 3 (A 63) (FD 63) ["lengths"] spCkLn := by
  have G_is_within := ok_is_within (P := P) (w := w) (base := base) T
  refine T.f_check_lengths.ok sc_check_lengths (fun vs H Q E h => ?_) (fun cdv A' outer s H vs Q E hr h => ?_)
  · obtain ⟨m, ls, rfl, _⟩ := h
    rfl
  · obtain ⟨m, ls, rfl, hm, hl, hb, q⟩ := h
    refine ⟨_, (pss_cons (ps_if (PW.pt (pw_or (pt_not (pt_val (pe_callB (isiK (K := K) rfl) (by rfl) T.m_isinstance (by decide +kernel) (pa_cons (pv 0) (pa_cons (pe_bltn (v := .ty "list") (by rfl) T.m_list (by decide +kernel) rfl) pa_nil))))) (pw_or1 (pt_cmpR op_gt (pe_callB (lenK (K := K) rfl) (by rfl) T.m_len (by decide +kernel) (pa_cons (pv 0) pa_nil)) (pe_glob (v := .int 60) (by rfl) T.c_MOST_LENGTHS ⟨_, rfl⟩) (nomark _)))))
      (pss_one ps_never)
      pss_nil)
      (pss_one (ps_if (pt_not (pt_val (pe_callB (allK (K := K) rfl rfl) (by rfl) T.m_all (by decide +kernel) (pa_cons (pe_lc (own := [("length", 1)])  rfl sc_check_lengths.nd (piLK (K := K) rfl (pv 0)) (blkOk_by (own := [("length", 1)]) (N := N_check_lengths) (sc := defScope (topS 63)) (by decide +kernel)) (fun _ _ _ _ _ => (pg_name (i := 1) sc_check_lengths.nd rfl (Or.inl rfl))) (fun _ _ _ _ _ => pts_nil) (fun _ _ _ _ _ => (pe_call G_is_within hr (by rfl) T.g_is_within T.f_is_within.kp T.b_is_within .nil pass0 (pa_cons (pv 1) (pa_cons pe_int (pa_cons (pe_glob (v := .int 120) (by rfl) T.c_MOST_WORDS ⟨_, rfl⟩) pa_nil)))))) pa_nil))))
      (pss_one ps_never)
      pss_nil))), ?_⟩
    refine ⟨.ref m, rfl, .ref m, .ty "list", .type "list", .type "list", true, rfl, .ty _, .base (.lst hm), kit_ty (by decide +kernel), true, rfl, ?_⟩
    refine ⟨.ref m, rfl, m, _, rfl, .inl (SqL.of hm), _, 60, rfl, rfl, _, rfl, ite2 (fun c => ?_) (fun _ => ?_)⟩
    · have c : (60 : Int) < ((nvs ls).length : Int) := of_decide_eq_true c
      rw [nvs_len] at c
      omega
    refine ⟨.ref m, rfl, m, rfl, ⟨_, SqL.of hm⟩, fun D hD => ?_⟩
    refine lc_list (K := K) (xs := nvs ls) (fun i H' => Ex H H' ∧ H' D = some (.lst ((List.replicate i true).map V.bl))) ⟨Ex.new hD, upd_same⟩ (fun i H' _ p => ex_l p.1 (SqL.of hm)) (fun i x H2 hx p => ?_) (fun H2 p => ?_)
    · obtain ⟨p1, p2⟩ := p
      obtain ⟨n, gn, rfl, il⟩ := nvs_at hx
      have bn := hb n (List.mem_of_getElem? gn)
      refine ⟨rfl, .int (n : Int), rfl, n, 0, 120, rfl, fun H3 e3 => ⟨_, e3 _ _ p2, ?_, Ex.mut (p1.trans e3) hD, ?_⟩⟩
      · rw [List.length_map, List.length_replicate]
        exact sz_lt (by omega)
      · rw [upd_same, List.replicate_succ', List.map_append, decide_eq_true (show (0 : Int) ≤ n by omega), decide_eq_true (show (n : Int) ≤ 120 by omega)]
        rfl
    · obtain ⟨p1, p2⟩ := p
      refine ⟨D, _, rfl, SqL.of p2, _, rfl, ?_⟩
      rw [show (List.replicate (nvs ls).length true).all id = true by simp]
      exact q _ p1
def spCkFt (K : PySem.W.Frag) : Sp := fun vs H Q _ => ∃ (l m : Addr) (xs : List V) (es : List En) (ls : List Nat), vs = [.ref l, .ref m] ∧ H l = some (.lst xs) ∧ EnsA H xs es ∧ Ens es ∧ H m = some (.lst (nvs ls)) ∧ Fit es ls ∧ ∀ H', Ex H H' → Q .non H'
set_option maxHeartbeats 4000000 in
theorem ok_check_fit (T : TX K mg A FD TK CC) : FnOk P w K mg base CX0 1 (A 65) (FD 65) ["entries", "lengths"] (spCkFt K) := by
  refine T.f_check_fit.ok sc_check_fit (fun vs H Q E h => ?_) (fun cdv A' outer s H vs Q E hr h => ?_)
  · obtain ⟨l, m, xs, es, ls, rfl, _⟩ := h
    rfl
  · obtain ⟨l, m, xs, es, ls, rfl, hl, hE, hN, hm, hF, q⟩ := h
    refine ⟨_, (pss_one (ps_for PassesOwn.never rfl (pi_enum (by rfl) T.m_enumerate (pa_cons (pv 0) pa_nil)) (pg_tup rfl (pgs_cons (pg_name (i := 2) sc_check_fit.nd rfl (.inl rfl)) (pgs_cons (pg_tup rfl (pgs_cons (pg_name (i := 3) sc_check_fit.nd rfl (.inl rfl)) (pgs_cons (pg_name (i := 4) sc_check_fit.nd rfl (.inl rfl)) pgs_nil))) pgs_nil)))
      (pss_one (ps_if (PW.pt (pw_or (pt_cmpR op_ge (pv 3) (pe_callB (lenK (K := K) rfl) (by rfl) T.m_len (by decide +kernel) (pa_cons (pv 1) pa_nil)) (nomark _)) (pw_or1 (pt_cmpR op_ge (pe_ix (ixTK (K := K) rfl) (pv 4) (pe_un un_neg pe_int) (fun _ _ => rfl)) (pe_ix (ixLK (K := K) rfl) (pv 1) (pv 3) (fun _ _ => rfl)) (nomark _)))))
      (pss_one ps_never)
      pss_nil)))), ?_⟩
    refine ⟨.ref l, rfl, l, _, rfl, SqL.of hl, ?_⟩
    refine for_it (walk_enum (K := K) (a := l) (xs := xs)) (fun i σ' H' => (∃ o1 o2 o3, σ' = [some (.ref l), some (.ref m), o1, o2, o3]) ∧ Ex H H') ⟨⟨none, none, none, rfl⟩, Ex.refl H⟩ (fun i σ' H' _ p => SqL.of (p.2 _ _ hl)) (fun i x σ' H1 H2 hi p y => ?_) (fun σ' H1 p => ?_)
    · obtain ⟨⟨o1, o2, o3, rfl⟩, x1⟩ := p
      obtain ⟨Tt, u1, u2, rfl, nT, rfl, g1, g2⟩ := y
      cases g1
      obtain ⟨e, a, ge, rfl, hA⟩ := hE.at g2
      have eT := Ex.new (o := .tup [V.int (i : Nat), .ref a]) nT
      have em := List.mem_of_getElem? ge
      obtain ⟨t, ha, ht⟩ := hA.ex (x1.trans eT)
      obtain ⟨f1, f2⟩ := hF.fit e em
      have hm2 := (x1.trans eT) _ _ hm
      have h0 := (hN.ok e em).some
      have last := f2 (e.2[e.2.length - 1]'(by omega)) (List.getElem_mem _)
      have gl : e.2[e.2.length - 1]? = some (e.2[e.2.length - 1]'(by omega)) := List.getElem?_eq_getElem _
      generalize e.2[e.2.length - 1]'(by omega) = y at last gl
      have gls : (nvs ls)[e.1]? = some (.int ((ls.getD e.1 0 : Nat) : Int)) := by
        unfold nvs
        rw [List.getElem?_map, List.getElem?_eq_getElem f1, getD_at (List.getElem?_eq_getElem f1)]
        rfl
      have gy : (nvs e.2)[(nvs e.2).length - 1]? = some (.int (y : Int)) := by
        rw [nvs_len]
        unfold nvs
        rw [List.getElem?_map, gl]
        rfl
      refine ⟨Tt, _, rfl, SqT.of upd_same, rfl, _, _, rfl, _, _, rfl, a, _, rfl, SqT.of ha, rfl, _, _, rfl, _, _, rfl, rfl, rfl, ?_⟩
      refine ⟨.int (e.1 : Int), rfl, .ref m, rfl, m, _, rfl, .inl (SqL.of hm2), _, _, rfl, rfl, _, rfl, ite2 (fun c => ?_) (fun _ => ?_)⟩
      · have c : ((nvs ls).length : Int) ≤ (e.1 : Int) := of_decide_eq_true c
        rw [nvs_len] at c
        omega
      refine ⟨.ref t, rfl, 1, rfl, t, _, -1, _, rfl, rfl, SqT.of ht, atI_end gy, .ref m, rfl, .int (e.1 : Int), rfl, m, _, _, _, rfl, rfl, SqL.of hm2, atI_nat gls, _, _, rfl, rfl, _, rfl, ite2 (fun c => ?_) (fun _ => ?_)⟩
      · have c : ((ls.getD e.1 0 : Nat) : Int) ≤ (y : Int) := of_decide_eq_true c
        omega
      · exact ⟨⟨_, _, _, rfl⟩, x1.trans eT⟩
    · obtain ⟨⟨o1, o2, o3, rfl⟩, x1⟩ := p
      exact q _ x1

/-! ### Block -/
/-- all but x stays -/
def ExI (x : Addr) (H H' : Hp) : Prop := ∀ b o, b ≠ x → H b = some o → H' b = some o
theorem ExI.new {H H' : Hp} {x dx : Addr} {o u : HO} (nx : H x = none) (nd : H dx = none) (i : ExI x (upd (upd H dx o) x u) H') : Ex H H' := fun c q h => by
  refine i c q (ne_of_none h nx) ?_
  rw [upd_ne (ne_of_none h nx), upd_ne (ne_of_none h nd)]
  exact h
theorem EnsA.keep {H H' : Hp} {xs : List V} {es : List En} {C x dx : Addr} {fs : List (Str × V)} (h : EnsA H xs es) (hx : H x = some (.ins C dx fs)) (i : ExI x H H') : EnsA H' xs es := h.mono fun b zs hb => i b _ (ne_of hb hx (by intro z; cases z)) hb
theorem lst_keep {H H' : Hp} {C x dx l : Addr} {fs : List (Str × V)} {xs : List V} (h : H l = some (.lst xs)) (hx : H x = some (.ins C dx fs)) (i : ExI x H H') : H' l = some (.lst xs) := i l _ (ne_of h hx (by intro z; cases z)) h
def spBIn (C : Addr) : Sp := fun vs H Q _ => ∃ (x dx l m : Addr) (xs : List V) (es : List En) (ls : List Nat), vs = [.ref x, .ref l, .ref m] ∧ H x = some (.ins C dx []) ∧ H l = some (.lst xs) ∧ EnsA H xs es ∧ Ens es ∧ 0 < es.length ∧ H m = some (.lst (nvs ls)) ∧ Fit es ls ∧
  ∀ H', ExI x H H' → H' x = some (.ins C dx (blkF es ls)) → Q .non H'
theorem fld_step {H0 : Hp} {H H1 : Hp} {C x dx : Addr} {fs : List (Str × V)} {f : Str} {v : V} (i : ExI x H0 H) (e : Ex H H1) (hx : H x = some (.ins C dx fs)) : ExI x H0 (upd H1 x (.ins C dx (putF f v fs))) ∧ (upd H1 x (.ins C dx (putF f v fs))) x = some (.ins C dx (putF f v fs)) :=
  ⟨fun b o nb h => by rw [upd_ne nb]; exact e _ _ (i _ _ nb h), upd_same⟩
set_option maxHeartbeats 8000000 in
theorem ok_binit (T : TX K mg A FD TK CC) : FnOk P w K mg base CX0 7 (A 109) (FD 109) ["self", "entries", "lengths"] (spBIn (A 61)) := by
  have G_code_entries := ok_code_entries (P := P) (w := w) (base := base) T
  refine T.f_Block_init.ok (k := 6) sc_Block_init (fun vs H Q E h => ?_) (fun cdv A' outer s H vs Q E hr h => ?_)
  · obtain ⟨x, dx, l, m, xs, es, ls, rfl, _⟩ := h
    rfl
  · obtain ⟨x, dx, l, m, xs, es, ls, rfl, hx, hl, hE, hN, h0, hm, hF, q⟩ := h
    refine ⟨_, (pss_cons (ps_fld (pv 0) (pe_ix (ixTK (K := K) rfl) (pe_ix (ixLK (K := K) rfl) (pv 1) pe_int (fun _ _ => rfl)) pe_int (fun _ _ => rfl)) rfl)
      (pss_cons (ps_fld (pv 0) (pe_ix (ixTK (K := K) rfl) (pe_ix (ixLK (K := K) rfl) (pv 1) (pe_un un_neg pe_int) (fun _ _ => rfl)) pe_int (fun _ _ => rfl)) rfl)
      (pss_cons (ps_fld (pv 0) (pe_callB (lenK (K := K) rfl) (by rfl) T.m_len (by decide +kernel) (pa_cons (pv 1) pa_nil)) rfl)
      (pss_cons (ps_fld (pv 0) (pe_callB (maxK (K := K) rfl rfl) (by rfl) T.m_max (by decide +kernel) (pa_cons (pe_lc (own := [("slot", 3), ("places", 4)])  rfl sc_Block_init.nd (piLK (K := K) rfl (pv 1)) (blkOk_by (own := [("slot", 3), ("places", 4)]) (N := N_Block_init) (sc := defScope (inClass (topS 61) 0)) (by decide +kernel)) (fun _ _ _ _ _ => (tupGK (K := K) (n := 2) rfl rfl (pgs_cons (pg_name (i := 3) sc_Block_init.nd rfl (Or.inl rfl)) (pgs_cons (pg_name (i := 4) sc_Block_init.nd rfl (Or.inl rfl)) pgs_nil)))) (fun _ _ _ _ _ => pts_nil) (fun _ _ _ _ _ => (pe_callB (lenK (K := K) rfl) (by rfl) T.m_len (by decide +kernel) (pa_cons (pv 4) pa_nil)))) pa_nil)) rfl)
      (pss_cons (ps_fld (pv 0) (pe_callB (minK (K := K) rfl rfl) (by rfl) T.m_min (by decide +kernel) (pa_cons (pe_lc (own := [("slot", 3), ("places", 4)])  rfl sc_Block_init.nd (piLK (K := K) rfl (pv 1)) (blkOk_by (own := [("slot", 3), ("places", 4)]) (N := N_Block_init) (sc := defScope (inClass (topS 61) 0)) (by decide +kernel)) (fun _ _ _ _ _ => (tupGK (K := K) (n := 2) rfl rfl (pgs_cons (pg_name (i := 3) sc_Block_init.nd rfl (Or.inl rfl)) (pgs_cons (pg_name (i := 4) sc_Block_init.nd rfl (Or.inl rfl)) pgs_nil)))) (fun _ _ _ _ _ => pts_nil) (fun _ _ _ _ _ => (pe_ix (ixLK (K := K) rfl) (pv 2) (pv 3) (fun _ _ => rfl)))) pa_nil)) rfl)
      (pss_one (ps_fld (pv 0) (pe_call G_code_entries hr (by rfl) T.g_code_entries T.f_code_entries.kp T.b_code_entries .nil pass0 (pa_cons (pv 1) pa_nil)) rfl))))))), ?_⟩
    have few := hN.few
    have ge0 : es[0]? = some es[0] := List.getElem?_eq_getElem h0
    have geL : es[es.length - 1]? = some (es[es.length - 1]'(by omega)) := List.getElem?_eq_getElem _
    obtain ⟨a0, g0, hA0⟩ := hE.2 _ _ ge0
    obtain ⟨aL, gL, hAL⟩ := hE.2 _ _ geL
    obtain ⟨t0, ha0, _⟩ := id hA0
    -- first
    refine ⟨.ref l, rfl, l, _, 0, _, rfl, rfl, SqL.of hl, atI_nat (j := 0) g0, a0, _, 0, _, rfl, rfl, SqT.of ha0, atI_nat (j := 0) rfl, .ref x, rfl, x, A 61, dx, [], rfl, hx, T.cl_Block, T.n_Block_first, (by show 0 < 1000; decide), ?_⟩
    obtain ⟨i1, hx1⟩ := fld_step (f := "first") (v := .int (es[0].1 : Nat)) (fun b o _ h => h) (Ex.refl H) hx
    generalize (upd H x (.ins (A 61) dx (putF "first" (.int (es[0].1 : Nat)) []))) = H1 at i1 hx1 ⊢
    -- last
    obtain ⟨tL, haL, _⟩ := id (show EnA H1 aL _ from ((hE.keep hx i1).2 _ _ geL).elim fun a h => by rw [gL] at h; cases h.1; exact h.2)
    refine ⟨.ref l, rfl, 1, rfl, l, _, -1, _, rfl, rfl, SqL.of (lst_keep hl hx i1), atI_end (by rw [hE.1]; exact gL), aL, _, 0, _, rfl, rfl, SqT.of haL, atI_nat (j := 0) rfl, .ref x, rfl, x, A 61, dx, _, rfl, hx1, T.cl_Block, T.n_Block_last, (by show 1 < 1000; decide), ?_⟩
    obtain ⟨i2, hx2⟩ := fld_step (f := "last") (v := .int ((es[es.length - 1]'(by omega)).1 : Nat)) i1 (Ex.refl H1) hx1
    generalize (upd H1 x (.ins (A 61) dx (putF "last" (.int ((es[es.length - 1]'(by omega)).1 : Nat)) (putF "first" (.int (es[0].1 : Nat)) [])))) = H2 at i2 hx2 ⊢
    -- many
    have hl2 := lst_keep hl hx i2
    refine ⟨.ref l, rfl, l, _, rfl, .inl (SqL.of hl2), .ref x, rfl, x, A 61, dx, _, rfl, hx2, T.cl_Block, T.n_Block_many, (by show 2 < 1000; decide), ?_⟩
    rw [hE.1]
    obtain ⟨i3, hx3⟩ := fld_step (f := "many") (v := .int (es.length : Nat)) i2 (Ex.refl H2) hx2
    generalize (upd H2 x (.ins (A 61) dx (putF "many" (.int (es.length : Nat)) _))) = H3 at i3 hx3 ⊢
    -- most
    have hl3 := lst_keep hl hx i3
    have hE3 := hE.keep hx i3
    refine ⟨.ref l, rfl, l, rfl, ⟨_, SqL.of hl3⟩, fun D nD => ?_⟩
    refine lc_list (K := K) (xs := xs) (fun i H' => Ex H3 H' ∧ H' D = some (.lst (nvs ((es.take i).map fun e => e.2.length)))) ⟨Ex.new nD, upd_same⟩ (fun i H' _ p => ex_l p.1 (SqL.of hl3)) (fun i v H4 hv p => ?_) (fun H4 p => ?_)
    · obtain ⟨p1, p2⟩ := p
      obtain ⟨e, a, ge, rfl, hA⟩ := hE3.at hv
      obtain ⟨t, ha, ht⟩ := hA.ex p1
      refine ⟨a, _, rfl, SqT.of ha, rfl, _, _, rfl, _, _, rfl, rfl, rfl, .ref t, rfl, t, _, rfl, .inr (SqT.of ht), _, p2, ?_, Ex.mut p1 nD, ?_⟩
      · rw [nvs_len, List.length_map, List.length_take]
        exact sz_lt (by omega)
      · rw [upd_same, take_up ge, List.map_append, nvs_len]
        exact congrArg (fun z => some (HO.lst z)) (nvs_snoc _ _).symm
    obtain ⟨e4, p2⟩ := p
    rw [hE.1, List.take_length, nvs_zs] at p2
    refine ⟨D, _, rfl, SqL.of p2, by rw [zsI_len, List.length_map]; exact h0, fun mm hmm hmx => ?_⟩
    rw [show mm = ((mostE es : Nat) : Int) from mx_is hmm hmx]
    have hx4 := e4 _ _ hx3
    refine ⟨.ref x, rfl, x, A 61, dx, _, rfl, hx4, T.cl_Block, T.n_Block_most, (by show 3 < 1000; decide), ?_⟩
    obtain ⟨i5, hx5⟩ := fld_step (f := "most") (v := .int (mostE es : Nat)) i3 e4 hx3
    generalize (upd H4 x (.ins (A 61) dx (putF "most" (.int (mostE es : Nat)) _))) = H5 at i5 hx5 ⊢
    -- least
    have hl5 := lst_keep hl hx i5
    have hE5 := hE.keep hx i5
    have hm5 := lst_keep hm hx i5
    refine ⟨.ref l, rfl, l, rfl, ⟨_, SqL.of hl5⟩, fun D2 nD2 => ?_⟩
    refine lc_list (K := K) (xs := xs) (fun i H' => Ex H5 H' ∧ H' D2 = some (.lst (nvs ((es.take i).map fun e => ls.getD e.1 0)))) ⟨Ex.new nD2, upd_same⟩ (fun i H' _ p => ex_l p.1 (SqL.of hl5)) (fun i v H6 hv p => ?_) (fun H6 p => ?_)
    · obtain ⟨p1, p2⟩ := p
      obtain ⟨e, a, ge, rfl, hA⟩ := hE5.at hv
      obtain ⟨t, ha, ht⟩ := hA.ex p1
      have f1 := (hF.fit e (List.mem_of_getElem? ge)).1
      have gls : (nvs ls)[e.1]? = some (.int ((ls.getD e.1 0 : Nat) : Int)) := by
        unfold nvs
        rw [List.getElem?_map, List.getElem?_eq_getElem f1, getD_at (List.getElem?_eq_getElem f1)]
        rfl
      refine ⟨a, _, rfl, SqT.of ha, rfl, _, _, rfl, _, _, rfl, rfl, rfl, .ref m, rfl, .int (e.1 : Int), rfl, m, _, _, _, rfl, rfl, SqL.of (p1 _ _ hm5), atI_nat gls, _, p2, ?_, Ex.mut p1 nD2, ?_⟩
      · rw [nvs_len, List.length_map, List.length_take]
        exact sz_lt (by omega)
      · rw [upd_same, take_up ge, List.map_append]
        exact congrArg (fun z => some (HO.lst z)) (nvs_snoc _ _).symm
    obtain ⟨e6, p2⟩ := p
    rw [hE.1, List.take_length, nvs_zs] at p2
    refine ⟨D2, _, rfl, SqL.of p2, by rw [zsI_len, List.length_map]; exact h0, fun mm hmm hmx => ?_⟩
    rw [show mm = ((leastE es ls : Nat) : Int) from mn_is hmm hmx]
    have hx6 := e6 _ _ hx5
    refine ⟨.ref x, rfl, x, A 61, dx, _, rfl, hx6, T.cl_Block, T.n_Block_least, (by show 4 < 1000; decide), ?_⟩
    obtain ⟨i7, hx7⟩ := fld_step (f := "least") (v := .int (leastE es ls : Nat)) i5 e6 hx5
    generalize (upd H6 x (.ins (A 61) dx (putF "least" (.int (leastE es ls : Nat)) _))) = H7 at i7 hx7 ⊢
    -- coded
    refine ⟨.ref l, rfl, l, xs, es, rfl, lst_keep hl hx i7, hE.keep hx i7, hN, fun H8 e8 => ?_⟩
    have hx8 := e8 _ _ hx7
    refine ⟨.ref x, rfl, x, A 61, dx, _, rfl, hx8, T.cl_Block, T.n_Block_coded, (by show 5 < 1000; decide), ?_⟩
    obtain ⟨i9, hx9⟩ := fld_step (f := "coded") (v := .str (txt (codeE es).flatten)) i7 e8 hx7
    refine q _ i9 (hx9.trans ?_)
    unfold blkF
    rw [fst_at ge0, lst_at geL]
    rfl

/-! ### Row -/
theorem rgc_of {n s : Nat} (h1 : 1 ≤ s) (h2 : s ≤ 1000) (h3 : n ≤ 100000) : RgC 0 (n : Int) (s : Int) (nb n s) := by
  have e : Builtin.Range.rangeSize 0 (n : Int) (s : Int) = ((nb n s : Nat) : Int) := by
    rw [rangeSize_pos (by omega) (by omega)]
    unfold nb
    rw [Int.natCast_ediv]
    congr 1
    omega
  have l := nb_le (n := n) (s := s) h1
  refine ⟨by omega, by omega, ?_, e⟩
  unfold Builtin.Range.small
  rw [e]
  simp only [Builtin.Range.rangeFitsLong, Bool.and_eq_true, Bool.or_eq_true, decide_eq_true_eq, beq_iff_eq]
  rw [if_pos (by omega)]
  refine ⟨⟨⟨⟨⟨by decide, by decide⟩, by omega, by omega⟩, by omega, by omega⟩, by omega, by omega⟩, .inr ?_⟩
  simp only [Bool.and_eq_true, decide_eq_true_eq]
  omega
theorem cutV_at {xs : List V} {i s : Nat} : cutV xs (some ((0 : Int) + (i : Nat) * (s : Int))) (some ((0 : Int) + (i : Nat) * (s : Int) + (s : Int))) = (xs.drop (i * s)).take s := by
  unfold cutV
  have e1 : (0 : Int) + (i : Nat) * (s : Int) = ((i * s : Nat) : Int) := by
    rw [Int.natCast_mul]
    omega
  rw [e1, show ((i * s : Nat) : Int) + (s : Int) = ((i * s + s : Nat) : Int) by omega, HT.sIx_nat, HT.sIx_nat]
  rcases Nat.le_total xs.length (i * s) with h | h
  · rw [Nat.min_eq_right h, Nat.min_eq_right (by omega), List.drop_of_length_le h, List.drop_of_length_le (Nat.le_refl _), List.take_nil, List.take_nil]
  · rw [Nat.min_eq_left h]
    rcases Nat.le_total xs.length (i * s + s) with k | k
    · rw [Nat.min_eq_right k, List.take_of_length_le (by rw [List.length_drop]; omega), List.take_of_length_le (by rw [List.length_drop]; omega)]
    · rw [Nat.min_eq_left k, show i * s + s - i * s = s by omega]
/-- the blocks at bs are those of es -/
def BlksAt (CB : Addr) (H : Hp) (bs : List Addr) (s : Nat) (es : List En) (ls : List Nat) : Prop := bs.length = nb es.length s ∧ ∀ (i : Nat) (b : Addr), bs[i]? = some b → BlkAt CB H b (cutE es s i) ls
structure RowIs (z : Str) (s : Nat) (es : List En) (ls : List Nat) : Prop where
  word : isW z = true
  lo : 1 ≤ s
  hi : s ≤ 8
  ens : Ens es
  fit : Fit es ls
def rowF (z : Str) (s : Nat) (t : Addr) : List (Str × V) := [("word", .str z), ("size", .int (s : Nat)), ("cut", .ref t)]
def RowAt (CR CB : Addr) (H : Hp) (r : Addr) (z : Str) (s : Nat) (es : List En) (ls : List Nat) : Prop := ∃ (dx t : Addr) (bs : List Addr), H r = some (.ins CR dx (rowF z s t)) ∧ H t = some (.tup (bs.map V.ref)) ∧ BlksAt CB H bs s es ls
theorem BlksAt.ex {CB : Addr} {H H' : Hp} {bs : List Addr} {s : Nat} {es : List En} {ls : List Nat} (h : BlksAt CB H bs s es ls) (x : Ex H H') : BlksAt CB H' bs s es ls := ⟨h.1, fun i b g => (h.2 i b g).ex x⟩
theorem RowAt.ex {CR CB : Addr} {H H' : Hp} {r : Addr} {z : Str} {s : Nat} {es : List En} {ls : List Nat} (h : RowAt CR CB H r z s es ls) (x : Ex H H') : RowAt CR CB H' r z s es ls := by
  obtain ⟨dx, t, bs, h1, h2, h3⟩ := h
  exact ⟨dx, t, bs, x _ _ h1, x _ _ h2, h3.ex x⟩
theorem refs_at {bs : List Addr} {i : Nat} {v : V} (g : (bs.map V.ref)[i]? = some v) : ∃ b, bs[i]? = some b ∧ v = .ref b ∧ i < bs.length := by
  rw [List.getElem?_map] at g
  cases e : bs[i]? with
  | none => rw [e] at g; cases g
  | some b =>
    rw [e] at g
    cases g
    exact ⟨b, rfl, rfl, (List.getElem?_eq_some_iff.mp e).1⟩
theorem ex2 {H : Hp} {x dx : Addr} {o u : HO} (nx : H x = none) (nd : H dx = none) : Ex H (upd (upd H dx o) x u) := fun c q h => by
  rw [upd_ne (ne_of_none h nx), upd_ne (ne_of_none h nd)]
  exact h
theorem BlkAt.updL {C D : Addr} {H : Hp} {b : Addr} {es : List En} {ls : List Nat} {xs : List V} {o : HO} (h : BlkAt C H b es ls) (hD : H D = some (.lst xs)) : BlkAt C (upd H D o) b es ls := by
  obtain ⟨dx, h⟩ := h
  exact ⟨dx, by rw [upd_ne (ne_of h hD (by intro z; cases z))]; exact h⟩
theorem snoc_at {α : Type} {l : List α} {x y : α} {j : Nat} (g : (l ++ [x])[j]? = some y) : (l[j]? = some y) ∨ (j = l.length ∧ y = x) := by
  by_cases h : j < l.length
  · rw [List.getElem?_append_left h] at g
    exact .inl g
  · rw [List.getElem?_append_right (by omega)] at g
    have : j - l.length = 0 := by
      have := (List.getElem?_eq_some_iff.mp g).1
      rw [List.length_singleton] at this
      omega
    rw [this] at g
    cases g
    exact .inr ⟨by omega, rfl⟩
def spRIn (CR CB : Addr) : Sp := fun vs H Q _ => ∃ (x dx l m : Addr) (xs : List V) (z : Str) (s : Nat) (es : List En) (ls : List Nat), vs = [.ref x, .str z, .ref l, .ref m, .int (s : Nat)] ∧ H x = some (.ins CR dx []) ∧ H l = some (.lst xs) ∧ EnsA H xs es ∧ H m = some (.lst (nvs ls)) ∧ RowIs z s es ls ∧
  ∀ (H' : Hp) (t : Addr) (bs : List Addr), ExI x H H' → H' x = some (.ins CR dx (rowF z s t)) → H' t = some (.tup (bs.map V.ref)) → BlksAt CB H' bs s es ls → Q .non H'
set_option maxHeartbeats 8000000 in
theorem ok_rinit (T : TX K mg A FD TK CC) : FnOk P w K mg base CX0 9 (A 110) (FD 110) ["self", "word", "entries", "lengths", "size"] (spRIn (A 62) (A 61)) := by
  have G_check_word := (ok_check_word (P := P) (w := w) (base := base) T).mono (show 2 ≤ 8 by decide)
  have G_check_entries := (ok_check_entries (P := P) (w := w) (base := base) T).mono (show 5 ≤ 8 by decide)
  have G_check_lengths := (ok_check_lengths (P := P) (w := w) (base := base) T).mono (show 3 ≤ 8 by decide)
  have G_check_size := (ok_check_size (P := P) (w := w) (base := base) T).mono (show 3 ≤ 8 by decide)
  have G_check_fit := (ok_check_fit (P := P) (w := w) (base := base) T).mono (show 1 ≤ 8 by decide)
  have G_Block := ok_binit (P := P) (w := w) (base := base) T
  have B2_Block := T.b_Block_init
  have R2_Block : Vals [] [] := .nil
  refine T.f_Row_init.ok (k := 8) sc_Row_init (fun vs H Q E h => ?_) (fun cdv A' outer s H vs Q E hr h => ?_)
  · obtain ⟨x, dx, l, m, xs, z, s, es, ls, rfl, _⟩ := h
    rfl
  · obtain ⟨x, dx, l, m, xs, z, s, es, ls, rfl, hx, hl, hE, hm, hR, q⟩ := h
    refine ⟨_, PSs.nox (pss_cons (ps_expr (pe_call G_check_word hr (by rfl) T.g_check_word T.f_check_word.kp T.b_check_word .nil pass0 (pa_cons (pv 1) pa_nil)))
      (pss_cons (ps_expr (pe_call G_check_entries hr (by rfl) T.g_check_entries T.f_check_entries.kp T.b_check_entries .nil pass0 (pa_cons (pv 2) pa_nil)))
      (pss_cons (ps_expr (pe_call G_check_lengths hr (by rfl) T.g_check_lengths T.f_check_lengths.kp T.b_check_lengths .nil pass0 (pa_cons (pv 3) pa_nil)))
      (pss_cons (ps_expr (pe_call G_check_size hr (by rfl) T.g_check_size T.f_check_size.kp T.b_check_size .nil pass0 (pa_cons (pv 4) pa_nil)))
      (pss_cons (ps_expr (pe_call G_check_fit hr (by rfl) T.g_check_fit T.f_check_fit.kp T.b_check_fit .nil pass0 (pa_cons (pv 2) (pa_cons (pv 3) pa_nil))))
      (pss_cons (ps_fld (pv 0) (pv 1) rfl)
      (pss_cons (ps_fld (pv 0) (pv 4) rfl)
      (pss_one (ps_fld (pv 0) (pe_callTy (tupK (K := K) rfl) (by rfl) T.m_tuple (by decide +kernel) (pa_cons (pe_lc (own := [("at", 5)])  rfl sc_Row_init.nd (pi_range3 (by rfl) T.m_range (pa_cons pe_int (pa_cons (pe_callB (lenK (K := K) rfl) (by rfl) T.m_len (by decide +kernel) (pa_cons (pv 2) pa_nil)) (pa_cons (pv 4) pa_nil)))) (blkOk_by (own := [("at", 5)]) (N := N_Row_init) (sc := defScope (inClass (topS 62) 0)) (by decide +kernel)) (fun _ _ _ _ _ => (pg_name (i := 5) sc_Row_init.nd rfl (Or.inl rfl))) (fun _ _ _ _ _ => pts_nil) (fun _ _ _ _ _ => (pe_make T.M_Block G_Block hr (by rfl) T.k_Block B2_Block R2_Block pass0 (pa_cons (pe_slice (slLK (K := K) rfl) (pv 2) (po_some (pv 5)) (po_some (pe_op op_add (pv 5) (pv 4)))) (pa_cons (pv 3) pa_nil))))) pa_nil)) rfl))))))))), ?_⟩
    have few := hR.ens.few
    have s1 := hR.lo
    have s8 := hR.hi
    refine ⟨.str z, rfl, z, rfl, hR.word, fun H1 e1 => ?_⟩
    refine ⟨.ref l, rfl, l, xs, es, rfl, e1 _ _ hl, hE.ex e1, hR.ens.ok, hR.ens.ris, fun H2 e2 => ?_⟩
    have x2 := e1.trans e2
    refine ⟨.ref m, rfl, m, ls, rfl, x2 _ _ hm, hR.fit.few, hR.fit.most, fun H3 e3 => ?_⟩
    have x3 := x2.trans e3
    refine ⟨.int (s : Nat), rfl, s, rfl, s1, s8, fun H4 e4 => ?_⟩
    have x4 := x3.trans e4
    refine ⟨.ref l, rfl, .ref m, rfl, l, m, xs, es, ls, rfl, x4 _ _ hl, hE.ex x4, hR.ens, x4 _ _ hm, hR.fit, fun H5 e5 => ?_⟩
    have x5 := x4.trans e5
    clear e1 e2 e3 e4 e5 x2 x3 x4 H1 H2 H3 H4
    refine ⟨.str z, rfl, .ref x, rfl, x, A 62, dx, [], rfl, x5 _ _ hx, T.cl_Row, T.n_Row_word, (by show 0 < 1000; decide), ?_⟩
    obtain ⟨i6, hx6⟩ := fld_step (f := "word") (v := .str z) (fun b o _ h => x5 _ _ h) (Ex.refl H5) (x5 _ _ hx)
    generalize (upd H5 x (.ins (A 62) dx (putF "word" (.str z) []))) = H6 at i6 hx6 ⊢
    refine ⟨.int (s : Nat), rfl, .ref x, rfl, x, A 62, dx, _, rfl, hx6, T.cl_Row, T.n_Row_size, (by show 1 < 1000; decide), ?_⟩
    obtain ⟨i7, hx7⟩ := fld_step (f := "size") (v := .int (s : Nat)) i6 (Ex.refl H6) hx6
    generalize (upd H6 x (.ins (A 62) dx (putF "size" (.int (s : Nat)) _))) = H7 at i7 hx7 ⊢
    have hl7 := lst_keep hl hx i7
    have hm7 := lst_keep hm hx i7
    have hE7 := hE.keep hx i7
    refine ⟨.ref l, rfl, l, _, rfl, .inl (SqL.of hl7), .int (s : Nat), rfl, 0, _, _, _, rfl, (by rw [hE.1]; exact rgc_of s1 (by omega) (by omega)), fun D nD => ?_⟩
    refine lc_it (walk_rangeC (lo := 0) (c := (s : Int)) (n := nb es.length s)) (fun i H' => Ex H7 H' ∧ ∃ bs : List Addr, bs.length = i ∧ H' D = some (.lst (bs.map V.ref)) ∧ ∀ (j : Nat) (b : Addr), bs[j]? = some b → BlkAt (A 61) H' b (cutE es s j) ls) ⟨Ex.new nD, [], rfl, upd_same, fun j b g => nomatch g⟩ (fun _ _ _ _ => True.intro) (fun i v H8 H9 hi p y => ?_) (fun H8 p => ?_)
    · obtain ⟨p1, bs, bl, p2, p3⟩ := p
      obtain ⟨rfl, rfl⟩ := y
      refine ⟨rfl, .ref l, rfl, _, rfl, _, rfl, _, rfl, .int (s : Nat), rfl, _, _, rfl, rfl, _, rfl, l, _, rfl, SqL.of (p1 _ _ hl7), fun c nc => ?_⟩
      rw [cutV_at]
      have eC := Ex.new (o := .lst ((xs.drop (i * s)).take s)) nc
      have hc := upd_same (H := H9) (a := c) (o := .lst ((xs.drop (i * s)).take s))
      generalize (upd H9 c (.lst ((xs.drop (i * s)).take s))) = Hc at eC hc ⊢
      have p1c := p1.trans eC
      refine ⟨.ref m, rfl, fun b d2 nb nd _ => ?_⟩
      have e2 := ex2 (o := .own b) (u := .ins (A 61) d2 []) nb nd
      refine ⟨b, d2, c, m, _, cutE es s i, ls, rfl, upd_same, e2 _ _ hc, ((hE7.ex (p1c.trans e2)).cut s i), hR.ens.cut s i, cutE_pos s1 hi, (p1c.trans e2) _ _ hm7, hR.fit.cut s i, fun H' iE hb => ⟨rfl, ?_⟩⟩
      have eH := ExI.new nb nd iE
      have hD := eH _ _ (eC _ _ p2)
      refine ⟨_, hD, ?_, Ex.mut (p1c.trans eH) nD, bs ++ [b], ?_, ?_, fun j b' g => ?_⟩
      · rw [List.length_map]
        exact sz_lt (by have := nb_le (n := es.length) (s := s) s1; omega)
      · rw [List.length_append, bl]
        rfl
      · rw [upd_same, List.map_append]
        rfl
      · rcases snoc_at g with g | ⟨rfl, rfl⟩
        · exact ((p3 j b' g).ex (eC.trans eH)).updL hD
        · rw [bl]
          exact BlkAt.updL ⟨d2, hb⟩ hD
    · obtain ⟨p1, bs, bl, p2, p3⟩ := p
      refine ⟨D, _, rfl, .inl ⟨SqL.of p2, fun t nt => ?_⟩⟩
      have eT := Ex.new (o := .tup (bs.map V.ref)) nt
      have ht := upd_same (H := H8) (a := t) (o := .tup (bs.map V.ref))
      generalize (upd H8 t (.tup (bs.map V.ref))) = H9 at eT ht ⊢
      have hx9 := eT _ _ (p1 _ _ hx7)
      refine ⟨.ref x, rfl, x, A 62, dx, _, rfl, hx9, T.cl_Row, T.n_Row_cut, (by show 2 < 1000; decide), ?_⟩
      obtain ⟨iF, hxF⟩ := fld_step (f := "cut") (v := .ref t) i7 (p1.trans eT) hx7
      refine q _ t bs iF hxF ?_ ⟨bl, fun j b g => ?_⟩
      · rw [upd_ne (ne_of ht hx9 (by intro z; cases z))]
        exact ht
      · obtain ⟨db, hb⟩ := (p3 j b g).ex eT
        refine ⟨db, ?_⟩
        by_cases hbx : b = x
        · subst hbx
          rw [hx9] at hb
          exact absurd (Option.some.inj hb) (fun z => by
            have := congrArg (fun o => match o with | HO.ins _ _ fs => fs.length | _ => 0) z
            exact absurd (show (2 : Nat) = 6 from this) (by decide))
        · rw [upd_ne hbx]
          exact hb
theorem sum_cut (es : List En) (s : Nat) : ∀ i, (zsI ((List.range i).map fun j => (cutE es s j).length)).sum = (((es.take (i * s)).length : Nat) : Int)
  | 0 => by simp [zsI]
  | i + 1 => by
    have h := sum_cut es s i
    rw [List.range_succ, List.map_append, take_more, List.length_append]
    unfold zsI at h ⊢
    rw [List.map_append, List.sum_append, h]
    simp
theorem all_cut {es : List En} {s : Nat} (hs : 0 < s) : es.take (nb es.length s * s) = es := List.take_of_length_le (nb_mul hs)
def spRBlk (CR CB : Addr) : Sp := fun vs H Q _ => ∃ (r : Addr) (z : Str) (s : Nat) (es : List En) (ls : List Nat), vs = [.ref r] ∧ RowAt CR CB H r z s es ls ∧ ∀ (l : Addr) (bs : List Addr) (H' : Hp), H l = none → Ex H H' → H' l = some (.lst (bs.map V.ref)) → BlksAt CB H' bs s es ls → Q (.ref l) H'
set_option maxHeartbeats 4000000 in
theorem ok_rblocks (T : TX K mg A FD TK CC) : FnOk P w K mg base CX0 1 (A 112) (FD 112) ["self"] (spRBlk (A 62) (A 61)) := by
  refine T.f_Row_blocks.ok sc_Row_blocks (fun vs H Q E h => ?_) (fun cdv A' outer s H vs Q E hr h => ?_)
  · obtain ⟨r, z, s, es, ls, rfl, _⟩ := h
    rfl
  · obtain ⟨r, z, s, es, ls, rfl, ⟨dx, t, bs, h1, h2, h3⟩, q⟩ := h
    refine ⟨_, (pss_one (ps_ret (pe_callTy (listK (K := K) rfl) (by rfl) T.m_list (by decide +kernel) (pa_cons (fldK (K := K) rfl (pv 0) rfl) pa_nil)))), ?_⟩
    exact ⟨.ref r, rfl, r, A 62, dx, _, _, rfl, h1, T.cl_Row, T.n_Row_cut, rfl, t, _, rfl, .inr (SqT.of h2), fun l nl => q l bs _ nl (Ex.new nl) upd_same (h3.ex (Ex.new nl))⟩

/-! ### words_of, Page(..): no refusal -/
def spCheckW : Sp := fun vs H Q _ => ∃ (a : Addr) (zs : List Str), vs = [.ref a] ∧ H a = some (.lst (zs.map V.str)) ∧ okP zs = true ∧ RetV .non H Q
set_option maxHeartbeats 4000000 in
theorem ok_check_words (T : TX K mg A FD TK CC) : FnOk P w K mg base CX0 3 (A 26) (FD 26) ["words"] spCheckW := by
  have G_are_words := ok_are_words (P := P) (w := w) (base := base) T
  refine T.f_check_words.ok sc_check_words (fun vs H Q E h => ?_) (fun cdv A' outer s H vs Q E hr h => ?_)
  · obtain ⟨a, zs, rfl, _⟩ := h
    rfl
  · obtain ⟨a, zs, rfl, hS, ho, q⟩ := h
    unfold okP at ho
    rw [Bool.and_eq_true, decide_eq_true_eq] at ho
    refine ⟨_, (pss_cons (ps_if (pt_cmpR op_gt (pe_callB (lenK (K := K) rfl) (by rfl) T.m_len (by decide +kernel) (pa_cons (pv 0) pa_nil)) (pe_glob (v := .int 120) (by rfl) T.c_MOST_WORDS ⟨_, rfl⟩) (nomark _))
      (pss_one ps_never)
      pss_nil)
      (pss_one (ps_if (pt_not (pt_truth (pe_call G_are_words hr (by rfl) T.g_are_words T.f_are_words.kp T.b_are_words .nil pass0 (pa_cons (pv 0) pa_nil)) (by intro _; rfl)))
      (pss_one ps_never)
      pss_nil))), ?_⟩
    refine ⟨.ref a, rfl, a, _, rfl, .inl (SqL.of hS), _, 120, rfl, rfl, _, rfl, ite2 (fun e => ?_) (fun e => ?_)⟩
    · have e : (120 : Int) < ((zs.map V.str).length : Int) := of_decide_eq_true e
      rw [List.length_map] at e
      omega
    · refine ⟨.ref a, rfl, a, zs, rfl, .inl (SqL.of hS), by omega, fun z hz => ?_, fun H1 e1 => ⟨_, rfl, ?_⟩⟩
      · have := isW_len (List.all_eq_true.mp ho.2 z hz)
        omega
      · rw [ho.2]
        exact q.go e1
def spWordsOf : Sp := fun vs H Q _ => ∃ z : Str, vs = [.str z] ∧ z.length ≤ 20000 ∧ okP (piecesOf z) = true ∧ RetL ((piecesOf z).map V.str) H Q
set_option maxHeartbeats 4000000 in
theorem ok_words_of (T : TX K mg A FD TK CC) : FnOk P w K mg base CX0 4 (A 25) (FD 25) ["text"] spWordsOf := by
  have G_check_words := ok_check_words (P := P) (w := w) (base := base) T
  refine T.f_words_of.ok sc_words_of (fun vs H Q E h => ?_) (fun cdv A' outer s H vs Q E hr h => ?_)
  · obtain ⟨z, rfl, _⟩ := h
    rfl
  · obtain ⟨z, rfl, hl, ho, q⟩ := h
    refine ⟨_, (pss_cons (ps_if (pt_not (pt_val (pe_callB (isiK (K := K) rfl) (by rfl) T.m_isinstance (by decide +kernel) (pa_cons (pv 0) (pa_cons (pe_bltn (v := .ty "str") (by rfl) T.m_str (by decide +kernel) rfl) pa_nil)))))
      (pss_one ps_never)
      pss_nil)
      (pss_cons (ps_set (i := 1) sc_words_of.nd rfl (.inl rfl) (pe_ifExp (pt_truth (pv 0) (by intro _; rfl)) (pe_split (pv 0) pe_str) (pe_lst pa_nil)))
      (pss_cons (ps_expr (pe_call G_check_words hr (by rfl) T.g_check_words T.f_check_words.kp T.b_check_words .nil pass0 (pa_cons (pv 1) pa_nil)))
      (pss_one (ps_ret (pv 1)))))), ?_⟩
    refine ⟨.str z, rfl, .str z, .ty "str", .type "str", .type "str", true, rfl, .ty _, .base (.str z), kit_ty (by decide +kernel), true, rfl, ?_⟩
    have fin : ∀ (p : Addr), H p = none → spCheckW [.ref p] (upd H p (.lst ((piecesOf z).map V.str))) (fun _ H' => ∃ v : V, ([some (.str z), some (.ref p)] : L2.St)[1]? = some (some v) ∧ Q v H') (fun _ _ _ => False) := fun p np =>
      ⟨p, _, rfl, upd_same, ho, fun H2 e2 => ⟨.ref p, rfl, q p H2 np ((Ex.new np).trans e2) (e2 _ _ upd_same)⟩⟩
    refine ⟨.str z, rfl, ((z.length : Int) != 0), ⟨sz (by omega), rfl⟩, ?_⟩
    by_cases h0 : z.length = 0
    · rw [show ((z.length : Int) != 0) = false by rw [h0]; rfl]
      refine ⟨Nat.zero_le _, fun p np => ?_⟩
      have f := fin p np
      rw [show piecesOf z = [] by unfold piecesOf; rw [if_pos h0]] at f
      exact ⟨.ref p, rfl, f⟩
    · rw [show ((z.length : Int) != 0) = true by simp [h0]]
      refine ⟨.str z, rfl, ⟨_, rfl⟩, z, " ", rfl, rfl, by decide +kernel, sz (by omega), fun p np => ?_⟩
      have f := fin p np
      rw [show piecesOf z = Txt.split z " " by unfold piecesOf; rw [if_neg h0]] at f
      exact ⟨.ref p, rfl, f⟩
def spCheckN : Sp := fun vs H Q _ => ∃ n : Int, vs = [.int n] ∧ 1 ≤ n ∧ n ≤ 9999 ∧ RetV .non H Q
set_option maxHeartbeats 4000000 in
theorem ok_check_page_number (T : TX K mg A FD TK CC) : FnOk P w K mg base CX0 3 (A 55) (FD 55) ["number"] spCheckN := by
  have G_is_within := ok_is_within (P := P) (w := w) (base := base) T
  refine T.f_check_page_number.ok sc_check_page_number (fun vs H Q E h => ?_) (fun cdv A' outer s H vs Q E hr h => ?_)
  · obtain ⟨n, rfl, _⟩ := h
    rfl
  · obtain ⟨n, rfl, h1, h2, q⟩ := h
    refine ⟨_, (pss_one (ps_if (pt_not (pt_val (pe_call G_is_within hr (by rfl) T.g_is_within T.f_is_within.kp T.b_is_within .nil pass0 (pa_cons (pv 0) (pa_cons pe_int (pa_cons (pe_glob (v := .int 9999) (by rfl) T.c_MOST_NUMBER ⟨_, rfl⟩) pa_nil))))))
      (pss_one ps_never)
      pss_nil)), ?_⟩
    refine ⟨.int n, rfl, n, 1, 9999, rfl, fun H1 e1 => ⟨_, rfl, ?_⟩⟩
    rw [decide_eq_true h1, decide_eq_true h2]
    exact q.go e1
def spPInit (C : Addr) : Sp := fun vs H Q _ => ∃ (x dx : Addr) (n : Int) (z : Str), vs = [.ref x, .int n, .str z] ∧ H x = some (.ins C dx []) ∧ 1 ≤ n ∧ n ≤ 9999 ∧ z.length ≤ 20000 ∧ okP (piecesOf z) = true ∧
  ∀ H' t, ExI x H H' → H' x = some (.ins C dx [("number", .int n), ("in_turn", .ref t)]) → H' t = some (.tup ((piecesOf z).map V.str)) → Q .non H'
set_option maxHeartbeats 4000000 in
theorem ok_pinit (T : TX K mg A FD TK CC) : FnOk P w K mg base CX0 5 (A 106) (FD 106) ["self", "number", "text"] (spPInit (A 54)) := by
  have G_check_page_number := (ok_check_page_number (P := P) (w := w) (base := base) T).mono (show 3 ≤ 4 by decide)
  have G_words_of := ok_words_of (P := P) (w := w) (base := base) T
  refine T.f_Page_init.ok (k := 4) sc_Page_init (fun vs H Q E h => ?_) (fun cdv A' outer s H vs Q E hr h => ?_)
  · obtain ⟨x, dx, n, z, rfl, _⟩ := h
    rfl
  · obtain ⟨x, dx, n, z, rfl, hx, n1, n2, hl, ho, q⟩ := h
    refine ⟨_, (pss_cons (ps_expr (pe_call G_check_page_number hr (by rfl) T.g_check_page_number T.f_check_page_number.kp T.b_check_page_number .nil pass0 (pa_cons (pv 1) pa_nil)))
      (pss_cons (ps_fld (pv 0) (pv 1) rfl)
      (pss_one (ps_fld (pv 0) (pe_callTy (tupK (K := K) rfl) (by rfl) T.m_tuple (by decide +kernel) (pa_cons (pe_call G_words_of hr (by rfl) T.g_words_of T.f_words_of.kp T.b_words_of .nil pass0 (pa_cons (pv 2) pa_nil)) pa_nil)) rfl)))), ?_⟩
    refine ⟨.int n, rfl, n, rfl, n1, n2, fun H0 e0 => ?_⟩
    refine ⟨.int n, rfl, .ref x, rfl, x, A 54, dx, [], rfl, e0 _ _ hx, T.cl_Page, T.n_Page_number, (by show 0 < 1000; decide), ?_⟩
    have i1 : ExI x H (upd H0 x (.ins (A 54) dx (putF "number" (.int n) []))) := fun b o nb h => by rw [upd_ne nb]; exact e0 _ _ h
    have hx1 : (upd H0 x (.ins (A 54) dx (putF "number" (.int n) []))) x = some (.ins (A 54) dx (putF "number" (.int n) [])) := upd_same
    generalize (upd H0 x (.ins (A 54) dx (putF "number" (.int n) []))) = H1 at i1 hx1 ⊢
    refine ⟨.str z, rfl, z, rfl, hl, ho, fun p H2 np e2 hp => ?_⟩
    refine ⟨p, _, rfl, .inl ⟨SqL.of hp, fun tt ntt => ?_⟩⟩
    have e3 := Ex.new (o := .tup ((piecesOf z).map V.str)) ntt
    have hx3 := e3 _ _ (e2 _ _ hx1)
    refine ⟨.ref x, rfl, x, A 54, dx, _, rfl, hx3, T.cl_Page, T.n_Page_in_turn, (by show 1 < 1000; decide), q _ tt (fun b o nb h => ?_) upd_same ?_⟩
    · rw [upd_ne nb]
      exact e3 _ _ (e2 _ _ (i1 _ _ nb h))
    · rw [upd_ne (ne_of_none (e2 _ _ hx1) ntt).symm]
      exact upd_same

/-! ### a page, its methods -/
/-- at p stands a page of the number n and the words ws -/
def PageAt (C : Addr) (H : Hp) (p : Addr) (n : Int) (ws : List Str) : Prop := ∃ (dx t : Addr), H p = some (.ins C dx [("number", .int n), ("in_turn", .ref t)]) ∧ H t = some (.tup (ws.map V.str)) ∧ ws.length ≤ 120 ∧ ws.all isW = true
theorem PageAt.ex {C : Addr} {H H' : Hp} {p : Addr} {n : Int} {ws : List Str} (h : PageAt C H p n ws) (e : Ex H H') : PageAt C H' p n ws := by
  obtain ⟨dx, t, h1, h2, h3⟩ := h
  exact ⟨dx, t, e _ _ h1, e _ _ h2, h3⟩
def spPWords (C : Addr) : Sp := fun vs H Q _ => ∃ (p : Addr) (n : Int) (ws : List Str), vs = [.ref p] ∧ PageAt C H p n ws ∧ RetL (ws.map V.str) H Q
set_option maxHeartbeats 4000000 in
theorem ok_p_words (T : TX K mg A FD TK CC) : FnOk P w K mg base CX0 1 (A 108) (FD 108) ["self"] (spPWords (A 54)) := by
  refine T.f_Page_words.ok sc_Page_words (fun vs H Q E h => ?_) (fun cdv A' outer s H vs Q E hr h => ?_)
  · obtain ⟨p, n, ws, rfl, _⟩ := h
    rfl
  · obtain ⟨p, n, ws, rfl, ⟨dx, t, h1, h2, _⟩, q⟩ := h
    refine ⟨_, (pss_one (ps_ret (pe_callTy (listK (K := K) rfl) (by rfl) T.m_list (by decide +kernel) (pa_cons (fldK (K := K) rfl (pv 0) rfl) pa_nil)))), ?_⟩
    exact ⟨.ref p, rfl, p, A 54, dx, _, .ref t, rfl, h1, T.cl_Page, T.n_Page_in_turn, rfl, t, _, rfl, .inr (SqT.of h2), fun l nl => q l _ nl (Ex.new nl) upd_same⟩
def spPLen (C : Addr) : Sp := fun vs H Q _ => ∃ (p : Addr) (n : Int) (ws : List Str), vs = [.ref p] ∧ PageAt C H p n ws ∧ Q (.int (ws.length : Int)) H
set_option maxHeartbeats 4000000 in
theorem ok_p_len (T : TX K mg A FD TK CC) : FnOk P w K mg base CX0 1 (A 107) (FD 107) ["self"] (spPLen (A 54)) := by
  refine T.f_Page_len.ok sc_Page_len (fun vs H Q E h => ?_) (fun cdv A' outer s H vs Q E hr h => ?_)
  · obtain ⟨p, n, ws, rfl, _⟩ := h
    rfl
  · obtain ⟨p, n, ws, rfl, ⟨dx, t, h1, h2, _⟩, q⟩ := h
    refine ⟨_, (pss_one (ps_ret (pe_callB (lenK (K := K) rfl) (by rfl) T.m_len (by decide +kernel) (pa_cons (fldK (K := K) rfl (pv 0) rfl) pa_nil)))), ?_⟩
    refine ⟨.ref p, rfl, p, A 54, dx, _, .ref t, rfl, h1, T.cl_Page, T.n_Page_in_turn, rfl, t, _, rfl, .inr (SqT.of h2), ?_⟩
    rw [List.length_map]
    exact q

/-! tables of lambdas -/
abbrev lamQ (n : Str) : Str := n ++ ".<locals>." ++ "<lambda>"
abbrev TabL (PR : Addr) : List (Addr × Str) := [(PR, lamQ "law")]
theorem fx_new {p : Addr} {H H1 H2 : Hp} (n : H p = none) (e : Ex H H1) (f : Fx p H1 H2) : Ex H H2 := fun a o h => f a o (ne_of_none h n) (e a o h)
theorem maxmin (n : Nat) : 1 ≤ (if (if (n : Int) < 8 then (n : Int) else 8) > 1 then (if (n : Int) < 8 then (n : Int) else 8) else 1) ∧ (if (if (n : Int) < 8 then (n : Int) else 8) > 1 then (if (n : Int) < 8 then (n : Int) else 8) else 1) ≤ 8 := by
  constructor
  · split <;> split <;> omega
  · split <;> split <;> omega
theorem lst_exN {H H' : Hp} {a : Addr} {xs : List V} (e : LamX.ExtN H H') (h : H a = some (.lst xs)) : H' a = some (.lst xs) := e _ _ h (by intro ps z; cases z)
theorem tup_exN {H H' : Hp} {a : Addr} {xs : List V} (e : LamX.ExtN H H') (h : H a = some (.tup xs)) : H' a = some (.tup xs) := e _ _ h (by intro ps z; cases z)
theorem sql_exN {K : PySem.W.Frag} {H H' : Hp} {a : Addr} {xs : List V} (e : LamX.ExtN H H') (h : SqL K H a xs) : SqL K H' a xs := by
  rcases h with (h | ⟨o, h⟩) | h
  · exact .inl (.inl (lst_exN e h))
  · exact .inl (.inr ⟨o, e _ _ h (by intro ps z; cases z)⟩)
  · exact .inr h
theorem sqt_exN {K : PySem.W.Frag} {H H' : Hp} {a : Addr} {xs : List V} (e : LamX.ExtN H H') (h : SqT K H a xs) : SqT K H' a xs := by
  rcases h with (h | ⟨o, h⟩) | h
  · exact .inl (.inl (tup_exN e h))
  · exact .inl (.inr ⟨o, e _ _ h (by intro ps z; cases z)⟩)
  · exact .inr h
theorem fx_newN {p : Addr} {H H1 H2 : Hp} (n : H p = none) (e : LamX.ExtN H H1) (f : Fx p H1 H2) : LamX.ExtN H H2 := fun a o h t => f a o (ne_of_none h n) (e a o h t)
theorem tabs_fx {Tt : List (Addr × Str)} {H H' : Hp} {p : Addr} {c : Nat} (t : LamX.Tabs Tt H) (hp : Pl H p c) (f : Fx p H H') : LamX.Tabs Tt H' := fun q hq => by
  obtain ⟨ps, h1, h2, h3⟩ := t q hq
  obtain ⟨xs, hx⟩ := hp.some
  refine ⟨ps, f _ _ (ne_of h1 hx (by intro z; cases z)) h1, h2, fun pos cv hc => ?_⟩
  obtain ⟨c, e1, e2⟩ := h3 pos cv hc
  exact ⟨c, e1, f _ _ (ne_of e2 hx (by intro z; cases z)) e2⟩

/-! pages made in a law -/
theorem bindsP (T : TX K mg A FD TK CC) : ∃ ds, Vals ([] : List V) ds ∧ Binds K (FD 106) ["self", "number", "text"] ds := by
  obtain ⟨ds2, R2, B2⟩ := T.f_Page_init.binds1 (ps := ["self", "number", "text"]) 3 1 (by simp) rfl (fun _ _ _ _ _ _ _ us its hl1 hl2 => match us, its, hl1, hl2 with | [_, _, _], [_], _, _ => ⟨_, rfl, rfl⟩)
  exact ⟨ds2, R2, B2⟩
theorem jbound {ws : List Str} (h : ws.all isW = true) (hl : ws.length ≤ 120) : (ws.map (·.length)).sum + ws.length * (Str.ofString " ").length ≤ 16777216 := by
  have := len_sum ws h
  rw [show (Str.ofString " ").length = 1 by decide +kernel]
  omega
theorem mk_page {C : Addr} {H : Hp} {x dx : Addr} {n : Int} {ws : List Str} {R : Hp → Prop} {E : XK} (nx : H x = none) (ndx : H dx = none) (h1 : 1 ≤ n) (h2 : n ≤ 9999) (hl : ws.length ≤ 120) (hw : ws.all isW = true) (q : ∀ H', Ex H H' → PageAt C H' x n ws → R H') :
    spPInit C [.ref x, .int n, .str (Txt.join " " ws)] (upd (upd H dx (.own x)) x (.ins C dx [])) (fun v H2 => v = .non ∧ R H2) E := by
  have ep := pieces_join hw
  refine ⟨x, dx, n, _, rfl, upd_same, h1, h2, by have := join_le hw hl; omega, ?_, fun H' t i hx ht => ⟨rfl, q H' (fun c o h => ?_) ⟨dx, t, hx, ?_, hl, hw⟩⟩⟩
  · rw [ep]
    unfold okP
    rw [decide_eq_true hl, hw]
    rfl
  · refine i c o (ne_of_none h nx) ?_
    rw [upd_ne (ne_of_none h nx), upd_ne (ne_of_none h ndx)]
    exact h
  · rw [ep] at ht
    exact ht
theorem PageAt.fx {C : Addr} {H H' : Hp} {q p : Addr} {n : Int} {ws : List Str} {c : Nat} (h : PageAt C H q n ws) (f : Fx p H H') (hp : Pl H p c) : PageAt C H' q n ws := by
  obtain ⟨dx, t, h1, h2, h3⟩ := h
  obtain ⟨ys, hy⟩ := hp.some
  exact ⟨dx, t, f _ _ (ne_of h1 hy (by intro z; cases z)) h1, f.tup hp h2, h3⟩
theorem PageAt.upl {C : Addr} {H : Hp} {q D : Addr} {n : Int} {ws : List Str} {xs : List V} {o : HO} (h : PageAt C H q n ws) (hD : H D = some (.lst xs)) : PageAt C (upd H D o) q n ws := by
  obtain ⟨dx, t, h1, h2, h3⟩ := h
  exact ⟨dx, t, by rw [upd_ne (ne_of h1 hD (by intro z; cases z))]; exact h1, by rw [upd_ne (ne_of h2 hD (by intro z; cases z))]; exact h2, h3⟩

/-! ### numbers, entries, tuples of numbers as data -/
def dV (ns : List Nat) : List PyData := ns.map fun (n : Nat) => .int (n : Int)
def dE (e : En) : PyData := .tuple [.int (e.1 : Int), .tuple (dV e.2)]
def dEs (es : List En) : List PyData := es.map dE
def dTs (nss : List (List Nat)) : List PyData := nss.map fun ns => .tuple (dV ns)
theorem dpV {K : PySem.W.Frag} {H : Hp} : ∀ ns : List Nat, DpAll K H (nvs ns) (dV ns)
  | [] => .nil
  | n :: r => .cons (.int _) (dpV r)
theorem dp_all {K : PySem.W.Frag} {H : Hp} {α : Type} {f : α → PyData} : ∀ {xs : List V} {as : List α}, xs.length = as.length → (∀ (i : Nat) (a : α), as[i]? = some a → ∃ v, xs[i]? = some v ∧ Dp K H v (f a)) → DpAll K H xs (as.map f)
  | [], [], _, _ => .nil
  | v :: xs, a :: as, hl, h => by
    obtain ⟨u, e, d⟩ := h 0 a rfl
    cases e
    exact .cons d (dp_all (by simpa using hl) fun i a g => h (i + 1) a g)
  | [], _ :: _, hl, _ => by simp at hl
  | _ :: _, [], hl, _ => by simp at hl
theorem dpE {K : PySem.W.Frag} {H : Hp} {a : Addr} {e : En} (h : EnA H a e) : Dp K H (.ref a) (dE e) := by
  obtain ⟨t, h1, h2⟩ := h
  exact .tup (SqT.of h1) (.cons (.int _) (.cons (.tup (SqT.of h2) (dpV _)) .nil))
theorem dpEs {K : PySem.W.Frag} {H : Hp} {xs : List V} {es : List En} (h : EnsA H xs es) : DpAll K H xs (dEs es) := dp_all h.1 fun i e g => let ⟨a, h1, h2⟩ := h.2 i e g; ⟨_, h1, dpE h2⟩
/-- tuples of numbers at hs -/
def TupsA (H : Hp) (hs : List Addr) (nss : List (List Nat)) : Prop := hs.length = nss.length ∧ ∀ (i : Nat) (ns : List Nat), nss[i]? = some ns → ∃ b, hs[i]? = some b ∧ H b = some (.tup (nvs ns))
theorem TupsA.ex {H H' : Hp} {hs : List Addr} {nss : List (List Nat)} (h : TupsA H hs nss) (x : Ex H H') : TupsA H' hs nss := ⟨h.1, fun i ns g => let ⟨b, h1, h2⟩ := h.2 i ns g; ⟨b, h1, x _ _ h2⟩⟩
theorem TupsA.updL {H : Hp} {D : Addr} {o : HO} {hs : List Addr} {ys : List V} {nss : List (List Nat)} (h : TupsA H hs nss) (hD : H D = some (.lst ys)) : TupsA (upd H D o) hs nss := ⟨h.1, fun i ns g => let ⟨b, h1, h2⟩ := h.2 i ns g; ⟨b, h1, by rw [upd_ne (ne_of h2 hD (by intro z; cases z))]; exact h2⟩⟩
theorem TupsA.snoc {H : Hp} {hs : List Addr} {nss : List (List Nat)} {b : Addr} {ns : List Nat} (h : TupsA H hs nss) (hb : H b = some (.tup (nvs ns))) : TupsA H (hs ++ [b]) (nss ++ [ns]) := by
  refine ⟨by rw [List.length_append, List.length_append, h.1]; rfl, fun i ms g => ?_⟩
  rcases snoc_at g with g | ⟨rfl, rfl⟩
  · obtain ⟨c, h1, h2⟩ := h.2 i ms g
    exact ⟨c, by rw [List.getElem?_append_left (List.getElem?_eq_some_iff.mp h1).1]; exact h1, h2⟩
  · exact ⟨b, by rw [← h.1, List.getElem?_append_right (Nat.le_refl _)]; simp, hb⟩
theorem dpTs {K : PySem.W.Frag} {H : Hp} {hs : List Addr} {nss : List (List Nat)} (h : TupsA H hs nss) : DpAll K H (hs.map V.ref) (dTs nss) := dp_all (by rw [List.length_map]; exact h.1) fun i ns g => by
  obtain ⟨b, h1, h2⟩ := h.2 i ns g
  exact ⟨.ref b, by rw [List.getElem?_map, h1]; rfl, .tup (SqT.of h2) (dpV _)⟩
theorem shV (ns : List Nat) : PyData.canLayAll0 (dV ns) = true ∧ PyData.depthAll (dV ns) = 0 := by
  unfold dV
  induction ns with
  | nil => exact ⟨rfl, rfl⟩
  | cons n r ih => exact ⟨by rw [List.map_cons, PyData.canLayAll0, ih.1]; rfl, by rw [List.map_cons, PyData.depthAll, ih.2, PyData.depth]; rfl⟩
theorem sh_all {α : Type} {f : α → PyData} {k : Nat} (h : ∀ a, PyData.canLay0 (f a) = true ∧ PyData.depth (f a) ≤ k) : ∀ as : List α, PyData.canLayAll0 (as.map f) = true ∧ PyData.depthAll (as.map f) ≤ k
  | [] => ⟨rfl, Nat.zero_le _⟩
  | a :: r => by
    have i := sh_all h r
    exact ⟨by rw [List.map_cons, PyData.canLayAll0, (h a).1, i.1]; rfl, by rw [List.map_cons, PyData.depthAll]; exact Nat.max_le.mpr ⟨(h a).2, i.2⟩⟩
theorem sh_list {ds : List PyData} {k : Nat} (hk : k ≤ 60) (h : PyData.canLayAll0 ds = true ∧ PyData.depthAll ds ≤ k) : SeqAt.shaped (.list ds) = true := by
  unfold SeqAt.shaped
  rw [PyData.canLay0, PyData.depth, h.1, Bool.true_and]
  have := h.2
  exact decide_eq_true (by omega)
theorem shT (ns : List Nat) : PyData.canLay0 (.tuple (dV ns)) = true ∧ PyData.depth (.tuple (dV ns)) ≤ 1 := ⟨by rw [PyData.canLay0]; exact (shV ns).1, by rw [PyData.depth, (shV ns).2]; exact Nat.le_refl _⟩
theorem shE (e : En) : PyData.canLay0 (dE e) = true ∧ PyData.depth (dE e) ≤ 2 := by
  unfold dE
  refine ⟨?_, ?_⟩
  · rw [PyData.canLay0, PyData.canLayAll0, PyData.canLayAll0, (shT e.2).1]
    rfl
  · rw [PyData.depth, PyData.depthAll, PyData.depthAll]
    have := (shT e.2).2
    simp only [PyData.depthAll, PyData.depth] at this ⊢
    omega
theorem shTs (nss : List (List Nat)) : SeqAt.shaped (.list (dTs nss)) = true := sh_list (k := 1) (by decide) (sh_all shT nss)
theorem shEs (es : List En) : SeqAt.shaped (.list (dEs es)) = true := sh_list (k := 2) (by decide) (sh_all shE es)
theorem eqv_self {d : PyData} (h : SeqAt.shaped d = true) : PyData.eqv d d = true := SeqAt.eqv_refl _ (SeqAt.canLay_of_shaped h)

/-! ### Row(..) -/
theorem kb_row (T : TX K mg A FD TK CC) : KBn K (FD 110) ["self", "word", "entries", "lengths", "size"] 4 ["size"] (fun us ws => us ++ ws) (fun vs zs => vs ++ zs) := by
  obtain ⟨oc, od, dV, kV, doc, pm, an, cdv, ct, osl, e, lk, hcd, hD, hK⟩ := T.f_Row_init.ex
  rcases hD with ⟨_, rfl⟩ | ⟨e', _⟩
  · rw [e]
    rcases hK with e' | ⟨D, rfl, _⟩
    · cases e'
    · exact ⟨fun s us ws _ l1 l2 => match us, ws, l1, l2 with | [_, _, _, _], [_], _, _ => .of_eq rfl, fun r1 r2 => r1.append r2⟩
  · exact absurd rfl e'
theorem bd_row (T : TX K mg A FD TK CC) : ∃ ds, Vals [V.int 4] ds ∧ Binds K (FD 110) ["self", "word", "entries", "lengths", "size"] ds :=
  T.f_Row_init.binds0 4 (by simp) rfl fun D doc pm an cdv ct us ks l1 l2 => match us, ks, l1, l2 with
    | [_, _, _, _], [_], _, _ => ⟨_, _, _, _, _, _, rfl, rfl, rfl⟩
/-- the row is made -/
theorem mk_row {CR CB : Addr} {H : Hp} {x dx l m : Addr} {xs : List V} {z : Str} {s : Nat} {es : List En} {ls : List Nat} {R : Hp → Prop} {E : XK} (nx : H x = none) (nd : H dx = none) (hl : H l = some (.lst xs)) (hE : EnsA H xs es) (hm : H m = some (.lst (nvs ls))) (hR : RowIs z s es ls) (q : ∀ H', Ex H H' → RowAt CR CB H' x z s es ls → R H') :
    spRIn CR CB [.ref x, .str z, .ref l, .ref m, .int (s : Nat)] (upd (upd H dx (.own x)) x (.ins CR dx [])) (fun v H2 => v = .non ∧ R H2) E := by
  have e := ex2 (o := .own x) (u := .ins CR dx []) nx nd
  exact ⟨x, dx, l, m, xs, z, s, es, ls, rfl, upd_same, e _ _ hl, hE.ex e, e _ _ hm, hR, fun H' t bs i h1 h2 h3 => ⟨rfl, q H' (ExI.new nx nd i) ⟨dx, t, bs, h1, h2, h3⟩⟩⟩
theorem BlksAt.updL {CB D : Addr} {H : Hp} {bs : List Addr} {s : Nat} {es : List En} {ls : List Nat} {xs : List V} {o : HO} (h : BlksAt CB H bs s es ls) (hD : H D = some (.lst xs)) : BlksAt CB (upd H D o) bs s es ls := ⟨h.1, fun i b g => (h.2 i b g).updL hD⟩
theorem RowAt.updL {CR CB D : Addr} {H : Hp} {r : Addr} {z : Str} {s : Nat} {es : List En} {ls : List Nat} {xs : List V} {o : HO} (h : RowAt CR CB H r z s es ls) (hD : H D = some (.lst xs)) : RowAt CR CB (upd H D o) r z s es ls := by
  obtain ⟨dx, t, bs, h1, h2, h3⟩ := h
  exact ⟨dx, t, bs, by rw [upd_ne (ne_of h1 hD (by intro z; cases z))]; exact h1, by rw [upd_ne (ne_of h2 hD (by intro z; cases z))]; exact h2, h3.updL hD⟩

/-! ### walkers: the mathematics -/
/-- where one who stands at the n-th entry stands: the block, and the entry in it -/
def stA (es : List En) (s n : Nat) : Nat := if n < es.length then n / s else nb es.length s
def stE (es : List En) (s n : Nat) : Nat := if n < es.length then n % s else 0
theorem stA_in {es : List En} {s n : Nat} (hs : 0 < s) (h : n < es.length) : stA es s n < nb es.length s ∧ stE es s n < (cutE es s (stA es s n)).length ∧ stA es s n * s + stE es s n = n := by
  have e1 : n / s * s + n % s = n := by rw [Nat.mul_comm]; exact Nat.div_add_mod n s
  have m := Nat.mod_lt n hs
  unfold stA stE
  rw [if_pos h, if_pos h]
  refine ⟨(nb_lt hs).mpr (by omega), ?_, e1⟩
  rw [cutE_len]
  omega
theorem stA_end {es : List En} {s n : Nat} (h : ¬ n < es.length) : stA es s n = nb es.length s ∧ stE es s n = 0 := by
  unfold stA stE
  rw [if_neg h, if_neg h]
  exact ⟨rfl, rfl⟩
theorem stA_le {es : List En} {s n : Nat} (hs : 0 < s) : stA es s n ≤ nb es.length s := by
  by_cases h : n < es.length
  · exact Nat.le_of_lt (stA_in hs h).1
  · rw [(stA_end h).1]
    exact Nat.le_refl _
theorem stA_is {es : List En} {s n : Nat} (hs : 0 < s) : stA es s n = nb es.length s ↔ ¬ n < es.length := by
  constructor
  · intro e h
    have := (stA_in hs h).1
    omega
  · exact fun h => (stA_end h).1
theorem st_of {es : List En} {s a c : Nat} (hs : 0 < s) (ha : a < nb es.length s) (hc : c < (cutE es s a).length) : stA es s (a * s + c) = a ∧ stE es s (a * s + c) = c := by
  rw [cutE_len] at hc
  have hlt : a * s + c < es.length := by omega
  have c' : c < s := by omega
  unfold stA stE
  rw [if_pos hlt, if_pos hlt]
  exact ⟨by rw [Nat.mul_comm, Nat.mul_add_div hs, Nat.div_eq_of_lt c', Nat.add_zero], by rw [Nat.mul_comm, Nat.mul_add_mod, Nat.mod_eq_of_lt c']⟩
theorem cutE_get {es : List En} {s a c : Nat} (hc : c < (cutE es s a).length) : (cutE es s a)[c]? = es[a * s + c]? := by
  rw [cutE_len] at hc
  unfold cutE
  rw [List.getElem?_take, if_pos (by omega), List.getElem?_drop]
/-- slots rise -/
theorem wslot_lt {es : List En} (hr : Ris (slots es)) : ∀ {i j : Nat} {x y : En}, i < j → es[i]? = some x → es[j]? = some y → x.1 < y.1 := by
  have step : ∀ {j : Nat} {x y : En}, es[j]? = some x → es[j + 1]? = some y → x.1 < y.1 := fun {j x y} gx gy => by
    have := hr (j + 1) y.1 (slots_at gy)
    rw [ah, getD_at (slots_at gx)] at this
    omega
  intro i j x y h gx gy
  induction j generalizing y with
  | zero => omega
  | succ j ih =>
    have hj : j < es.length := by have := (List.getElem?_eq_some_iff.mp gy).1; omega
    have gz := List.getElem?_eq_getElem hj
    have l2 := step gz gy
    rcases Nat.lt_succ_iff_lt_or_eq.mp h with h | rfl
    · have := ih h gz
      omega
    · rw [gx] at gz
      cases gz
      exact l2
theorem wslot_le {es : List En} (hr : Ris (slots es)) {i j : Nat} {x y : En} (h : i ≤ j) (gx : es[i]? = some x) (gy : es[j]? = some y) : x.1 ≤ y.1 := by
  rcases Nat.lt_or_eq_of_le h with h | rfl
  · exact Nat.le_of_lt (wslot_lt hr h gx gy)
  · rw [gx] at gy
    cases gy
    exact Nat.le_refl _
/-- m is the first one from n on whose slot is no less than z -/
structure Sought (es : List En) (z : Int) (n m : Nat) : Prop where
  ge : n ≤ m
  le : m ≤ es.length
  less : ∀ i, n ≤ i → i < m → ∀ e, es[i]? = some e → (e.1 : Int) < z
  stop : ∀ e, es[m]? = some e → z ≤ (e.1 : Int)
theorem Sought.uniq {es : List En} {z : Int} {n m k : Nat} (h : Sought es z n m) (g : Sought es z n k) : m = k := by
  have half : ∀ {m k : Nat}, Sought es z n m → Sought es z n k → ¬ m < k := fun {m k} h g l => by
    have hm : m < es.length := by have := g.le; omega
    have e := List.getElem?_eq_getElem hm
    have a := h.stop _ e
    have b := g.less m h.ge l _ e
    omega
  have a := half h g
  have b := half g h
  omega
theorem sought_at {es : List En} {z : Int} {n : Nat} {e : En} (g : es[n]? = some e) (h : z ≤ (e.1 : Int)) : Sought es z n n := ⟨Nat.le_refl _, Nat.le_of_lt (List.getElem?_eq_some_iff.mp g).1, fun i h1 h2 => by omega, fun f gf => by
  rw [g] at gf
  cases gf
  exact h⟩
theorem sought_end {es : List En} {z : Int} {n : Nat} (hn : n = es.length) : Sought es z n n := ⟨Nat.le_refl _, by omega, fun i h1 h2 => by omega, fun f gf => by
  have := (List.getElem?_eq_some_iff.mp gf).1
  omega⟩
/-- the first block from a on whose last slot is no less than z -/
structure Reach (es : List En) (s : Nat) (z : Int) (a b : Nat) : Prop where
  ge : a ≤ b
  le : b ≤ nb es.length s
  less : ∀ j, a ≤ j → j < b → (lstE (cutE es s j) : Int) < z
  stop : b < nb es.length s → z ≤ (lstE (cutE es s b) : Int)
theorem last_is {es : List En} {s j : Nat} (hs : 0 < s) (hj : j < nb es.length s) : ∃ (k : Nat) (e : En), es[k]? = some e ∧ lstE (cutE es s j) = e.1 ∧ j * s ≤ k ∧ k < (j + 1) * s ∧ (∀ i, j * s ≤ i → i < (j + 1) * s → i < es.length → i ≤ k) := by
  have hp := cutE_pos hs hj
  have g : (cutE es s j)[(cutE es s j).length - 1]? = some ((cutE es s j)[(cutE es s j).length - 1]'(by omega)) := List.getElem?_eq_getElem _
  have l := lst_at g
  rw [cutE_get (by omega)] at g
  refine ⟨_, _, g, l, by omega, ?_, fun i h1 h2 h3 => ?_⟩
  · rw [Nat.add_mul, cutE_len]
    omega
  · rw [Nat.add_mul] at h2
    rw [cutE_len]
    omega
theorem first_is {es : List En} {s j : Nat} (hs : 0 < s) (hj : j < nb es.length s) : ∃ e : En, es[j * s]? = some e ∧ fstE (cutE es s j) = e.1 := by
  have hp := cutE_pos hs hj
  have g : (cutE es s j)[0]? = some ((cutE es s j)[0]'hp) := List.getElem?_eq_getElem _
  have l := fst_at g
  rw [cutE_get hp, Nat.add_zero] at g
  exact ⟨_, g, l⟩
def lessN (B : List En) (z : Int) : Nat := (B.filter fun e => decide ((e.1 : Int) < z)).length
theorem lessN_ok (z : Int) : ∀ (B : List En), (∀ (i j : Nat) (x y : En), i < j → B[i]? = some x → B[j]? = some y → x.1 < y.1) → (∀ i, i < lessN B z → ∀ e, B[i]? = some e → (e.1 : Int) < z) ∧ (∀ e, B[lessN B z]? = some e → z ≤ (e.1 : Int)) ∧ lessN B z ≤ B.length
  | [], _ => ⟨fun i h => absurd h (Nat.not_lt_zero _), fun e h => by simp at h, Nat.le_refl _⟩
  | b :: r, h => by
    have ih := lessN_ok z r fun i j x y l gx gy => h (i + 1) (j + 1) x y (by omega) gx gy
    unfold lessN at ih ⊢
    by_cases c : (b.1 : Int) < z
    · rw [List.filter_cons_of_pos (by simpa using c), List.length_cons]
      refine ⟨fun i hi e g => ?_, fun e g => ih.2.1 e g, by rw [List.length_cons]; omega⟩
      cases i with
      | zero =>
        cases g
        exact c
      | succ i => exact ih.1 i (by omega) e g
    · have none : r.filter (fun e => decide ((e.1 : Int) < z)) = [] := by
        rw [List.filter_eq_nil_iff]
        intro e he
        obtain ⟨j, hj, ej⟩ := List.getElem_of_mem he
        have := h 0 (j + 1) b e (by omega) rfl (by rw [List.getElem?_cons_succ, List.getElem?_eq_getElem hj, ej])
        simp only [decide_eq_true_eq]
        omega
      rw [List.filter_cons_of_neg (by simpa using c), none]
      refine ⟨fun i hi => absurd hi (Nat.not_lt_zero _), fun e g => ?_, Nat.zero_le _⟩
      cases g
      omega
theorem blk_of {es : List En} {s i : Nat} (hs : 0 < s) (hi : i < es.length) : i / s < nb es.length s ∧ i / s * s ≤ i ∧ i < (i / s + 1) * s := by
  have e1 : i / s * s + i % s = i := by rw [Nat.mul_comm]; exact Nat.div_add_mod i s
  have m := Nat.mod_lt i hs
  refine ⟨(nb_lt hs).mpr (by omega), by omega, ?_⟩
  rw [Nat.add_mul]
  omega
/-- all entries ahead of the reached block are less -/
theorem reach_less {es : List En} {s a b n : Nat} {z : Int} (hr : Ris (slots es)) (hs : 0 < s) (h : Reach es s z a b) (ha : a = n / s) : ∀ i, n ≤ i → i < b * s → ∀ e, es[i]? = some e → (e.1 : Int) < z := fun i h1 h2 e g => by
  have hi := (List.getElem?_eq_some_iff.mp g).1
  obtain ⟨q1, q2, q3⟩ := blk_of hs hi
  have jb : i / s < b := (Nat.div_lt_iff_lt_mul hs).mpr h2
  have ja : a ≤ i / s := by rw [ha]; exact Nat.div_le_div_right h1
  obtain ⟨k, f, gk, l, k1, k2, k3⟩ := last_is hs q1
  have := h.less (i / s) ja jb
  rw [l] at this
  have le := wslot_le hr (k3 i q2 q3 hi) g gk
  omega
theorem nb_end {n s : Nat} (hs : 0 < s) : n ≤ nb n s * s := nb_mul hs
theorem sought_none {es : List En} {s n : Nat} {z : Int} (hr : Ris (slots es)) (hs : 0 < s) (hn : n ≤ es.length) (h : Reach es s z (n / s) (nb es.length s)) : Sought es z n es.length :=
  ⟨hn, Nat.le_refl _, fun i h1 h2 e g => reach_less hr hs h rfl i h1 (Nat.lt_of_lt_of_le h2 (nb_end hs)) e g, fun e g => by
    have := (List.getElem?_eq_some_iff.mp g).1
    omega⟩
theorem sought_first {es : List En} {s n b : Nat} {z : Int} {e : En} (hr : Ris (slots es)) (hs : 0 < s) (hn : es[n]? = some e) (hz : (e.1 : Int) < z) (h : Reach es s z (n / s) b) (hb : b < nb es.length s) (hf : z ≤ (fstE (cutE es s b) : Int)) : Sought es z n (b * s) := by
  obtain ⟨f, gf, ef⟩ := first_is hs hb
  rw [ef] at hf
  have hbs := (nb_lt hs).mp hb
  refine ⟨?_, by omega, reach_less hr hs h rfl, fun e' g => ?_⟩
  · rcases Nat.lt_or_ge (b * s) n with l | l
    · have := wslot_lt hr l gf hn
      omega
    · exact l
  · rw [gf] at g
    cases g
    exact hf
theorem cut_rise {es : List En} {s b : Nat} (hr : Ris (slots es)) : ∀ (i j : Nat) (x y : En), i < j → (cutE es s b)[i]? = some x → (cutE es s b)[j]? = some y → x.1 < y.1 := fun i j x y l gx gy => wslot_lt hr (show b * s + i < b * s + j by omega) (cutE_at gx).1 (cutE_at gy).1
theorem sought_in {es : List En} {s n b : Nat} {z : Int} {e : En} (hr : Ris (slots es)) (hs : 0 < s) (hn : es[n]? = some e) (hz : (e.1 : Int) < z) (h : Reach es s z (n / s) b) (hb : b < nb es.length s) (hf : (fstE (cutE es s b) : Int) < z) : Sought es z n (b * s + lessN (cutE es s b) z) ∧ lessN (cutE es s b) z < (cutE es s b).length ∧ 0 < lessN (cutE es s b) z := by
  obtain ⟨p1, p2, p3⟩ := lessN_ok z (cutE es s b) (cut_rise hr)
  have hp := cutE_pos hs hb
  have gl : (cutE es s b)[(cutE es s b).length - 1]? = some ((cutE es s b)[(cutE es s b).length - 1]'(by omega)) := List.getElem?_eq_getElem _
  have ll := lst_at gl
  have st := h.stop hb
  rw [ll] at st
  have c1 : lessN (cutE es s b) z < (cutE es s b).length := by
    rcases Nat.lt_or_ge (lessN (cutE es s b) z) (cutE es s b).length with l | l
    · exact l
    · have := p1 ((cutE es s b).length - 1) (by omega) _ gl
      omega
  have g0 : (cutE es s b)[0]? = some ((cutE es s b)[0]'hp) := List.getElem?_eq_getElem _
  have f0 := fst_at g0
  have c0 : 0 < lessN (cutE es s b) z := by
    rcases Nat.eq_zero_or_pos (lessN (cutE es s b) z) with q | q
    · rw [q] at p2
      have := p2 _ g0
      omega
    · exact q
  have gc : (cutE es s b)[lessN (cutE es s b) z]? = some ((cutE es s b)[lessN (cutE es s b) z]'c1) := List.getElem?_eq_getElem _
  have zc := p2 _ gc
  have gce := cutE_get c1
  rw [gc] at gce
  have hlt : b * s + lessN (cutE es s b) z < es.length := (List.getElem?_eq_some_iff.mp gce.symm).1
  refine ⟨⟨?_, by omega, fun i h1 h2 e' g => ?_, fun e' g => ?_⟩, c1, c0⟩
  · rcases Nat.lt_or_ge (b * s + lessN (cutE es s b) z) n with l | l
    · have := wslot_lt hr l gce.symm hn
      omega
    · exact l
  · rcases Nat.lt_or_ge i (b * s) with l | l
    · exact reach_less hr hs h rfl i h1 l e' g
    · have hc : i - b * s < lessN (cutE es s b) z := by omega
      have := cutE_get (es := es) (s := s) (a := b) (c := i - b * s) (by omega)
      rw [show b * s + (i - b * s) = i by omega, g] at this
      exact p1 _ hc e' this
  · rw [g] at gce
    cases gce
    exact zc

/-! ### walkers: the object -/
theorem nodup_few : ∀ (n : Nat) (O : List Nat), O.Nodup → (∀ j ∈ O, j < n) → O.length ≤ n
  | 0, O, _, h => by
    cases O with
    | nil => exact Nat.le_refl _
    | cons a r => exact absurd (h a (.head _)) (by omega)
  | n + 1, O, hn, h => by
    by_cases c : n ∈ O
    · have h2 := nodup_few n (O.erase n) (hn.erase n) (fun j hj => by
        have h1 := h j (List.mem_of_mem_erase hj)
        have h3 : j ≠ n := ((List.Nodup.mem_erase_iff hn).mp hj).1
        omega)
      rw [List.length_erase_of_mem c] at h2
      omega
    · exact Nat.le_succ_of_le (nodup_few n O hn fun j hj => by
        have h1 := h j hj
        have h3 : j ≠ n := fun e => c (e ▸ hj)
        omega)
/-- the blocks that are open when j is opened -/
def addO (O : List Nat) (j : Nat) : List Nat := if j ∈ O then O else O ++ [j]
theorem addO_in {O : List Nat} {j : Nat} (h : j ∈ O) : addO O j = O := if_pos h
theorem addO_new {O : List Nat} {j : Nat} (h : ¬ j ∈ O) : addO O j = O ++ [j] := if_neg h
theorem mem_addO {O : List Nat} {i j : Nat} : i ∈ addO O j ↔ i ∈ O ∨ i = j := by
  by_cases c : j ∈ O
  · rw [addO_in c]
    exact ⟨.inl, fun h => h.elim id fun e => e ▸ c⟩
  · rw [addO_new c, List.mem_append, List.mem_singleton]
def kN (j : Nat) : Key := .inl (j : Int)
theorem kN_inj {i j : Nat} (h : kN i = kN j) : i = j := by
  have := Sum.inl.inj h
  omega
structure DecAt (N : Addr → Prop) (H : Hp) (kvs : List (Key × V)) (O : List Nat) (s : Nat) (es : List En) : Prop where
  keys : kvs.map (·.1) = O.map kN
  nd : O.Nodup
  lt : ∀ j ∈ O, j < nb es.length s
  has : ∀ j ∈ O, ∃ (l : Addr) (xs : List V), valV kvs (kN j) = some (.ref l) ∧ H l = some (.lst xs) ∧ EnsA H xs (cutE es s j)
  no : ∀ j, ¬ j ∈ O → valV kvs (kN j) = none
  av : ∀ j ∈ O, ∀ l, valV kvs (kN j) = some (.ref l) → ¬ N l
theorem DecAt.mono {N : Addr → Prop} {H H' : Hp} {kvs : List (Key × V)} {O : List Nat} {s : Nat} {es : List En} (h : DecAt N H kvs O s es) (kl : ∀ b zs, H b = some (.lst zs) → H' b = some (.lst zs)) (kt : ∀ b zs, H b = some (.tup zs) → H' b = some (.tup zs)) : DecAt N H' kvs O s es :=
  ⟨h.keys, h.nd, h.lt, fun j hj => let ⟨l, xs, h1, h2, h3⟩ := h.has j hj; ⟨l, xs, h1, kl _ _ h2, h3.mono kt⟩, h.no, h.av⟩
theorem DecAt.len {N : Addr → Prop} {H : Hp} {kvs : List (Key × V)} {O : List Nat} {s : Nat} {es : List En} (h : DecAt N H kvs O s es) : kvs.length = O.length ∧ kvs.length ≤ nb es.length s := by
  have e : kvs.length = O.length := by
    have := congrArg List.length h.keys
    rwa [List.length_map, List.length_map] at this
  exact ⟨e, e ▸ nodup_few _ _ h.nd h.lt⟩
theorem DecAt.nil {N : Addr → Prop} {H : Hp} {s : Nat} {es : List En} : DecAt N H [] [] s es := ⟨rfl, .nil, (fun j h => nomatch h), (fun j h => nomatch h), (fun j _ => rfl), (fun j h => nomatch h)⟩
theorem DecAt.put {N : Addr → Prop} {H : Hp} {kvs : List (Key × V)} {O : List Nat} {s j : Nat} {es : List En} {l : Addr} {xs : List V} (h : DecAt N H kvs O s es) (hj : ¬ j ∈ O) (hb : j < nb es.length s) (hl : H l = some (.lst xs)) (hE : EnsA H xs (cutE es s j)) (hv : ¬ N l) : DecAt N H (putK kvs (kN j) (.ref l)) (O ++ [j]) s es := by
  have e := putK_new (.ref l) (h.no j hj)
  refine ⟨?_, ?_, fun i hi => ?_, fun i hi => ?_, fun i hi => ?_, fun i hi l' gl => ?_⟩
  · rw [e, List.map_append, List.map_append, h.keys]
    rfl
  · refine List.nodup_append.mpr ⟨h.nd, by simp, fun a ha b hb2 => ?_⟩
    rw [List.mem_singleton] at hb2
    exact fun e2 => hj (hb2 ▸ e2 ▸ ha)
  · rw [List.mem_append, List.mem_singleton] at hi
    exact hi.elim (h.lt i) fun e => e ▸ hb
  · rw [valV_put]
    by_cases c : kN i = kN j
    · rw [if_pos c, kN_inj c]
      exact ⟨l, xs, rfl, hl, hE⟩
    · rw [if_neg c]
      rw [List.mem_append, List.mem_singleton] at hi
      exact hi.elim (h.has i) fun e => absurd (congrArg kN e) c
  · rw [valV_put, if_neg (fun c => hi (List.mem_append.mpr (.inr (List.mem_singleton.mpr (kN_inj c)))))]
    exact h.no i fun c => hi (List.mem_append.mpr (.inl c))
  · rw [valV_put] at gl
    by_cases c : kN i = kN j
    · rw [if_pos c] at gl
      cases gl
      exact hv
    · rw [if_neg c] at gl
      rw [List.mem_append, List.mem_singleton] at hi
      exact hi.elim (fun k => h.av i k l' gl) fun e => absurd (congrArg kN e) c
def walkF (hl d t : Addr) : List (Str × V) := [("heads", .ref hl), ("decoded", .ref d), ("standing", .ref t)]
/-- a walker over a row with its open blocks O, its standing at t -/
structure WkD (N : Addr → Prop) (CW CB : Addr) (H : Hp) (x d t : Addr) (s : Nat) (es : List En) (ls : List Nat) (O : List Nat) (dx hl : Addr) (bs : List Addr) (kvs : List (Key × V)) : Prop where
  ix : H x = some (.ins CW dx (walkF hl d t))
  ih : H hl = some (.lst (bs.map V.ref))
  ib : BlksAt CB H bs s es ls
  id : H d = some (.dK kvs)
  io : DecAt N H kvs O s es
  ah : ¬ N hl
  nn : ∀ a, N a → H a ≠ none
def StAt (H : Hp) (t : Addr) (s : Nat) (es : List En) (n : Nat) : Prop := H t = some (.tup [.int (stA es s n : Nat), .int (stE es s n : Nat)])
def WkH (N : Addr → Prop) (CW CB : Addr) (H : Hp) (x d t : Addr) (s : Nat) (es : List En) (ls : List Nat) (O : List Nat) : Prop := ∃ (dx hl : Addr) (bs : List Addr) (kvs : List (Key × V)), WkD N CW CB H x d t s es ls O dx hl bs kvs
theorem BlksAt.mono {CB : Addr} {H H' : Hp} {bs : List Addr} {s : Nat} {es : List En} {ls : List Nat} (h : BlksAt CB H bs s es ls) (k : ∀ b dx, H b = some (.ins CB dx (blkF (cutE es s 0) ls)) ∨ True → ∀ i, H b = some (.ins CB dx (blkF (cutE es s i) ls)) → H' b = some (.ins CB dx (blkF (cutE es s i) ls))) : BlksAt CB H' bs s es ls := ⟨h.1, fun i b g => let ⟨dx, h2⟩ := h.2 i b g; ⟨dx, k b dx (.inr True.intro) i h2⟩⟩
/-- what may change where the dictionary at d alone is written -/
theorem WkD.keepD {N : Addr → Prop} {CW CB : Addr} {H H' : Hp} {x d t dx hl : Addr} {s : Nat} {es : List En} {ls O : List Nat} {bs : List Addr} {kvs : List (Key × V)} (h : WkD N CW CB H x d t s es ls O dx hl bs kvs) (i : ExI d H H') : H' x = some (.ins CW dx (walkF hl d t)) ∧ H' hl = some (.lst (bs.map V.ref)) ∧ BlksAt CB H' bs s es ls ∧ DecAt N H' kvs O s es := by
  have ne : ∀ {b : Addr} {o : HO}, H b = some o → (∀ kvs', o ≠ .dK kvs') → b ≠ d := fun {b o} hb hn e => by
    subst e
    rw [h.id] at hb
    exact hn _ (Option.some.inj hb).symm
  refine ⟨i _ _ (ne h.ix (by intro _ z; cases z)) h.ix, i _ _ (ne h.ih (by intro _ z; cases z)) h.ih, ⟨h.ib.1, fun j b g => ?_⟩, h.io.mono (fun b zs hb => i _ _ (ne hb (by intro _ z; cases z)) hb) fun b zs hb => i _ _ (ne hb (by intro _ z; cases z)) hb⟩
  obtain ⟨db, hb⟩ := h.ib.2 j b g
  exact ⟨db, i _ _ (ne hb (by intro _ z; cases z)) hb⟩
theorem nn_ex {H H' : Hp} {a : Addr} (i : Ex H H') (h : H a ≠ none) : H' a ≠ none := by
  cases e : H a with
  | none => exact absurd e h
  | some o =>
    rw [i _ _ e]
    intro z
    cases z
theorem WkD.ex {N : Addr → Prop} {CW CB : Addr} {H H' : Hp} {x d t dx hl : Addr} {s : Nat} {es : List En} {ls O : List Nat} {bs : List Addr} {kvs : List (Key × V)} (h : WkD N CW CB H x d t s es ls O dx hl bs kvs) (i : Ex H H') : WkD N CW CB H' x d t s es ls O dx hl bs kvs := ⟨i _ _ h.ix, i _ _ h.ih, h.ib.ex i, i _ _ h.id, h.io.mono (fun b zs hb => i _ _ hb) (fun b zs hb => i _ _ hb), h.ah, fun a ha e => nn_ex i (h.nn a ha) e⟩
theorem nn_of {H H' : Hp} {d a : Addr} {o : HO} (hd : H' d = some o) (i : ∀ b o, b ≠ d → H b = some o → H' b = some o) (h : H a ≠ none) : H' a ≠ none := by
  by_cases c : a = d
  · rw [c, hd]
    intro z
    cases z
  · cases e : H a with
    | none => exact absurd e h
    | some o =>
      rw [i _ _ c e]
      intro z
      cases z
theorem tup_keep {H H' : Hp} {d a : Addr} {kvs : List (Key × V)} {zs : List V} (h : H a = some (.tup zs)) (hd : H d = some (.dK kvs)) (i : ExI d H H') : H' a = some (.tup zs) := i _ _ (ne_of h hd (by intro z; cases z)) h
theorem ExI.refl {x : Addr} {H : Hp} : ExI x H H := fun b o _ h => h
theorem ExI.trans {x : Addr} {H H' H2 : Hp} (a : ExI x H H') (b : ExI x H' H2) : ExI x H H2 := fun c o n h => b c o n (a c o n h)
theorem ExI.ofEx {x : Addr} {H H' : Hp} (a : Ex H H') : ExI x H H' := fun c o _ h => a c o h
theorem ExI.mut {x : Addr} {H H' : Hp} {o : HO} (a : ExI x H H') : ExI x H (upd H' x o) := fun c q n h => by
  rw [upd_ne n]
  exact a c q n h
/-- a row's walker's facts that no call changes -/
structure WkR (s : Nat) (es : List En) (ls : List Nat) : Prop where
  lo : 1 ≤ s
  hi : s ≤ 8
  ens : Ens es
  fit : Fit es ls
theorem WkR.nb60 {s : Nat} {es : List En} {ls : List Nat} (h : WkR s es ls) : nb es.length s ≤ 60 := Nat.le_trans (nb_le h.lo) h.ens.few
/-! ### entries_in -/
def spEin (CW CB : Addr) : Sp := fun vs H Q _ => ∃ (N : Addr → Prop) (x d t : Addr) (s : Nat) (es : List En) (ls O : List Nat) (j : Nat), vs = [.ref x, .int (j : Int)] ∧ WkH N CW CB H x d t s es ls O ∧ WkR s es ls ∧ j < nb es.length s ∧
  ∀ (l : Addr) (xs : List V) (H' : Hp), ExI d H H' → WkH N CW CB H' x d t s es ls (addO O j) → H' l = some (.lst xs) → EnsA H' xs (cutE es s j) → Q (.ref l) H'
set_option maxHeartbeats 8000000 in
theorem ok_entries_in (T : TX K mg A FD TK CC) : FnOk P w K mg base CX0 4 (A 116) (FD 116) ["self", "at"] (spEin (A 67) (A 61)) := by
  have G_decode_entries := ok_decode_entries (P := P) (w := w) (base := base) T
  refine T.f_Walker_entries_in.ok (k := 3) sc_Walker_entries_in (fun vs H Q E h => ?_) (fun cdv A' outer s H vs Q E hr h => ?_)
  · obtain ⟨N, x, d, t, s, es, ls, O, j, rfl, _⟩ := h
    rfl
  · obtain ⟨N, x, d, t, s, es, ls, O, j, rfl, ⟨dx, hl, bs, kvs, hW⟩, hR, hj, q⟩ := h
    refine ⟨_, (pss_cons (ps_if (pt_cmp (pc_dnotin (hu_of hr) (pv 1) (fldK (K := K) rfl (pv 0) rfl)))
      (pss_one (ps_dput (hu_of hr) (fldK (K := K) rfl (pv 0) rfl) (pv 1) (pe_call G_decode_entries hr (by rfl) T.g_decode_entries T.f_decode_entries.kp T.b_decode_entries .nil pass0 (pa_cons (fldK (K := K) rfl (pe_ix (ixLK (K := K) rfl) (fldK (K := K) rfl (pv 0) rfl) (pv 1) (fun _ _ => rfl)) rfl) pa_nil)) rfl))
      pss_nil)
      (pss_one (ps_ret (pe_dget (hu_of hr) (fldK (K := K) rfl (pv 0) rfl) (pv 1) (fun _ _ => rfl))))), ?_⟩
    refine ⟨.int (j : Int), rfl, .ref x, rfl, x, A 67, dx, _, _, rfl, hW.ix, T.cl_Walker, T.n_Walker_decoded, rfl, d, _, rfl, DGet.k (k := kN j) hW.id, ?_⟩
    by_cases c : j ∈ O
    · obtain ⟨l, xs, g1, g2, g3⟩ := hW.io.has j c
      rw [g1]
      refine ⟨_, rfl, ite2 (fun h => absurd (show false = true from h) Bool.false_ne_true) (fun _ => ?_)⟩
      refine ⟨.ref x, rfl, x, A 67, dx, _, _, rfl, hW.ix, T.cl_Walker, T.n_Walker_decoded, rfl, .int (j : Int), rfl, d, _, rfl, (g1 ▸ DGet.k (k := kN j) hW.id), ?_⟩
      rw [addO_in c] at q
      exact q l xs H ExI.refl ⟨_, _, _, _, hW⟩ g2 g3
    · rw [hW.io.no j c]
      refine ⟨_, rfl, ite2 (fun _ => ?_) (fun h => absurd rfl h)⟩
      have hjb : j < bs.length := by rw [hW.ib.1]; exact hj
      have gb : bs[j]? = some bs[j] := List.getElem?_eq_getElem hjb
      obtain ⟨db, hb⟩ := hW.ib.2 j _ gb
      have gv : (bs.map V.ref)[j]? = some (.ref bs[j]) := by rw [List.getElem?_map, gb]; rfl
      have hEc := hR.ens.cut s j
      refine ⟨.ref x, rfl, x, A 67, dx, _, _, rfl, hW.ix, T.cl_Walker, T.n_Walker_heads, rfl, .int (j : Int), rfl, hl, _, _, _, rfl, rfl, SqL.of hW.ih, atI_nat gv, bs[j], A 61, db, _, _, rfl, hb, T.cl_Block, T.n_Block_coded, rfl, cutE es s j, rfl, hEc, ?_, fun l xs H2 nl e2 hl2 hE2 => ?_⟩
      · have l1 := codeE_len2 hEc (hR.fit.sml.cut s j)
        have l2 := hEc.few
        omega
      have hW2 := hW.ex e2
      have len := hW2.io.len
      have h60 := hR.nb60
      refine ⟨.ref x, rfl, x, A 67, dx, _, _, rfl, hW2.ix, T.cl_Walker, T.n_Walker_decoded, rfl, .int (j : Int), rfl, d, _, rfl, DPut.k (k := kN j) hW2.id (sz_lt (by omega)), ?_⟩
      have iU : ExI d H2 (upd H2 d (.dK (putK kvs (kN j) (.ref l)))) := ExI.mut ExI.refl
      have hU := upd_same (H := H2) (a := d) (o := .dK (putK kvs (kN j) (.ref l)))
      generalize (upd H2 d (.dK (putK kvs (kN j) (.ref l)))) = H3 at iU hU ⊢
      obtain ⟨k1, k2, k3, k4⟩ := hW2.keepD iU
      have hl3 : H3 l = some (.lst xs) := iU _ _ (ne_of hl2 hW2.id (by intro z; cases z)) hl2
      have hE3 := hE2.mono (H' := H3) fun b zs hb => iU _ _ (ne_of hb hW2.id (by intro z; cases z)) hb
      have hP := k4.put c hj hl3 hE3 (fun hn => hW.nn l hn nl)
      have hW3 : WkD N (A 67) (A 61) H3 x d t s es ls (O ++ [j]) dx hl bs _ := ⟨k1, k2, k3, hU, hP, hW.ah, fun a ha => nn_of hU iU (hW2.nn a ha)⟩
      have g1 : valV (putK kvs (kN j) (.ref l)) (kN j) = some (.ref l) := by rw [valV_put, if_pos rfl]
      refine ⟨.ref x, rfl, x, A 67, dx, _, _, rfl, k1, T.cl_Walker, T.n_Walker_decoded, rfl, .int (j : Int), rfl, d, _, rfl, (g1 ▸ DGet.k (k := kN j) hU), ?_⟩
      rw [addO_new c] at q
      exact q l xs H3 ((ExI.ofEx e2).trans iU) ⟨_, _, _, _, hW3⟩ hl3 hE3

theorem WkD.blk {N : Addr → Prop} {CW CB : Addr} {H : Hp} {x d t dx hl : Addr} {s j : Nat} {es : List En} {ls O : List Nat} {bs : List Addr} {kvs : List (Key × V)} (h : WkD N CW CB H x d t s es ls O dx hl bs kvs) (hj : j < nb es.length s) : ∃ b db, (bs.map V.ref)[j]? = some (.ref b) ∧ H b = some (.ins CB db (blkF (cutE es s j) ls)) := by
  have hjb : j < bs.length := by rw [h.ib.1]; exact hj
  have gb : bs[j]? = some bs[j] := List.getElem?_eq_getElem hjb
  obtain ⟨db, hb⟩ := h.ib.2 j _ gb
  exact ⟨_, db, by rw [List.getElem?_map, gb]; rfl, hb⟩
theorem WkD.len {N : Addr → Prop} {CW CB : Addr} {H : Hp} {x d t dx hl : Addr} {s : Nat} {es : List En} {ls O : List Nat} {bs : List Addr} {kvs : List (Key × V)} (h : WkD N CW CB H x d t s es ls O dx hl bs kvs) : (bs.map V.ref).length = nb es.length s := by rw [List.length_map]; exact h.ib.1
theorem vi_eq {a b : Nat} (h : decide (V.int (a : Int) = V.int (b : Int)) = true) : a = b := by
  have := V.int.inj (of_decide_eq_true h)
  omega
theorem vi_ne {a b : Nat} (h : ¬ decide (V.int (a : Int) = V.int (b : Int)) = true) : ¬ a = b := fun e => h (decide_eq_true (by rw [e]))
def opS (O : List Nat) (es : List En) (s n : Nat) : List Nat := if stE es s n = 0 then O else addO O (stA es s n)
def slotV (es : List En) (n : Nat) : V := match es[n]? with
  | some e => .int (e.1 : Nat)
  | none => .non
theorem slotV_in {es : List En} {n : Nat} {e : En} (h : es[n]? = some e) : slotV es n = .int (e.1 : Nat) := by unfold slotV; rw [h]
theorem slotV_end {es : List En} {n : Nat} (h : ¬ n < es.length) : slotV es n = .non := by unfold slotV; rw [List.getElem?_eq_none (by omega)]
/-! ### slot_at, slot -/
def spSat (CW CB : Addr) : Sp := fun vs H Q _ => ∃ (N : Addr → Prop) (x d t u : Addr) (s : Nat) (es : List En) (ls O : List Nat) (n : Nat), vs = [.ref x, .ref u] ∧ WkH N CW CB H x d t s es ls O ∧ WkR s es ls ∧ StAt H u s es n ∧
  ∀ H', ExI d H H' → WkH N CW CB H' x d t s es ls (opS O es s n) → Q (slotV es n) H'
set_option maxHeartbeats 8000000 in
theorem ok_slot_at (T : TX K mg A FD TK CC) : FnOk P w K mg base CX0 5 (A 117) (FD 117) ["self", "standing"] (spSat (A 67) (A 61)) := by
  have G_Walker_entries_in := ok_entries_in (P := P) (w := w) (base := base) T
  refine T.f_Walker_slot_at.ok (k := 4) sc_Walker_slot_at (fun vs H Q E h => ?_) (fun cdv A' outer s H vs Q E hr h => ?_)
  · obtain ⟨N, x, d, t, u, s, es, ls, O, n, rfl, _⟩ := h
    rfl
  · obtain ⟨N, x, d, t, u, s, es, ls, O, n, rfl, ⟨dx, hl, bs, kvs, hW⟩, hR, hu, q⟩ := h
    refine ⟨_, (pss_cons (ps_asg (pv 1) (pg_tup rfl (pgs_cons (pg_name (i := 2) sc_Walker_slot_at.nd rfl (.inl rfl)) (pgs_cons (pg_name (i := 3) sc_Walker_slot_at.nd rfl (.inl rfl)) pgs_nil))))
      (pss_cons (ps_if (pt_cmpR op_eq (pv 2) (pe_callB (lenK (K := K) rfl) (by rfl) T.m_len (by decide +kernel) (pa_cons (fldK (K := K) rfl (pv 0) rfl) pa_nil)) (nomark _))
      (pss_one (ps_ret pe_non))
      pss_nil)
      (pss_one (ps_ret (pe_ifExp (pt_cmpR op_eq (pv 3) pe_int (nomark _)) (fldK (K := K) rfl (pe_ix (ixLK (K := K) rfl) (fldK (K := K) rfl (pv 0) rfl) (pv 2) (fun _ _ => rfl)) rfl) (pe_ix (ixTK (K := K) rfl) (pe_ix (ixLK (K := K) rfl) (pe_meth (pv 0) T.cl_Walker T.M_Walker_entries_in G_Walker_entries_in hr T.b_Walker_entries_in .nil pass0 (pa_cons (pv 2) pa_nil)) (pv 3) (fun _ _ => rfl)) pe_int (fun _ _ => rfl))))))), ?_⟩
    refine ⟨.ref u, rfl, u, _, rfl, SqT.of hu, rfl, _, _, rfl, _, _, rfl, rfl, ?_⟩
    refine ⟨.int (stA es s n : Nat), rfl, .ref x, rfl, x, A 67, dx, _, _, rfl, hW.ix, T.cl_Walker, T.n_Walker_heads, rfl, hl, _, rfl, .inl (SqL.of hW.ih), rfl, _, rfl, ite2 (fun c => ?_) (fun c => ?_)⟩
    · rw [hW.len] at c
      have hn := (stA_is (es := es) hR.lo).mp (vi_eq c)
      have hq := q H ExI.refl
      rw [opS, if_pos (stA_end hn).2, slotV_end hn] at hq
      exact hq ⟨_, _, _, _, hW⟩
    · rw [hW.len] at c
      have hn : n < es.length := by
        apply Classical.byContradiction
        exact fun h => vi_ne c (stA_end h).1
      obtain ⟨n1, n2, n3⟩ := stA_in hR.lo hn
      have gn : es[n]? = some es[n] := List.getElem?_eq_getElem hn
      rw [slotV_in gn] at q
      have gc := cutE_get (es := es) (s := s) n2
      rw [n3, gn] at gc
      refine ⟨.int (stE es s n : Nat), rfl, rfl, _, rfl, ite2 (fun c2 => ?_) (fun c2 => ?_)⟩
      · have e0 : stE es s n = 0 := vi_eq (b := 0) c2
        obtain ⟨b, db, gb, hb⟩ := hW.blk n1
        have hq := q H ExI.refl
        rw [opS, if_pos e0] at hq
        rw [e0] at gc
        refine ⟨.ref x, rfl, x, A 67, dx, _, _, rfl, hW.ix, T.cl_Walker, T.n_Walker_heads, rfl, .int (stA es s n : Nat), rfl, hl, _, _, _, rfl, rfl, SqL.of hW.ih, atI_nat gb, b, A 61, db, _, _, rfl, hb, T.cl_Block, T.n_Block_first, rfl, ?_⟩
        rw [fst_at gc]
        exact hq ⟨_, _, _, _, hW⟩
      · have e0 : ¬ stE es s n = 0 := fun e => c2 (decide_eq_true (by rw [e]; rfl))
        rw [opS, if_neg e0] at q
        refine ⟨.ref x, rfl, x, dx, _, rfl, hW.ix, rfl, .int (stA es s n : Nat), rfl, N, x, d, t, s, es, ls, O, stA es s n, rfl, ⟨_, _, _, _, hW⟩, hR, n1, fun l xs H' i hW' hl' hE' => ?_⟩
        obtain ⟨a, ga, ta, ha, _⟩ := hE'.2 _ _ gc
        exact ⟨.int (stE es s n : Nat), rfl, l, _, _, _, rfl, rfl, SqL.of hl', atI_nat ga, a, _, 0, _, rfl, rfl, SqT.of ha, atI_nat (j := 0) rfl, q H' i hW'⟩
/-- where the walker stands -/
def WkAt (N : Addr → Prop) (CW CB : Addr) (H : Hp) (x d : Addr) (s : Nat) (es : List En) (ls O : List Nat) (n : Nat) : Prop := ∃ t, WkH N CW CB H x d t s es ls O ∧ StAt H t s es n ∧ n ≤ es.length
theorem WkH.hd {N : Addr → Prop} {CW CB : Addr} {H : Hp} {x d t : Addr} {s : Nat} {es : List En} {ls O : List Nat} (h : WkH N CW CB H x d t s es ls O) : ∃ kvs, H d = some (.dK kvs) := let ⟨_, _, _, kvs, h⟩ := h; ⟨kvs, h.id⟩
theorem StAt.keep {H H' : Hp} {d t : Addr} {s n : Nat} {es : List En} (h : StAt H t s es n) (hd : ∃ kvs, H d = some (.dK kvs)) (i : ExI d H H') : StAt H' t s es n := let ⟨_, hd⟩ := hd; tup_keep h hd i
def spSlo (CW CB : Addr) : Sp := fun vs H Q _ => ∃ (N : Addr → Prop) (x d : Addr) (s : Nat) (es : List En) (ls O : List Nat) (n : Nat), vs = [.ref x] ∧ WkAt N CW CB H x d s es ls O n ∧ WkR s es ls ∧
  ∀ H', ExI d H H' → WkAt N CW CB H' x d s es ls (opS O es s n) n → Q (slotV es n) H'
set_option maxHeartbeats 4000000 in
theorem ok_slot (T : TX K mg A FD TK CC) : FnOk P w K mg base CX0 6 (A 114) (FD 114) ["self"] (spSlo (A 67) (A 61)) := by
  have G_Walker_slot_at := ok_slot_at (P := P) (w := w) (base := base) T
  refine T.f_Walker_slot.ok (k := 5) sc_Walker_slot (fun vs H Q E h => ?_) (fun cdv A' outer s H vs Q E hr h => ?_)
  · obtain ⟨N, x, d, s, es, ls, O, n, rfl, _⟩ := h
    rfl
  · obtain ⟨N, x, d, s, es, ls, O, n, rfl, ⟨t, hH, hS, hn⟩, hR, q⟩ := h
    obtain ⟨dx, hl, bs, kvs, hW⟩ := id hH
    refine ⟨_, (pss_one (ps_ret (pe_meth (pv 0) T.cl_Walker T.M_Walker_slot_at G_Walker_slot_at hr T.b_Walker_slot_at .nil pass0 (pa_cons (fldK (K := K) rfl (pv 0) rfl) pa_nil)))), ?_⟩
    exact ⟨.ref x, rfl, x, dx, _, rfl, hW.ix, rfl, .ref x, rfl, x, A 67, dx, _, _, rfl, hW.ix, T.cl_Walker, T.n_Walker_standing, rfl, N, x, d, t, t, s, es, ls, O, n, rfl, hH, hR, hS, fun H' i h' => q H' i ⟨t, h', hS.keep ⟨_, hW.id⟩ i, hn⟩⟩
/-! ### reaching -/
def spRea (CW CB : Addr) : Sp := fun vs H Q _ => ∃ (N : Addr → Prop) (x d t : Addr) (s : Nat) (es : List En) (ls O : List Nat) (z : Int) (a : Nat), vs = [.ref x, .int z, .int (a : Int)] ∧ WkH N CW CB H x d t s es ls O ∧ WkR s es ls ∧ a ≤ nb es.length s ∧
  ∀ b, Reach es s z a b → Q (.int (b : Int)) H
set_option maxHeartbeats 8000000 in
theorem ok_reaching (T : TX K mg A FD TK CC) : FnOk P w K mg base CX0 1 (A 118) (FD 118) ["self", "slot", "at"] (spRea (A 67) (A 61)) := by
  refine T.f_Walker_reaching.ok (k := 0) sc_Walker_reaching (fun vs H Q E h => ?_) (fun cdv A' outer s H vs Q E hr h => ?_)
  · obtain ⟨N, x, d, t, s, es, ls, O, z, a, rfl, _⟩ := h
    rfl
  · obtain ⟨N, x, d, t, s, es, ls, O, z, a, rfl, ⟨dx, hl, bs, kvs, hW⟩, hR, ha, q⟩ := h
    refine ⟨_, (pss_cons (ps_while PassesOwn.never (PW.pt (pw_and (pt_cmpR op_lt (pv 2) (pe_callB (lenK (K := K) rfl) (by rfl) T.m_len (by decide +kernel) (pa_cons (fldK (K := K) rfl (pv 0) rfl) pa_nil)) (nomark _)) (pw_and1 (pt_cmpR op_lt (fldK (K := K) rfl (pe_ix (ixLK (K := K) rfl) (fldK (K := K) rfl (pv 0) rfl) (pv 2) (fun _ _ => rfl)) rfl) (pv 1) (nomark _)))))
      (pss_one (ps_aug (i := 2) sc_Walker_reaching.nd rfl (.inl rfl) pe_int ip_add)))
      (pss_one (ps_ret (pv 2)))), ?_⟩
    refine ⟨fun m σ' H' => H' = H ∧ ∃ b : Nat, σ' = [some (.ref x), some (.int z), some (.int (b : Int))] ∧ m = nb es.length s - b ∧ a ≤ b ∧ b ≤ nb es.length s ∧ ∀ j, a ≤ j → j < b → (lstE (cutE es s j) : Int) < z, ⟨_, rfl, a, rfl, rfl, Nat.le_refl _, ha, fun j h1 h2 => by omega⟩, fun m σ' H' p => ?_⟩
    obtain ⟨rfl, b, rfl, rfl, b1, b2, b3⟩ := p
    refine ⟨.int (b : Int), rfl, .ref x, rfl, x, A 67, dx, _, _, rfl, hW.ix, T.cl_Walker, T.n_Walker_heads, rfl, hl, _, rfl, .inl (SqL.of hW.ih), _, _, rfl, rfl, _, rfl, ite2 (fun c => ?_) (fun c => ?_)⟩
    · rw [hW.len] at c
      have hb : b < nb es.length s := by
        have : (b : Int) < (nb es.length s : Nat) := of_decide_eq_true c
        omega
      obtain ⟨bb, db, gb, hbb⟩ := hW.blk hb
      refine ⟨.ref x, rfl, x, A 67, dx, _, _, rfl, hW.ix, T.cl_Walker, T.n_Walker_heads, rfl, .int (b : Int), rfl, hl, _, _, _, rfl, rfl, SqL.of hW.ih, atI_nat gb, bb, A 61, db, _, _, rfl, hbb, T.cl_Block, T.n_Block_last, rfl, .int z, rfl, _, _, rfl, rfl, _, rfl, ite2 (fun c2 => ?_) (fun c2 => ?_)⟩
      · have hz : (lstE (cutE es s b) : Int) < z := of_decide_eq_true c2
        refine ⟨fun σ' H1 => σ' = [some (.ref x), some (.int z), some (.int ((b + 1 : Nat) : Int))] ∧ H1 = H', fun σ' H1 e => ?_, .int (b : Int), rfl, _, _, rfl, rfl, rfl, rfl⟩
        obtain ⟨rfl, rfl⟩ := e
        refine ⟨_, (by omega : nb es.length s - (b + 1) < _), rfl, b + 1, rfl, rfl, by omega, by omega, fun j h1 h2 => ?_⟩
        by_cases e : j = b
        · exact e ▸ hz
        · exact b3 j h1 (by omega)
      · exact ⟨.int (b : Int), rfl, q b ⟨b1, b2, b3, fun _ => by
          have : ¬ (lstE (cutE es s b) : Int) < z := fun h => c2 (decide_eq_true h)
          omega⟩⟩
    · rw [hW.len] at c
      have hb : ¬ b < nb es.length s := fun h => c (decide_eq_true (by omega))
      exact ⟨.int (b : Int), rfl, q b ⟨b1, b2, b3, fun h => absurd h hb⟩⟩

/-! ### head_at, opened -/
theorem WkH.ex {N : Addr → Prop} {CW CB : Addr} {H H' : Hp} {x d t : Addr} {s : Nat} {es : List En} {ls O : List Nat} (h : WkH N CW CB H x d t s es ls O) (i : Ex H H') : WkH N CW CB H' x d t s es ls O := let ⟨a, b, c, e, h⟩ := h; ⟨a, b, c, e, h.ex i⟩
theorem StAt.ex {H H' : Hp} {t : Addr} {s n : Nat} {es : List En} (h : StAt H t s es n) (i : Ex H H') : StAt H' t s es n := i _ _ h
theorem WkAt.ex {N : Addr → Prop} {CW CB : Addr} {H H' : Hp} {x d : Addr} {s n : Nat} {es : List En} {ls O : List Nat} (h : WkAt N CW CB H x d s es ls O n) (i : Ex H H') : WkAt N CW CB H' x d s es ls O n := let ⟨t, h1, h2, h3⟩ := h; ⟨t, h1.ex i, h2.ex i, h3⟩
def spCkN : Sp := fun vs H Q _ => ∃ z : Int, vs = [.int z] ∧ RetV .non H Q
theorem ok_check_number (T : TX K mg A FD TK CC) : FnOk P w K mg base CX0 2 (A 68) (FD 68) ["slot"] spCkN := by
  have G_is_whole := ok_is_whole (P := P) (w := w) (base := base) T
  refine T.f_check_number.ok (k := 1) sc_check_number (fun vs H Q E h => ?_) (fun cdv A' outer s H vs Q E hr h => ?_)
  · obtain ⟨z, rfl, _⟩ := h
    rfl
  · obtain ⟨z, rfl, q⟩ := h
    refine ⟨_, (pss_one (ps_if (pt_not (pt_val (pe_call G_is_whole hr (by rfl) T.g_is_whole T.f_is_whole.kp T.b_is_whole .nil pass0 (pa_cons (pv 0) pa_nil))))
      (pss_one ps_never)
      pss_nil)), ?_⟩
    exact ⟨.int z, rfl, z, rfl, fun H1 e1 => ⟨true, rfl, ite2 (fun h => absurd (show false = true from h) Bool.false_ne_true) (fun _ => q H1 e1)⟩⟩

theorem opS_idem {O : List Nat} {es : List En} {s n : Nat} : opS (opS O es s n) es s n = opS O es s n := by
  unfold opS
  by_cases c : stE es s n = 0
  · rw [if_pos c, if_pos c]
  · rw [if_neg c, if_neg c]
    exact addO_in (mem_addO.mpr (.inr rfl))
theorem st_next {es : List En} {s n : Nat} (hs : 0 < s) (hn : n < es.length) (h : ¬ stE es s n + 1 < (cutE es s (stA es s n)).length) : stA es s (n + 1) = stA es s n + 1 ∧ stE es s (n + 1) = 0 := by
  obtain ⟨n1, n2, n3⟩ := stA_in hs hn
  generalize stA es s n = a at n1 n2 n3 h ⊢
  generalize stE es s n = e at n2 n3 h ⊢
  rw [cutE_len] at n2 h
  have l1 := (nb_lt (n := es.length) hs).mp n1
  have ea : (a + 1) * s = a * s + s := by rw [Nat.add_mul, Nat.one_mul]
  by_cases c : n + 1 < es.length
  · have e1 : n + 1 = (a + 1) * s + 0 := by omega
    have l2 : a + 1 < nb es.length s := (nb_lt hs).mpr (by omega)
    have := st_of hs l2 (cutE_pos hs l2)
    rw [← e1] at this
    exact this
  · obtain ⟨k1, k2⟩ := stA_end (s := s) c
    rw [k1]
    refine ⟨?_, k2⟩
    have l2 : ¬ a + 1 < nb es.length s := fun z => by
      have := (nb_lt hs).mp z
      omega
    omega
theorem st_zero {es : List En} {s : Nat} (hs : 0 < s) : stA es s 0 = 0 ∧ stE es s 0 = 0 := by
  by_cases c : 0 < es.length
  · unfold stA stE
    rw [if_pos c, if_pos c]
    exact ⟨Nat.zero_div _, Nat.zero_mod _⟩
  · obtain ⟨k1, k2⟩ := stA_end (s := s) c
    refine ⟨?_, k2⟩
    rw [k1, show es.length = 0 by omega]
    unfold nb
    exact Nat.div_eq_of_lt (by omega)
/-! ### sought -/
def spSou (CW CB : Addr) : Sp := fun vs H Q _ => ∃ (N : Addr → Prop) (x d t u : Addr) (s : Nat) (es : List En) (ls O : List Nat) (n : Nat) (z : Int), vs = [.ref x, .int z, .ref u] ∧ WkH N CW CB H x d t s es ls O ∧ WkR s es ls ∧ StAt H u s es n ∧ n ≤ es.length ∧
  ∀ (m : Nat) (t' : Addr) (H' : Hp), Sought es z n m → ExI d H H' → WkH N CW CB H' x d t s es ls (opS (opS O es s n) es s m) → StAt H' t' s es m → Q (.ref t') H'
set_option maxHeartbeats 16000000 in
theorem ok_sought (T : TX K mg A FD TK CC) : FnOk P w K mg base CX0 6 (A 119) (FD 119) ["self", "slot", "standing"] (spSou (A 67) (A 61)) := by
  have G_Walker_slot_at := ok_slot_at (P := P) (w := w) (base := base) T
  have G_Walker_entries_in := (ok_entries_in (P := P) (w := w) (base := base) T).mono (show 4 ≤ 5 by decide)
  have G_Walker_reaching := (ok_reaching (P := P) (w := w) (base := base) T).mono (show 1 ≤ 5 by decide)
  refine T.f_Walker_sought.ok (k := 5) sc_Walker_sought (fun vs H Q E h => ?_) (fun cdv A' outer s H vs Q E hr h => ?_)
  · obtain ⟨N, x, d, t, u, s, es, ls, O, n, z, rfl, _⟩ := h
    rfl
  · obtain ⟨N, x, d, t, u, s, es, ls, O, n, z, rfl, hH, hR, hu, hn, q⟩ := h
    obtain ⟨dx0, hl0, bs0, kvs0, hW0⟩ := id hH
    refine ⟨_, (pss_cons (ps_set (i := 3) sc_Walker_sought.nd rfl (.inl rfl) (pe_meth (pv 0) T.cl_Walker T.M_Walker_slot_at G_Walker_slot_at hr T.b_Walker_slot_at .nil pass0 (pa_cons (pv 2) pa_nil)))
      (pss_cons (ps_if (PW.pt (pw_or (pt_cmpR op_isN (pv 3) pe_non (nomark _)) (pw_or1 (pt_cmpR op_le (pv 1) (pv 3) (nomark _)))))
      (pss_one (ps_ret (pv 2)))
      pss_nil)
      (pss_cons (ps_set (i := 4) sc_Walker_sought.nd rfl (.inl rfl) (pe_meth (pv 0) T.cl_Walker T.M_Walker_reaching G_Walker_reaching hr T.b_Walker_reaching .nil pass0 (pa_cons (pv 1) (pa_cons (pe_ix (ixTK (K := K) rfl) (pv 2) pe_int (fun _ _ => rfl)) pa_nil))))
      (pss_cons (ps_if (PW.pt (pw_or (pt_cmpR op_eq (pv 4) (pe_callB (lenK (K := K) rfl) (by rfl) T.m_len (by decide +kernel) (pa_cons (fldK (K := K) rfl (pv 0) rfl) pa_nil)) (nomark _)) (pw_or1 (pt_cmpR op_le (pv 1) (fldK (K := K) rfl (pe_ix (ixLK (K := K) rfl) (fldK (K := K) rfl (pv 0) rfl) (pv 4) (fun _ _ => rfl)) rfl) (nomark _)))))
      (pss_one (ps_ret (pe_tup (pa_cons (pv 4) (pa_cons pe_int pa_nil)))))
      pss_nil)
      (pss_one (ps_ret (pe_tup (pa_cons (pv 4) (pa_cons (pe_callB (lenK (K := K) rfl) (by rfl) T.m_len (by decide +kernel) (pa_cons (pe_lc (own := [("one", 5), ("places", 6)])  rfl sc_Walker_sought.nd (piLK (K := K) rfl (pe_meth (pv 0) T.cl_Walker T.M_Walker_entries_in G_Walker_entries_in hr T.b_Walker_entries_in .nil pass0 (pa_cons (pv 4) pa_nil))) (blkOk_by (own := [("one", 5), ("places", 6)]) (N := N_Walker_sought) (sc := defScope (inClass (topS 67) 13)) (by decide +kernel)) (fun _ _ _ _ _ => (tupGK (K := K) (n := 2) rfl rfl (pgs_cons (pg_name (i := 5) sc_Walker_sought.nd rfl (Or.inl rfl)) (pgs_cons (pg_name (i := 6) sc_Walker_sought.nd rfl (Or.inl rfl)) pgs_nil)))) (fun _ _ _ _ _ => (pts_one (pt_cmpR op_lt (pv 5) (pv 1) (nomark _)))) (fun _ _ _ _ _ => (pv 5))) pa_nil)) pa_nil))))))))), ?_⟩
    refine ⟨.ref x, rfl, x, dx0, _, rfl, hW0.ix, rfl, .ref u, rfl, N, x, d, t, u, s, es, ls, O, n, rfl, hH, hR, hu, fun H1 i1 hH1 => ?_⟩
    have hu1 := hu.keep ⟨_, hW0.id⟩ i1
    have same : Sought es z n n → Q (.ref u) H1 := fun hs => q n u H1 hs i1 (by rw [opS_idem]; exact hH1) hu1
    obtain ⟨dx, hl, bs, kvs, hW⟩ := id hH1
    generalize hO1 : opS O es s n = O1 at hH1 hW q
    by_cases c : n < es.length
    · have gn : es[n]? = some es[n] := List.getElem?_eq_getElem c
      rw [slotV_in gn]
      refine ⟨.int (es[n].1 : Nat), rfl, rfl, _, rfl, ite2 (fun c1 => absurd (of_decide_eq_true c1) (by intro z; cases z)) (fun _ => ?_)⟩
      refine ⟨.int z, rfl, .int (es[n].1 : Nat), rfl, _, _, rfl, rfl, _, rfl, ite2 (fun c1 => ?_) (fun c1 => ?_)⟩
      · exact ⟨.ref u, rfl, same (sought_at gn (of_decide_eq_true c1))⟩
      · have hz : (es[n].1 : Int) < z := by
          have : ¬ z ≤ (es[n].1 : Nat) := fun h => c1 (decide_eq_true h)
          omega
        obtain ⟨n1, n2, n3⟩ := stA_in hR.lo c
        have eA : stA es s n = n / s := if_pos c
        refine ⟨.ref x, rfl, x, dx, _, rfl, hW.ix, rfl, .int z, rfl, .ref u, rfl, u, _, 0, _, rfl, rfl, SqT.of hu1, atI_nat (j := 0) rfl, N, x, d, t, s, es, ls, O1, z, _, rfl, hH1, hR, Nat.le_of_lt n1, fun b hb => ?_⟩
        rw [eA] at hb
        refine ⟨.int (b : Int), rfl, .ref x, rfl, x, A 67, dx, _, _, rfl, hW.ix, T.cl_Walker, T.n_Walker_heads, rfl, hl, _, rfl, .inl (SqL.of hW.ih), rfl, _, rfl, ite2 (fun c2 => ?_) (fun c2 => ?_)⟩
        · rw [hW.len] at c2
          have eb := vi_eq c2
          rw [eb] at hb ⊢
          refine ⟨.int (nb es.length s : Nat), rfl, by show 2 ≤ sizeLine; decide, fun p np => ?_⟩
          have eN := Ex.new (o := .tup [.int (nb es.length s : Nat), .int 0]) np
          have k := stA_end (es := es) (s := s) (n := es.length) (Nat.lt_irrefl _)
          refine q es.length p _ (sought_none hR.ens.ris hR.lo hn hb) (i1.trans (ExI.ofEx eN)) ?_ ?_
          · rw [opS, if_pos k.2]
            exact hH1.ex eN
          · unfold StAt
            rw [k.1, k.2]
            exact upd_same
        · rw [hW.len] at c2
          have nb1 : b < nb es.length s := Nat.lt_of_le_of_ne hb.le (fun e => vi_ne c2 e)
          obtain ⟨bb, db, gb, hbb⟩ := hW.blk nb1
          have cp := cutE_pos (es := es) hR.lo nb1
          refine ⟨.int z, rfl, .ref x, rfl, x, A 67, dx, _, _, rfl, hW.ix, T.cl_Walker, T.n_Walker_heads, rfl, .int (b : Int), rfl, hl, _, _, _, rfl, rfl, SqL.of hW.ih, atI_nat gb, bb, A 61, db, _, _, rfl, hbb, T.cl_Block, T.n_Block_first, rfl, _, _, rfl, rfl, _, rfl, ite2 (fun c3 => ?_) (fun c3 => ?_)⟩
          · have hf : z ≤ (fstE (cutE es s b) : Int) := of_decide_eq_true c3
            refine ⟨.int (b : Int), rfl, by show 2 ≤ sizeLine; decide, fun p np => ?_⟩
            have eN := Ex.new (o := .tup [.int (b : Int), .int 0]) np
            have k := st_of hR.lo nb1 cp
            refine q (b * s + 0) p _ (sought_first hR.ens.ris hR.lo gn hz hb nb1 hf) (i1.trans (ExI.ofEx eN)) ?_ ?_
            · rw [opS, if_pos k.2]
              exact hH1.ex eN
            · unfold StAt
              rw [k.1, k.2]
              exact upd_same
          · have hf : (fstE (cutE es s b) : Int) < z := by
              have : ¬ z ≤ (fstE (cutE es s b) : Int) := fun h => c3 (decide_eq_true h)
              omega
            obtain ⟨s1, s2, s3⟩ := sought_in hR.ens.ris hR.lo gn hz hb nb1 hf
            have k := st_of hR.lo nb1 s2
            have k0 : ¬ stE es s (b * s + lessN (cutE es s b) z) = 0 := by rw [k.2]; omega
            refine ⟨.int (b : Int), rfl, .ref x, rfl, x, dx, _, rfl, hW.ix, rfl, .int (b : Int), rfl, N, x, d, t, s, es, ls, O1, b, rfl, hH1, hR, nb1, fun l xs H2 i2 hH2 hl2 hE2 => ?_⟩
            refine ⟨l, rfl, ⟨_, SqL.of hl2⟩, fun D nD => ?_⟩
            have few := (hR.ens.cut s b).few
            refine lc_list (K := K) (xs := xs) (fun i H' => Ex H2 H' ∧ H' D = some (.lst (nvs ((((cutE es s b).take i).filter fun e => decide ((e.1 : Int) < z)).map (·.1))))) ⟨Ex.new nD, upd_same⟩ (fun i H' _ p => ex_l p.1 (SqL.of hl2)) (fun i v H4 hv p => ?_) (fun H4 p => ?_)
            · obtain ⟨p1, p2⟩ := p
              obtain ⟨e, a, ge, rfl, hA⟩ := hE2.at hv
              obtain ⟨ta, ha, _⟩ := hA.ex p1
              refine ⟨a, _, rfl, SqT.of ha, rfl, _, _, rfl, _, _, rfl, rfl, rfl, .int (e.1 : Nat), rfl, .int z, rfl, _, _, rfl, rfl, _, rfl, ite2 (fun cc => ?_) (fun cc => ?_)⟩
              · refine ⟨.int (e.1 : Nat), rfl, _, p2, ?_, Ex.mut p1 nD, ?_⟩
                · rw [nvs_len, List.length_map]
                  have := List.length_filter_le (fun e : En => decide ((e.1 : Int) < z)) ((cutE es s b).take i)
                  rw [List.length_take] at this
                  exact sz_lt (by omega)
                · rw [upd_same, take_up ge, List.filter_append, List.map_append, show List.filter (fun f : En => decide ((f.1 : Int) < z)) [e] = [e] from List.filter_cons_of_pos (p := fun f : En => decide ((f.1 : Int) < z)) cc]
                  exact congrArg (fun z => some (HO.lst z)) (nvs_snoc _ _).symm
              · refine ⟨p1, ?_⟩
                rw [p2, take_up ge, List.filter_append, show List.filter (fun f : En => decide ((f.1 : Int) < z)) [e] = [] from List.filter_cons_of_neg (p := fun f : En => decide ((f.1 : Int) < z)) cc, List.append_nil]
            · obtain ⟨p1, p2⟩ := p
              rw [hE2.1, List.take_length] at p2
              refine ⟨D, _, rfl, .inl (SqL.of p2), by show 2 ≤ sizeLine; decide, fun p np => ?_⟩
              rw [nvs_len, List.length_map]
              have eN := Ex.new (o := .tup [.int (b : Int), .int (lessN (cutE es s b) z : Nat)]) np
              have hH4 := hH2.ex (p1.trans eN)
              refine q (b * s + lessN (cutE es s b) z) p _ s1 ((i1.trans i2).trans (ExI.ofEx (p1.trans eN))) ?_ ?_
              · rw [opS, if_neg k0, k.1]
                exact hH4
              · unfold StAt
                rw [k.1, k.2]
                exact upd_same
    · rw [slotV_end c]
      exact ⟨.non, rfl, rfl, _, rfl, ite2 (fun _ => ⟨.ref u, rfl, same (sought_end (by omega))⟩) (fun c1 => absurd rfl c1)⟩

/-! ### seek, step, places, Walker -/
/-- all but x and d stays -/
def ExW (x d : Addr) (H H' : Hp) : Prop := ∀ b o, b ≠ x → b ≠ d → H b = some o → H' b = some o
theorem ExI.toW {x d : Addr} {H H' : Hp} (h : ExI d H H') : ExW x d H H' := fun b o _ n2 g => h b o n2 g
theorem ExW.trans {x d : Addr} {H H' H2 : Hp} (a : ExW x d H H') (b : ExW x d H' H2) : ExW x d H H2 := fun c o n1 n2 h => b c o n1 n2 (a c o n1 n2 h)
theorem ExW.ofEx {x d : Addr} {H H' : Hp} (a : Ex H H') : ExW x d H H' := fun c o _ _ h => a c o h
theorem ExW.mutx {x d : Addr} {H : Hp} {o : HO} : ExW x d H (upd H x o) := fun b q n _ h => by
  rw [upd_ne n]
  exact h
theorem WkD.stand {N : Addr → Prop} {CW CB : Addr} {H : Hp} {x d t t' dx hl : Addr} {s : Nat} {es : List En} {ls O : List Nat} {bs : List Addr} {kvs : List (Key × V)} (h : WkD N CW CB H x d t s es ls O dx hl bs kvs) : WkD N CW CB (upd H x (.ins CW dx (putF "standing" (.ref t') (walkF hl d t)))) x d t' s es ls O dx hl bs kvs := by
  have ne : ∀ {b : Addr} {o : HO}, H b = some o → o ≠ .ins CW dx (walkF hl d t) → b ≠ x := fun {b o} hb hn e => by
    subst e
    rw [h.ix] at hb
    exact hn (Option.some.inj hb).symm
  refine ⟨upd_same, ?_, ⟨h.ib.1, fun j b g => ?_⟩, ?_, h.io.mono (fun b zs hb => ?_) (fun b zs hb => ?_), h.ah, fun a ha => nn_of (d := x) upd_same (fun b o nb g => by rw [upd_ne nb]; exact g) (h.nn a ha)⟩
  · rw [upd_ne (ne h.ih (by intro z; cases z))]
    exact h.ih
  · obtain ⟨db, hb⟩ := h.ib.2 j b g
    refine ⟨db, ?_⟩
    rw [upd_ne (ne hb (fun z => by
      have := congrArg (fun o => match o with | HO.ins _ _ fs => fs.length | _ => 0) z
      exact absurd (show (6 : Nat) = 3 from this) (by decide)))]
    exact hb
  · rw [upd_ne (ne h.id (by intro z; cases z))]
    exact h.id
  · rw [upd_ne (ne hb (by intro z; cases z))]
    exact hb
  · rw [upd_ne (ne hb (by intro z; cases z))]
    exact hb
theorem StAt.stand {H : Hp} {x C dx t : Addr} {s n : Nat} {es : List En} {fs gs : List (Str × V)} (h : StAt H t s es n) (hx : H x = some (.ins C dx fs)) : StAt (upd H x (.ins C dx gs)) t s es n := by
  unfold StAt
  rw [upd_ne (ne_of h hx (by intro z; cases z))]
  exact h
def spSek (CW CB : Addr) : Sp := fun vs H Q _ => ∃ (N : Addr → Prop) (x d : Addr) (s : Nat) (es : List En) (ls O : List Nat) (n : Nat) (z : Int), vs = [.ref x, .int z] ∧ WkAt N CW CB H x d s es ls O n ∧ WkR s es ls ∧
  ∀ (m : Nat) (H' : Hp), Sought es z n m → ExW x d H H' → WkAt N CW CB H' x d s es ls (opS (opS O es s n) es s m) m → Q (slotV es m) H'
set_option maxHeartbeats 4000000 in
theorem ok_seek (T : TX K mg A FD TK CC) : FnOk P w K mg base CX0 7 (A 115) (FD 115) ["self", "slot"] (spSek (A 67) (A 61)) := by
  have G_Walker_slot := ok_slot (P := P) (w := w) (base := base) T
  have G_Walker_sought := ok_sought (P := P) (w := w) (base := base) T
  have G_check_number := (ok_check_number (P := P) (w := w) (base := base) T).mono (show 2 ≤ 6 by decide)
  refine T.f_Walker_seek.ok (k := 6) sc_Walker_seek (fun vs H Q E h => ?_) (fun cdv A' outer s H vs Q E hr h => ?_)
  · obtain ⟨N, x, d, s, es, ls, O, n, z, rfl, _⟩ := h
    rfl
  · obtain ⟨N, x, d, s, es, ls, O, n, z, rfl, ⟨t, hH, hS, hn⟩, hR, q⟩ := h
    refine ⟨_, (pss_cons (ps_expr (pe_call G_check_number hr (by rfl) T.g_check_number T.f_check_number.kp T.b_check_number .nil pass0 (pa_cons (pv 1) pa_nil)))
      (pss_cons (ps_fld (pv 0) (pe_meth (pv 0) T.cl_Walker T.M_Walker_sought G_Walker_sought hr T.b_Walker_sought .nil pass0 (pa_cons (pv 1) (pa_cons (fldK (K := K) rfl (pv 0) rfl) pa_nil))) rfl)
      (pss_one (ps_ret (pe_meth0 (pv 0) T.cl_Walker T.M_Walker_slot G_Walker_slot hr T.b_Walker_slot .nil pass0))))), ?_⟩
    refine ⟨.int z, rfl, z, rfl, fun H1 e1 => ?_⟩
    have hH1 := hH.ex e1
    have hS1 := hS.ex e1
    obtain ⟨dx, hl, bs, kvs, hW⟩ := id hH1
    refine ⟨.ref x, rfl, x, dx, _, rfl, hW.ix, rfl, .int z, rfl, .ref x, rfl, x, A 67, dx, _, _, rfl, hW.ix, T.cl_Walker, T.n_Walker_standing, rfl, N, x, d, t, t, s, es, ls, O, n, z, rfl, hH1, hR, hS1, hn, fun m t' H2 hs i2 hH2 hS2 => ?_⟩
    obtain ⟨dx2, hl2, bs2, kvs2, hW2⟩ := id hH2
    refine ⟨.ref x, rfl, x, A 67, dx2, _, rfl, hW2.ix, T.cl_Walker, T.n_Walker_standing, (by show 3 < 1000; decide), ?_⟩
    have hW3 := hW2.stand (t' := t')
    have hS3 := hS2.stand (gs := putF "standing" (.ref t') (walkF hl2 d t)) hW2.ix
    have w3 : ExW x d H2 (upd H2 x (.ins (A 67) dx2 (putF "standing" (.ref t') (walkF hl2 d t)))) := ExW.mutx
    generalize (upd H2 x (.ins (A 67) dx2 (putF "standing" (.ref t') (walkF hl2 d t)))) = H3 at hW3 hS3 w3 ⊢
    refine ⟨.ref x, rfl, x, dx2, _, rfl, hW3.ix, rfl, N, x, d, s, es, ls, _, m, rfl, ⟨t', ⟨_, _, _, _, hW3⟩, hS3, hs.le⟩, hR, fun H4 i4 h4 => ?_⟩
    rw [opS_idem] at h4
    exact q m H4 hs (((ExW.ofEx e1).trans i2.toW).trans (w3.trans i4.toW)) h4
theorem lst_x {H : Hp} {C x dx l : Addr} {fs : List (Str × V)} {xs : List V} {o : HO} (h : H l = some (.lst xs)) (hx : H x = some (.ins C dx fs)) : (upd H x o) l = some (.lst xs) := by
  rw [upd_ne (ne_of h hx (by intro z; cases z))]
  exact h
theorem BlksAt.updx {CB : Addr} {H : Hp} {bs : List Addr} {s : Nat} {es : List En} {ls : List Nat} {C x dx : Addr} {fs : List (Str × V)} {o : HO} (h : BlksAt CB H bs s es ls) (hx : H x = some (.ins C dx fs)) (hf : fs.length ≠ 6) : BlksAt CB (upd H x o) bs s es ls := ⟨h.1, fun j b g => by
  obtain ⟨db, hb⟩ := h.2 j b g
  refine ⟨db, ?_⟩
  rw [upd_ne (ne_of hb hx (fun z => by
    have := congrArg (fun o => match o with | HO.ins _ _ fs => fs.length | _ => 0) z
    exact hf (show (6 : Nat) = fs.length from this).symm))]
  exact hb⟩
def spWIn (CW CR CB : Addr) : Sp := fun vs H Q _ => ∃ (N : Addr → Prop) (x dx r : Addr) (z : Str) (s : Nat) (es : List En) (ls : List Nat), vs = [.ref x, .ref r] ∧ H x = some (.ins CW dx []) ∧ RowAt CR CB H r z s es ls ∧ WkR s es ls ∧ (∀ a, N a → H a ≠ none) ∧
  ∀ (d : Addr) (H' : Hp), H d = none → ExI x H H' → WkAt N CW CB H' x d s es ls [] 0 → Q .non H'
set_option maxHeartbeats 4000000 in
theorem ok_winit (T : TX K mg A FD TK CC) : FnOk P w K mg base CX0 2 (A 113) (FD 113) ["self", "row"] (spWIn (A 67) (A 62) (A 61)) := by
  have G_Row_blocks := ok_rblocks (P := P) (w := w) (base := base) T
  refine T.f_Walker_init.ok (k := 1) sc_Walker_init (fun vs H Q E h => ?_) (fun cdv A' outer s H vs Q E hr h => ?_)
  · obtain ⟨N, x, dx, r, z, s, es, ls, rfl, _⟩ := h
    rfl
  · obtain ⟨N, x, dx, r, z, s, es, ls, rfl, hx, hRow, hR, hnn, q⟩ := h
    refine ⟨_, (pss_cons (ps_fld (pv 0) (pe_meth0 (pv 1) T.cl_Row T.M_Row_blocks G_Row_blocks hr T.b_Row_blocks .nil pass0) rfl)
      (pss_cons (ps_fld (pv 0) pe_dnewK rfl)
      (pss_one (ps_fld (pv 0) (pe_tup (pa_cons pe_int (pa_cons pe_int pa_nil))) rfl)))), ?_⟩
    obtain ⟨dr, tr, br, hr0, _⟩ := id hRow
    refine ⟨.ref r, rfl, r, dr, _, rfl, hr0, rfl, r, z, s, es, ls, rfl, hRow, fun l bs H1 nl e1 hl1 hb1 => ?_⟩
    refine ⟨.ref x, rfl, x, A 67, dx, [], rfl, e1 _ _ hx, T.cl_Walker, T.n_Walker_heads, (by show 0 < 1000; decide), ?_⟩
    obtain ⟨i1, hx1⟩ := fld_step (f := "heads") (v := .ref l) (fun b o _ h => h) e1 hx
    have hl2 := lst_x (o := .ins (A 67) dx (putF "heads" (.ref l) [])) hl1 (e1 _ _ hx)
    have hb2 := hb1.updx (o := .ins (A 67) dx (putF "heads" (.ref l) [])) (e1 _ _ hx) (by decide)
    generalize (upd H1 x (.ins (A 67) dx (putF "heads" (.ref l) []))) = H2 at i1 hx1 hl2 hb2 ⊢
    intro d nd
    have eD := Ex.new (o := .dK []) nd
    have hd := upd_same (H := H2) (a := d) (o := .dK [])
    have nd0 : H d = none := by
      cases e : H d with
      | none => rfl
      | some o =>
        by_cases c : d = x
        · rw [c, hx1] at nd
          cases nd
        · rw [i1 d o c e] at nd
          cases nd
    generalize (upd H2 d (.dK [])) = H3 at eD hd ⊢
    refine ⟨.ref x, rfl, x, A 67, dx, _, rfl, eD _ _ hx1, T.cl_Walker, T.n_Walker_decoded, (by show 1 < 1000; decide), ?_⟩
    obtain ⟨i4, hx4⟩ := fld_step (f := "decoded") (v := .ref d) i1 eD hx1
    have hl4 := lst_x (o := .ins (A 67) dx (putF "decoded" (.ref d) (putF "heads" (.ref l) []))) (eD _ _ hl2) (eD _ _ hx1)
    have hb4 := (hb2.ex eD).updx (o := .ins (A 67) dx (putF "decoded" (.ref d) (putF "heads" (.ref l) []))) (eD _ _ hx1) (show (1 : Nat) ≠ 6 by decide)
    have hd4 : (upd H3 x (.ins (A 67) dx (putF "decoded" (.ref d) (putF "heads" (.ref l) [])))) d = some (.dK []) := by
      rw [upd_ne (ne_of hd (eD _ _ hx1) (by intro z; cases z))]
      exact hd
    generalize (upd H3 x (.ins (A 67) dx (putF "decoded" (.ref d) (putF "heads" (.ref l) [])))) = H4 at i4 hx4 hl4 hb4 hd4 ⊢
    refine ⟨by show 2 ≤ sizeLine; decide, fun t nt => ?_⟩
    have eT := Ex.new (o := .tup [.int 0, .int 0]) nt
    have ht := upd_same (H := H4) (a := t) (o := .tup [.int 0, .int 0])
    generalize (upd H4 t (.tup [.int 0, .int 0])) = H5 at eT ht ⊢
    have hx5 := eT _ _ hx4
    refine ⟨.ref x, rfl, x, A 67, dx, _, rfl, hx5, T.cl_Walker, T.n_Walker_standing, (by show 2 < 1000; decide), ?_⟩
    obtain ⟨i6, hx6⟩ := fld_step (f := "standing") (v := .ref t) i4 eT hx4
    have hl6 := lst_x (o := .ins (A 67) dx (putF "standing" (.ref t) (putF "decoded" (.ref d) (putF "heads" (.ref l) [])))) (eT _ _ hl4) hx5
    have hb6 := (hb4.ex eT).updx (o := .ins (A 67) dx (putF "standing" (.ref t) (putF "decoded" (.ref d) (putF "heads" (.ref l) [])))) hx5 (show (2 : Nat) ≠ 6 by decide)
    refine q d _ nd0 i6 ⟨t, ⟨dx, l, bs, [], hx6, hl6, hb6, ?_, DecAt.nil, fun hn => hnn l hn nl, fun a ha => nn_of hx6 i6 (hnn a ha)⟩, ?_, Nat.zero_le _⟩
    · rw [upd_ne (ne_of (eT _ _ hd4) hx5 (by intro z; cases z))]
      exact eT _ _ hd4
    · unfold StAt
      rw [upd_ne (ne_of ht hx5 (by intro z; cases z)), (st_zero hR.lo).1, (st_zero hR.lo).2]
      exact ht

/-! ### dicts of lists on the heap -/
def DLk (kas : List (Str × Addr)) : List (Key × V) := kas.map fun p => (Sum.inr p.1, V.ref p.2)
def putL {α : Type} (L : Str → List α) (w : Str) (x : α) : Str → List α := fun k => if k = w then L k ++ [x] else L k
structure DL {α : Type} (P : Hp → List V → List α → Prop) (H0 H : Hp) (d : Addr) (kas : List (Str × Addr)) (L : Str → List α) : Prop where
  ex : Ex H0 H
  nd : H0 d = none
  dk : H d = some (.dK (DLk kas))
  keys : ∀ k, k ∈ kas.map (·.1) ↔ L k ≠ []
  one : (kas.map (·.1)).Nodup
  as : (kas.map (·.2)).Nodup
  new : ∀ p ∈ kas, H0 p.2 = none ∧ p.2 ≠ d
  at_ : ∀ p ∈ kas, ∃ xs, H p.2 = some (.lst xs) ∧ P H xs (L p.1)
theorem nodup_eq {kas : List (Str × Addr)} (n : (kas.map (·.1)).Nodup) {p q : Str × Addr} (hp : p ∈ kas) (hq : q ∈ kas) (e : p.1 = q.1) : p = q := by
  induction kas with
  | nil => cases hp
  | cons a r ih =>
    rw [List.map_cons, List.nodup_cons] at n
    rcases List.mem_cons.mp hp with rfl | hp'
    · rcases List.mem_cons.mp hq with rfl | hq'
      · rfl
      · exact absurd (List.mem_map.mpr ⟨q, hq', e.symm⟩) n.1
    · rcases List.mem_cons.mp hq with rfl | hq'
      · exact absurd (List.mem_map.mpr ⟨p, hp', e⟩) n.1
      · exact ih n.2 hp' hq'
theorem nodup_eq2 {kas : List (Str × Addr)} (n : (kas.map (·.2)).Nodup) {p q : Str × Addr} (hp : p ∈ kas) (hq : q ∈ kas) (e : p.2 = q.2) : p = q := by
  induction kas with
  | nil => cases hp
  | cons a r ih =>
    rw [List.map_cons, List.nodup_cons] at n
    rcases List.mem_cons.mp hp with rfl | hp'
    · rcases List.mem_cons.mp hq with rfl | hq'
      · rfl
      · exact absurd (List.mem_map.mpr ⟨q, hq', e.symm⟩) n.1
    · rcases List.mem_cons.mp hq with rfl | hq'
      · exact absurd (List.mem_map.mpr ⟨p, hp', e⟩) n.1
      · exact ih n.2 hp' hq'
def TupP {α : Type} (P : Hp → List V → List α → Prop) : Prop := ∀ (H H' : Hp) (xs : List V) (l : List α), (∀ c zs, H c = some (.tup zs) → H' c = some (.tup zs)) → P H xs l → P H' xs l
theorem dlk_val {w : Str} {v : V} : ∀ {kas : List (Str × Addr)}, valV (DLk kas) (Sum.inr w) = some v → ∃ p ∈ kas, p.1 = w ∧ v = .ref p.2
  | [], h => by cases h
  | p :: r, h => by
    by_cases e : p.1 = w
    · have h2 : valV (DLk (p :: r)) (Sum.inr w) = some (V.ref p.2) := valV_pos (p := (Sum.inr p.1, V.ref p.2)) (congrArg Sum.inr e)
      rw [h2] at h
      exact ⟨p, List.mem_cons_self .., e, (Option.some.inj h).symm⟩
    · have h2 : valV (DLk (p :: r)) (Sum.inr w) = valV (DLk r) (Sum.inr w) := valV_neg (p := (Sum.inr p.1, V.ref p.2)) (fun z => e (Sum.inr.inj z))
      rw [h2] at h
      obtain ⟨q, hq, r1, r2⟩ := dlk_val h
      exact ⟨q, List.mem_cons_of_mem _ hq, r1, r2⟩
theorem dlk_none {w : Str} : ∀ {kas : List (Str × Addr)}, valV (DLk kas) (Sum.inr w) = none → w ∉ kas.map (·.1)
  | [], _ => by simp
  | p :: r, h => by
    by_cases e : p.1 = w
    · have h2 : valV (DLk (p :: r)) (Sum.inr w) = some (V.ref p.2) := valV_pos (p := (Sum.inr p.1, V.ref p.2)) (congrArg Sum.inr e)
      rw [h2] at h
      cases h
    · have h2 : valV (DLk (p :: r)) (Sum.inr w) = valV (DLk r) (Sum.inr w) := valV_neg (p := (Sum.inr p.1, V.ref p.2)) (fun z => e (Sum.inr.inj z))
      rw [h2] at h
      rw [List.map_cons, List.mem_cons]
      rintro (z | z)
      · exact e z.symm
      · exact dlk_none h z
theorem dlk_of {p : Str × Addr} {kas : List (Str × Addr)} (h : p ∈ kas) (n : (kas.map (·.1)).Nodup) : valV (DLk kas) (Sum.inr p.1) = some (.ref p.2) := by
  cases hv : valV (DLk kas) (Sum.inr p.1) with
  | none => exact absurd (List.mem_map.mpr ⟨p, h, rfl⟩) (dlk_none hv)
  | some v =>
    obtain ⟨q, hq, e1, rfl⟩ := dlk_val hv
    have : q = p := nodup_eq n hq h e1
    rw [this]
theorem DL.mk0 {α : Type} {P : Hp → List V → List α → Prop} {H : Hp} {d : Addr} (nd : H d = none) : DL P H (upd H d (.dK [])) d [] (fun _ => []) :=
  ⟨Ex.new nd, nd, upd_same, fun k => ⟨fun h => (by cases h), fun h => absurd rfl h⟩, List.nodup_nil, List.nodup_nil, fun p h => (by cases h), fun p h => (by cases h)⟩
theorem DL.ext {α : Type} {P : Hp → List V → List α → Prop} {H0 H H' : Hp} {d : Addr} {kas : List (Str × Addr)} {L : Str → List α} (hP : TupP P) (h : DL P H0 H d kas L) (e : Ex H H') : DL P H0 H' d kas L :=
  ⟨h.ex.trans e, h.nd, e _ _ h.dk, h.keys, h.one, h.as, h.new, fun p hp => by
    obtain ⟨xs, h1, h2⟩ := h.at_ p hp
    exact ⟨xs, e _ _ h1, hP _ _ _ _ (fun c zs z => e _ _ z) h2⟩⟩
theorem DL.there {α : Type} {P : Hp → List V → List α → Prop} {H0 H : Hp} {d : Addr} {kas : List (Str × Addr)} {L : Str → List α} {w : Str} {v : V} (hP : TupP P) (h : DL P H0 H d kas L) (hv : valV (DLk kas) (Sum.inr w) = some v) :
    ∃ (a : Addr) (xs : List V), v = .ref a ∧ H a = some (.lst xs) ∧ P H xs (L w) ∧ L w ≠ [] ∧ ∀ (H4 : Hp) (u : V) (x : α), Ex H H4 → P H4 (xs ++ [u]) (L w ++ [x]) → DL P H0 (upd H4 a (.lst (xs ++ [u]))) d kas (putL L w x) := by
  obtain ⟨p, hp, rfl, rfl⟩ := dlk_val hv
  obtain ⟨xs, h1, h2⟩ := h.at_ p hp
  have lne : L p.1 ≠ [] := (h.keys p.1).mp (List.mem_map.mpr ⟨p, hp, rfl⟩)
  refine ⟨p.2, xs, rfl, h1, h2, lne, fun H4 u x e hx => ?_⟩
  have tt : ∀ c zs, H4 c = some (.tup zs) → upd H4 p.2 (.lst (xs ++ [u])) c = some (.tup zs) := fun c zs z => by
    rw [upd_ne (ne_of z (e _ _ h1) (by intro z; cases z))]
    exact z
  refine ⟨Ex.mut (h.ex.trans e) (h.new p hp).1, h.nd, by rw [upd_ne (h.new p hp).2.symm]; exact e _ _ h.dk, fun k => ?_, h.one, h.as, h.new, fun q hq => ?_⟩
  · rw [h.keys k]
    unfold putL
    by_cases z : k = p.1
    · rw [if_pos z, z]
      exact ⟨fun _ => by simp, fun _ => lne⟩
    · rw [if_neg z]
  · by_cases z : q.2 = p.2
    · have : q = p := nodup_eq2 h.as hq hp z
      rw [this]
      refine ⟨_, upd_same, hP _ _ _ _ tt ?_⟩
      unfold putL
      rw [if_pos rfl]
      exact hx
    · obtain ⟨ys, g1, g2⟩ := h.at_ q hq
      refine ⟨ys, by rw [upd_ne z]; exact e _ _ g1, hP _ _ _ _ (fun c zs y => tt c zs (e _ _ y)) ?_⟩
      unfold putL
      rw [if_neg fun k => z (by rw [nodup_eq h.one hq hp k])]
      exact g2
theorem DL.miss {α : Type} {P : Hp → List V → List α → Prop} {H0 H : Hp} {d nl : Addr} {kas : List (Str × Addr)} {L : Str → List α} {w : Str} (hP : TupP P) (h : DL P H0 H d kas L) (hv : valV (DLk kas) (Sum.inr w) = none) (nn : H nl = none) :
    L w = [] ∧ ∀ (H4 : Hp) (u : V) (x : α), Ex (upd (upd H nl (.lst [])) d (.dK (putK (DLk kas) (Sum.inr w) (.ref nl)))) H4 → P H4 [u] [x] → DL P H0 (upd H4 nl (.lst [u])) d (kas ++ [(w, nl)]) (putL L w x) := by
  have wn := dlk_none hv
  have le : L w = [] := Classical.byContradiction fun z => wn ((h.keys w).mpr z)
  refine ⟨le, fun H4 u x e hx => ?_⟩
  have nld : nl ≠ d := (ne_of_none h.dk nn).symm
  have n0 : H0 nl = none := fresh_back h.ex nn
  have hn4 : H4 nl = some (.lst []) := e _ _ (by rw [upd_ne nld, upd_same])
  have old : ∀ b o, b ≠ d → H b = some o → H4 b = some o := fun b o nb g => e _ _ (by rw [upd_ne nb, upd_ne (ne_of_none g nn)]; exact g)
  have tt : ∀ c zs, H4 c = some (.tup zs) → upd H4 nl (.lst [u]) c = some (.tup zs) := fun c zs z => by
    rw [upd_ne (ne_of z hn4 (by intro z; cases z))]
    exact z
  have tt0 : ∀ c zs, H c = some (.tup zs) → upd H4 nl (.lst [u]) c = some (.tup zs) := fun c zs z => tt c zs (old c _ (ne_of z h.dk (by intro z; cases z)) z)
  refine ⟨fun b o g => ?_, h.nd, ?_, fun k => ?_, ?_, ?_, fun p hp => ?_, fun p hp => ?_⟩
  · rw [upd_ne (ne_of_none g n0)]
    exact old b o (ne_of_none g h.nd) (h.ex _ _ g)
  · rw [upd_ne nld.symm, e d _ upd_same, putK_new _ hv]
    unfold DLk
    rw [List.map_append]
    rfl
  · rw [List.map_append, List.mem_append, h.keys k]
    unfold putL
    by_cases z : k = w
    · rw [if_pos z, z]
      exact ⟨fun _ => by simp, fun _ => .inr (by simp)⟩
    · rw [if_neg z]
      exact ⟨fun y => y.elim id fun y => absurd (by simpa using y) z, .inl⟩
  · rw [List.map_append]
    exact List.nodup_append.mpr ⟨h.one, by simp, fun a ha b hb => by
      rw [show b = w by simpa using hb]
      exact fun z => wn (z ▸ ha)⟩
  · rw [List.map_append]
    exact List.nodup_append.mpr ⟨h.as, by simp, fun a ha b hb => by
      rw [show b = nl by simpa using hb]
      obtain ⟨p, hp, rfl⟩ := List.mem_map.mp ha
      obtain ⟨xs, g1, _⟩ := h.at_ p hp
      exact ne_of_none g1 nn⟩
  · rcases List.mem_append.mp hp with hp | hp
    · exact h.new p hp
    · rw [List.mem_singleton.mp hp]
      exact ⟨n0, nld⟩
  · rcases List.mem_append.mp hp with hp | hp
    · obtain ⟨ys, g1, g2⟩ := h.at_ p hp
      refine ⟨ys, by rw [upd_ne (ne_of_none g1 nn)]; exact old _ _ (h.new p hp).2 g1, hP _ _ _ _ tt0 ?_⟩
      unfold putL
      rw [if_neg fun z : p.1 = w => wn (z ▸ List.mem_map.mpr ⟨p, hp, rfl⟩)]
      exact g2
    · rw [List.mem_singleton.mp hp]
      refine ⟨[u], upd_same, hP _ _ _ _ tt ?_⟩
      unfold putL
      rw [if_pos rfl, le]
      exact hx

/-! ### places of a word -/
/-- where w stands in xs, counted from k -/
def plc (w : Str) : Nat → List Str → List Nat
  | _, [] => []
  | k, x :: r => if x = w then k :: plc w (k + 1) r else plc w (k + 1) r
theorem plc_snoc (w x : Str) : ∀ (xs : List Str) (k : Nat), plc w k (xs ++ [x]) = plc w k xs ++ (if x = w then [k + xs.length] else [])
  | [], k => by
    show (if x = w then [k] else []) = [] ++ _
    rw [List.nil_append]
    rfl
  | y :: r, k => by
    rw [List.cons_append, plc, plc, plc_snoc w x r (k + 1), List.length_cons, show k + 1 + r.length = k + (r.length + 1) by omega]
    split
    · rw [List.cons_append]
    · rfl
theorem plc_len (w : Str) : ∀ (xs : List Str) (k : Nat), (plc w k xs).length ≤ xs.length
  | [], _ => Nat.le_refl _
  | y :: r, k => by
    have := plc_len w r (k + 1)
    rw [plc]
    split
    · rw [List.length_cons, List.length_cons]
      omega
    · rw [List.length_cons]
      omega
abbrev nV (n : Nat) : V := .int (n : Int)

/-! ### the entries of a word, of pages by slots -/
theorem plc_mem {w : Str} : ∀ {xs : List Str} {k n : Nat}, n ∈ plc w k xs → k ≤ n ∧ xs[n - k]? = some w
  | [], _, _, h => by cases h
  | x :: r, k, n, h => by
    rw [plc] at h
    split at h
    · rename_i e
      rcases List.mem_cons.mp h with rfl | h
      · exact ⟨Nat.le_refl _, by rw [Nat.sub_self, ← e]; rfl⟩
      · obtain ⟨h1, h2⟩ := plc_mem h
        refine ⟨by omega, ?_⟩
        rw [show n - k = (n - (k + 1)) + 1 by omega]
        exact h2
    · obtain ⟨h1, h2⟩ := plc_mem h
      refine ⟨by omega, ?_⟩
      rw [show n - k = (n - (k + 1)) + 1 by omega]
      exact h2
theorem mem_plc {w : Str} : ∀ {xs : List Str} {k i : Nat}, xs[i]? = some w → k + i ∈ plc w k xs
  | [], _, _, h => by cases h
  | x :: r, k, 0, h => by
    rw [plc, if_pos (Option.some.inj h)]
    exact List.mem_cons_self ..
  | x :: r, k, i + 1, h => by
    have := mem_plc (k := k + 1) (show r[i]? = some w from h)
    rw [show k + (i + 1) = k + 1 + i by omega, plc]
    split
    · exact List.mem_cons_of_mem _ this
    · exact this
theorem plc_ne {w : Str} {xs : List Str} : plc w 0 xs ≠ [] ↔ w ∈ xs := by
  constructor
  · intro h
    obtain ⟨n, hn⟩ := List.exists_mem_of_ne_nil _ h
    exact List.mem_of_getElem? (plc_mem hn).2
  · intro h e
    obtain ⟨i, hi⟩ := List.mem_iff_getElem?.mp h
    have := mem_plc (k := 0) hi
    rw [e] at this
    cases this
theorem plc_pair (w : Str) : ∀ (xs : List Str) (k : Nat), (plc w k xs).Pairwise (· < ·)
  | [], _ => List.Pairwise.nil
  | x :: r, k => by
    rw [plc]
    split
    · exact List.pairwise_cons.mpr ⟨fun y hy => by have := (plc_mem hy).1; omega, plc_pair w r (k + 1)⟩
    · exact plc_pair w r (k + 1)
theorem ris_of {l : List Nat} (h : l.Pairwise (· < ·)) : Ris l := fun i x g => by
  cases i with
  | zero =>
    show (-1 : Int) < (x : Int)
    omega
  | succ i =>
    have hi := (List.getElem?_eq_some_iff.mp g)
    obtain ⟨h2, h3⟩ := hi
    have h1 : i < l.length := by omega
    have := List.pairwise_iff_getElem.mp h i (i + 1) h1 h2 (by omega)
    show ((l.getD i 0 : Nat) : Int) < (x : Int)
    rw [getD_at (List.getElem?_eq_getElem h1), ← h3]
    omega
def ents (w : Str) : Nat → List (List Str) → List En
  | _, [] => []
  | k, ws :: r => (if plc w 0 ws = [] then [] else [(k, plc w 0 ws)]) ++ ents w (k + 1) r
theorem ents_snoc (w : Str) (ws : List Str) : ∀ (ps : List (List Str)) (k : Nat), ents w k (ps ++ [ws]) = ents w k ps ++ (if plc w 0 ws = [] then [] else [(k + ps.length, plc w 0 ws)])
  | [], k => by
    show (if plc w 0 ws = [] then [] else [(k, plc w 0 ws)]) ++ [] = [] ++ _
    rw [List.append_nil, List.nil_append]
    rfl
  | p :: r, k => by
    rw [List.cons_append, ents, ents, ents_snoc w ws r (k + 1), List.length_cons, show k + 1 + r.length = k + (r.length + 1) by omega, List.append_assoc]
theorem ents_mem {w : Str} : ∀ {ps : List (List Str)} {k : Nat} {e : En}, e ∈ ents w k ps → k ≤ e.1 ∧ ∃ ws, ps[e.1 - k]? = some ws ∧ e.2 = plc w 0 ws ∧ e.2 ≠ []
  | [], _, _, h => by cases h
  | p :: r, k, e, h => by
    rw [ents] at h
    rcases List.mem_append.mp h with h | h
    · split at h
      · cases h
      · rename_i ne
        rw [List.mem_singleton.mp h]
        exact ⟨Nat.le_refl _, p, by rw [Nat.sub_self]; rfl, rfl, ne⟩
    · obtain ⟨h1, ws, h2, h3⟩ := ents_mem h
      refine ⟨by omega, ws, ?_, h3⟩
      rw [show e.1 - k = (e.1 - (k + 1)) + 1 by omega]
      exact h2
theorem mem_ents {w : Str} : ∀ {ps : List (List Str)} {k i : Nat} {ws : List Str}, ps[i]? = some ws → w ∈ ws → (k + i, plc w 0 ws) ∈ ents w k ps
  | [], _, _, _, h, _ => by cases h
  | p :: r, k, 0, ws, h, hw => by
    cases h
    rw [ents, if_neg (plc_ne.mpr hw)]
    exact List.mem_append_left _ (List.mem_cons_self ..)
  | p :: r, k, i + 1, ws, h, hw => by
    rw [ents, show k + (i + 1) = k + 1 + i by omega]
    exact List.mem_append_right _ (mem_ents h hw)
theorem ents_ne {w : Str} {ps : List (List Str)} : ents w 0 ps ≠ [] ↔ ∃ ws ∈ ps, w ∈ ws := by
  constructor
  · intro h
    obtain ⟨e, he⟩ := List.exists_mem_of_ne_nil _ h
    obtain ⟨_, ws, h1, h2, h3⟩ := ents_mem he
    exact ⟨ws, List.mem_of_getElem? h1, plc_ne.mp (h2 ▸ h3)⟩
  · rintro ⟨ws, h1, h2⟩ e
    obtain ⟨i, hi⟩ := List.mem_iff_getElem?.mp h1
    have := mem_ents (k := 0) hi h2
    rw [e] at this
    cases this
theorem ents_pair (w : Str) : ∀ (ps : List (List Str)) (k : Nat), (slots (ents w k ps)).Pairwise (· < ·)
  | [], _ => List.Pairwise.nil
  | p :: r, k => by
    unfold slots
    rw [ents, List.map_append]
    have ih := ents_pair w r (k + 1)
    unfold slots at ih
    split
    · rw [List.map_nil, List.nil_append]
      exact ih
    · show (k :: (ents w (k + 1) r).map (·.1)).Pairwise (· < ·)
      exact List.pairwise_cons.mpr ⟨fun y hy => by
        obtain ⟨e, he, rfl⟩ := List.mem_map.mp hy
        have := (ents_mem he).1
        omega, ih⟩
theorem ents_few (w : Str) : ∀ (ps : List (List Str)) (k : Nat), (ents w k ps).length ≤ ps.length
  | [], _ => Nat.le_refl _
  | p :: r, k => by
    have := ents_few w r (k + 1)
    rw [ents, List.length_append, List.length_cons]
    split
    · rw [List.length_nil]; omega
    · rw [List.length_singleton]; omega
/-- pages that may be sealed: their words -/
structure Pgs (pgs : List (List Str)) : Prop where
  few : pgs.length ≤ 60
  ok : ∀ ws ∈ pgs, ws.length ≤ 120 ∧ ws.all isW = true
theorem Pgs.row {pgs : List (List Str)} {w : Str} {s : Nat} (h : Pgs pgs) (hw : isW w = true) (h1 : 1 ≤ s) (h8 : s ≤ 8) : RowIs w s (ents w 0 pgs) (pgs.map List.length) := by
  have big : (120 : Nat) < 16 ^ 100 := by decide
  have el : ∀ e ∈ ents w 0 pgs, e.1 < pgs.length ∧ ∃ ws, pgs[e.1]? = some ws ∧ e.2 = plc w 0 ws ∧ e.2 ≠ [] := fun e he => by
    obtain ⟨_, ws, q1, q2, q3⟩ := ents_mem he
    rw [Nat.sub_zero] at q1
    exact ⟨(List.getElem?_eq_some_iff.mp q1).1, ws, q1, q2, q3⟩
  have pl : ∀ (ws : List Str) (n : Nat), n ∈ plc w 0 ws → n < ws.length := fun ws n hn => by
    have := (plc_mem hn).2
    rw [Nat.sub_zero] at this
    exact (List.getElem?_eq_some_iff.mp this).1
  refine ⟨hw, h1, h8, ⟨fun e he => ?_, ris_of (ents_pair w pgs 0), Nat.le_trans (ents_few w pgs 0) h.few⟩, ⟨by rw [List.length_map]; exact h.few, fun n hn => ?_, fun e he => ?_⟩⟩
  · obtain ⟨l1, ws, q1, q2, q3⟩ := el e he
    obtain ⟨w1, _⟩ := h.ok ws (List.mem_of_getElem? q1)
    have hf := h.few
    refine ⟨by rw [q2]; exact ris_of (plc_pair w ws 0), by cases he2 : e.2 with | nil => exact absurd he2 q3 | cons a b => rw [List.length_cons]; omega, by rw [q2]; exact Nat.le_trans (plc_len w ws 0) w1, by omega, fun n hn => ?_⟩
    rw [q2] at hn
    have := pl ws n hn
    omega
  · obtain ⟨ws, hws, rfl⟩ := List.mem_map.mp hn
    exact (h.ok ws hws).1
  · obtain ⟨l1, ws, q1, q2, q3⟩ := el e he
    refine ⟨by rw [List.length_map]; exact l1, fun n hn => ?_⟩
    rw [q2] at hn
    have g : (pgs.map List.length)[e.1]? = some ws.length := by rw [List.getElem?_map, q1]; rfl
    rw [getD_at g]
    exact pl ws n hn

/-! ### lists of pages; check_pages, places_by_word -/
abbrev Pg := Int × List Str
def PagesAt (C : Addr) (H : Hp) (xs : List V) (ps : List Pg) : Prop := xs.length = ps.length ∧ ∀ (i : Nat) (v : V), xs[i]? = some v → ∃ (p : Addr) (g : Pg), v = .ref p ∧ ps[i]? = some g ∧ PageAt C H p g.1 g.2
theorem PagesAt.ex {C : Addr} {H H' : Hp} {xs : List V} {ps : List Pg} (h : PagesAt C H xs ps) (e : Ex H H') : PagesAt C H' xs ps := ⟨h.1, fun i v g => by
  obtain ⟨p, q, h1, h2, h3⟩ := h.2 i v g
  exact ⟨p, q, h1, h2, h3.ex e⟩⟩
def spChkPg (C : Addr) : Sp := fun vs H Q _ => ∃ (l : Addr) (xs : List V) (ps : List Pg), vs = [.ref l, .int 1, .int 60] ∧ H l = some (.lst xs) ∧ PagesAt C H xs ps ∧ 1 ≤ ps.length ∧ ps.length ≤ 60 ∧ (ps.map (·.1)).Nodup ∧ ∀ H', Ex H H' → Q .non H'
set_option maxHeartbeats 4000000 in
theorem ok_check_pages (T : TX K mg A FD TK CC) : FnOk P w K mg base CX0 1 (A 56) (FD 56) ["pages", "least", "most"] (spChkPg (A 54)) := by
  refine T.f_check_pages.ok (k := 0) sc_check_pages (fun vs H Q E h => ?_) (fun cdv A' outer s H vs Q E hr h => ?_)
  · obtain ⟨l, xs, ps, rfl, _⟩ := h
    rfl
  · obtain ⟨l, xs, ps, rfl, hl, hP, l1, l60, nd, q⟩ := h
    refine ⟨_, (pss_cons (ps_if (PW.pt (pw_or (pt_not (pt_val (pe_callB (isiK (K := K) rfl) (by rfl) T.m_isinstance (by decide +kernel) (pa_cons (pv 0) (pa_cons (pe_bltn (v := .ty "list") (by rfl) T.m_list (by decide +kernel) rfl) pa_nil))))) (pw_or1 (pt_not (pt_chain op_le op_le (pv 1) (pe_callB (lenK (K := K) rfl) (by rfl) T.m_len (by decide +kernel) (pa_cons (pv 0) pa_nil)) (pv 2))))))
      (pss_one ps_never)
      pss_nil)
      (pss_cons (ps_set (i := 3) sc_check_pages.nd rfl (.inl rfl) (pe_callTy0 cr_set0 (by rfl) T.m_set (by decide +kernel)))
      (pss_one (ps_for PassesOwn.never rfl (pi_enum (by rfl) T.m_enumerate (pa_cons (pv 0) pa_nil)) (pg_tup rfl (pgs_cons (pg_name (i := 4) sc_check_pages.nd rfl (.inl rfl)) (pgs_cons (pg_name (i := 5) sc_check_pages.nd rfl (.inl rfl)) pgs_nil)))
      (pss_cons (ps_if (PW.pt (pw_or (pt_not (pt_val (pe_callB (isiK (K := K) rfl) (by rfl) T.m_isinstance (by decide +kernel) (pa_cons (pv 5) (pa_cons (pe_glob (v := .ref (A 54)) (by rfl) T.k_Page rfl) pa_nil))))) (pw_or1 (pt_cmpR or_sin (fldK (K := K) rfl (pv 5) rfl) (pv 3) (by rfl)))))
      (pss_one ps_never)
      pss_nil)
      (pss_one (ps_expr (pe_sadd (pv 3) (pa_cons (fldK (K := K) rfl (pv 5) rfl) pa_nil))))))))), ?_⟩
    refine ⟨.ref l, rfl, .ref l, .ty "list", .type "list", .type "list", true, rfl, .ty _, .base (.lst hl), kit_ty (by decide +kernel), ?_⟩
    refine ⟨true, rfl, iteF ?_⟩
    have xl : xs.length = ps.length := hP.1
    refine ⟨.int 1, rfl, .ref l, rfl, l, _, rfl, .inl (SqL.of hl), 1, (xs.length : Int), rfl, rfl, true, congrArg V.bl (decide_eq_true (by omega)), iteT ⟨.int 60, rfl, (xs.length : Int), 60, rfl, rfl, true, congrArg V.bl (decide_eq_true (by omega)), iteF ?_⟩⟩
    refine ⟨rfl, fun sa nsa => ?_⟩
    have e1 := Ex.new (o := SetO w sa (fun _ => false) 0) nsa
    have hs1 := upd_same (H := H) (a := sa) (o := SetO w sa (fun _ => false) 0)
    refine ⟨.ref l, rfl, l, _, rfl, SqL.of (e1 _ _ hl), ?_⟩
    refine for_it (walk_enum (K := K) (a := l) (xs := xs)) (fun i σ' H' => (∃ o1 o2, σ' = [some (.ref l), some (.int 1), some (.int 60), some (.ref sa), o1, o2]) ∧ Ex H H' ∧ ∃ (S : Int → Bool) (m : Nat), H' sa = some (SetO w sa S m) ∧ m ≤ i ∧ ∀ k, S k = true ↔ k ∈ (ps.take i).map (·.1)) ⟨⟨none, none, rfl⟩, e1, _, _, hs1, Nat.le_refl _, fun k => ⟨fun h => (by cases h), fun h => (by cases h)⟩⟩ (fun i σ' H' _ p => SqL.of (p.2.1 _ _ hl)) (fun i x σ' H1 H2 hi p y => ?_) (fun σ' H1 p => q _ p.2.1)
    obtain ⟨⟨o1, o2, rfl⟩, x1, S, m, hs, mi, hS⟩ := p
    obtain ⟨Tt, u1, u2, rfl, nT, rfl, g1, g2⟩ := y
    cases g1
    obtain ⟨pa, g, rfl, gg, hg⟩ := hP.2 i u2 g2
    have eT := Ex.new (o := .tup [V.int (i : Nat), .ref pa]) nT
    have hg2 := hg.ex (x1.trans eT)
    have hs2 := eT _ _ hs
    have x2 := x1.trans eT
    refine ⟨Tt, _, rfl, SqT.of upd_same, rfl, _, _, rfl, _, _, rfl, rfl, ?_⟩
    generalize (upd H1 Tt (.tup [V.int (i : Nat), .ref pa])) = H3 at hg2 hs2 x2 ⊢
    obtain ⟨dx, t, hp, _, _, _⟩ := hg2
    refine ⟨.ref pa, rfl, .ref pa, .ref (A 54), _, .ref (A 54), true, rfl, .own _, .base (.ins hp T.cl_Page T.ciP T.cs T.ct T.moP), T.kp, true, rfl, iteF ?_⟩
    have il : i < ps.length := (List.getElem?_eq_some_iff.mp gg).1
    have nin : S g.1 = false := by
      cases hsg : S g.1 with
      | false => rfl
      | true =>
        obtain ⟨g', hg', e'⟩ := List.mem_map.mp ((hS g.1).mp hsg)
        obtain ⟨j, hj⟩ := List.mem_iff_getElem?.mp hg'
        have jl := (List.getElem?_eq_some_iff.mp hj).1
        rw [List.length_take] at jl
        rw [List.getElem?_take, if_pos (by omega)] at hj
        have a1 : (ps.map (·.1))[j]? = some g.1 := by rw [List.getElem?_map, hj]; exact congrArg some e'
        have a2 : (ps.map (·.1))[i]? = some g.1 := by rw [List.getElem?_map, gg]; rfl
        have := (List.getElem?_inj (by rw [List.length_map]; omega) nd).mp (a1.trans a2.symm)
        omega
    refine ⟨.ref pa, rfl, pa, A 54, dx, _, .int g.1, rfl, hp, T.cl_Page, T.n_Page_number, rfl, .ref sa, rfl, g.1, sa, S, m, rfl, rfl, hs2, false, congrArg V.bl nin, iteF ?_⟩
    refine ⟨.ref sa, rfl, ⟨sa, S, m, rfl, hs2⟩, .ref pa, rfl, pa, A 54, dx, _, .int g.1, rfl, hp, T.cl_Page, T.n_Page_number, rfl, sa, g.1, S, m, rfl, rfl, hs2, by show _ < 4096; omega, ⟨_, _, rfl⟩, Ex.mut x2 nsa, _, _, upd_same, ?_, fun k => ?_⟩
    · rw [nin, if_neg (by decide)]
      omega
    · rw [List.take_add_one, gg, List.map_append, List.mem_append, ← hS k, Bool.or_eq_true, decide_eq_true_eq]
      simp
/-- a dict of lists just made -/
theorem DL.nil {α : Type} {P : Hp → List V → List α → Prop} {H0 H : Hp} {d : Addr} (e : Ex H0 H) (nd : H0 d = none) (hd : H d = some (.dK [])) : DL P H0 H d [] (fun _ => []) :=
  ⟨e, nd, hd, fun k => ⟨fun h => (by cases h), fun h => absurd rfl h⟩, List.nodup_nil, List.nodup_nil, fun p h => (by cases h), fun p h => (by cases h)⟩
theorem DL.weak {α : Type} {P : Hp → List V → List α → Prop} {H0 H1 H : Hp} {d : Addr} {kas : List (Str × Addr)} {L : Str → List α} (h : DL P H0 H d kas L) (e : Ex H1 H0) : DL P H1 H d kas L :=
  ⟨e.trans h.ex, fresh_back e h.nd, h.dk, h.keys, h.one, h.as, fun p hp => ⟨fresh_back e (h.new p hp).1, (h.new p hp).2⟩, h.at_⟩
theorem DL.eq {α : Type} {P : Hp → List V → List α → Prop} {H0 H : Hp} {d : Addr} {kas : List (Str × Addr)} {L M : Str → List α} (h : DL P H0 H d kas L) (e : ∀ k, L k = M k) : DL P H0 H d kas M := (funext e : L = M) ▸ h
def PN : Hp → List V → List Nat → Prop := fun _ xs l => xs = l.map nV
theorem tupPN : TupP PN := fun _ _ _ _ _ h => h
def spPbw (C : Addr) : Sp := fun vs H Q _ => ∃ (p : Addr) (n : Int) (ws : List Str), vs = [.ref p] ∧ PageAt C H p n ws ∧ ∀ (d : Addr) (kas : List (Str × Addr)) (H' : Hp), kas.length ≤ ws.length → DL PN H H' d kas (fun k => plc k 0 ws) → Q (.ref d) H'
set_option maxHeartbeats 4000000 in
theorem ok_pbw (T : TX K mg A FD TK CC) : FnOk P w K mg base CX0 2 (A 74) (FD 74) ["page"] (spPbw (A 54)) := by
  have G_Page_words := ok_p_words (P := P) (w := w) (base := base) T
  refine T.f_places_by_word.ok (k := 1) sc_places_by_word (fun vs H Q E h => ?_) (fun cdv A' outer s H vs Q E hr h => ?_)
  · obtain ⟨p, n, ws, rfl, _⟩ := h
    rfl
  · obtain ⟨p, n, ws, rfl, hP, q⟩ := h
    obtain ⟨dx, t, h1, h2, h3, h4⟩ := id hP
    refine ⟨_, (pss_cons (ps_set (i := 1) sc_places_by_word.nd rfl (.inl rfl) pe_dnewK)
      (pss_cons (ps_for PassesOwn.never rfl (pi_enum (by rfl) T.m_enumerate (pa_cons (pe_meth0 (pv 0) T.cl_Page T.M_Page_words G_Page_words hr T.b_Page_words .nil pass0) pa_nil)) (pg_tup rfl (pgs_cons (pg_name (i := 2) sc_places_by_word.nd rfl (.inl rfl)) (pgs_cons (pg_name (i := 3) sc_places_by_word.nd rfl (.inl rfl)) pgs_nil)))
      (pss_one (ps_expr (pe_bm PySem.F.plainAttrs_list PySem.F.slot_list_append PySem.F.type_list_append mt_append (pe_dsetd (pv 1) (pv 3) (pe_lst pa_nil) ⟨by rfl, by rfl, by rfl, by rfl⟩) (pa_cons (pv 2) pa_nil)))))
      (pss_one (ps_ret (pv 1))))), ?_⟩
    refine fun d nd => ?_
    have e1 := Ex.new (o := .dK []) nd
    have hd1 := upd_same (H := H) (a := d) (o := .dK [])
    generalize (upd H d (.dK [])) = H1 at e1 hd1 ⊢
    refine ⟨.ref p, rfl, p, dx, _, rfl, e1 _ _ h1, rfl, p, n, ws, rfl, hP.ex e1, fun D H2 nD e2 hD => ?_⟩
    refine ⟨D, _, rfl, SqL.of hD, ?_⟩
    have nDd : D ≠ d := (ne_of_none hd1 nD).symm
    have start : DL PN (upd H D (.lst (ws.map V.str))) H2 d [] (fun _ => []) := by
      refine DL.nil (fun b o g => ?_) (by rw [upd_ne nDd.symm]; exact nd) (e2 _ _ hd1)
      by_cases z : b = D
      · rw [z, upd_same] at g
        cases g
        rw [z]
        exact hD
      · rw [upd_ne z] at g
        exact e2 _ _ (e1 _ _ g)
    have n0 : H D = none := fresh_back e1 nD
    have eH0 : Ex H (upd H D (.lst (ws.map V.str))) := Ex.new n0
    have hD0 := upd_same (H := H) (a := D) (o := .lst (ws.map V.str))
    generalize (upd H D (.lst (ws.map V.str))) = H0 at start eH0 hD0
    refine for_it (walk_enum (K := K) (a := D) (xs := ws.map V.str)) (fun i σ' H' => (∃ o1 o2, σ' = [some (.ref p), some (.ref d), o1, o2]) ∧ ∃ kas, DL PN H0 H' d kas (fun k => plc k 0 (ws.take i)) ∧ kas.length ≤ i) ⟨⟨none, none, rfl⟩, [], start, Nat.zero_le _⟩ (fun i σ' H' _ p => ?_) (fun i x σ' H1 H2 hi p y => ?_) (fun σ' H1 p => ?_)
    · obtain ⟨_, kas, hk, _⟩ := p
      exact SqL.of (hk.ex _ _ hD0)
    · obtain ⟨⟨o1, o2, rfl⟩, kas, hk, kl⟩ := p
      obtain ⟨Tt, u1, u2, rfl, nT, rfl, g1, g2⟩ := y
      cases g1
      obtain ⟨w0, gw, rfl⟩ : ∃ w0, ws[i]? = some w0 ∧ u2 = .str w0 := by
        have g2 : (ws.map V.str)[i]? = some u2 := g2
        rw [List.getElem?_map] at g2
        cases hw : ws[i]? with
        | none => rw [hw] at g2; cases g2
        | some w0 => rw [hw] at g2; exact ⟨w0, rfl, (Option.some.inj g2).symm⟩
      have il : i < ws.length := (List.getElem?_eq_some_iff.mp gw).1
      have eT := Ex.new (o := .tup [V.int (i : Nat), .str w0]) nT
      have hk2 := hk.ext tupPN eT
      have st : ∀ k, putL (fun k => plc k 0 (ws.take i)) w0 i k = plc k 0 (ws.take (i + 1)) := fun k => by
        rw [List.take_add_one, gw]
        show _ = plc k 0 (ws.take i ++ [w0])
        rw [plc_snoc, List.length_take, Nat.min_eq_left (by omega), Nat.zero_add]
        unfold putL
        by_cases z : k = w0
        · rw [if_pos z, if_pos z.symm]
        · rw [if_neg z, if_neg (fun h => z h.symm), List.append_nil]
      refine ⟨Tt, _, rfl, SqT.of upd_same, rfl, _, _, rfl, _, _, rfl, rfl, ?_⟩
      generalize (upd H1 Tt (.tup [V.int (i : Nat), .str w0])) = H3 at hk2 ⊢
      refine ⟨.ref d, rfl, d, rfl, .inl ⟨_, .inl hk2.dk⟩, .str w0, rfl, by show 0 ≤ sizeLine; decide, fun nl nnl => ?_⟩
      have e4 := Ex.new (o := .lst []) nnl
      have hk4 := hk2.ext tupPN e4
      refine ⟨DLk kas, Sum.inr w0, hk4.dk, rfl, by unfold DLk; rw [List.length_map]; exact sz_lt (by omega), fun v hv => ?_, fun hv => ?_⟩
      · obtain ⟨a, xs, rfl, ha, hx, _, step⟩ := hk4.there tupPN hv
        have hx : xs = (plc w0 0 (ws.take i)).map nV := hx
        refine ⟨.inl ⟨rfl, _, SqL.of ha⟩, .int (i : Nat), rfl, a, xs, .int (i : Nat), rfl, rfl, ha, ?_, ⟨_, _, rfl⟩, kas, (step _ (.int (i : Nat)) i (fun _ _ h => h) (by unfold PN; rw [hx, List.map_append]; rfl)).eq st, by omega⟩
        have := plc_len w0 (ws.take i) 0
        rw [List.length_take] at this
        rw [hx, List.length_map]
        exact sz_lt (by omega)
      · obtain ⟨l0, step⟩ := hk2.miss tupPN hv nnl
        have hn := upd_ne (H := upd H3 nl (.lst [])) (a := d) (b := nl) (o := .dK (putK (DLk kas) (Sum.inr w0) (.ref nl))) (ne_of_none hk2.dk nnl).symm
        rw [upd_same] at hn
        refine ⟨.inl ⟨rfl, _, SqL.of hn⟩, .int (i : Nat), rfl, nl, [], .int (i : Nat), rfl, rfl, hn, by show 0 < sizeLine; decide, ⟨_, _, rfl⟩, _, (step _ (.int (i : Nat)) i (fun _ _ h => h) (by unfold PN; rfl)).eq st, by rw [List.length_append]; show _ + 1 ≤ _; omega⟩
    · obtain ⟨⟨o1, o2, rfl⟩, kas, hk, kl⟩ := p
      rw [List.length_map] at kl
      rw [List.length_map, List.take_length] at hk
      exact ⟨.ref d, rfl, q d kas _ kl (hk.weak eH0)⟩

/-- another object is changed -/
theorem DL.other {α : Type} {P : Hp → List V → List α → Prop} {H0 H : Hp} {d b : Addr} {o u : HO} {kas : List (Str × Addr)} {L : Str → List α} (hP : TupP P) (h : DL P H0 H d kas L) (hb : H b = some u) (nt : ∀ zs, u ≠ .tup zs) (n0 : H0 b = none) (nd : b ≠ d) (na : ∀ p ∈ kas, p.2 ≠ b) : DL P H0 (upd H b o) d kas L :=
  ⟨Ex.mut h.ex n0, h.nd, by rw [upd_ne nd.symm]; exact h.dk, h.keys, h.one, h.as, h.new, fun p hp => by
    obtain ⟨xs, h1, h2⟩ := h.at_ p hp
    exact ⟨xs, by rw [upd_ne (na p hp)]; exact h1, hP _ _ _ _ (fun c zs z => by rw [upd_ne (fun e => nt zs (by rw [e, hb] at z; exact Option.some.inj z))]; exact z) h2⟩⟩
/-- all but the dict and its lists -/
def hideD (H : Hp) (d : Addr) (kas : List (Str × Addr)) : Hp := fun b => open Classical in if b = d ∨ b ∈ kas.map (·.2) then none else H b
theorem hideD_at {H : Hp} {d b : Addr} {kas : List (Str × Addr)} (h1 : b ≠ d) (h2 : ∀ p ∈ kas, p.2 ≠ b) : hideD H d kas b = H b := by
  unfold hideD
  rw [if_neg]
  rintro (z | z)
  · exact h1 z
  · obtain ⟨p, hp, e⟩ := List.mem_map.mp z
    exact h2 p hp e
theorem DL.hide {α : Type} {P : Hp → List V → List α → Prop} {H0 H : Hp} {d : Addr} {kas : List (Str × Addr)} {L : Str → List α} (h : DL P H0 H d kas L) : DL P (hideD H d kas) H d kas L :=
  ⟨fun b o g => by
    unfold hideD at g
    split at g
    · cases g
    · exact g, by unfold hideD; rw [if_pos (.inl rfl)], h.dk, h.keys, h.one, h.as, fun p hp => ⟨by unfold hideD; rw [if_pos (.inr (List.mem_map.mpr ⟨p, hp, rfl⟩))], (h.new p hp).2⟩, h.at_⟩
theorem DL.under {α : Type} {P : Hp → List V → List α → Prop} {H0 H : Hp} {d : Addr} {kas : List (Str × Addr)} {L : Str → List α} (h : DL P H0 H d kas L) : Ex H0 (hideD H d kas) := fun b o g => by
  rw [hideD_at (ne_of_none g h.nd) (fun p hp e => by rw [← e, (h.new p hp).1] at g; cases g)]
  exact h.ex _ _ g

/-! ### rows_of -/
theorem dc_it {J : It} {N : Nat} {G : Hp → Prop} {Y : Nat → Hp → V → Hp → Prop} (wk : Walk J N G Y) {g : TG} {tt : TT} {tk tv : TE} {vs : List Nat} {σ : L2.St} {H1 : Hp} {D : Addr} {Qd : Hp → Prop} (Pv : Nat → Hp → Prop) (h0 : Pv 0 (upd H1 D (.dK []))) (hG : ∀ i H, i ≤ N → Pv i H → G H)
    (hs : ∀ i x H H', i < N → Pv i H → Y i H x H' → g x (wipe σ vs) H' fun σ2 H2 => wipe σ2 vs = wipe σ vs ∧ tt σ2 H2 fun b H3 =>
      if b = true then tk σ2 H3 fun y H4 => tv σ2 H4 fun z H5 => ∃ kvs k, y = kV k ∧ H5 D = some (.dK kvs) ∧ kvs.length < sizeLine ∧ Pv (i + 1) (upd H5 D (.dK (putK kvs k z))) else Pv (i + 1) H3) (hd : ∀ H, Pv N H → Qd H) :
    ∃ W : Nat → Nat → Hp → Prop, (∃ m, W 0 m (upd H1 D (.dK []))) ∧ ∀ i m H, W i m H →
      (J.stop i H ∧ Qd H) ∨ (J.go i H ∧ ∃ Nx : Hp → Prop, (∀ H', Nx H' → ∃ m', m' < m ∧ W (i + 1) m' H') ∧ ∀ x H', J.yld i H x H' → g x (wipe σ vs) H' fun σ2 H2 => wipe σ2 vs = wipe σ vs ∧ tt σ2 H2 fun b H3 =>
        if b = true then tk σ2 H3 fun y H4 => tv σ2 H4 fun z H5 => ∃ kvs k, y = kV k ∧ H5 D = some (.dK kvs) ∧ kvs.length < sizeLine ∧ Nx (upd H5 D (.dK (putK kvs k z))) else Nx H3) := by
  refine ⟨fun i m H => m + i = N ∧ Pv i H, ⟨N, rfl, h0⟩, fun i m H z => ?_⟩
  obtain ⟨hm, p⟩ := z
  have gi := hG i H (by omega) p
  rcases Nat.eq_zero_or_pos m with h | h
  · have hi : i = N := by omega
    subst hi
    exact .inl ⟨wk.stops H gi, hd H p⟩
  · have hi : i < N := by omega
    exact .inr ⟨wk.goes i H hi gi, Pv (i + 1), fun H' p' => ⟨m - 1, by omega, by omega, p'⟩, fun x H' y => hs i x H H' hi p (wk.yields i H x H' hi gi y)⟩
/-- at d: for each of the words its places on a page of the words pw -/
def PE : Hp → List V → List En → Prop := fun H xs l => EnsA H xs l
theorem tupPE : TupP PE := fun _ _ _ _ k h => EnsA.mono h k
theorem RowAt.updx {CR CB D : Addr} {H : Hp} {r : Addr} {z : Str} {s : Nat} {es : List En} {ls : List Nat} {o u : HO} (h : RowAt CR CB H r z s es ls) (hD : H D = some u) (ni : ∀ C dx fs, u ≠ .ins C dx fs) (nt : ∀ zs, u ≠ .tup zs) : RowAt CR CB (upd H D o) r z s es ls := by
  obtain ⟨dx, t, bs, h1, h2, h3⟩ := h
  exact ⟨dx, t, bs, by rw [upd_ne (ne_of h1 hD (ni _ _ _).symm)]; exact h1, by rw [upd_ne (ne_of h2 hD (nt _).symm)]; exact h2, ⟨h3.1, fun i b g => by
    obtain ⟨db, hb⟩ := h3.2 i b g
    exact ⟨db, by rw [upd_ne (ne_of hb hD (ni _ _ _).symm)]; exact hb⟩⟩⟩
structure RowsAt (CR CB : Addr) (H : Hp) (kas : List (Str × Addr)) (s : Nat) (pgs : List (List Str)) : Prop where
  one : (kas.map (·.1)).Nodup
  keys : ∀ k, k ∈ kas.map (·.1) ↔ ents k 0 pgs ≠ []
  row : ∀ p ∈ kas, RowAt CR CB H p.2 p.1 s (ents p.1 0 pgs) (pgs.map List.length)
def spRowsOf (C CR CB : Addr) : Sp := fun vs H Q _ => ∃ (l : Addr) (xs : List V) (ps : List Pg) (s : Nat), vs = [.ref l, .int (s : Nat)] ∧ H l = some (.lst xs) ∧ PagesAt C H xs ps ∧ Pgs (ps.map (·.2)) ∧ 1 ≤ s ∧ s ≤ 8 ∧
  ∀ (d : Addr) (kas : List (Str × Addr)) (H' : Hp), Ex H H' → H d = none → H' d = some (.dK (DLk kas)) → RowsAt CR CB H' kas s (ps.map (·.2)) → Q (.ref d) H'
set_option maxHeartbeats 8000000 in
theorem ok_rows_of (T : TX K mg A FD TK CC) : FnOk P w K mg base CX0 11 (A 73) (FD 73) ["pages", "size"] (spRowsOf (A 54) (A 62) (A 61)) := by
  have G_Page_len := (ok_p_len (P := P) (w := w) (base := base) T).mono (show 1 ≤ 9 by decide)
  have G_places_by_word := (ok_pbw (P := P) (w := w) (base := base) T).mono (show 2 ≤ 10 by decide)
  have G_Row := (ok_rinit (P := P) (w := w) (base := base) T).mono (show 9 ≤ 9 by decide)
  have KB3_Row := kb_row T
  refine T.f_rows_of.ok (k := 10) sc_rows_of (fun vs H Q E h => ?_) (fun cdv A' outer s H vs Q E hr h => ?_)
  · obtain ⟨l, xs, ps, s, rfl, _⟩ := h
    rfl
  · obtain ⟨l, xs, ps, sz_, rfl, hl, hP, hg, s1, s8, q⟩ := h
    refine ⟨_, (pss_cons (ps_set (i := 2) sc_rows_of.nd rfl (.inr rfl) (pe_lc (own := [("page", 5)])  rfl sc_rows_of.nd (piLK (K := K) rfl (pv 0)) (blkOk_by (own := [("page", 5)]) (N := N_rows_of) (sc := defScope (topS 73)) (by decide +kernel)) (fun _ _ _ _ _ => (pg_name (i := 5) sc_rows_of.nd rfl (Or.inl rfl))) (fun _ _ _ _ _ => pts_nil) (fun _ _ _ _ _ => (pe_callB (Own.cr_lenO G_Page_len T.M_Page_len T.b_Page_len pass0 hr) (by rfl) T.m_len (by decide +kernel) (pa_cons (pv 5) pa_nil)))))
      (pss_cons (ps_set (i := 3) sc_rows_of.nd rfl (.inr rfl) pe_dnewK)
      (pss_cons (ps_for PassesOwn.never rfl (pi_enum (by rfl) T.m_enumerate (pa_cons (pv 0) pa_nil)) (pg_tup rfl (pgs_cons (pg_name (i := 4) sc_rows_of.nd rfl (.inl rfl)) (pgs_cons (pg_name (i := 5) sc_rows_of.nd rfl (.inl rfl)) pgs_nil)))
      (pss_cons (ps_set (i := 6) sc_rows_of.nd rfl (.inl rfl) (pe_call G_places_by_word hr (by rfl) T.g_places_by_word T.f_places_by_word.kp T.b_places_by_word .nil pass0 (pa_cons (pv 5) pa_nil)))
      (pss_one (ps_lock (ps_for PassesOwn.never rfl (pi_keys (pv 6)) (pg_name (i := 7) sc_rows_of.nd rfl (.inl rfl))
      (pss_one (ps_expr (pe_bm PySem.F.plainAttrs_list PySem.F.slot_list_append PySem.F.type_list_append mt_append (pe_dsetd (pv 3) (pv 7) (pe_lst pa_nil) ⟨by rfl, by rfl, by rfl, by rfl⟩) (pa_cons (pe_tup (pa_cons (pv 4) (pa_cons (pe_callTy (tupK (K := K) rfl) (by rfl) T.m_tuple (by decide +kernel) (pa_cons (pe_dget (hu_of hr) (pv 6) (pv 7) (fun _ _ => rfl)) pa_nil)) pa_nil))) pa_nil)))))))))
      (pss_one (ps_ret (pe_lock (pe_dc (own := [("word", 7)]) rfl sc_rows_of.nd (pi_keys (pv 3)) (blkOk_by (own := [("word", 7)]) (N := N_rows_of) (sc := defScope (topS 73)) (by decide +kernel)) (fun _ _ _ _ _ => (pg_name (i := 7) sc_rows_of.nd rfl (Or.inl rfl))) (fun _ _ _ _ _ => pts_nil) (fun _ _ _ _ _ => (pv 7)) (fun _ _ _ _ _ => (pe_makeK T.M_Row G_Row hr (by rfl) T.k_Row KB3_Row pass0 (pa_cons (pv 7) (pa_cons (pe_dget (hu_of hr) (pv 3) (pv 7) (fun _ _ => rfl)) (pa_cons (pv 2) pa_nil))) (pk_cons (pv 1) pk_nil)))))))))), ?_⟩
    have xl : xs.length = ps.length := hP.1
    have few := hg.few
    rw [List.length_map] at few
    refine ⟨.ref l, rfl, l, rfl, ⟨_, SqL.of hl⟩, fun D nD => ?_⟩
    refine lc_list (K := K) (xs := xs) (fun i H' => Ex H H' ∧ H' D = some (.lst (nvs ((ps.take i).map fun g => g.2.length)))) ⟨Ex.new nD, upd_same⟩ (fun i H' _ p => SqL.of (p.1 _ _ hl)) (fun i v H2 hv p => ?_) (fun H2 p => ?_)
    · obtain ⟨p1, p2⟩ := p
      obtain ⟨pa, g, rfl, gg, hpa⟩ := hP.2 i v hv
      obtain ⟨dx, t, hp, _, lw, _⟩ := id (hpa.ex p1)
      have take_nv : nvs ((ps.take (i + 1)).map fun g => g.2.length) = nvs ((ps.take i).map fun g => g.2.length) ++ [V.int (g.2.length : Int)] := by
        rw [List.take_add_one, gg, List.map_append]
        unfold nvs
        rw [List.map_append]
        rfl
      refine ⟨rfl, .ref pa, rfl, pa, dx, _, rfl, hp, pa, g.1, g.2, rfl, hpa.ex p1, (g.2.length : Int), rfl, ⟨by omega, by omega⟩, _, p2, ?_, Ex.mut p1 nD, ?_⟩
      · unfold nvs
        rw [List.length_map, List.length_map, List.length_take]
        exact sz_lt (by omega)
      · rw [upd_same, take_nv]
    obtain ⟨p1, p2⟩ := p
    rw [xl, List.take_length] at p2
    refine fun d nd => ?_
    have hd0 : DL PE H2 (upd H2 d (.dK [])) d [] (fun _ => []) := DL.mk0 nd
    generalize (upd H2 d (.dK [])) = H3 at hd0 ⊢
    refine ⟨.ref l, rfl, l, _, rfl, SqL.of (hd0.ex _ _ (p1 _ _ hl)), ?_⟩
    refine for_it (walk_enum (K := K) (a := l) (xs := xs)) (fun i σ' H' => (∃ o1 o2 o3 o4, σ' = [some (.ref l), some (.int (sz_ : Nat)), some (.ref D), some (.ref d), o1, o2, o3, o4]) ∧ ∃ kas, DL PE H2 H' d kas (fun k => ents k 0 ((ps.take i).map (·.2))) ∧ kas.length ≤ 120 * i) ⟨⟨none, none, none, none, rfl⟩, [], hd0, Nat.zero_le _⟩ (fun i σ' H' _ p => ?_) (fun i x σ' H4 H5 hi p y => ?_) (fun σ' H4 p => ?_)
    · obtain ⟨_, kas, hk, _⟩ := p
      exact SqL.of (hk.ex _ _ (p1 _ _ hl))
    · obtain ⟨⟨o1, o2, o3, o4, rfl⟩, kas, hk, kl⟩ := p
      obtain ⟨Tt, u1, u2, rfl, nT, rfl, g1, g2⟩ := y
      cases g1
      obtain ⟨pa, g, rfl, gg, hpa⟩ := hP.2 i u2 g2
      have il : i < ps.length := (List.getElem?_eq_some_iff.mp gg).1
      have eT := Ex.new (o := .tup [V.int (i : Nat), .ref pa]) nT
      have hk2 := hk.ext tupPE eT
      have hpa2 := (hpa.ex p1).ex hk2.ex
      refine ⟨Tt, _, rfl, SqT.of upd_same, rfl, _, _, rfl, _, _, rfl, rfl, ?_⟩
      generalize (upd H4 Tt (.tup [V.int (i : Nat), .ref pa])) = H6 at hk2 hpa2 ⊢
      refine ⟨.ref pa, rfl, pa, g.1, g.2, rfl, hpa2, fun dp kap H7 kpl hkp => ?_⟩
      have hk7 := hk2.ext tupPE hkp.ex
      refine ⟨dp, _, hkp.dk, trivial, fun od => ?_⟩
      have dpd : dp ≠ d := (ne_of_none hk2.dk hkp.nd).symm
      have dpa : ∀ p ∈ kas, p.2 ≠ dp := fun p hp => by
        obtain ⟨ys, y1, _⟩ := hk2.at_ p hp
        exact ne_of_none y1 hkp.nd
      have hkL := hk7.other (o := .frz od (.dK (DLk kap))) tupPE hkp.dk (fun zs => by intro z; cases z) (fresh_back hk2.ex hkp.nd) dpd dpa
      have hdL : (upd H7 dp (.frz od (.dK (DLk kap)))) dp = some (.frz od (.dK (DLk kap))) := upd_same
      have hlL : ∀ p ∈ kap, (upd H7 dp (.frz od (.dK (DLk kap)))) p.2 = some (.lst ((plc p.1 0 g.2).map nV)) := fun p hp => by
        obtain ⟨ys, y1, y2⟩ := hkp.at_ p hp
        rw [upd_ne (hkp.new p hp).2, y1, show ys = _ from y2]
      show tFor _ _ _ _ _ (upd H7 dp (.frz od (.dK (DLk kap))))
      generalize (upd H7 dp (.frz od (.dK (DLk kap)))) = HL at hkL hdL hlL ⊢
      have hkB := hkL.hide
      have und := hkL.under
      have fdp : hideD HL d kas dp = some (.frz od (.dK (DLk kap))) := by rw [hideD_at dpd dpa, hdL]
      have fli : ∀ p ∈ kap, hideD HL d kas p.2 = some (.lst ((plc p.1 0 g.2).map nV)) := fun p hp => by
        rw [hideD_at (ne_of_none hk2.dk (hkp.new p hp).1).symm (fun q hq => ?_), hlL p hp]
        obtain ⟨ys, y1, _⟩ := hk2.at_ q hq
        exact ne_of_none y1 (hkp.new p hp).1
      generalize hideD HL d kas = HB at hkB und fdp fli
      refine ⟨.ref dp, rfl, dp, od, rfl, .inl ⟨DLk kap, hdL, ?_⟩⟩
      have kpl2 : kap.length ≤ 120 := by have := hpa2.choose_spec.choose_spec.2.2.1; omega
      refine for_it (walk_keys (d := dp) (o := od) (kvs := DLk kap)) (fun m σ' H' => (∃ o4, σ' = [some (.ref l), some (.int (sz_ : Nat)), some (.ref D), some (.ref d), some (.int (i : Nat)), some (.ref pa), some (.ref dp), o4]) ∧ ∃ kas', DL PE HB H' d kas' (fun k => ents k 0 ((ps.take i).map (·.2)) ++ (if k ∈ (kap.take m).map (·.1) then [(i, plc k 0 g.2)] else [])) ∧ kas'.length ≤ 120 * i + m) ⟨⟨o4, rfl⟩, kas, hkB.eq (fun k => by rw [List.take_zero, List.map_nil, if_neg (by simp), List.append_nil]), kl⟩ (fun m σ' H' _ p => ?_) (fun m x σ' H' H'' hm p y => ?_) (fun σ' H' p => ?_)
      · obtain ⟨_, kas', hk', _⟩ := p
        exact hk'.ex _ _ fdp
      · obtain ⟨⟨o4', rfl⟩, kas', hk', kl'⟩ := p
        obtain ⟨rfl, kk, vv, gk, rfl⟩ := y
        obtain ⟨pp, gp, rfl, rfl⟩ : ∃ pp, kap[m]? = some pp ∧ kk = Sum.inr pp.1 ∧ vv = .ref pp.2 := by
          unfold DLk at gk
          rw [List.getElem?_map] at gk
          cases hq : kap[m]? with
          | none => rw [hq] at gk; cases gk
          | some pp =>
            rw [hq] at gk
            cases gk
            exact ⟨pp, rfl, rfl, rfl⟩
        have hpp := List.mem_of_getElem? gp
        have ml : m < kap.length := (List.getElem?_eq_some_iff.mp gp).1
        have nin : pp.1 ∉ (kap.take m).map (·.1) := fun z => by
          rw [List.map_take] at z
          obtain ⟨j, hj⟩ := List.mem_iff_getElem?.mp z
          have jl := (List.getElem?_eq_some_iff.mp hj).1
          rw [List.length_take] at jl
          rw [List.getElem?_take, if_pos (by omega)] at hj
          have a2 : (kap.map (·.1))[m]? = some pp.1 := by rw [List.getElem?_map, gp]; rfl
          have := (List.getElem?_inj (by rw [List.length_map]; omega) hkp.one).mp (hj.trans a2.symm)
          omega
        have st : ∀ k, putL (fun k => ents k 0 ((ps.take i).map (·.2)) ++ (if k ∈ (kap.take m).map (·.1) then [(i, plc k 0 g.2)] else [])) pp.1 (i, plc pp.1 0 g.2) k = ents k 0 ((ps.take i).map (·.2)) ++ (if k ∈ (kap.take (m + 1)).map (·.1) then [(i, plc k 0 g.2)] else []) := fun k => by
          unfold putL
          dsimp only
          have mem : k ∈ (kap.take (m + 1)).map (·.1) ↔ (k ∈ (kap.take m).map (·.1) ∨ k = pp.1) := by
            rw [List.take_add_one, gp, List.map_append, List.mem_append]
            simp
          by_cases z : k = pp.1
          · subst z
            rw [if_pos rfl, if_neg nin, if_pos (mem.mpr (.inr rfl)), List.append_nil]
          · rw [if_neg z]
            by_cases y : k ∈ (kap.take m).map (·.1)
            · rw [if_pos y, if_pos (mem.mpr (.inl y))]
            · rw [if_neg y, if_neg fun q => (mem.mp q).elim y z]
        have few2 : ∀ k, (ents k 0 ((ps.take i).map (·.2)) ++ (if k ∈ (kap.take m).map (·.1) then [(i, plc k 0 g.2)] else [])).length ≤ 61 := fun k => by
          have := ents_few k ((ps.take i).map (·.2)) 0
          rw [List.length_map, List.length_take] at this
          rw [List.length_append]
          split
          · rw [List.length_singleton]; omega
          · rw [List.length_nil]; omega
        refine ⟨.ref d, rfl, d, rfl, .inl ⟨_, .inl hk'.dk⟩, .str pp.1, rfl, by show 0 ≤ sizeLine; decide, fun nl nnl => ?_⟩
        have e4 := Ex.new (o := .lst []) nnl
        have hk4 := hk'.ext tupPE e4
        -- the entry
        have arg : ∀ (a : Addr) (R : List V → Hp → Prop) (HX : Hp), Ex HB HX → (∀ (t2 : Addr) (HY : Hp), Ex HX HY → EnA HY t2 (i, plc pp.1 0 g.2) → R [.ref t2] HY) →
            tCons (tTup (tCons (tVar 4) (tCons (tCB (rTupS K) (tCons (tDGet (tVar 6) (tVar 7)) tNil)) tNil))) tNil [some (.ref l), some (.int (sz_ : Nat)), some (.ref D), some (.ref d), some (.int (i : Nat)), some (.ref pa), some (.ref dp), some (.str pp.1)] HX R := fun a R HX eX qR => by
          refine ⟨.int (i : Nat), rfl, .ref dp, rfl, .str pp.1, rfl, dp, .ref pp.2, rfl, ?_, ?_⟩
          · exact .inl ⟨DLk kap, .inr pp.1, .inr ⟨od, eX _ _ fdp⟩, rfl, (dlk_of hpp hkp.one).symm⟩
          · refine ⟨pp.2, _, rfl, .inl ⟨SqL.of (eX _ _ (fli pp hpp)), fun t1 nt1 => ⟨by show 2 ≤ sizeLine; decide, fun t2 nt2 => ?_⟩⟩⟩
            refine qR t2 _ ((Ex.new nt1).trans (Ex.new nt2)) ⟨t1, upd_same, ?_⟩
            rw [upd_ne (ne_of_none upd_same nt2), upd_same]
            rfl
        refine ⟨DLk kas', Sum.inr pp.1, hk4.dk, rfl, by unfold DLk; rw [List.length_map]; exact sz_lt (by omega), fun v hv => ?_, fun hv => ?_⟩
        · obtain ⟨a, ys, rfl, ha, hx, _, step⟩ := hk4.there tupPE hv
          refine ⟨.inl ⟨rfl, _, SqL.of ha⟩, arg a _ _ hk4.ex fun t2 HY eY hE => ?_⟩
          have hx2 : EnsA HY ys _ := EnsA.mono hx fun c zs z => eY _ _ z
          refine ⟨a, ys, .ref t2, rfl, rfl, eY _ _ ha, ?_, ⟨_, rfl⟩, kas', (step HY (.ref t2) (i, plc pp.1 0 g.2) eY (EnsA.snoc hx2 hE)).eq st, by omega⟩
          have := few2 pp.1
          rw [hx2.1]
          exact sz_lt (by omega)
        · obtain ⟨l0, step⟩ := hk'.miss tupPE hv nnl
          have hn := upd_ne (H := upd H'' nl (.lst [])) (a := d) (b := nl) (o := .dK (putK (DLk kas') (Sum.inr pp.1) (.ref nl))) (ne_of_none hk'.dk nnl).symm
          rw [upd_same] at hn
          have eX : Ex HB (upd (upd H'' nl (.lst [])) d (.dK (putK (DLk kas') (Sum.inr pp.1) (.ref nl)))) := Ex.mut hk4.ex hk'.nd
          refine ⟨.inl ⟨rfl, _, SqL.of hn⟩, arg nl _ _ eX fun t2 HY eY hE => ?_⟩
          refine ⟨nl, [], .ref t2, rfl, rfl, eY _ _ hn, by show 0 < sizeLine; decide, ⟨_, rfl⟩, _, (step HY (.ref t2) (i, plc pp.1 0 g.2) eY ?_).eq st, by rw [List.length_append]; show _ + 1 ≤ _; omega⟩
          have e0 : EnsA HY [] [] := ⟨rfl, fun i e g => by cases g⟩
          exact EnsA.snoc e0 hE
      · obtain ⟨⟨o4', rfl⟩, kas', hk', kl'⟩ := p
        have dl : (DLk kap).length = kap.length := List.length_map ..
        rw [dl] at kl'
        rw [dl, List.take_length] at hk'
        refine ⟨hk'.ex _ _ fdp, ⟨_, _, _, _, rfl⟩, kas', ?_, by omega⟩
        have hk2' := (hk'.weak und).eq (M := fun k => ents k 0 ((ps.take (i + 1)).map (·.2))) fun k => by
          have pe : (ps.take (i + 1)).map (·.2) = (ps.take i).map (·.2) ++ [g.2] := by
            rw [List.take_add_one, gg, List.map_append]
            rfl
          rw [pe, ents_snoc, List.length_map, List.length_take, Nat.min_eq_left (by omega), Nat.zero_add]
          have kk := hkp.keys k
          by_cases z : plc k 0 g.2 = []
          · rw [if_pos z, if_neg fun q => (kk.mp q) z]
          · rw [if_neg z, if_pos (kk.mpr z)]
        refine hk2'.other tupPE (hk'.ex _ _ fdp) (fun zs => by intro z; cases z) (fresh_back hk2.ex hkp.nd) dpd fun p hp e => ?_
        have := (hk'.new p hp).1
        rw [e, fdp] at this
        cases this
    · obtain ⟨⟨o1, o2, o3, o4, rfl⟩, kas, hk, kl0⟩ := p
      rw [xl, List.take_length] at hk
      have kl : kas.length ≤ 7200 := by
        have := kl0
        rw [xl] at this
        omega
      refine ⟨d, _, hk.dk, trivial, fun od => ?_⟩
      have hdL : (upd H4 d (.frz od (.dK (DLk kas)))) d = some (.frz od (.dK (DLk kas))) := upd_same
      have oldL : ∀ b o, b ≠ d → H4 b = some o → (upd H4 d (.frz od (.dK (DLk kas)))) b = some o := fun b o nb h => by rw [upd_ne nb]; exact h
      have exL : Ex H2 (upd H4 d (.frz od (.dK (DLk kas)))) := Ex.mut hk.ex hk.nd
      have hnone : ∀ b, (upd H4 d (.frz od (.dK (DLk kas)))) b = none → H4 b = none := fun b h => by
        by_cases z : b = d
        · rw [z, upd_same] at h
          cases h
        · rw [upd_ne z] at h
          exact h
      generalize (upd H4 d (.frz od (.dK (DLk kas)))) = HL at hdL oldL exL hnone ⊢
      refine ⟨.ref d, rfl, d, od, rfl, .inl ⟨DLk kas, hdL, fun DD nDD => ?_⟩⟩
      have nDDd : DD ≠ d := (ne_of_none hdL nDD).symm
      refine dc_it (walk_keys (d := d) (o := od) (kvs := DLk kas)) (fun m H' => Ex HL H' ∧ ∃ kar : List (Str × Addr), kar.map (·.1) = (kas.take m).map (·.1) ∧ H' DD = some (.dK (DLk kar)) ∧ ∀ p ∈ kar, RowAt (A 62) (A 61) H' p.2 p.1 sz_ (ents p.1 0 (ps.map (·.2))) ((ps.map (·.2)).map List.length)) ⟨Ex.new nDD, [], rfl, upd_same, fun p h => by cases h⟩ (fun m H' _ p => p.1 _ _ hdL) (fun m x H' H'' hm p y => ?_) (fun H' p => ?_)
      · obtain ⟨eL, kar, kk1, kk2, kk3⟩ := p
        obtain ⟨rfl, kk, vv, gk, rfl⟩ := y
        obtain ⟨pp, gp, rfl, rfl⟩ : ∃ pp, kas[m]? = some pp ∧ kk = Sum.inr pp.1 ∧ vv = .ref pp.2 := by
          unfold DLk at gk
          rw [List.getElem?_map] at gk
          cases hq : kas[m]? with
          | none => rw [hq] at gk; cases gk
          | some pp =>
            rw [hq] at gk
            cases gk
            exact ⟨pp, rfl, rfl, rfl⟩
        have hpp := List.mem_of_getElem? gp
        have ml : m < kas.length := (List.getElem?_eq_some_iff.mp gp).1
        obtain ⟨ys, y1, y2⟩ := hk.at_ pp hpp
        have y1L := eL _ _ (oldL _ _ (hk.new pp hpp).2 y1)
        have y2L : EnsA H'' ys (ents pp.1 0 (ps.map (·.2))) := EnsA.mono y2 fun c zs z => eL _ _ (oldL c _ (ne_of z hk.dk (by intro z; cases z)) z)
        have hDl : H'' D = some (.lst (nvs ((ps.map (·.2)).map List.length))) := by
          have e : (ps.map (·.2)).map List.length = ps.map fun g => g.2.length := by rw [List.map_map]; rfl
          rw [e]
          exact eL _ _ (exL _ _ p2)
        obtain ⟨ws, hws, hin⟩ := ents_ne.mp ((hk.keys pp.1).mp (List.mem_map.mpr ⟨pp, hpp, rfl⟩))
        have isw : isW pp.1 = true := List.all_eq_true.mp (hg.ok ws hws).2 _ hin
        have hR := hg.row isw s1 s8
        have nin : pp.1 ∉ kar.map (·.1) := fun z => by
          rw [kk1, List.map_take] at z
          obtain ⟨j, hj⟩ := List.mem_iff_getElem?.mp z
          have jl := (List.getElem?_eq_some_iff.mp hj).1
          rw [List.length_take] at jl
          rw [List.getElem?_take, if_pos (by omega)] at hj
          have a2 : (kas.map (·.1))[m]? = some pp.1 := by rw [List.getElem?_map, gp]; rfl
          have := (List.getElem?_inj (by rw [List.length_map]; omega) hk.one).mp (hj.trans a2.symm)
          omega
        have vn : valV (DLk kar) (Sum.inr pp.1) = none := by
          cases hv : valV (DLk kar) (Sum.inr pp.1) with
          | none => rfl
          | some v =>
            obtain ⟨q, hq, e1, _⟩ := dlk_val hv
            exact absurd (List.mem_map.mpr ⟨q, hq, e1⟩) nin
        refine ⟨rfl, .str pp.1, rfl, .str pp.1, rfl, .ref d, rfl, .str pp.1, rfl, d, .ref pp.2, rfl, .inl ⟨DLk kas, .inr pp.1, .inr ⟨od, eL _ _ hdL⟩, rfl, (dlk_of hpp hk.one).symm⟩, .ref D, rfl, .int (sz_ : Nat), rfl, rfl, rfl, fun r dr nr ndr _ => ?_⟩
        refine mk_row nr ndr y1L y2L hDl hR fun H5 e5 hrow => ?_
        have k5 := e5 _ _ kk2
        refine ⟨DLk kar, Sum.inr pp.1, rfl, k5, ?_, Ex.mut (eL.trans e5) nDD, kar ++ [(pp.1, r)], ?_, ?_, fun q hq => ?_⟩
        · have := congrArg List.length kk1
          rw [List.length_map, List.length_map, List.length_take] at this
          unfold DLk
          rw [List.length_map]
          exact sz_lt (by omega)
        · rw [List.map_append, kk1, List.take_add_one, gp, List.map_append]
          rfl
        · rw [upd_same, putK_new _ vn]
          unfold DLk
          rw [List.map_append]
          rfl
        · rcases List.mem_append.mp hq with hq | hq
          · exact ((kk3 q hq).ex e5).updx k5 (fun _ _ _ => by intro z; cases z) (fun _ => by intro z; cases z)
          · rw [List.mem_singleton.mp hq]
            exact hrow.updx k5 (fun _ _ _ => by intro z; cases z) (fun _ => by intro z; cases z)
      · obtain ⟨eL, kar, kk1, kk2, kk3⟩ := p
        rw [show (DLk kas).length = kas.length from List.length_map .., List.take_length] at kk1
        have fz := eL _ _ hdL
        refine ⟨fz, q DD kar _ (Ex.mut (p1.trans (exL.trans eL)) (fresh_back p1 hk.nd)) (fresh_back p1 (fresh_back hk.ex (hnone _ nDD))) (by rw [upd_ne nDDd]; exact kk2) ⟨by rw [kk1]; exact hk.one, fun k => by rw [kk1]; exact hk.keys k, fun p hp => ?_⟩⟩
        exact (kk3 p hp).updx fz (fun _ _ _ => by intro z; cases z) (fun _ => by intro z; cases z)

/-! ### Segment(..) -/
theorem kb_check_pages (T : TX K mg A FD TK CC) : KBn K (FD 56) ["pages", "least", "most"] 1 ["least", "most"] (fun us ws => us ++ ws) (fun vs zs => vs ++ zs) := by
  obtain ⟨oc, od, kV, doc, pm, an, cdv, ct, osl, e, lk, hcd⟩ := T.f_check_pages.ex
  rw [e]
  exact ⟨fun s us ws _ l1 l2 => match us, ws, l1, l2 with | [_], [_, _], _, _ => .of_eq rfl, fun r1 r2 => r1.append r2⟩
def sortPg (ps : List Pg) : List Pg := ps.mergeSort fun a b => decide (a.1 ≤ b.1)
theorem pages_sort {C : Addr} {H : Hp} {xs : List V} {ps : List Pg} {k : V → Int} (h : PagesAt C H xs ps) (hk : ∀ (i : Nat) (v : V) (g : Pg), xs[i]? = some v → ps[i]? = some g → k v = g.1) : PagesAt C H (SrtK.byKey k xs) (sortPg ps) := by
  have zl : (xs.zip ps).length = xs.length := by rw [List.length_zip, h.1, Nat.min_self]
  have zm : ∀ z ∈ xs.zip ps, ∃ p : Addr, z.1 = .ref p ∧ PageAt C H p z.2.1 z.2.2 ∧ k z.1 = z.2.1 := fun z hz => by
    obtain ⟨i, hi⟩ := List.mem_iff_getElem?.mp hz
    rw [List.getElem?_zip_eq_some] at hi
    obtain ⟨p, g, e1, e2, e3⟩ := h.2 i z.1 hi.1
    rw [hi.2] at e2
    cases e2
    exact ⟨p, e1, e3, hk i _ _ hi.1 hi.2⟩
  have m1 : ((xs.zip ps).mergeSort fun a b => decide (a.2.1 ≤ b.2.1)).map Prod.fst = SrtK.byKey k xs := by
    have := List.map_mergeSort (f := Prod.fst) (r := fun a b : V × Pg => decide (a.2.1 ≤ b.2.1)) (s := fun x y => decide (k x ≤ k y)) (l := xs.zip ps) fun a ha b hb => by
      obtain ⟨_, _, _, e1⟩ := zm a ha
      obtain ⟨_, _, _, e2⟩ := zm b hb
      rw [e1, e2]
    rw [this]
    unfold SrtK.byKey
    rw [List.map_fst_zip (by rw [h.1]; exact Nat.le_refl _)]
  have m2 : ((xs.zip ps).mergeSort fun a b => decide (a.2.1 ≤ b.2.1)).map Prod.snd = sortPg ps := by
    have := List.map_mergeSort (f := Prod.snd) (r := fun a b : V × Pg => decide (a.2.1 ≤ b.2.1)) (s := fun x y : Pg => decide (x.1 ≤ y.1)) (l := xs.zip ps) fun a ha b hb => rfl
    rw [this]
    unfold sortPg
    rw [List.map_snd_zip (by rw [h.1]; exact Nat.le_refl _)]
  refine ⟨by rw [← m1, ← m2, List.length_map, List.length_map], fun i v g => ?_⟩
  rw [← m1, List.getElem?_map] at g
  cases hz : ((xs.zip ps).mergeSort fun a b => decide (a.2.1 ≤ b.2.1))[i]? with
  | none => rw [hz] at g; cases g
  | some z =>
    rw [hz] at g
    have g : z.1 = v := Option.some.inj g
    obtain ⟨p, e1, e2, _⟩ := zm z (List.mem_mergeSort.mp (List.mem_of_getElem? hz))
    exact ⟨p, z.2, by rw [← g, e1], by rw [← m2, List.getElem?_map, hz]; rfl, e2⟩
theorem PagesAt.exN {C : Addr} {H H' : Hp} {xs : List V} {ps : List Pg} (h : PagesAt C H xs ps) (e : LamX.ExtN H H') : PagesAt C H' xs ps := ⟨h.1, fun i v g => by
  obtain ⟨p, q, h1, h2, dx, t, h3, h4, h5⟩ := h.2 i v g
  exact ⟨p, q, h1, h2, dx, t, e _ _ h3 (by intro ps z; cases z), tup_exN e h4, h5⟩⟩
/-- the number of the page at v -/
def numAt (H : Hp) : V → Int
  | .ref p => match H p with
    | some (.ins _ _ fs) => match fs.lookup ("number" : Str) with
      | some (.int n) => n
      | _ => 0
    | _ => 0
  | _ => 0
theorem numAt_is {C : Addr} {H : Hp} {p : Addr} {n : Int} {ws : List Str} (h : PageAt C H p n ws) : numAt H (.ref p) = n := by
  obtain ⟨dx, t, h1, _⟩ := h
  simp only [numAt, h1]
  rfl
theorem sort_len (ps : List Pg) : (sortPg ps).length = ps.length := List.length_mergeSort _
theorem sort_mem {ps : List Pg} {g : Pg} : g ∈ sortPg ps ↔ g ∈ ps := List.mem_mergeSort
theorem Pgs.sort {ps : List Pg} (h : Pgs (ps.map (·.2))) : Pgs ((sortPg ps).map (·.2)) :=
  ⟨by rw [List.length_map, sort_len]; have := h.few; rwa [List.length_map] at this, fun ws hw => by
    obtain ⟨g, hg, rfl⟩ := List.mem_map.mp hw
    exact h.ok _ (List.mem_map.mpr ⟨g, sort_mem.mp hg, rfl⟩)⟩
def segF (s : Nat) (t1 t2 d : Addr) : List (Str × V) := [("size", .int (s : Nat)), ("slot_numbers", .ref t1), ("slot_lengths", .ref t2), ("rows", .ref d)]
/-- at x stands a segment of the pages ps, by slots -/
def SegD (CS CR CB : Addr) (H : Hp) (x d : Addr) (s : Nat) (ps : List Pg) : Prop := ∃ (dx t1 t2 : Addr) (kas : List (Str × Addr)), H x = some (.ins CS dx (segF s t1 t2 d)) ∧ H t1 = some (.tup (ps.map fun g => V.int g.1)) ∧ H t2 = some (.tup (nvs (ps.map fun g => g.2.length))) ∧
  H d = some (.dK (DLk kas)) ∧ RowsAt CR CB H kas s (ps.map (·.2))
def SegAt (CS CR CB : Addr) (H : Hp) (x : Addr) (s : Nat) (ps : List Pg) : Prop := ∃ d, SegD CS CR CB H x d s ps
theorem RowsAt.ex {CR CB : Addr} {H H' : Hp} {kas : List (Str × Addr)} {s : Nat} {pgs : List (List Str)} (h : RowsAt CR CB H kas s pgs) (e : Ex H H') : RowsAt CR CB H' kas s pgs := ⟨h.one, h.keys, fun p hp => (h.row p hp).ex e⟩
theorem SegD.ex {CS CR CB : Addr} {H H' : Hp} {x d : Addr} {s : Nat} {ps : List Pg} (h : SegD CS CR CB H x d s ps) (e : Ex H H') : SegD CS CR CB H' x d s ps := by
  obtain ⟨dx, t1, t2, kas, h1, h2, h3, h4, h5⟩ := h
  exact ⟨dx, t1, t2, kas, e _ _ h1, e _ _ h2, e _ _ h3, e _ _ h4, h5.ex e⟩
theorem SegAt.ex {CS CR CB : Addr} {H H' : Hp} {x : Addr} {s : Nat} {ps : List Pg} (h : SegAt CS CR CB H x s ps) (e : Ex H H') : SegAt CS CR CB H' x s ps := by
  obtain ⟨d, h⟩ := h
  exact ⟨d, h.ex e⟩
/-- all but x and the tables stays -/
def ExNI (x : Addr) (H H' : Hp) : Prop := ∀ b o, b ≠ x → H b = some o → (∀ ps, o ≠ .tbl ps) → H' b = some o
def spSInit (C CS CR CB : Addr) (Tt : List (Addr × Str)) : Sp := fun vs H Q _ => ∃ (x dx l : Addr) (xs : List V) (ps : List Pg) (s : Nat), vs = [.ref x, .ref l, .int (s : Nat)] ∧ H x = some (.ins CS dx []) ∧ H l = some (.lst xs) ∧ PagesAt C H xs ps ∧ 1 ≤ ps.length ∧ (ps.map (·.1)).Nodup ∧ Pgs (ps.map (·.2)) ∧ 1 ≤ s ∧ s ≤ 8 ∧ LamX.Tabs Tt H ∧
  ∀ (d : Addr) (H' : Hp), (∀ kvs, H d ≠ some (.dK kvs)) → ExNI x H H' → LamX.Tabs Tt H' → SegD CS CR CB H' x d s (sortPg ps) → Q .non H'
set_option maxHeartbeats 8000000 in
theorem ok_sinit (T : TX K mg A FD TK CC) {Tt : List (Addr × Str)} {PS : Addr} (TBS : LamX.TabB base mg (CC 120) PS) (hmS : (PS, lamQ "Segment.__init__") ∈ Tt) (huS : ∀ p ∈ Tt, p.1 = PS → p.2 = lamQ "Segment.__init__") :
    FnOk P w K mg base CX0 13 (A 120) (FD 120) ["self", "pages", "size"] (spSInit (A 54) (A 71) (A 62) (A 61) Tt) := by
  have G_check_pages := (ok_check_pages (P := P) (w := w) (base := base) T).mono (show 1 ≤ 12 by decide)
  have KB_check_pages := kb_check_pages T
  have G_check_size := (ok_check_size (P := P) (w := w) (base := base) T).mono (show 3 ≤ 12 by decide)
  have G_Page_len := (ok_p_len (P := P) (w := w) (base := base) T).mono (show 1 ≤ 11 by decide)
  have G_rows_of := (ok_rows_of (P := P) (w := w) (base := base) T).mono (show 11 ≤ 12 by decide)
  refine T.F_Segment_init.ok (k := 12) sc_Segment_init (fun vs H Q E h => ?_) (fun A' outer s H vs Q E hr h => ?_)
  · obtain ⟨x, dx, l, xs, ps, s, rfl, _⟩ := h
    rfl
  · obtain ⟨x, dx, l, xs, ps, sz_, rfl, hx, hl, hP, l1, nd, hg, s1, s8, hT, q⟩ := h
    refine ⟨_, (pss_cons (ps_expr (pe_callN G_check_pages hr (by rfl) T.g_check_pages T.f_check_pages.kp KB_check_pages pass0 (pa_cons (pv 1) pa_nil) (pk_cons pe_int (pk_cons (pe_glob (v := .int 60) (by rfl) T.c_MOST_LENGTHS ⟨_, rfl⟩) pk_nil))))
      (pss_cons (ps_expr (pe_call G_check_size hr (by rfl) T.g_check_size T.f_check_size.kp T.b_check_size .nil pass0 (pa_cons (pv 2) pa_nil)))
      (pss_cons (ps_set (i := 3) sc_Segment_init.nd rfl (.inl rfl) (SrtK.pe_sortK (by rfl) T.m_sorted (pv 1) TBS rfl hmS huS hr (SrtK.lamP_by (by decide +kernel))))
      (pss_cons (ps_fld (pv 0) (pv 2) rfl)
      (pss_cons (ps_fld (pv 0) (pe_callTy (tupK (K := K) rfl) (by rfl) T.m_tuple (by decide +kernel) (pa_cons (pe_lc (own := [("page", 4)])  rfl sc_Segment_init.nd (piLK (K := K) rfl (pv 3)) (blkOk_by (own := [("page", 4)]) (N := N_Segment_init) (sc := defScope (inClass (topS 71) 0)) (by decide +kernel)) (fun _ _ _ _ _ => (pg_name (i := 4) sc_Segment_init.nd rfl (Or.inl rfl))) (fun _ _ _ _ _ => pts_nil) (fun _ _ _ _ _ => (fldK (K := K) rfl (pv 4) rfl))) pa_nil)) rfl)
      (pss_cons (ps_fld (pv 0) (pe_callTy (tupK (K := K) rfl) (by rfl) T.m_tuple (by decide +kernel) (pa_cons (pe_lc (own := [("page", 4)])  rfl sc_Segment_init.nd (piLK (K := K) rfl (pv 3)) (blkOk_by (own := [("page", 4)]) (N := N_Segment_init) (sc := defScope (inClass (topS 71) 0)) (by decide +kernel)) (fun _ _ _ _ _ => (pg_name (i := 4) sc_Segment_init.nd rfl (Or.inl rfl))) (fun _ _ _ _ _ => pts_nil) (fun _ _ _ _ _ => (pe_callB (Own.cr_lenO G_Page_len T.M_Page_len T.b_Page_len pass0 hr) (by rfl) T.m_len (by decide +kernel) (pa_cons (pv 4) pa_nil)))) pa_nil)) rfl)
      (pss_one (ps_fld (pv 0) (pe_call G_rows_of hr (by rfl) T.g_rows_of T.f_rows_of.kp T.b_rows_of .nil pass0 (pa_cons (pv 3) (pa_cons (pv 2) pa_nil))) rfl)))))))), ?_⟩
    have few := hg.few
    rw [List.length_map] at few
    refine ⟨.ref l, rfl, rfl, rfl, l, xs, ps, rfl, hl, hP, l1, few, nd, fun H1 e1 => ?_⟩
    refine ⟨.int (sz_ : Nat), rfl, sz_, rfl, s1, s8, fun H2 e2 => ?_⟩
    have x2 := e1.trans e2
    have hP2 := hP.ex x2
    have pk : ∀ (i : Nat) (v : V) (g : Pg), xs[i]? = some v → ps[i]? = some g → numAt H2 v = g.1 := fun i v g g1 g2 => by
      obtain ⟨p, g', rfl, e3, e4⟩ := hP2.2 i v g1
      rw [g2] at e3
      cases e3
      exact numAt_is e4
    refine ⟨.ref l, rfl, l, xs, numAt H2, rfl, SqL.of (x2 _ _ hl), fun y hy => ?_, LamX.Tabs.ext hT x2, fun H3 e3 T3 b nb => ?_⟩
    · obtain ⟨i, hi⟩ := List.mem_iff_getElem?.mp hy
      obtain ⟨p, g, rfl, e3, dx', t, h1, h2, _⟩ := hP2.2 i y hi
      refine ⟨p, _, dx', _, rfl, h1, T.cl_Page, T.n_Page_number, ?_⟩
      rw [pk i _ g hi e3]
      rfl
    have hS := (pages_sort hP2 pk).exN e3
    have hb4 := upd_same (H := H3) (a := b) (o := .lst (SrtK.byKey (numAt H2) xs))
    have e4 := Ex.new (o := .lst (SrtK.byKey (numAt H2) xs)) nb
    have hx4 := e4 _ _ (e3 _ _ (x2 _ _ hx) (by intro ps z; cases z))
    have hS4 := hS.ex e4
    have T4 := LamX.Tabs.ext T3 e4
    have F4 : ∀ b o, H b = some o → (∀ ps, o ≠ .tbl ps) → (upd H3 b (.lst (SrtK.byKey (numAt H2) xs))) b = some o → True := fun _ _ _ _ _ => trivial
    have F4 : LamX.ExtN H (upd H3 b (.lst (SrtK.byKey (numAt H2) xs))) := (LamX.ExtN.of x2).trans (e3.trans (LamX.ExtN.of e4))
    clear hS pk hP2
    show tSeq _ _ _ _ (upd H3 b (.lst (SrtK.byKey (numAt H2) xs)))
    generalize (SrtK.byKey (numAt H2) xs) = ys at hb4 hS4 hx4 T4 F4 ⊢
    generalize (upd H3 b (.lst ys)) = H4 at hb4 hS4 hx4 T4 F4 ⊢
    -- all but the segment
    obtain ⟨HB, hBx, hBo⟩ : ∃ HB : Hp, HB x = none ∧ ∀ c, c ≠ x → HB c = H4 c := ⟨fun c => if c = x then none else H4 c, if_pos rfl, fun c h => if_neg h⟩
    have fB : ∀ c o, H4 c = some o → (∀ dy fs, o ≠ .ins (A 71) dy fs) → HB c = some o := fun c o h n => by
      rw [hBo c (ne_of h hx4 (n _ _))]
      exact h
    have eB : Ex HB H4 := fun c o h => by
      by_cases z : c = x
      · rw [z, hBx] at h
        cases h
      · rw [hBo c z] at h
        exact h
    have hbB : HB b = some (.lst ys) := fB _ _ hb4 (fun _ _ => by intro z; cases z)
    have hSB : PagesAt (A 54) HB ys (sortPg ps) := ⟨hS4.1, fun i v g => by
      obtain ⟨p, g', rfl, h2, dy, t, h3, h4, h5⟩ := hS4.2 i v g
      have px : p ≠ x := fun e => by
        rw [e, hx4] at h3
        exact nomatch (HO.ins.inj (Option.some.inj h3)).2.2
      exact ⟨p, g', rfl, h2, dy, t, by rw [hBo p px]; exact h3, fB _ _ h4 (fun _ _ => by intro z; cases z), h5⟩⟩
    have TB : LamX.Tabs Tt HB := fun q hq => by
      obtain ⟨tb, t1, t2, t3⟩ := T4 q hq
      refine ⟨tb, fB _ _ t1 (fun _ _ => by intro z; cases z), t2, fun pos cv hc => ?_⟩
      obtain ⟨c, c1, c2⟩ := t3 pos cv hc
      exact ⟨c, c1, fB _ _ c2 (fun _ _ => by intro z; cases z)⟩
    have done : ∀ (d : Addr) (H' : Hp), HB d = none → d ≠ x → Ex HB H' → SegD (A 71) (A 62) (A 61) H' x d sz_ (sortPg ps) → Q .non H' := fun d H' nd ndx e sg => q d H' (fun kvs h => by
      have := F4 d _ h (by intro ps z; cases z)
      rw [← hBo d ndx, nd] at this
      cases this) (fun c o nc h n => e _ _ (by rw [hBo c nc]; exact F4 c o h n)) (TB.ext e) sg
    clear hP hl T4 F4 hS4 hb4
    have yl : ys.length = (sortPg ps).length := hSB.1
    have pl := sort_len ps
    have hgS := hg.sort
    generalize sortPg ps = qs at hSB done yl pl hgS
    refine ⟨.int (sz_ : Nat), rfl, .ref x, rfl, x, A 71, dx, [], rfl, hx4, T.cl_Segment, T.n_Segment_size, (by show 0 < 1000; decide), ?_⟩
    have e5 : Ex HB (upd H4 x (.ins (A 71) dx (putF "size" (.int (sz_ : Nat)) []))) := Ex.mut eB hBx
    have hx5 := upd_same (H := H4) (a := x) (o := .ins (A 71) dx (putF "size" (.int (sz_ : Nat)) []))
    generalize (upd H4 x (.ins (A 71) dx (putF "size" (.int (sz_ : Nat)) []))) = H5 at e5 hx5 ⊢
    refine ⟨.ref b, rfl, b, rfl, ⟨_, SqL.of (e5 _ _ hbB)⟩, fun D nD => ?_⟩
    have get : ∀ {R : Prop} {HX : Hp} {i : Nat} {v : V}, Ex HB HX → ys[i]? = some v → (∀ (p dy t : Addr) (g : Pg), v = .ref p → qs[i]? = some g → HX p = some (.ins (A 54) dy [("number", .int g.1), ("in_turn", .ref t)]) → PageAt (A 54) HX p g.1 g.2 → g.2.length ≤ 120 → R) → R := fun e g k => by
      obtain ⟨p, g', e1, e2, hp⟩ := (hSB.ex e).2 _ _ g
      obtain ⟨dy, t, h1, h2, h3, h4⟩ := id hp
      exact k p dy t g' e1 e2 h1 hp h3
    refine lc_list (K := K) (xs := ys) (fun i H' => Ex HB H' ∧ H' x = some (.ins (A 71) dx (putF "size" (.int (sz_ : Nat)) [])) ∧ H' D = some (.lst ((qs.take i).map fun g => V.int g.1))) ⟨e5.trans (Ex.new nD), (Ex.new nD) _ _ hx5, upd_same⟩ (fun i H' _ p => SqL.of (p.1 _ _ hbB)) (fun i v H2 hv p => ?_) (fun H6 p => ?_)
    · obtain ⟨p1, p2, p3⟩ := p
      refine get p1 hv fun p dy t g e1 gg h1 hp _ => ?_
      subst e1
      have nDx : D ≠ x := (ne_of_none hx5 nD).symm
      refine ⟨rfl, .ref p, rfl, p, A 54, dy, _, _, rfl, h1, T.cl_Page, T.n_Page_number, rfl, _, p3, ?_, Ex.mut p1 (fresh_back e5 nD), ?_, ?_⟩
      · rw [List.length_map, List.length_take]
        exact sz_lt (by omega)
      · rw [upd_ne nDx.symm]
        exact p2
      · rw [upd_same, List.take_add_one, gg, List.map_append]
        rfl
    obtain ⟨e6, hx6, hD6⟩ := p
    rw [yl, List.take_length] at hD6
    refine ⟨D, _, rfl, .inl ⟨SqL.of hD6, fun t1 nt1 => ?_⟩⟩
    have e7 := Ex.new (o := .tup (qs.map fun g => V.int g.1)) nt1
    have ht7 := upd_same (H := H6) (a := t1) (o := .tup (qs.map fun g => V.int g.1))
    have hx7 := e7 _ _ hx6
    have e7 := e6.trans e7
    refine ⟨.ref x, rfl, x, A 71, dx, _, rfl, hx7, T.cl_Segment, T.n_Segment_slot_numbers, (by show 1 < 1000; decide), ?_⟩
    have e8 : Ex HB (upd (upd H6 t1 (.tup (qs.map fun g => V.int g.1))) x (.ins (A 71) dx (putF "slot_numbers" (.ref t1) (putF "size" (.int (sz_ : Nat)) [])))) := Ex.mut e7 hBx
    have hx8 := upd_same (H := upd H6 t1 (.tup (qs.map fun g => V.int g.1))) (a := x) (o := .ins (A 71) dx (putF "slot_numbers" (.ref t1) (putF "size" (.int (sz_ : Nat)) [])))
    have ht8 : (upd (upd H6 t1 (.tup (qs.map fun g => V.int g.1))) x (.ins (A 71) dx (putF "slot_numbers" (.ref t1) (putF "size" (.int (sz_ : Nat)) [])))) t1 = some (.tup (qs.map fun g => V.int g.1)) := by
      rw [upd_ne (ne_of_none hx6 nt1).symm]
      exact ht7
    show tSeq _ _ _ _ (upd (upd H6 t1 (.tup (qs.map fun g => V.int g.1))) x (.ins (A 71) dx (putF "slot_numbers" (.ref t1) (putF "size" (.int (sz_ : Nat)) []))))
    generalize (upd (upd H6 t1 (.tup (qs.map fun g => V.int g.1))) x (.ins (A 71) dx (putF "slot_numbers" (.ref t1) (putF "size" (.int (sz_ : Nat)) [])))) = H8 at e8 hx8 ht8 ⊢
    clear hx7 ht7 e7 nt1 hD6 hx6 e6 nD hx5 e5 eB hx4
    refine ⟨.ref b, rfl, b, rfl, ⟨_, SqL.of (e8 _ _ hbB)⟩, fun D2 nD => ?_⟩
    refine lc_list (K := K) (xs := ys) (fun i H' => Ex HB H' ∧ Ex H8 H' ∧ H' D2 = some (.lst (nvs ((qs.take i).map fun g => g.2.length)))) ⟨e8.trans (Ex.new nD), Ex.new nD, upd_same⟩ (fun i H' _ p => SqL.of (p.1 _ _ hbB)) (fun i v H2 hv p => ?_) (fun H9 p => ?_)
    · obtain ⟨p1, p2, p3⟩ := p
      refine get p1 hv fun p dy t g e1 gg h1 hp gl => ?_
      subst e1
      refine ⟨rfl, .ref p, rfl, p, dy, _, rfl, h1, p, g.1, g.2, rfl, hp, (g.2.length : Int), rfl, ⟨by omega, by omega⟩, _, p3, ?_, Ex.mut p1 (fresh_back e8 nD), Ex.mut p2 nD, ?_⟩
      · unfold nvs
        rw [List.length_map, List.length_map, List.length_take]
        exact sz_lt (by omega)
      · rw [upd_same, List.take_add_one, gg, List.map_append]
        unfold nvs
        rw [List.map_append]
        rfl
    obtain ⟨e9, x9, hD9⟩ := p
    rw [yl, List.take_length] at hD9
    refine ⟨D2, _, rfl, .inl ⟨SqL.of hD9, fun t2 nt2 => ?_⟩⟩
    have n2 := Ex.new (o := .tup (nvs (qs.map fun g => g.2.length))) nt2
    have hu2 := upd_same (H := H9) (a := t2) (o := .tup (nvs (qs.map fun g => g.2.length)))
    have hx10 := n2 _ _ (x9 _ _ hx8)
    have ht10 := n2 _ _ (x9 _ _ ht8)
    have e10 := e9.trans n2
    have t2x : t2 ≠ x := (ne_of_none (x9 _ _ hx8) nt2).symm
    have t1x : t1 ≠ x := ne_of ht8 hx8 (by intro z; cases z)
    generalize (upd H9 t2 (.tup (nvs (qs.map fun g => g.2.length)))) = H10 at hu2 hx10 ht10 e10 ⊢
    refine ⟨.ref x, rfl, x, A 71, dx, _, rfl, hx10, T.cl_Segment, T.n_Segment_slot_lengths, (by show 2 < 1000; decide), ?_⟩
    have e11 : Ex HB (upd H10 x (.ins (A 71) dx (putF "slot_lengths" (.ref t2) (putF "slot_numbers" (.ref t1) (putF "size" (.int (sz_ : Nat)) []))))) := Ex.mut e10 hBx
    have hx11 := upd_same (H := H10) (a := x) (o := .ins (A 71) dx (putF "slot_lengths" (.ref t2) (putF "slot_numbers" (.ref t1) (putF "size" (.int (sz_ : Nat)) []))))
    have hu11 : (upd H10 x (.ins (A 71) dx (putF "slot_lengths" (.ref t2) (putF "slot_numbers" (.ref t1) (putF "size" (.int (sz_ : Nat)) []))))) t2 = some (.tup (nvs (qs.map fun g => g.2.length))) := by rw [upd_ne t2x]; exact hu2
    have ht11 : (upd H10 x (.ins (A 71) dx (putF "slot_lengths" (.ref t2) (putF "slot_numbers" (.ref t1) (putF "size" (.int (sz_ : Nat)) []))))) t1 = some (.tup (qs.map fun g => V.int g.1)) := by rw [upd_ne t1x]; exact ht10
    generalize (upd H10 x (.ins (A 71) dx (putF "slot_lengths" (.ref t2) (putF "slot_numbers" (.ref t1) (putF "size" (.int (sz_ : Nat)) []))))) = H11 at e11 hx11 hu11 ht11 ⊢
    refine ⟨.ref b, rfl, .int (sz_ : Nat), rfl, b, ys, qs, sz_, rfl, e11 _ _ hbB, hSB.ex e11, hgS, s1, s8, fun d kas H12 e12 nd12 hd12 hrw => ?_⟩
    have hx12 := e12 _ _ hx11
    have dX : d ≠ x := (ne_of_none hx11 nd12).symm
    refine ⟨.ref x, rfl, x, A 71, dx, _, rfl, hx12, T.cl_Segment, T.n_Segment_rows, (by show 3 < 1000; decide), done d _ (fresh_back e11 nd12) dX (Ex.mut (e11.trans e12) hBx) ⟨dx, t1, t2, kas, upd_same, by rw [upd_ne t1x]; exact e12 _ _ ht11, by rw [upd_ne t2x]; exact e12 _ _ hu11, by rw [upd_ne dX]; exact hd12, hrw.one, hrw.keys, fun p hp => ?_⟩⟩
    obtain ⟨dr, tt, bs, r1, r2, r3⟩ := hrw.row p hp
    have hx12 : H12 x = some (.ins (A 71) dx [("size", .int (sz_ : Nat)), ("slot_numbers", .ref t1), ("slot_lengths", .ref t2)]) := hx12
    have ne1 : ("size" : Str) ≠ "word" := by decide +kernel
    have ne2 : ("size" : Str) ≠ "first" := by decide +kernel
    have px : p.2 ≠ x := fun e => by
      rw [e, hx12] at r1
      exact ne1 (congrArg Prod.fst (List.cons.inj (HO.ins.inj (Option.some.inj r1)).2.2).1)
    refine ⟨dr, tt, bs, by rw [upd_ne px]; exact r1, by rw [upd_ne (ne_of r2 hx12 (by intro z; cases z))]; exact r2, r3.1, fun i c g => ?_⟩
    obtain ⟨db, hb⟩ := r3.2 i c g
    have cx : c ≠ x := fun e => by
      rw [e, hx12] at hb
      exact ne2 (congrArg Prod.fst (List.cons.inj (HO.ins.inj (Option.some.inj hb)).2.2).1)
    exact ⟨db, by rw [upd_ne cx]; exact hb⟩

/-! ### Segment: len, row, words; places_at -/
/-- pages by slots, as a segment keeps them -/
structure SegOk (s : Nat) (ps : List Pg) : Prop where
  pg : Pgs (ps.map (·.2))
  pos : 1 ≤ ps.length
  lo : 1 ≤ s
  hi : s ≤ 8
  num : ∀ g ∈ ps, 1 ≤ g.1 ∧ g.1 ≤ 9999
  inc : (ps.map (·.1)).Pairwise (· < ·)
theorem SegOk.few {s : Nat} {ps : List Pg} (h : SegOk s ps) : ps.length ≤ 60 := by
  have := h.pg.few
  rwa [List.length_map] at this
def spSLen (CS CR CB : Addr) : Sp := fun vs H Q _ => ∃ (x : Addr) (s : Nat) (ps : List Pg), vs = [.ref x] ∧ SegAt CS CR CB H x s ps ∧ Q (.int (ps.length : Nat)) H
set_option maxHeartbeats 4000000 in
theorem ok_slen (T : TX K mg A FD TK CC) : FnOk P w K mg base CX0 1 (A 121) (FD 121) ["self"] (spSLen (A 71) (A 62) (A 61)) := by
  refine T.f_Segment_len.ok (k := 0) sc_Segment_len (fun vs H Q E h => ?_) (fun cdv A' outer s H vs Q E hr h => ?_)
  · obtain ⟨x, s, ps, rfl, _⟩ := h
    rfl
  · obtain ⟨x, s, ps, rfl, ⟨d, dx, t1, t2, kas, h1, h2, h3, h4, h5⟩, q⟩ := h
    refine ⟨_, (pss_one (ps_ret (pe_callB (lenK (K := K) rfl) (by rfl) T.m_len (by decide +kernel) (pa_cons (fldK (K := K) rfl (pv 0) rfl) pa_nil)))), ?_⟩
    refine ⟨.ref x, rfl, x, A 71, dx, _, _, rfl, h1, T.cl_Segment, T.n_Segment_slot_numbers, rfl, t1, _, rfl, .inr (SqT.of h2), ?_⟩
    rw [List.length_map]
    exact q
def spSNum (CS CR CB : Addr) : Sp := fun vs H Q _ => ∃ (x : Addr) (s : Nat) (ps : List Pg), vs = [.ref x] ∧ SegAt CS CR CB H x s ps ∧ RetL (ps.map fun g => V.int g.1) H Q
set_option maxHeartbeats 4000000 in
theorem ok_snums (T : TX K mg A FD TK CC) : FnOk P w K mg base CX0 1 (A 122) (FD 122) ["self"] (spSNum (A 71) (A 62) (A 61)) := by
  refine T.f_Segment_numbers.ok (k := 0) sc_Segment_numbers (fun vs H Q E h => ?_) (fun cdv A' outer s H vs Q E hr h => ?_)
  · obtain ⟨x, s, ps, rfl, _⟩ := h
    rfl
  · obtain ⟨x, s, ps, rfl, ⟨d, dx, t1, t2, kas, h1, h2, h3, h4, h5⟩, q⟩ := h
    refine ⟨_, (pss_one (ps_ret (pe_callTy (listK (K := K) rfl) (by rfl) T.m_list (by decide +kernel) (pa_cons (fldK (K := K) rfl (pv 0) rfl) pa_nil)))), ?_⟩
    exact ⟨.ref x, rfl, x, A 71, dx, _, _, rfl, h1, T.cl_Segment, T.n_Segment_slot_numbers, rfl, t1, _, rfl, .inr (SqT.of h2), fun l nl => q l _ nl (Ex.new nl) upd_same⟩
def spSLens (CS CR CB : Addr) : Sp := fun vs H Q _ => ∃ (x : Addr) (s : Nat) (ps : List Pg), vs = [.ref x] ∧ SegAt CS CR CB H x s ps ∧ RetL (nvs (ps.map fun g => g.2.length)) H Q
set_option maxHeartbeats 4000000 in
theorem ok_slens (T : TX K mg A FD TK CC) : FnOk P w K mg base CX0 1 (A 123) (FD 123) ["self"] (spSLens (A 71) (A 62) (A 61)) := by
  refine T.f_Segment_lengths.ok (k := 0) sc_Segment_lengths (fun vs H Q E h => ?_) (fun cdv A' outer s H vs Q E hr h => ?_)
  · obtain ⟨x, s, ps, rfl, _⟩ := h
    rfl
  · obtain ⟨x, s, ps, rfl, ⟨d, dx, t1, t2, kas, h1, h2, h3, h4, h5⟩, q⟩ := h
    refine ⟨_, (pss_one (ps_ret (pe_callTy (listK (K := K) rfl) (by rfl) T.m_list (by decide +kernel) (pa_cons (fldK (K := K) rfl (pv 0) rfl) pa_nil)))), ?_⟩
    exact ⟨.ref x, rfl, x, A 71, dx, _, _, rfl, h1, T.cl_Segment, T.n_Segment_slot_lengths, rfl, t2, _, rfl, .inr (SqT.of h3), fun l nl => q l _ nl (Ex.new nl) upd_same⟩
/-- the row of any word -/
def spSRowA (CS CR CB : Addr) : Sp := fun vs H Q _ => ∃ (x : Addr) (s : Nat) (ps : List Pg) (k : Str), vs = [.ref x, .str k] ∧ SegAt CS CR CB H x s ps ∧ SegOk s ps ∧ isW k = true ∧
  ∀ (r : Addr) (H' : Hp), Ex H H' → RowAt CR CB H' r k s (ents k 0 (ps.map (·.2))) ((ps.map (·.2)).map List.length) → Q (.ref r) H'
set_option maxHeartbeats 4000000 in
theorem ok_srowA (T : TX K mg A FD TK CC) : FnOk P w K mg base CX0 12 (A 124) (FD 124) ["self", "word"] (spSRowA (A 71) (A 62) (A 61)) := by
  have G_check_word := (ok_check_word (P := P) (w := w) (base := base) T).mono (show 2 ≤ 11 by decide)
  have G_Segment_lengths := (ok_slens (P := P) (w := w) (base := base) T).mono (show 1 ≤ 11 by decide)
  have G_Row := (ok_rinit (P := P) (w := w) (base := base) T).mono (show 9 ≤ 10 by decide)
  have KB3_Row := kb_row T
  refine T.f_Segment_row.ok (k := 11) sc_Segment_row (fun vs H Q E h => ?_) (fun cdv A' outer s H vs Q E hr h => ?_)
  · obtain ⟨x, s, ps, k, rfl, _⟩ := h
    rfl
  · obtain ⟨x, s, ps, k, rfl, hS, ok, hw, q⟩ := h
    obtain ⟨d, dx, t1, t2, kas, h1, h2, h3, h4, h5⟩ := id hS
    refine ⟨_, (pss_cons (ps_expr (pe_call G_check_word hr (by rfl) T.g_check_word T.f_check_word.kp T.b_check_word .nil pass0 (pa_cons (pv 1) pa_nil)))
      (pss_cons (ps_if (pt_cmp (pc_din (hu_of hr) (pv 1) (fldK (K := K) rfl (pv 0) rfl)))
      (pss_one (ps_ret (pe_dget (hu_of hr) (fldK (K := K) rfl (pv 0) rfl) (pv 1) (fun _ _ => rfl))))
      pss_nil)
      (pss_one (ps_ret (pe_makeK T.M_Row G_Row hr (by rfl) T.k_Row KB3_Row pass0 (pa_cons (pv 1) (pa_cons (pe_lst pa_nil) (pa_cons (pe_meth0 (pv 0) T.cl_Segment T.M_Segment_lengths G_Segment_lengths hr T.b_Segment_lengths .nil pass0) pa_nil))) (pk_cons (fldK (K := K) rfl (pv 0) rfl) pk_nil)))))), ?_⟩
    refine ⟨.str k, rfl, k, rfl, hw, fun H1 e1 => ?_⟩
    by_cases hn : ents k 0 (ps.map (·.2)) = []
    · have hd : valV (DLk kas) (Sum.inr k) = none := by
        cases hv : valV (DLk kas) (Sum.inr k) with
        | none => rfl
        | some v =>
          obtain ⟨p, hp, e, _⟩ := dlk_val hv
          exact absurd hn ((h5.keys k).mp (List.mem_map.mpr ⟨p, hp, e⟩))
      refine ⟨.str k, rfl, .ref x, rfl, x, A 71, dx, _, _, rfl, e1 _ _ h1, T.cl_Segment, T.n_Segment_rows, rfl, d, none, rfl, .inl ⟨DLk kas, .inr k, .inl (e1 _ _ h4), rfl, hd.symm⟩, false, rfl, iteF ?_⟩
      refine ⟨.str k, rfl, by show 0 ≤ sizeLine; decide, fun l nl => ?_⟩
      have e2 := Ex.new (o := .lst []) nl
      have hl := upd_same (H := H1) (a := l) (o := .lst [])
      generalize (upd H1 l (.lst [])) = H2 at e2 hl ⊢
      have e12 := e1.trans e2
      refine ⟨.ref x, rfl, x, dx, _, rfl, e12 _ _ h1, rfl, x, s, ps, rfl, hS.ex e12, fun m H3 nm e3 hm => ?_⟩
      have e13 := e12.trans e3
      have few := ok.few
      refine ⟨.ref x, rfl, x, A 71, dx, _, _, rfl, e13 _ _ h1, T.cl_Segment, T.n_Segment_size, rfl, rfl, rfl, fun r rdx nr nrd _ => ?_⟩
      have hm' : H3 m = some (.lst (nvs ((ps.map (·.2)).map List.length))) := by rw [List.map_map]; exact hm
      have hR := ok.pg.row hw ok.lo ok.hi
      refine mk_row nr nrd (e3 _ _ hl) (es := ents k 0 (ps.map (·.2))) (by rw [hn]; exact ⟨rfl, fun i e g => by cases g⟩) hm' hR fun H4 e4 hr4 => ?_
      exact q r H4 (e13.trans e4) hr4
    · obtain ⟨p, hp, rfl⟩ := List.mem_map.mp ((h5.keys k).mpr hn)
      have hd := dlk_of hp h5.one
      refine ⟨.str p.1, rfl, .ref x, rfl, x, A 71, dx, _, _, rfl, e1 _ _ h1, T.cl_Segment, T.n_Segment_rows, rfl, d, some (.ref p.2), rfl, .inl ⟨DLk kas, .inr p.1, .inl (e1 _ _ h4), rfl, hd.symm⟩, true, rfl, iteT ?_⟩
      exact ⟨.ref x, rfl, x, A 71, dx, _, _, rfl, e1 _ _ h1, T.cl_Segment, T.n_Segment_rows, rfl, .str p.1, rfl, d, .ref p.2, rfl, .inl ⟨DLk kas, .inr p.1, .inl (e1 _ _ h4), rfl, hd.symm⟩, q p.2 H1 e1 ((h5.row p hp).ex e1)⟩

/-! ### len of a row -/
def spRLen (CR CB : Addr) : Sp := fun vs H Q _ => ∃ (r : Addr) (z : Str) (s : Nat) (es : List En) (ls : List Nat), vs = [.ref r] ∧ RowAt CR CB H r z s es ls ∧ RowIs z s es ls ∧ RetV (.int (es.length : Int)) H Q
set_option maxHeartbeats 8000000 in
theorem ok_rlen (T : TX K mg A FD TK CC) : FnOk P w K mg base CX0 1 (A 111) (FD 111) ["self"] (spRLen (A 62) (A 61)) := by
  refine T.f_Row_len.ok sc_Row_len (fun vs H Q E h => ?_) (fun cdv A' outer s H vs Q E hr h => ?_)
  · obtain ⟨r, z, s, es, ls, rfl, _⟩ := h
    rfl
  · obtain ⟨r, z, s, es, ls, rfl, ⟨dx, t, bs, h1, h2, h3⟩, hR, q⟩ := h
    refine ⟨_, (pss_one (ps_ret (pe_callB RgV.cr_lenR (by rfl) T.m_len (by decide +kernel) (pa_cons (pe_callTy RgV.cr_range1 (by rfl) T.m_range (by decide +kernel) (pa_cons (pe_callB (sumK (K := K) rfl rfl) (by rfl) T.m_sum (by decide +kernel) (pa_cons (pe_lc (own := [("block", 1)])  rfl sc_Row_len.nd (piTK (K := K) rfl (fldK (K := K) rfl (pv 0) rfl)) (blkOk_by (own := [("block", 1)]) (N := N_Row_len) (sc := defScope (inClass (topS 62) 2)) (by decide +kernel)) (fun _ _ _ _ _ => (pg_name (i := 1) sc_Row_len.nd rfl (Or.inl rfl))) (fun _ _ _ _ _ => pts_nil) (fun _ _ _ _ _ => (fldK (K := K) rfl (pv 1) rfl))) pa_nil)) pa_nil)) pa_nil)))), ?_⟩
    have few := hR.ens.few
    have nbl := nb_le (n := es.length) (s := s) hR.lo
    refine ⟨.ref r, rfl, r, A 62, dx, _, _, rfl, h1, T.cl_Row, T.n_Row_cut, rfl, t, rfl, ⟨_, SqT.of h2⟩, fun D nD => ?_⟩
    refine lc_tup (K := K) (xs := bs.map V.ref) (fun i H' => Ex H H' ∧ H' D = some (.lst ((zsI ((List.range i).map fun j => (cutE es s j).length)).map V.int))) ⟨Ex.new nD, upd_same⟩ (fun i H' _ p => ex_t p.1 (SqT.of h2)) (fun i v H2 hv p => ?_) (fun H2 p => ?_)
    · obtain ⟨p1, p2⟩ := p
      obtain ⟨b, gb, rfl, ib⟩ := refs_at hv
      obtain ⟨db, hb⟩ := (h3.2 i b gb).ex p1
      refine ⟨rfl, .ref b, rfl, b, A 61, db, _, _, rfl, hb, T.cl_Block, T.n_Block_many, rfl, _, p2, ?_, Ex.mut p1 nD, ?_⟩
      · rw [List.length_map, zsI_len, List.length_map, List.length_range]
        exact sz_lt (by have := h3.1; omega)
      · rw [upd_same, List.range_succ, List.map_append]
        unfold zsI
        rw [List.map_append, List.map_append]
        rfl
    · obtain ⟨p1, p2⟩ := p
      rw [List.length_map, h3.1] at p2
      refine ⟨D, _, rfl, SqL.of p2, _, rfl, fun rg nr => ?_⟩
      rw [sum_cut, all_cut hR.lo]
      exact ⟨rg, (es.length : Int), rfl, upd_same, by omega, by omega, q _ (p1.trans (Ex.new nr))⟩

/-! ### triples of slot, place and word -/
abbrev Tr := SrtK.T3
def duo (i : Nat) : Nat → List Str → List Tr
  | _, [] => []
  | j, w :: r => (i, j, w) :: duo i (j + 1) r
def dueT : Nat → List (List Str) → List Tr
  | _, [] => []
  | i, ws :: r => duo i 0 ws ++ dueT (i + 1) r
def tolE (w : Str) (es : List En) : List Tr := es.flatMap fun e => e.2.map fun j => (e.1, j, w)
def tolW (pgs : List (List Str)) (ks : List Str) : List Tr := ks.flatMap fun k => tolE k (ents k 0 pgs)
def srt3 (ts : List Tr) : List Tr := ts.mergeSort fun a b => decide (SrtK.key3 a ≤ SrtK.key3 b)
theorem duo_mem {i : Nat} {t : Tr} : ∀ {ws : List Str} {j : Nat}, t ∈ duo i j ws ↔ t.1 = i ∧ j ≤ t.2.1 ∧ ws[t.2.1 - j]? = some t.2.2
  | [], j => ⟨fun h => (by cases h), fun h => by simp at h⟩
  | w :: r, j => by
    obtain ⟨a, b, c⟩ := t
    show (a, b, c) ∈ (i, j, w) :: duo i (j + 1) r ↔ _
    rw [List.mem_cons, duo_mem (ws := r)]
    show _ ↔ a = i ∧ j ≤ b ∧ (w :: r)[b - j]? = some c
    by_cases e : b = j
    · subst e
      rw [Nat.sub_self, List.getElem?_cons_zero]
      constructor
      · rintro (h | ⟨_, h, _⟩)
        · cases h
          exact ⟨rfl, Nat.le_refl _, rfl⟩
        · exact absurd h (by show ¬ b + 1 ≤ b; omega)
      · rintro ⟨rfl, _, h⟩
        cases h
        exact .inl rfl
    · constructor
      · rintro (h | ⟨h1, h2, h3⟩)
        · cases h
          exact absurd rfl e
        · have h2 : j + 1 ≤ b := h2
          have h3 : r[b - (j + 1)]? = some c := h3
          refine ⟨h1, by omega, ?_⟩
          rw [show b - j = (b - (j + 1)) + 1 by omega, List.getElem?_cons_succ]
          exact h3
      · rintro ⟨h1, h2, h3⟩
        refine .inr ⟨h1, by show j + 1 ≤ b; omega, ?_⟩
        rw [show b - j = (b - (j + 1)) + 1 by omega, List.getElem?_cons_succ] at h3
        exact h3
theorem dueT_mem {t : Tr} : ∀ {pgs : List (List Str)} {i : Nat}, t ∈ dueT i pgs ↔ i ≤ t.1 ∧ ∃ ws, pgs[t.1 - i]? = some ws ∧ ws[t.2.1]? = some t.2.2
  | [], i => ⟨fun h => (by cases h), fun ⟨_, ws, h, _⟩ => by simp at h⟩
  | ws :: r, i => by
    obtain ⟨a, b, c⟩ := t
    show (a, b, c) ∈ duo i 0 ws ++ dueT (i + 1) r ↔ _
    rw [List.mem_append, duo_mem, dueT_mem (pgs := r)]
    show (a = i ∧ 0 ≤ b ∧ ws[b]? = some c) ∨ (i + 1 ≤ a ∧ ∃ ws', r[a - (i + 1)]? = some ws' ∧ ws'[b]? = some c) ↔ i ≤ a ∧ ∃ ws', (ws :: r)[a - i]? = some ws' ∧ ws'[b]? = some c
    constructor
    · rintro (⟨rfl, _, h⟩ | ⟨h1, ws', h2, h3⟩)
      · exact ⟨Nat.le_refl _, ws, by rw [Nat.sub_self]; rfl, h⟩
      · refine ⟨by omega, ws', ?_, h3⟩
        rw [show a - i = (a - (i + 1)) + 1 by omega, List.getElem?_cons_succ]
        exact h2
    · rintro ⟨h1, ws', h2, h3⟩
      by_cases e : a = i
      · subst e
        rw [Nat.sub_self, List.getElem?_cons_zero] at h2
        cases h2
        exact .inl ⟨rfl, Nat.zero_le _, h3⟩
      · rw [show a - i = (a - (i + 1)) + 1 by omega, List.getElem?_cons_succ] at h2
        exact .inr ⟨by omega, ws', h2, h3⟩
theorem tolE_mem {t : Tr} {w : Str} {es : List En} : t ∈ tolE w es ↔ t.2.2 = w ∧ ∃ e ∈ es, e.1 = t.1 ∧ t.2.1 ∈ e.2 := by
  unfold tolE
  rw [List.mem_flatMap]
  constructor
  · rintro ⟨e, he, h⟩
    obtain ⟨j, hj, rfl⟩ := List.mem_map.mp h
    exact ⟨rfl, e, he, rfl, hj⟩
  · rintro ⟨h1, e, he, h2, h3⟩
    exact ⟨e, he, List.mem_map.mpr ⟨t.2.1, h3, by rw [h2, ← h1]⟩⟩
theorem tolW_mem {t : Tr} {pgs : List (List Str)} {ks : List Str} : t ∈ tolW pgs ks ↔ t.2.2 ∈ ks ∧ ∃ ws, pgs[t.1]? = some ws ∧ ws[t.2.1]? = some t.2.2 := by
  unfold tolW
  rw [List.mem_flatMap]
  constructor
  · rintro ⟨k, hk, h⟩
    obtain ⟨rfl, e, he, h1, h2⟩ := tolE_mem.mp h
    obtain ⟨_, ws, h3, h4, _⟩ := ents_mem he
    rw [Nat.sub_zero, h1] at h3
    rw [h4] at h2
    exact ⟨hk, ws, h3, (by have := (plc_mem h2).2; rwa [Nat.sub_zero] at this)⟩
  · rintro ⟨hk, ws, h1, h2⟩
    have h3 := mem_ents (w := t.2.2) (k := 0) h1 (List.mem_of_getElem? h2)
    have h4 := mem_plc (k := 0) h2
    rw [Nat.zero_add] at h3 h4
    exact ⟨_, hk, tolE_mem.mpr ⟨rfl, _, h3, rfl, h4⟩⟩
theorem duo_nd (i : Nat) : ∀ (ws : List Str) (j : Nat), (duo i j ws).Nodup
  | [], _ => List.nodup_nil
  | w :: r, j => by
    show ((i, j, w) :: duo i (j + 1) r).Nodup
    rw [List.nodup_cons]
    refine ⟨fun h => ?_, duo_nd i r (j + 1)⟩
    have := (duo_mem.mp h).2.1
    exact absurd this (by show ¬ j + 1 ≤ j; omega)
theorem dueT_nd : ∀ (pgs : List (List Str)) (i : Nat), (dueT i pgs).Nodup
  | [], _ => List.nodup_nil
  | ws :: r, i => by
    show (duo i 0 ws ++ dueT (i + 1) r).Nodup
    rw [List.nodup_append]
    refine ⟨duo_nd i ws 0, dueT_nd r (i + 1), fun a ha b hb e => ?_⟩
    have h1 := (duo_mem.mp ha).1
    have h2 := (dueT_mem.mp hb).1
    rw [← e] at h2
    omega
theorem tolW_nd {pgs : List (List Str)} {ks : List Str} (h : ks.Nodup) : (tolW pgs ks).Nodup := by
  unfold tolW
  show List.Pairwise (· ≠ ·) _
  rw [List.pairwise_flatMap]
  refine ⟨fun k _ => ?_, h.imp fun ne x hx y hy e => ne ?_⟩
  · unfold tolE
    rw [List.pairwise_flatMap]
    refine ⟨fun e he => ?_, ?_⟩
    · obtain ⟨_, ws, _, h4, _⟩ := ents_mem he
      rw [h4, List.pairwise_map]
      exact (plc_pair k ws 0).imp fun lt e => by
        have := congrArg (fun t : Tr => t.2.1) e
        have : _ = _ := this
        dsimp only at this
        omega
    · have := ents_pair k pgs 0
      unfold slots at this
      rw [List.pairwise_map] at this
      refine this.imp fun lt x hx y hy e => ?_
      obtain ⟨_, _, rfl⟩ := List.mem_map.mp hx
      obtain ⟨_, _, rfl⟩ := List.mem_map.mp hy
      have := congrArg (fun t : Tr => t.1) e
      dsimp only at this
      omega
  · rw [← (tolE_mem.mp hx).1, ← (tolE_mem.mp hy).1, e]
theorem srt3_eq {ts us : List Tr} (n1 : ts.Nodup) (n2 : us.Nodup) (h : ∀ t, t ∈ ts ↔ t ∈ us) (inj : ∀ a ∈ ts, ∀ b ∈ ts, SrtK.key3 a = SrtK.key3 b → a = b) : srt3 ts = srt3 us := by
  have pm : (srt3 ts).Perm (srt3 us) := ((List.mergeSort_perm ts _).trans ((List.perm_ext_iff_of_nodup n1 n2).mpr h)).trans (List.mergeSort_perm us _).symm
  have pw : ∀ l : List Tr, (srt3 l).Pairwise fun a b => SrtK.key3 a ≤ SrtK.key3 b := fun l => (List.pairwise_mergeSort (le := fun a b => decide (SrtK.key3 a ≤ SrtK.key3 b)) (fun a b c h1 h2 => decide_eq_true (Int.le_trans (of_decide_eq_true h1) (of_decide_eq_true h2))) (fun a b => by
    rcases Int.le_total (SrtK.key3 a) (SrtK.key3 b) with h | h
    · rw [decide_eq_true h]; rfl
    · rw [decide_eq_true h, Bool.or_true]) l).imp fun h => of_decide_eq_true h
  refine List.Perm.eq_of_pairwise (fun a b ha hb l1 l2 => ?_) (pw ts) (pw us) pm
  have ha' : a ∈ ts := (List.mergeSort_perm ts _).mem_iff.mp ha
  have hb' : b ∈ ts := (h b).mpr ((List.mergeSort_perm us _).mem_iff.mp hb)
  exact inj a ha' b hb' (Int.le_antisymm l1 l2)
theorem key3_inj {a b : Tr} (ha : a.2.1 < 1000) (hb : b.2.1 < 1000) (e : SrtK.key3 a = SrtK.key3 b) : a.1 = b.1 ∧ a.2.1 = b.2.1 := by
  unfold SrtK.key3 at e
  omega
theorem trip_due {pgs : List (List Str)} {t : Tr} (h : ∃ ws, pgs[t.1]? = some ws ∧ ws[t.2.1]? = some t.2.2) (l : ∀ ws ∈ pgs, ws.length ≤ 120) : t.2.1 < 1000 := by
  obtain ⟨ws, h1, h2⟩ := h
  have := l ws (List.mem_of_getElem? h1)
  have := (List.getElem?_eq_some_iff.mp h2).1
  omega
theorem trip_uniq {pgs : List (List Str)} {a b : Tr} (ha : ∃ ws, pgs[a.1]? = some ws ∧ ws[a.2.1]? = some a.2.2) (hb : ∃ ws, pgs[b.1]? = some ws ∧ ws[b.2.1]? = some b.2.2) (l : ∀ ws ∈ pgs, ws.length ≤ 120) (e : SrtK.key3 a = SrtK.key3 b) : a = b := by
  obtain ⟨e1, e2⟩ := key3_inj (trip_due ha l) (trip_due hb l) e
  obtain ⟨w1, h1, h2⟩ := ha
  obtain ⟨w2, h3, h4⟩ := hb
  rw [← e1, h1] at h3
  cases h3
  rw [← e2, h2] at h4
  exact Prod.ext e1 (Prod.ext e2 (Option.some.inj h4))
/-- what is told is what is due -/
theorem told_due {pgs : List (List Str)} {ks : List Str} (nd : ks.Nodup) (hk : ∀ k, k ∈ ks ↔ ents k 0 pgs ≠ []) (l : ∀ ws ∈ pgs, ws.length ≤ 120) : srt3 (tolW pgs ks) = srt3 (dueT 0 pgs) := by
  refine srt3_eq (tolW_nd nd) (dueT_nd pgs 0) (fun t => ?_) fun a ha b hb e => trip_uniq (tolW_mem.mp ha).2 (tolW_mem.mp hb).2 l e
  rw [tolW_mem, dueT_mem, Nat.sub_zero]
  constructor
  · rintro ⟨_, h⟩
    exact ⟨Nat.zero_le _, h⟩
  · rintro ⟨_, ws, h1, h2⟩
    exact ⟨(hk _).mpr (ents_ne.mpr ⟨ws, List.mem_of_getElem? h1, List.mem_of_getElem? h2⟩), ws, h1, h2⟩
/-! ### triples on the heap -/
def TrA (H : Hp) (v : V) (t : Tr) : Prop := ∃ a : Addr, v = .ref a ∧ H a = some (.tup [.int (t.1 : Nat), .int (t.2.1 : Nat), .str t.2.2])
def TrsA (H : Hp) (xs : List V) (ts : List Tr) : Prop := xs.length = ts.length ∧ ∀ (i : Nat) (t : Tr), ts[i]? = some t → ∃ v, xs[i]? = some v ∧ TrA H v t
theorem TrsA.mono {H H' : Hp} {xs : List V} {ts : List Tr} (h : TrsA H xs ts) (k : ∀ c zs, H c = some (.tup zs) → H' c = some (.tup zs)) : TrsA H' xs ts := ⟨h.1, fun i t g => by
  obtain ⟨v, h1, a, h2, h3⟩ := h.2 i t g
  exact ⟨v, h1, a, h2, k _ _ h3⟩⟩
theorem TrsA.ex {H H' : Hp} {xs : List V} {ts : List Tr} (h : TrsA H xs ts) (e : Ex H H') : TrsA H' xs ts := h.mono fun c zs z => e _ _ z
theorem TrsA.app {H : Hp} {xs ys : List V} {ts us : List Tr} (h : TrsA H xs ts) (k : TrsA H ys us) : TrsA H (xs ++ ys) (ts ++ us) := by
  refine ⟨by rw [List.length_append, List.length_append, h.1, k.1], fun i t g => ?_⟩
  by_cases l : i < ts.length
  · rw [List.getElem?_append_left l] at g
    rw [List.getElem?_append_left (by rw [h.1]; exact l)]
    exact h.2 i t g
  · rw [List.getElem?_append_right (by omega)] at g
    rw [List.getElem?_append_right (by rw [h.1]; omega), h.1]
    exact k.2 _ t g
theorem TrsA.nil {H : Hp} : TrsA H [] [] := ⟨rfl, fun i t g => by simp at g⟩
def trAt (H : Hp) : V → Tr
  | .ref a => match H a with
    | some (.tup [.int i, .int j, .str w]) => (i.toNat, j.toNat, w)
    | _ => (0, 0, "")
  | _ => (0, 0, "")
theorem TrA.at_ {H : Hp} {v : V} {t : Tr} (h : TrA H v t) : trAt H v = t := by
  obtain ⟨a, rfl, h⟩ := h
  unfold trAt
  dsimp only
  rw [h]
  rfl
theorem TrsA.map {H : Hp} {xs : List V} {ts : List Tr} (h : TrsA H xs ts) : xs.map (trAt H) = ts := by
  refine List.ext_getElem? fun i => ?_
  rw [List.getElem?_map]
  cases g : ts[i]? with
  | none =>
    rw [List.getElem?_eq_none_iff] at g
    rw [List.getElem?_eq_none_iff.mpr (by rw [h.1]; exact g)]
    rfl
  | some t =>
    obtain ⟨v, h1, h2⟩ := h.2 i t g
    rw [h1, Option.map_some, h2.at_]
theorem TrsA.mem {H : Hp} {xs : List V} {ts : List Tr} (h : TrsA H xs ts) {v : V} (hv : v ∈ xs) : ∃ (i : Nat) (t : Tr), xs[i]? = some v ∧ ts[i]? = some t ∧ TrA H v t := by
  obtain ⟨i, hi⟩ := List.mem_iff_getElem?.mp hv
  have il := (List.getElem?_eq_some_iff.mp hi).1
  rw [h.1] at il
  obtain ⟨u, h1, h2⟩ := h.2 i _ (List.getElem?_eq_getElem il)
  rw [hi] at h1
  cases h1
  exact ⟨i, _, hi, List.getElem?_eq_getElem il, h2⟩
theorem dpTr {K : PySem.W.Frag} {H : Hp} {v : V} {t : Tr} (h : TrA H v t) : Dp K H v (SrtK.dat3 t) := by
  obtain ⟨a, rfl, h⟩ := h
  exact .tup (SqT.of h) (.cons (.int _) (.cons (.int _) (.cons (.str _) .nil)))
/-- sorted: what the rule wants, what comes of it -/
theorem sort3_of {K : PySem.W.Frag} {H : Hp} {a : Addr} {xs : List V} {ts : List Tr} {Q : V → Hp → Prop} (ha : H a = some (.lst xs)) (h : TrsA H xs ts) (b : ∀ t ∈ ts, t.2.1 < 1000) (nd : ts.Nodup) (inj : ∀ s ∈ ts, ∀ t ∈ ts, SrtK.key3 s = SrtK.key3 t → s = t)
    (q : ∀ (p : Addr) (ys : List V) (H' : Hp), H p = none → Ex H H' → H' p = some (.lst ys) → TrsA H' ys (srt3 ts) → Q (.ref p) H') : SrtK.rSortT3 K [.ref a] H Q := by
  have at_ : ∀ v ∈ xs, trAt H v ∈ ts ∧ TrA H v (trAt H v) := fun v hv => by
    obtain ⟨i, t, h1, h2, h3⟩ := h.mem hv
    rw [h3.at_]
    exact ⟨List.mem_of_getElem? h2, h3⟩
  have one : ∀ v ∈ xs, ∀ u ∈ xs, trAt H v = trAt H u → v = u := fun v hv u hu e => by
    obtain ⟨i, t, h1, h2, h3⟩ := h.mem hv
    obtain ⟨j, s, k1, k2, k3⟩ := h.mem hu
    rw [h3.at_, k3.at_] at e
    subst e
    have := (List.getElem?_inj (List.getElem?_eq_some_iff.mp h2).1 nd).mp (h2.trans k2.symm)
    subst this
    rw [h1] at k1
    exact Option.some.inj k1
  have bm : (SrtK.byKey (fun v => SrtK.key3 (trAt H v)) xs).map (trAt H) = srt3 ts := by
    rw [← h.map]
    exact List.map_mergeSort fun x _ y _ => rfl
  refine ⟨a, xs, trAt H, rfl, SqL.of ha, fun y hy => dpTr (at_ y hy).2, fun y hy => b _ (at_ y hy).1, fun x hx y hy e => one x hx y hy (inj _ (at_ x hx).1 _ (at_ y hy).1 e), fun p np => q p _ _ np (Ex.new np) upd_same ?_⟩
  have e := Ex.new (o := .lst (SrtK.byKey (fun v => SrtK.key3 (trAt H v)) xs)) np
  refine ⟨by rw [← bm, List.length_map], fun i t g => ?_⟩
  rw [← bm, List.getElem?_map] at g
  obtain ⟨v, hv, rfl⟩ := Option.map_eq_some_iff.mp g
  have hm : v ∈ xs := (List.mergeSort_perm xs _).mem_iff.mp (List.mem_of_getElem? hv)
  obtain ⟨c, h1, h2⟩ := (at_ v hm).2
  exact ⟨v, hv, c, h1, e _ _ h2⟩

/-! ### pairs of a number and a list of words on the heap -/
def PrA (N : Addr → Prop) (H : Hp) (v : V) (g : Pg) : Prop := ∃ a h : Addr, v = .ref a ∧ H a = some (.tup [.int g.1, .ref h]) ∧ H h = some (.lst (g.2.map V.str)) ∧ ¬ N h
def Prs (N : Addr → Prop) (H : Hp) (xs : List V) (gs : List Pg) : Prop := xs.length = gs.length ∧ ∀ (i : Nat) (g : Pg), gs[i]? = some g → ∃ v, xs[i]? = some v ∧ PrA N H v g
theorem PrA.mono {N : Addr → Prop} {H H' : Hp} {v : V} {g : Pg} (h : PrA N H v g) (k : ∀ c zs, H c = some (.tup zs) → H' c = some (.tup zs)) (k2 : ∀ c zs, ¬ N c → H c = some (.lst zs) → H' c = some (.lst zs)) : PrA N H' v g := by
  obtain ⟨a, h, e, h1, h2, h3⟩ := h
  exact ⟨a, h, e, k _ _ h1, k2 _ _ h3 h2, h3⟩
theorem Prs.mono {N : Addr → Prop} {H H' : Hp} {xs : List V} {gs : List Pg} (h : Prs N H xs gs) (k : ∀ c zs, H c = some (.tup zs) → H' c = some (.tup zs)) (k2 : ∀ c zs, ¬ N c → H c = some (.lst zs) → H' c = some (.lst zs)) : Prs N H' xs gs := ⟨h.1, fun i g q => by
  obtain ⟨v, h1, h2⟩ := h.2 i g q
  exact ⟨v, h1, h2.mono k k2⟩⟩
theorem Prs.less {N N' : Addr → Prop} {H : Hp} {xs : List V} {gs : List Pg} (h : Prs N H xs gs) (k : ∀ b, N' b → N b) : Prs N' H xs gs := ⟨h.1, fun i g q => by
  obtain ⟨v, h1, a, b, e, h2, h3, h4⟩ := h.2 i g q
  exact ⟨v, h1, a, b, e, h2, h3, fun z => h4 (k _ z)⟩⟩
theorem Prs.ex {N : Addr → Prop} {H H' : Hp} {xs : List V} {gs : List Pg} (h : Prs N H xs gs) (e : Ex H H') : Prs N H' xs gs := h.mono (fun c zs z => e _ _ z) fun c zs _ z => e _ _ z
theorem Prs.exN {N : Addr → Prop} {H H' : Hp} {xs : List V} {gs : List Pg} (h : Prs N H xs gs) (e : LamX.ExtN H H') : Prs N H' xs gs := h.mono (fun c zs z => tup_exN e z) fun c zs _ z => lst_exN e z
theorem Prs.fx {N : Addr → Prop} {H H' : Hp} {xs : List V} {gs : List Pg} {p : Addr} {c : Nat} (h : Prs N H xs gs) (hp : Pl H p c) (np : N p) (f : Fx p H H') : Prs N H' xs gs := h.mono (fun c zs z => f.tup hp z) fun c zs n z => f _ _ (fun e => n (by rw [e]; exact np)) z
theorem Prs.upl {N : Addr → Prop} {H : Hp} {xs ys : List V} {gs : List Pg} {D : Addr} {o : HO} (h : Prs N H xs gs) (nD : N D) (hD : H D = some (.lst ys)) : Prs N (upd H D o) xs gs := h.mono (fun c zs z => by rw [upd_ne (ne_of z hD (by intro z; cases z))]; exact z) fun c zs n z => by
  rw [upd_ne (fun e => n (by rw [e]; exact nD))]
  exact z
theorem Prs.snoc {N : Addr → Prop} {H : Hp} {xs : List V} {gs : List Pg} {v : V} {g : Pg} (h : Prs N H xs gs) (k : PrA N H v g) : Prs N H (xs ++ [v]) (gs ++ [g]) := by
  refine ⟨by rw [List.length_append, List.length_append, h.1]; rfl, fun i t q => ?_⟩
  rcases snoc_at q with q | ⟨rfl, rfl⟩
  · obtain ⟨c, h1, h2⟩ := h.2 i t q
    exact ⟨c, by rw [List.getElem?_append_left (List.getElem?_eq_some_iff.mp h1).1]; exact h1, h2⟩
  · exact ⟨v, by rw [← h.1, List.getElem?_append_right (Nat.le_refl _)]; simp, k⟩
theorem Prs.nil {N : Addr → Prop} {H : Hp} : Prs N H [] [] := ⟨rfl, fun i t g => by simp at g⟩
theorem Prs.set0 {N : Addr → Prop} {H : Hp} {v u : V} {xs : List V} {g k : Pg} {gs : List Pg} (h : Prs N H (v :: xs) (g :: gs)) (hu : PrA N H u k) : Prs N H (u :: xs) (k :: gs) := by
  refine ⟨h.1, fun i t q => ?_⟩
  cases i with
  | zero =>
    cases q
    exact ⟨u, rfl, hu⟩
  | succ i => exact h.2 (i + 1) t q
theorem Prs.mem {N : Addr → Prop} {H : Hp} {xs : List V} {gs : List Pg} (h : Prs N H xs gs) {i : Nat} {v : V} (hv : xs[i]? = some v) : ∃ g, gs[i]? = some g ∧ PrA N H v g := by
  have il := (List.getElem?_eq_some_iff.mp hv).1
  rw [h.1] at il
  obtain ⟨u, h1, h2⟩ := h.2 i _ (List.getElem?_eq_getElem il)
  rw [hv] at h1
  cases h1
  exact ⟨_, List.getElem?_eq_getElem il, h2⟩
def unS : V → Option Str
  | .str z => some z
  | _ => none
def prAt (H : Hp) : V → Pg
  | .ref a => match H a with
    | some (.tup [.int n, .ref h]) => match H h with
      | some (.lst ys) => (n, ys.filterMap unS)
      | _ => (0, [])
    | _ => (0, [])
  | _ => (0, [])
theorem PrA.at_ {N : Addr → Prop} {H : Hp} {v : V} {g : Pg} (h : PrA N H v g) : prAt H v = g := by
  obtain ⟨a, h, rfl, h1, h2, _⟩ := h
  unfold prAt
  dsimp only
  rw [h1]
  dsimp only
  rw [h2]
  dsimp only
  rw [List.filterMap_map]
  have : (unS ∘ V.str) = some := rfl
  rw [this, List.filterMap_some]
theorem Prs.map {N : Addr → Prop} {H : Hp} {xs : List V} {gs : List Pg} (h : Prs N H xs gs) : xs.map (prAt H) = gs := by
  refine List.ext_getElem? fun i => ?_
  rw [List.getElem?_map]
  cases g : gs[i]? with
  | none =>
    rw [List.getElem?_eq_none_iff] at g
    rw [List.getElem?_eq_none_iff.mpr (by rw [h.1]; exact g)]
    rfl
  | some t =>
    obtain ⟨v, h1, h2⟩ := h.2 i t g
    rw [h1, Option.map_some, h2.at_]
theorem sortNW_of {K : PySem.W.Frag} {N : Addr → Prop} {H : Hp} {a : Addr} {xs : List V} {gs : List Pg} {Q : V → Hp → Prop} (ha : H a = some (.lst xs)) (h : Prs N H xs gs) (nd : (gs.map (·.1)).Nodup)
    (q : ∀ (p : Addr) (ys : List V) (H' : Hp), H p = none → Ex H H' → H' p = some (.lst ys) → Prs N H' ys (sortPg gs) → Q (.ref p) H') : SrtK.rSortNW K [.ref a] H Q := by
  have at_ : ∀ v ∈ xs, ∃ i : Nat, xs[i]? = some v ∧ gs[i]? = some (prAt H v) ∧ PrA N H v (prAt H v) := fun v hv => by
    obtain ⟨i, hi⟩ := List.mem_iff_getElem?.mp hv
    obtain ⟨g, h1, h2⟩ := h.mem hi
    rw [h2.at_]
    exact ⟨i, hi, h1, h2⟩
  have bm : (SrtK.byKey (fun v => (prAt H v).1) xs).map (prAt H) = sortPg gs := by
    rw [← h.map]
    exact List.map_mergeSort fun x _ y _ => rfl
  refine ⟨a, xs, fun v => (prAt H v).1, fun v => (prAt H v).2, rfl, SqL.of ha, fun y hy => ?_, fun x hx y hy e => ?_, fun p np => q p _ _ np (Ex.new np) upd_same ?_⟩
  · obtain ⟨i, _, _, c, d, rfl, h1, h2, _⟩ := at_ y hy
    exact .tup (SqT.of h1) (.cons (.int _) (.cons (.lst (SqL.of h2) (dpS _)) .nil))
  · obtain ⟨i, h1, h2, _⟩ := at_ x hx
    obtain ⟨j, k1, k2, _⟩ := at_ y hy
    have g1 : (gs.map (·.1))[i]? = some (prAt H x).1 := by rw [List.getElem?_map, h2]; rfl
    have g2 : (gs.map (·.1))[j]? = some (prAt H y).1 := by rw [List.getElem?_map, k2]; rfl
    have e : (prAt H x).1 = (prAt H y).1 := e
    rw [← e, ← g1] at g2
    have := (List.getElem?_inj (List.getElem?_eq_some_iff.mp g1).1 nd).mp g2.symm
    subst this
    rw [h1] at k1
    exact Option.some.inj k1
  have e := Ex.new (o := .lst (SrtK.byKey (fun v => (prAt H v).1) xs)) np
  refine ⟨by rw [← bm, List.length_map], fun i t g => ?_⟩
  rw [← bm, List.getElem?_map] at g
  obtain ⟨v, hv, rfl⟩ := Option.map_eq_some_iff.mp g
  have hm : v ∈ xs := (List.mergeSort_perm xs _).mem_iff.mp (List.mem_of_getElem? hv)
  obtain ⟨_, _, _, h1⟩ := at_ v hm
  exact ⟨v, hv, h1.mono (fun c zs z => e _ _ z) fun c zs _ z => e _ _ z⟩
theorem sort_inc {gs : List Pg} (nd : (gs.map (·.1)).Nodup) : ((sortPg gs).map (·.1)).Pairwise (· < ·) := by
  have h1 : (sortPg gs).Pairwise fun a b => a.1 ≤ b.1 := (List.pairwise_mergeSort (le := fun a b : Pg => decide (a.1 ≤ b.1)) (fun a b c h1 h2 => decide_eq_true (Int.le_trans (of_decide_eq_true h1) (of_decide_eq_true h2))) (fun a b => by
    rcases Int.le_total a.1 b.1 with h | h
    · rw [decide_eq_true h]; rfl
    · rw [decide_eq_true h, Bool.or_true]) gs).imp fun h => of_decide_eq_true h
  have h2 : ((sortPg gs).map (·.1)).Nodup := (((List.mergeSort_perm gs _).map (·.1)).nodup_iff).mpr nd
  have h2 : (sortPg gs).Pairwise fun a b => a.1 ≠ b.1 := List.pairwise_map.mp h2
  exact List.pairwise_map.mpr ((h1.and h2).imp fun h => by have := h.1; have := h.2; omega)
theorem sort_self {gs : List Pg} (h : (gs.map (·.1)).Pairwise (· < ·)) : sortPg gs = gs := by
  refine List.mergeSort_of_pairwise ((List.pairwise_map.mp h).imp fun h => decide_eq_true (Int.le_of_lt h))
theorem duo_snoc (i : Nat) (w : Str) : ∀ (ws : List Str) (j : Nat), duo i j (ws ++ [w]) = duo i j ws ++ [(i, j + ws.length, w)]
  | [], j => rfl
  | x :: r, j => by
    show (i, j, x) :: duo i (j + 1) (r ++ [w]) = (i, j, x) :: duo i (j + 1) r ++ [(i, j + (r.length + 1), w)]
    rw [duo_snoc i w r (j + 1), show j + 1 + r.length = j + (r.length + 1) by omega]
    rfl
theorem dueT_snoc (ws : List Str) : ∀ (pgs : List (List Str)) (i : Nat), dueT i (pgs ++ [ws]) = dueT i pgs ++ duo (i + pgs.length) 0 ws
  | [], i => by
    show duo i 0 ws ++ [] = [] ++ duo (i + 0) 0 ws
    rw [List.append_nil]
    rfl
  | x :: r, i => by
    show duo i 0 x ++ dueT (i + 1) (r ++ [ws]) = duo i 0 x ++ dueT (i + 1) r ++ duo (i + (r.length + 1)) 0 ws
    rw [dueT_snoc ws r (i + 1), show i + 1 + r.length = i + (r.length + 1) by omega, List.append_assoc]
theorem shTr {t : Tr} (h : isW t.2.2 = true) : PyData.canLay0 (SrtK.dat3 t) = true ∧ PyData.depth (SrtK.dat3 t) ≤ 2 := by
  have := isW_ok h
  rw [PyData.canLay0] at this
  refine ⟨by simp [SrtK.dat3, PyData.canLay0, PyData.canLayAll0, this], ?_⟩
  simp [SrtK.dat3, PyData.depth, PyData.depthAll]
theorem sh_allM {α : Type} {f : α → PyData} {k : Nat} : ∀ {as : List α}, (∀ a ∈ as, PyData.canLay0 (f a) = true ∧ PyData.depth (f a) ≤ k) → PyData.canLayAll0 (as.map f) = true ∧ PyData.depthAll (as.map f) ≤ k
  | [], _ => ⟨rfl, Nat.zero_le _⟩
  | a :: r, h => by
    have i := sh_allM fun b hb => h b (List.mem_cons_of_mem _ hb)
    have j := h a (List.mem_cons_self ..)
    exact ⟨by rw [List.map_cons, PyData.canLayAll0, j.1, i.1]; rfl, by rw [List.map_cons, PyData.depthAll]; exact Nat.max_le.mpr ⟨j.2, i.2⟩⟩
theorem dpTrs {K : PySem.W.Frag} {H : Hp} {xs : List V} {ts : List Tr} (h : TrsA H xs ts) : DpAll K H xs (ts.map SrtK.dat3) := dp_all h.1 fun i e g => let ⟨v, h1, h2⟩ := h.2 i e g; ⟨v, h1, dpTr h2⟩
theorem shTrs {ts : List Tr} (h : ∀ t ∈ ts, isW t.2.2 = true) : SeqAt.shaped (.list (ts.map SrtK.dat3)) = true := sh_list (k := 2) (by decide) (sh_allM fun t ht => shTr (h t ht))
/-! ### segments made in a law -/
theorem RowAt.exN {CR CB : Addr} {H H' : Hp} {r : Addr} {z : Str} {s : Nat} {es : List En} {ls : List Nat} (h : RowAt CR CB H r z s es ls) (e : LamX.ExtN H H') : RowAt CR CB H' r z s es ls := by
  obtain ⟨dx, t, bs, h1, h2, h3⟩ := h
  exact ⟨dx, t, bs, e _ _ h1 (by intro ps z; cases z), tup_exN e h2, h3.1, fun i b g => by
    obtain ⟨db, hb⟩ := h3.2 i b g
    exact ⟨db, e _ _ hb (by intro ps z; cases z)⟩⟩
theorem SegD.exN {CS CR CB : Addr} {H H' : Hp} {x d : Addr} {s : Nat} {ps : List Pg} (h : SegD CS CR CB H x d s ps) (e : LamX.ExtN H H') : SegD CS CR CB H' x d s ps := by
  obtain ⟨dx, t1, t2, kas, h1, h2, h3, h4, h5⟩ := h
  exact ⟨dx, t1, t2, kas, e _ _ h1 (by intro ps z; cases z), tup_exN e h2, tup_exN e h3, e _ _ h4 (by intro ps z; cases z), h5.one, h5.keys, fun p hp => (h5.row p hp).exN e⟩
theorem mk_seg {C CS CR CB : Addr} {Tt : List (Addr × Str)} {H : Hp} {x dx l : Addr} {xs : List V} {ps : List Pg} {s : Nat} {n : Int} {R : Hp → Prop} {E : XK} (en : n = (s : Int)) (nx : H x = none) (nd : H dx = none) (hl : H l = some (.lst xs)) (hP : PagesAt C H xs ps) (l1 : 1 ≤ ps.length) (hn : (ps.map (·.1)).Nodup) (hg : Pgs (ps.map (·.2))) (s1 : 1 ≤ s) (s8 : s ≤ 8) (T : LamX.Tabs Tt H)
    (q : ∀ (d : Addr) (H' : Hp), (∀ kvs, H d ≠ some (.dK kvs)) → LamX.ExtN H H' → LamX.Tabs Tt H' → SegD CS CR CB H' x d s (sortPg ps) → R H') : spSInit C CS CR CB Tt [.ref x, .ref l, .int n] (upd (upd H dx (.own x)) x (.ins CS dx [])) (fun v H2 => v = .non ∧ R H2) E := by
  subst en
  have e := ex2 (o := .own x) (u := .ins CS dx []) nx nd
  refine ⟨x, dx, l, xs, ps, s, rfl, upd_same, e _ _ hl, hP.ex e, l1, hn, hg, s1, s8, LamX.Tabs.ext T e, fun d H' n1 i t sg => ⟨rfl, q d H' (fun kvs h => n1 kvs (e _ _ h)) (fun c o h n => i c o (ne_of_none h nx) (e _ _ h) n) t sg⟩⟩
theorem tabs_upl {Tt : List (Addr × Str)} {H : Hp} {D : Addr} {xs : List V} {o : HO} (t : LamX.Tabs Tt H) (hD : H D = some (.lst xs)) : LamX.Tabs Tt (upd H D o) := fun q hq => by
  obtain ⟨ps, h1, h2, h3⟩ := t q hq
  refine ⟨ps, by rw [upd_ne (ne_of h1 hD (by intro z; cases z))]; exact h1, h2, fun pos cv hc => ?_⟩
  obtain ⟨c, e1, e2⟩ := h3 pos cv hc
  exact ⟨c, e1, by rw [upd_ne (ne_of e2 hD (by intro z; cases z))]; exact e2⟩
theorem PagesAt.fx {C : Addr} {H H' : Hp} {xs : List V} {ps : List Pg} {p : Addr} {c : Nat} (h : PagesAt C H xs ps) (f : Fx p H H') (hp : Pl H p c) : PagesAt C H' xs ps := ⟨h.1, fun i v g => by
  obtain ⟨q, t, h1, h2, h3⟩ := h.2 i v g
  exact ⟨q, t, h1, h2, h3.fx f hp⟩⟩
theorem PagesAt.upl {C : Addr} {H : Hp} {xs ys : List V} {ps : List Pg} {D : Addr} {o : HO} (h : PagesAt C H xs ps) (hD : H D = some (.lst ys)) : PagesAt C (upd H D o) xs ps := ⟨h.1, fun i v g => by
  obtain ⟨q, t, h1, h2, h3⟩ := h.2 i v g
  exact ⟨q, t, h1, h2, h3.upl hD⟩⟩
theorem PagesAt.snoc {C : Addr} {H : Hp} {xs : List V} {ps : List Pg} {p : Addr} {g : Pg} (h : PagesAt C H xs ps) (k : PageAt C H p g.1 g.2) : PagesAt C H (xs ++ [.ref p]) (ps ++ [g]) := by
  refine ⟨by rw [List.length_append, List.length_append, h.1]; rfl, fun i t q => ?_⟩
  rcases snoc_at q with q | ⟨rfl, rfl⟩
  · obtain ⟨c, g', h1, h2, h3⟩ := h.2 i t q
    exact ⟨c, g', h1, by rw [List.getElem?_append_left (List.getElem?_eq_some_iff.mp h2).1]; exact h2, h3⟩
  · exact ⟨p, g, rfl, by rw [h.1, List.getElem?_append_right (Nat.le_refl _)]; simp, k⟩

/-! ### what stands of a segment -/
def sts (n : Nat) (gone : List Nat) : List Nat := (List.range n).filter fun i => decide (i ∉ gone)
theorem sts_up (n : Nat) (gone : List Nat) : sts (n + 1) gone = sts n gone ++ (if n ∈ gone then [] else [n]) := by
  unfold sts
  rw [List.range_succ, List.filter_append]
  by_cases h : n ∈ gone
  · rw [if_pos h]; simp [h]
  · rw [if_neg h]; simp [h]
theorem sts_len (n : Nat) (gone : List Nat) : (sts n gone).length ≤ n := by
  have := List.length_filter_le (fun i => decide (i ∉ gone)) (List.range n)
  rwa [List.length_range] at this
theorem sts_mem {n i : Nat} {gone : List Nat} : i ∈ sts n gone ↔ i < n ∧ i ∉ gone := by
  unfold sts
  rw [List.mem_filter, List.mem_range, decide_eq_true_eq]
theorem sts_inc (n : Nat) (gone : List Nat) : (sts n gone).Pairwise (· < ·) := List.pairwise_lt_range.filter _
/-- a part of a shelf: its size, its pages by slots, what is gone -/
abbrev Part := Nat × List Pg × List Nat
structure PartOk (q : Part) : Prop where
  seg : SegOk q.1 q.2.1
  inc : q.2.2.Pairwise (· < ·)
  lt : ∀ i ∈ q.2.2, i < q.2.1.length
def pgAt (ps : List Pg) (i : Nat) : Pg := ps.getD i (0, [])
theorem pgAt_of {ps : List Pg} {i : Nat} {g : Pg} (h : ps[i]? = some g) : pgAt ps i = g := by
  unfold pgAt
  rw [List.getD_eq_getElem?_getD, h]
  rfl
theorem pgAt_in {ps : List Pg} {i : Nat} (h : i < ps.length) : ps[i]? = some (pgAt ps i) := by
  unfold pgAt
  rw [List.getD_eq_getElem?_getD, List.getElem?_eq_getElem h]
  rfl
/-- the pages that stand of a part -/
def stP (q : Part) : List Pg := (sts q.2.1.length q.2.2).map (pgAt q.2.1)
theorem PartOk.gl {q : Part} (h : PartOk q) : q.2.2.length ≤ 60 := by
  have hn : q.2.2.Nodup := h.inc.imp fun h => Nat.ne_of_lt h
  have : q.2.2.length ≤ (List.range q.2.1.length).length := hn.length_le_of_subset fun i hi => List.mem_range.mpr (h.lt i hi)
  rw [List.length_range] at this
  exact Nat.le_trans this h.seg.few
/-- has the page at a slot the word? -/
def hasW (ps : List Pg) (w : Str) (i : Nat) : Bool := decide (w ∈ (pgAt ps i).2)
theorem cnt_split (n : Nat) (gone : List Nat) (hn : gone.Nodup) (hl : ∀ i ∈ gone, i < n) (f : Nat → Bool) : (List.range n).countP f = (sts n gone).countP f + gone.countP f := by
  have p : ((List.range n).filter fun i => decide (i ∈ gone)).Perm gone := by
    refine (List.perm_ext_iff_of_nodup (List.nodup_range.filter _) hn).mpr fun i => ?_
    rw [List.mem_filter, List.mem_range, decide_eq_true_eq]
    exact ⟨fun h => h.2, fun h => ⟨hl i h, h⟩⟩
  have e : ∀ l : List Nat, l.countP f = (l.filter fun i => decide (i ∉ gone)).countP f + (l.filter fun i => decide (i ∈ gone)).countP f := fun l => by
    induction l with
    | nil => rfl
    | cons a r ih =>
      by_cases h : a ∈ gone
      · rw [List.filter_cons_of_neg (by simpa using h), List.filter_cons_of_pos (by simpa using h), List.countP_cons, List.countP_cons, ih]
        omega
      · rw [List.filter_cons_of_pos (by simpa using h), List.filter_cons_of_neg (by simpa using h), List.countP_cons, List.countP_cons, ih]
        omega
  rw [e (List.range n), p.countP_eq]
  rfl
theorem ents_cnt (w : Str) : ∀ (pgs : List (List Str)) (k : Nat), (ents w k pgs).length = pgs.countP fun ws => decide (w ∈ ws)
  | [], _ => rfl
  | ws :: r, k => by
    rw [ents, List.length_append, ents_cnt w r (k + 1), List.countP_cons]
    by_cases h : w ∈ ws
    · rw [if_neg (plc_ne.mpr h), if_pos (decide_eq_true h)]
      show 1 + _ = _
      omega
    · rw [if_pos (Classical.byContradiction fun z => h (plc_ne.mp z)), if_neg (by simpa using h)]
      show 0 + _ = _
      omega
theorem cnt_range {ps : List Pg} (w : Str) : (List.range ps.length).countP (hasW ps w) = (ps.map (·.2)).countP fun ws => decide (w ∈ ws) := by
  rw [List.countP_map]
  have e : ps = (List.range ps.length).map (pgAt ps) := by
    refine List.ext_getElem? fun i => ?_
    rw [List.getElem?_map]
    by_cases h : i < ps.length
    · rw [List.getElem?_range h, pgAt_in h]
      rfl
    · rw [List.getElem?_eq_none_iff.mpr (by omega), List.getElem?_eq_none_iff.mpr (by rw [List.length_range]; omega)]
      rfl
  conv => rhs; rw [e]
  rw [List.countP_map]
  rfl
/-- how many pages that stand have the word: as the program counts -/
def holdN (q : Part) (w : Str) : Nat := (ents w 0 (q.2.1.map (·.2))).length - q.2.2.countP (hasW q.2.1 w)
theorem hold_is {q : Part} (h : PartOk q) (w : Str) : (holdN q w : Int) = ((ents w 0 (q.2.1.map (·.2))).length : Int) - (q.2.2.countP (hasW q.2.1 w) : Int) ∧ holdN q w = (stP q).countP fun g => decide (w ∈ g.2) := by
  have hn : q.2.2.Nodup := h.inc.imp fun h => Nat.ne_of_lt h
  have a := cnt_split q.2.1.length q.2.2 hn h.lt (hasW q.2.1 w)
  rw [cnt_range, ← ents_cnt w _ 0] at a
  have b : (stP q).countP (fun g => decide (w ∈ g.2)) = (sts q.2.1.length q.2.2).countP (hasW q.2.1 w) := by
    unfold stP
    rw [List.countP_map]
    rfl
  unfold holdN
  rw [b]
  omega
/-- all that stands of a shelf -/
def alive (qs : List Part) : List Pg := qs.flatMap stP

/-! ### shelves: what stands of a segment -/
def LsA {α : Type} (R : V → α → Prop) (xs : List V) (as : List α) : Prop := xs.length = as.length ∧ ∀ (i : Nat) (a : α), as[i]? = some a → ∃ v, xs[i]? = some v ∧ R v a
theorem LsA.nil {α : Type} {R : V → α → Prop} : LsA R [] [] := ⟨rfl, fun i t g => by simp at g⟩
theorem LsA.mono {α : Type} {R R' : V → α → Prop} {xs : List V} {as : List α} (h : LsA R xs as) (k : ∀ v a, a ∈ as → R v a → R' v a) : LsA R' xs as := ⟨h.1, fun i a g => let ⟨v, h1, h2⟩ := h.2 i a g; ⟨v, h1, k v a (List.mem_of_getElem? g) h2⟩⟩
theorem LsA.snoc {α : Type} {R : V → α → Prop} {xs : List V} {as : List α} {v : V} {a : α} (h : LsA R xs as) (k : R v a) : LsA R (xs ++ [v]) (as ++ [a]) := by
  refine ⟨by rw [List.length_append, List.length_append, h.1]; rfl, fun i t q => ?_⟩
  rcases snoc_at q with q | ⟨rfl, rfl⟩
  · obtain ⟨c, h1, h2⟩ := h.2 i t q
    exact ⟨c, by rw [List.getElem?_append_left (List.getElem?_eq_some_iff.mp h1).1]; exact h1, h2⟩
  · exact ⟨v, by rw [← h.1, List.getElem?_append_right (Nat.le_refl _)]; simp, k⟩
theorem LsA.at {α : Type} {R : V → α → Prop} {xs : List V} {as : List α} (h : LsA R xs as) {i : Nat} {v : V} (hv : xs[i]? = some v) : ∃ a, as[i]? = some a ∧ R v a := by
  have il := (List.getElem?_eq_some_iff.mp hv).1
  rw [h.1] at il
  obtain ⟨u, h1, h2⟩ := h.2 i _ (List.getElem?_eq_getElem il)
  rw [hv] at h1
  cases h1
  exact ⟨_, List.getElem?_eq_getElem il, h2⟩
theorem nodup_le {α : Type} : ∀ {ks zs : List α}, ks.Nodup → (∀ k ∈ ks, k ∈ zs) → ks.length ≤ zs.length := fun n h => n.length_le_of_subset h
theorem up_take {α : Type} {l : List α} {i : Nat} {x : α} (h : l[i]? = some x) : l.take (i + 1) = l.take i ++ [x] := by rw [List.take_add_one, h]; rfl
def spFallL (K : PySem.W.Frag) : Sp := fun vs H Q _ => ∃ (a : Addr) (xs : List Nat), vs = [.ref a] ∧ H a = some (.lst (nvs xs)) ∧ Ris xs ∧ ∀ H', Ex H H' → Q .non H'
set_option maxHeartbeats 4000000 in
theorem ok_first_fallL (T : TX K mg A FD TK CC) : FnOk P w K mg base CX0 2 (A 46) (FD 46) ["things"] (spFallL K) := by
  have G_is_whole := ok_whl (P := P) (w := w) (base := base) T
  refine T.f_first_fall.ok (k := 1) sc_first_fall (fun vs H Q E h => ?_) (fun cdv A' outer s H vs Q E hr h => ?_)
  · obtain ⟨a, xs, rfl, _⟩ := h
    rfl
  · obtain ⟨a, xs, rfl, hS, hR, q⟩ := h
    refine ⟨_, (pss_cons (ps_set (i := 1) sc_first_fall.nd rfl (.inl rfl) (pe_un un_neg pe_int))
      (pss_cons (ps_for PassesOwn.never rfl (pi_enum (by rfl) T.m_enumerate (pa_cons (pv 0) pa_nil)) (pg_tup rfl (pgs_cons (pg_name (i := 2) sc_first_fall.nd rfl (.inl rfl)) (pgs_cons (pg_name (i := 3) sc_first_fall.nd rfl (.inl rfl)) pgs_nil)))
      (pss_cons (ps_if (PW.pt (pw_or (pt_not (pt_val (pe_call G_is_whole hr (by rfl) T.g_is_whole T.f_is_whole.kp T.b_is_whole .nil pass0 (pa_cons (pv 3) pa_nil)))) (pw_or1 (pt_cmpR op_le (pv 3) (pv 1) (nomark _)))))
      (pss_one (ps_ret (pv 2)))
      pss_nil)
      (pss_one (ps_set (i := 1) sc_first_fall.nd rfl (.inl rfl) (pv 3)))))
      (pss_one (ps_ret pe_non)))), ?_⟩
    refine ⟨1, rfl, .ref a, rfl, a, _, rfl, SqL.of hS, ?_⟩
    refine for_it (walk_enum (K := K) (a := a) (xs := nvs xs)) (fun i σ' H' => (∃ o1 o2, σ' = [some (.ref a), some (.int (ah xs i)), o1, o2]) ∧ Ex H H') ⟨⟨none, none, rfl⟩, Ex.refl H⟩ (fun i σ' H' _ p => SqL.of (p.2 _ _ hS)) (fun i x σ' H1 H2 hi p y => ?_) (fun σ' H1 p => ?_)
    · obtain ⟨⟨o1, o2, rfl⟩, x1⟩ := p
      obtain ⟨Tt, u1, u2, rfl, nT, rfl, g1, g2⟩ := y
      cases g1
      obtain ⟨n, gn, rfl, _⟩ := nvs_at g2
      have lt := hR i n gn
      refine ⟨Tt, _, rfl, SqT.of upd_same, rfl, _, _, rfl, _, _, rfl, rfl, .int (n : Int), rfl, n, rfl, _, rfl, ite2 (fun c => absurd c (by decide)) (fun _ => ?_)⟩
      refine ⟨.int (n : Int), rfl, .int (ah xs i), rfl, _, _, rfl, rfl, _, rfl, ite2 (fun c => ?_) (fun _ => ?_)⟩
      · have : (n : Int) ≤ ah xs i := of_decide_eq_true c
        omega
      · refine ⟨.int (n : Int), rfl, ⟨some (.int (i : Nat)), some (.int (n : Int)), ?_⟩, x1.trans (Ex.new nT)⟩
        show [some (V.ref a), some (V.int (n : Int)), some (V.int (i : Nat)), some (V.int (n : Int))] = [some (V.ref a), some (V.int (ah xs (i + 1))), some (V.int (i : Nat)), some (V.int (n : Int))]
        rw [ah, getD_at gn]
    · obtain ⟨⟨o1, o2, rfl⟩, x1⟩ := p
      exact q _ x1
def spAreSl : Sp := fun vs H Q _ => ∃ (a : Addr) (n : Nat) (xs : List Nat), vs = [.ref a, .int (n : Int)] ∧ H a = some (.lst (nvs xs)) ∧ xs.Pairwise (· < ·) ∧ (∀ i ∈ xs, i < n) ∧ ∀ H', Ex H H' → Q (.bl true) H'
set_option maxHeartbeats 4000000 in
theorem ok_are_slots (T : TX K mg A FD TK CC) : FnOk P w K mg base CX0 3 (A 79) (FD 79) ["things", "many"] spAreSl := by
  have G_first_fall := ok_first_fallL (P := P) (w := w) (base := base) T
  refine T.f_are_slots.ok (k := 2) sc_are_slots (fun vs H Q E h => ?_) (fun cdv A' outer s H vs Q E hr h => ?_)
  · obtain ⟨a, n, xs, rfl, _⟩ := h
    rfl
  · obtain ⟨a, n, xs, rfl, ha, hp, hl, q⟩ := h
    refine ⟨_, (pss_one (ps_ret (pe_and (pe_cmpR op_isN (pe_call G_first_fall hr (by rfl) T.g_first_fall T.f_first_fall.kp T.b_first_fall .nil pass0 (pa_cons (pv 0) pa_nil)) pe_non (nomark _)) (pe_one (pe_or (pe_notT (pv 0)) (pe_one (pe_cmpR op_lt (pe_ix (ixLK (K := K) rfl) (pv 0) (pe_un un_neg pe_int) (fun _ _ => rfl)) (pv 1) (nomark _)))))))), ?_⟩
    refine ⟨.ref a, rfl, a, xs, rfl, ha, ris_of hp, fun H1 e1 => ?_⟩
    have ha1 := SqL.of (K := K) (e1 _ _ ha)
    refine ⟨rfl, true, congrArg V.bl (decide_eq_true rfl), iteT ?_⟩
    by_cases hx : xs = []
    · subst hx
      exact ⟨.ref a, rfl, false, .inl ⟨_, ha1, rfl⟩, true, rfl, iteT (q H1 e1)⟩
    · have hpos : 0 < xs.length := List.length_pos_iff.mpr hx
      have g : xs[xs.length - 1]? = some xs[xs.length - 1] := List.getElem?_eq_getElem (by omega)
      have lst : atI (nvs xs) (-1) = some (.int (xs[xs.length - 1] : Nat)) := by
        refine atI_end ?_
        rw [nvs_len]
        unfold nvs
        rw [List.getElem?_map, g]
        rfl
      have ne : (nvs xs).isEmpty = false := by
        rw [List.isEmpty_eq_false_iff, ← List.length_pos_iff, nvs_len]
        exact hpos
      refine ⟨.ref a, rfl, true, .inl ⟨_, ha1, by rw [ne]; rfl⟩, false, rfl, iteF ?_⟩
      refine ⟨.ref a, rfl, 1, rfl, a, _, _, _, rfl, rfl, ha1, lst, .int (n : Int), rfl, _, _, rfl, rfl, ?_⟩
      show Q (V.bl (decide (((xs[xs.length - 1] : Nat) : Int) < (n : Int)))) H1
      rw [decide_eq_true (show ((xs[xs.length - 1] : Nat) : Int) < (n : Int) by have := hl _ (List.mem_of_getElem? g); omega)]
      exact q H1 e1

/-! ### standing slots, numbers, words -/
def SqE (K : PySem.W.Frag) (H : Hp) (a : Addr) (xs : List V) : Prop := SqL K H a xs ∨ SqT K H a xs
theorem SqE.ex {K : PySem.W.Frag} {H H' : Hp} {a : Addr} {xs : List V} (h : SqE K H a xs) (e : Ex H H') : SqE K H' a xs := h.elim (fun h => .inl (ex_l e h)) fun h => .inr (ex_t e h)
theorem nvs_flat (l : List Nat) : (nvs l).all flatV = true := by
  rw [List.all_eq_true]
  intro v hv
  obtain ⟨m, _, rfl⟩ := List.mem_map.mp hv
  rfl
theorem inV_nvs (n : Nat) : ∀ l : List Nat, inV (.int (n : Int)) (nvs l) = decide (n ∈ l)
  | [] => rfl
  | m :: r => by
    have ih := inV_nvs n r
    unfold inV at ih ⊢
    unfold nvs at ih ⊢
    rw [List.map_cons, List.any_cons, ih]
    by_cases h : n = m
    · subst h
      simp [eqV]
    · have h' : ¬ (m : Int) = (n : Int) := by omega
      have h2 : ¬ (n : Int) = (m : Int) := by omega
      simp [eqV, h, h', h2]
def spStSl (K : PySem.W.Frag) (CS CR CB : Addr) : Sp := fun vs H Q _ => ∃ (x gl : Addr) (s : Nat) (ps : List Pg) (gone : List Nat), vs = [.ref x, .ref gl] ∧ SegAt CS CR CB H x s ps ∧ ps.length ≤ 60 ∧ SqE K H gl (nvs gone) ∧ RetL (nvs (sts ps.length gone)) H Q
set_option maxHeartbeats 4000000 in
theorem ok_st_slots (T : TX K mg A FD TK CC) : FnOk P w K mg base CX0 3 (A 80) (FD 80) ["segment", "gone"] (spStSl K (A 71) (A 62) (A 61)) := by
  have G_Segment_len := (ok_slen (P := P) (w := w) (base := base) T).mono (show 1 ≤ 1 by decide)
  refine T.f_standing_slots.ok (k := 2) sc_standing_slots (fun vs H Q E h => ?_) (fun cdv A' outer s H vs Q E hr h => ?_)
  · obtain ⟨x, gl, s, ps, gone, rfl, _⟩ := h
    rfl
  · obtain ⟨x, gl, s, ps, gone, rfl, hS, few, hg, q⟩ := h
    obtain ⟨d, dx, t1, t2, kas, h1, _⟩ := id hS
    refine ⟨_, (pss_one (ps_ret (pe_lc (own := [("slot", 2)])  rfl sc_standing_slots.nd (pi_range1 (by rfl) T.m_range (pa_cons (pe_callB (Own.cr_lenO G_Segment_len T.M_Segment_len T.b_Segment_len pass0 hr) (by rfl) T.m_len (by decide +kernel) (pa_cons (pv 0) pa_nil)) pa_nil)) (blkOk_by (own := [("slot", 2)]) (N := N_standing_slots) (sc := defScope (topS 80)) (by decide +kernel)) (fun _ _ _ _ _ => (pg_name (i := 2) sc_standing_slots.nd rfl (Or.inl rfl))) (fun _ _ _ _ _ => (pts_one (pt_cmpR (notInK (K := K) rfl) (pv 2) (pv 1) (by rfl)))) (fun _ _ _ _ _ => (pv 2))))), ?_⟩
    refine ⟨.ref x, rfl, x, dx, _, rfl, h1, x, s, ps, rfl, hS, (ps.length : Int), rfl, ⟨by omega, by omega⟩, (ps.length : Int), rfl, by omega, by omega, fun D nD => ?_⟩
    refine lc_range (lo := 0) (n := (ps.length : Int).toNat) (fun i H' => Ex H H' ∧ H' D = some (.lst (nvs (sts i gone)))) ⟨Ex.new nD, upd_same⟩ (fun i H2 hi p => ?_) (fun H2 p => ?_)
    · obtain ⟨p1, p2⟩ := p
      rw [Int.toNat_natCast] at hi
      have lst := sts_len i gone
      refine ⟨rfl, .int ((0 : Int) + i), rfl, .ref gl, rfl, gl, nvs gone, rfl, hg.ex p1, rfl, nvs_flat gone, _, rfl, ?_⟩
      rw [Int.zero_add, inV_nvs]
      by_cases c : i ∈ gone
      · rw [decide_eq_true c]
        refine iteF ⟨p1, ?_⟩
        rw [sts_up, if_pos c, List.append_nil]
        exact p2
      · rw [decide_eq_false c]
        refine iteT ⟨.int (i : Nat), rfl, _, p2, ?_, Ex.mut p1 nD, ?_⟩
        · rw [nvs_len]
          exact sz_lt (by omega)
        · rw [upd_same, sts_up, if_neg c, nvs_snoc]
    · obtain ⟨p1, p2⟩ := p
      rw [Int.toNat_natCast] at p2
      exact q D H2 nD p1 p2
def spStNum (CS CR CB : Addr) : Sp := fun vs H Q _ => ∃ (x gl : Addr) (s : Nat) (ps : List Pg) (gone : List Nat), vs = [.ref x, .ref gl] ∧ SegAt CS CR CB H x s ps ∧ ps.length ≤ 60 ∧ H gl = some (.lst (nvs gone)) ∧ RetL ((sts ps.length gone).map fun i => V.int (pgAt ps i).1) H Q
set_option maxHeartbeats 4000000 in
theorem ok_st_nums (T : TX K mg A FD TK CC) : FnOk P w K mg base CX0 4 (A 81) (FD 81) ["segment", "gone"] (spStNum (A 71) (A 62) (A 61)) := by
  have G_Segment_numbers := (ok_snums (P := P) (w := w) (base := base) T).mono (show 1 ≤ 3 by decide)
  have G_standing_slots := (ok_st_slots (P := P) (w := w) (base := base) T).mono (show 3 ≤ 3 by decide)
  refine T.f_standing_numbers.ok (k := 3) sc_standing_numbers (fun vs H Q E h => ?_) (fun cdv A' outer s H vs Q E hr h => ?_)
  · obtain ⟨x, gl, s, ps, gone, rfl, _⟩ := h
    rfl
  · obtain ⟨x, gl, s, ps, gone, rfl, hS, few, hg, q⟩ := h
    obtain ⟨d, dx, t1, t2, kas, h1, _⟩ := id hS
    refine ⟨_, (pss_cons (ps_set (i := 2) sc_standing_numbers.nd rfl (.inr rfl) (pe_meth0 (pv 0) T.cl_Segment T.M_Segment_numbers G_Segment_numbers hr T.b_Segment_numbers .nil pass0))
      (pss_one (ps_ret (pe_lc (own := [("slot", 3)])  rfl sc_standing_numbers.nd (piLK (K := K) rfl (pe_call G_standing_slots hr (by rfl) T.g_standing_slots T.f_standing_slots.kp T.b_standing_slots .nil pass0 (pa_cons (pv 0) (pa_cons (pv 1) pa_nil)))) (blkOk_by (own := [("slot", 3)]) (N := N_standing_numbers) (sc := defScope (topS 81)) (by decide +kernel)) (fun _ _ _ _ _ => (pg_name (i := 3) sc_standing_numbers.nd rfl (Or.inl rfl))) (fun _ _ _ _ _ => pts_nil) (fun _ _ _ _ _ => (pe_ix (ixLK (K := K) rfl) (pv 2) (pv 3) (fun _ _ => rfl))))))), ?_⟩
    refine ⟨.ref x, rfl, x, dx, _, rfl, h1, rfl, x, s, ps, rfl, hS, fun l H1 nl e1 hl => ?_⟩
    refine ⟨.ref x, rfl, .ref gl, rfl, x, gl, s, ps, gone, rfl, hS.ex e1, few, .inl (SqL.of (e1 _ _ hg)), fun m H2 nm e2 hm => ?_⟩
    refine ⟨m, rfl, ⟨_, SqL.of hm⟩, fun D nD => ?_⟩
    refine lc_list (K := K) (xs := nvs (sts ps.length gone)) (fun i H' => Ex H2 H' ∧ H' D = some (.lst (((sts ps.length gone).take i).map fun i => V.int (pgAt ps i).1))) ⟨Ex.new nD, upd_same⟩ (fun i H' _ p => SqL.of (p.1 _ _ hm)) (fun i v H3 hv p => ?_) (fun H3 p => ?_)
    · obtain ⟨p1, p2⟩ := p
      obtain ⟨n, gn, rfl, il⟩ := nvs_at hv
      have nl := (sts_mem.mp (List.mem_of_getElem? gn)).1
      have stl := sts_len ps.length gone
      refine ⟨rfl, .ref l, rfl, .int (n : Int), rfl, l, _, _, .int (pgAt ps n).1, rfl, rfl, SqL.of (p1 _ _ (e2 _ _ hl)), atI_nat (by rw [List.getElem?_map, pgAt_in nl]; rfl), _, p2, ?_, Ex.mut p1 nD, ?_⟩
      · rw [List.length_map, List.length_take]
        exact sz_lt (by omega)
      · rw [upd_same, up_take gn, List.map_append]
        rfl
    · obtain ⟨p1, p2⟩ := p
      rw [nvs_len, List.take_length] at p2
      exact q D H3 (fresh_back (e1.trans e2) nD) ((e1.trans e2).trans p1) p2
def lensOf (ps : List Pg) (l : List Nat) : Int := (l.map fun i => ((pgAt ps i).2.length : Int)).sum
def spStWd (CS CR CB : Addr) : Sp := fun vs H Q _ => ∃ (x gl : Addr) (s : Nat) (ps : List Pg) (gone : List Nat), vs = [.ref x, .ref gl] ∧ SegAt CS CR CB H x s ps ∧ ps.length ≤ 60 ∧ H gl = some (.tup (nvs gone)) ∧ ∀ H', Ex H H' → Q (.int (lensOf ps (sts ps.length gone))) H'
set_option maxHeartbeats 4000000 in
theorem ok_st_words (T : TX K mg A FD TK CC) : FnOk P w K mg base CX0 4 (A 84) (FD 84) ["segment", "gone"] (spStWd (A 71) (A 62) (A 61)) := by
  have G_Segment_lengths := (ok_slens (P := P) (w := w) (base := base) T).mono (show 1 ≤ 3 by decide)
  have G_standing_slots := (ok_st_slots (P := P) (w := w) (base := base) T).mono (show 3 ≤ 3 by decide)
  refine T.f_standing_words.ok (k := 3) sc_standing_words (fun vs H Q E h => ?_) (fun cdv A' outer s H vs Q E hr h => ?_)
  · obtain ⟨x, gl, s, ps, gone, rfl, _⟩ := h
    rfl
  · obtain ⟨x, gl, s, ps, gone, rfl, hS, few, hg, q⟩ := h
    obtain ⟨d, dx, t1, t2, kas, h1, _⟩ := id hS
    refine ⟨_, (pss_cons (ps_set (i := 2) sc_standing_words.nd rfl (.inr rfl) (pe_meth0 (pv 0) T.cl_Segment T.M_Segment_lengths G_Segment_lengths hr T.b_Segment_lengths .nil pass0))
      (pss_one (ps_ret (pe_callB (sumK (K := K) rfl rfl) (by rfl) T.m_sum (by decide +kernel) (pa_cons (pe_lc (own := [("slot", 3)])  rfl sc_standing_words.nd (piLK (K := K) rfl (pe_call G_standing_slots hr (by rfl) T.g_standing_slots T.f_standing_slots.kp T.b_standing_slots .nil pass0 (pa_cons (pv 0) (pa_cons (pv 1) pa_nil)))) (blkOk_by (own := [("slot", 3)]) (N := N_standing_words) (sc := defScope (topS 84)) (by decide +kernel)) (fun _ _ _ _ _ => (pg_name (i := 3) sc_standing_words.nd rfl (Or.inl rfl))) (fun _ _ _ _ _ => pts_nil) (fun _ _ _ _ _ => (pe_ix (ixLK (K := K) rfl) (pv 2) (pv 3) (fun _ _ => rfl)))) pa_nil))))), ?_⟩
    refine ⟨.ref x, rfl, x, dx, _, rfl, h1, rfl, x, s, ps, rfl, hS, fun l H1 nl e1 hl => ?_⟩
    refine ⟨.ref x, rfl, .ref gl, rfl, x, gl, s, ps, gone, rfl, hS.ex e1, few, .inr (SqT.of (e1 _ _ hg)), fun m H2 nm e2 hm => ?_⟩
    refine ⟨m, rfl, ⟨_, SqL.of hm⟩, fun D nD => ?_⟩
    refine lc_list (K := K) (xs := nvs (sts ps.length gone)) (fun i H' => Ex H2 H' ∧ H' D = some (.lst (((sts ps.length gone).take i).map fun i => V.int ((pgAt ps i).2.length : Int)))) ⟨Ex.new nD, upd_same⟩ (fun i H' _ p => SqL.of (p.1 _ _ hm)) (fun i v H3 hv p => ?_) (fun H3 p => ?_)
    · obtain ⟨p1, p2⟩ := p
      obtain ⟨n, gn, rfl, il⟩ := nvs_at hv
      have nl := (sts_mem.mp (List.mem_of_getElem? gn)).1
      have stl := sts_len ps.length gone
      refine ⟨rfl, .ref l, rfl, .int (n : Int), rfl, l, _, _, .int ((pgAt ps n).2.length : Int), rfl, rfl, SqL.of (p1 _ _ (e2 _ _ hl)), atI_nat (by unfold nvs; rw [List.getElem?_map, List.getElem?_map, pgAt_in nl]; rfl), _, p2, ?_, Ex.mut p1 nD, ?_⟩
      · rw [List.length_map, List.length_take]
        exact sz_lt (by omega)
      · rw [upd_same, up_take gn, List.map_append]
        rfl
    · obtain ⟨p1, p2⟩ := p
      rw [nvs_len, List.take_length] at p2
      refine ⟨D, (sts ps.length gone).map fun i => ((pgAt ps i).2.length : Int), rfl, SqL.of ?_, q _ ((e1.trans e2).trans p1)⟩
      rw [p2, List.map_map]
      rfl

/-! ### is_shelved, check_shelf -/
/-- a part of a shelf on the heap: what is gone as a list or a tuple -/
def PrtA (mk : List V → HO) (CS CR CB : Addr) (H : Hp) (v : V) (q : Part) : Prop := ∃ a sg gl : Addr, v = .ref a ∧ H a = some (.tup [.ref sg, .ref gl]) ∧ SegAt CS CR CB H sg q.1 q.2.1 ∧ H gl = some (mk (nvs q.2.2))
theorem PrtA.ex {mk : List V → HO} {CS CR CB : Addr} {H H' : Hp} {v : V} {q : Part} (h : PrtA mk CS CR CB H v q) (e : Ex H H') : PrtA mk CS CR CB H' v q := by
  obtain ⟨a, sg, gl, h0, h1, h2, h3⟩ := h
  exact ⟨a, sg, gl, h0, e _ _ h1, h2.ex e, e _ _ h3⟩
def spIsSh (CS CR CB : Addr) : Sp := fun vs H Q _ => ∃ (v : V) (q : Part), vs = [v] ∧ PrtA HO.lst CS CR CB H v q ∧ PartOk q ∧ ∀ H', Ex H H' → Q (.bl true) H'
set_option maxHeartbeats 4000000 in
theorem ok_is_shelved (T : TX K mg A FD TK CC) : FnOk P w K mg base CX0 4 (A 78) (FD 78) ["thing"] (spIsSh (A 71) (A 62) (A 61)) := by
  have G_Segment_len := (ok_slen (P := P) (w := w) (base := base) T).mono (show 1 ≤ 2 by decide)
  have G_are_slots := (ok_are_slots (P := P) (w := w) (base := base) T).mono (show 3 ≤ 3 by decide)
  refine T.f_is_shelved.ok (k := 3) sc_is_shelved (fun vs H Q E h => ?_) (fun cdv A' outer s H vs Q E hr h => ?_)
  · obtain ⟨v, q, rfl, _⟩ := h
    rfl
  · obtain ⟨v, ⟨sz_, ps, gone⟩, rfl, ⟨a, sg, gl, rfl, h1, hS, h3⟩, ok, q⟩ := h
    obtain ⟨d, dx, t1, t2, kas, hx, _⟩ := id hS
    refine ⟨_, (pss_cons (ps_if (PW.pt (pw_or (pt_not (pt_val (pe_callB (isiK (K := K) rfl) (by rfl) T.m_isinstance (by decide +kernel) (pa_cons (pv 0) (pa_cons (pe_bltn (v := .ty "tuple") (by rfl) T.m_tuple (by decide +kernel) rfl) pa_nil))))) (pw_or1 (pt_cmpR op_ne (pe_callB (lenK (K := K) rfl) (by rfl) T.m_len (by decide +kernel) (pa_cons (pv 0) pa_nil)) pe_int (nomark _)))))
      (pss_one (ps_ret pe_bl))
      pss_nil)
      (pss_cons (ps_asg (pv 0) (pg_tup rfl (pgs_cons (pg_name (i := 1) sc_is_shelved.nd rfl (.inl rfl)) (pgs_cons (pg_name (i := 2) sc_is_shelved.nd rfl (.inl rfl)) pgs_nil))))
      (pss_one (ps_ret (pe_and (pe_callB (isiK (K := K) rfl) (by rfl) T.m_isinstance (by decide +kernel) (pa_cons (pv 1) (pa_cons (pe_glob (v := .ref (A 71)) (by rfl) T.k_Segment rfl) pa_nil))) (pe_and (pe_callB (isiK (K := K) rfl) (by rfl) T.m_isinstance (by decide +kernel) (pa_cons (pv 2) (pa_cons (pe_bltn (v := .ty "list") (by rfl) T.m_list (by decide +kernel) rfl) pa_nil))) (pe_one (pe_call G_are_slots hr (by rfl) T.g_are_slots T.f_are_slots.kp T.b_are_slots .nil pass0 (pa_cons (pv 2) (pa_cons (pe_callB (Own.cr_lenO G_Segment_len T.M_Segment_len T.b_Segment_len pass0 hr) (by rfl) T.m_len (by decide +kernel) (pa_cons (pv 1) pa_nil)) pa_nil)))))))))), ?_⟩
    refine ⟨.ref a, rfl, .ref a, .ty "tuple", .type "tuple", .type "tuple", true, rfl, .ty _, .base (.tup h1), kit_ty (by decide +kernel), ?_⟩
    refine ⟨true, rfl, iteF ?_⟩
    refine ⟨.ref a, rfl, a, _, rfl, .inr (SqT.of h1), rfl, _, rfl, iteF ?_⟩
    refine ⟨.ref a, rfl, a, _, rfl, SqT.of h1, rfl, _, _, rfl, _, _, rfl, rfl, ?_⟩
    refine ⟨.ref sg, rfl, .ref sg, .ref (A 71), _, .ref (A 71), true, rfl, .own _, .base (.ins hx T.cl_Segment T.ciS T.cs T.ct T.moS), T.kS, true, rfl, iteT ?_⟩
    refine ⟨.ref gl, rfl, .ref gl, .ty "list", .type "list", .type "list", true, rfl, .ty _, .base (.lst h3), kit_ty (by decide +kernel), true, rfl, iteT ?_⟩
    refine ⟨.ref gl, rfl, .ref sg, rfl, sg, dx, _, rfl, hx, sg, sz_, ps, rfl, hS, (ps.length : Int), rfl, ⟨by omega, by have : ps.length ≤ 60 := ok.seg.few; omega⟩, gl, ps.length, gone, rfl, h3, ok.inc, ok.lt, fun H1 e1 => q H1 e1⟩
theorem alive_up {qs : List Part} {i : Nat} {q : Part} (h : qs[i]? = some q) : alive (qs.take (i + 1)) = alive (qs.take i) ++ stP q := by
  unfold alive
  rw [up_take h, List.flatMap_append]
  simp
theorem stP_len (q : Part) : (stP q).length ≤ q.2.1.length := by
  unfold stP
  rw [List.length_map]
  exact sts_len _ _
theorem alive_len : ∀ {qs : List Part} {n : Nat}, (∀ q ∈ qs, q.2.1.length ≤ n) → (alive qs).length ≤ n * qs.length
  | [], _, _ => Nat.zero_le _
  | q :: r, n, h => by
    have ih := alive_len (qs := r) fun x hx => h x (List.mem_cons_of_mem _ hx)
    have h1 := Nat.le_trans (stP_len q) (h q (List.mem_cons_self ..))
    unfold alive at ih ⊢
    rw [List.flatMap_cons, List.length_append, List.length_cons, Nat.mul_add]
    omega
/-- a shelf -/
structure ShOk (qs : List Part) : Prop where
  few : qs.length ≤ 8
  part : ∀ q ∈ qs, PartOk q
  nd : ((alive qs).map (·.1)).Nodup
def spCkSh (CS CR CB : Addr) : Sp := fun vs H Q _ => ∃ (l : Addr) (xs : List V) (qs : List Part), vs = [.ref l] ∧ H l = some (.lst xs) ∧ LsA (PrtA HO.lst CS CR CB H) xs qs ∧ ShOk qs ∧ ∀ H', Ex H H' → Q .non H'
set_option maxHeartbeats 8000000 in
theorem ok_check_shelf (T : TX K mg A FD TK CC) : FnOk P w K mg base CX0 5 (A 77) (FD 77) ["shelf"] (spCkSh (A 71) (A 62) (A 61)) := by
  have G_is_shelved := (ok_is_shelved (P := P) (w := w) (base := base) T).mono (show 4 ≤ 4 by decide)
  have G_standing_numbers := (ok_st_nums (P := P) (w := w) (base := base) T).mono (show 4 ≤ 4 by decide)
  refine T.f_check_shelf.ok (k := 4) sc_check_shelf (fun vs H Q E h => ?_) (fun cdv A' outer s H vs Q E hr h => ?_)
  · obtain ⟨l, xs, qs, rfl, _⟩ := h
    rfl
  · obtain ⟨l, xs, qs, rfl, hl, hL, ok, q⟩ := h
    have few := ok.few
    have xl : xs.length = qs.length := hL.1
    refine ⟨_, (pss_cons (ps_if (PW.pt (pw_or (pt_not (pt_val (pe_callB (isiK (K := K) rfl) (by rfl) T.m_isinstance (by decide +kernel) (pa_cons (pv 0) (pa_cons (pe_bltn (v := .ty "list") (by rfl) T.m_list (by decide +kernel) rfl) pa_nil))))) (pw_or1 (pt_cmpR op_gt (pe_callB (lenK (K := K) rfl) (by rfl) T.m_len (by decide +kernel) (pa_cons (pv 0) pa_nil)) (pe_glob (v := .int 8) (by rfl) T.c_MOST_SEGMENTS ⟨_, rfl⟩) (nomark _)))))
      (pss_one ps_never)
      pss_nil)
      (pss_cons (ps_set (i := 1) sc_check_shelf.nd rfl (.inl rfl) (pe_callTy0 cr_set0 (by rfl) T.m_set (by decide +kernel)))
      (pss_one (ps_for PassesOwn.never rfl (pi_enum (by rfl) T.m_enumerate (pa_cons (pv 0) pa_nil)) (pg_tup rfl (pgs_cons (pg_name (i := 2) sc_check_shelf.nd rfl (.inl rfl)) (pgs_cons (pg_name (i := 3) sc_check_shelf.nd rfl (.inl rfl)) pgs_nil)))
      (pss_cons (ps_if (pt_not (pt_val (pe_call G_is_shelved hr (by rfl) T.g_is_shelved T.f_is_shelved.kp T.b_is_shelved .nil pass0 (pa_cons (pv 3) pa_nil))))
      (pss_one ps_never)
      pss_nil)
      (pss_cons (ps_asg (pv 3) (pg_tup rfl (pgs_cons (pg_name (i := 4) sc_check_shelf.nd rfl (.inl rfl)) (pgs_cons (pg_name (i := 5) sc_check_shelf.nd rfl (.inl rfl)) pgs_nil))))
      (pss_one (ps_for PassesOwn.never rfl (piLK (K := K) rfl (pe_call G_standing_numbers hr (by rfl) T.g_standing_numbers T.f_standing_numbers.kp T.b_standing_numbers .nil pass0 (pa_cons (pv 4) (pa_cons (pv 5) pa_nil)))) (pg_name (i := 6) sc_check_shelf.nd rfl (.inl rfl))
      (pss_cons (ps_if (pt_cmpR or_sin (pv 6) (pv 1) (by rfl))
      (pss_one ps_never)
      pss_nil)
      (pss_one (ps_expr (pe_sadd (pv 1) (pa_cons (pv 6) pa_nil))))))))))))), ?_⟩
    refine ⟨.ref l, rfl, .ref l, .ty "list", .type "list", .type "list", true, rfl, .ty _, .base (.lst hl), kit_ty (by decide +kernel), true, rfl, iteF ?_⟩
    refine ⟨.ref l, rfl, l, _, rfl, .inl (SqL.of hl), (xs.length : Int), 8, rfl, rfl, false, congrArg V.bl (decide_eq_false (by omega)), iteF ?_⟩
    refine ⟨rfl, fun sa nsa => ?_⟩
    have e1 := Ex.new (o := SetO w sa (fun _ => false) 0) nsa
    have hs1 := upd_same (H := H) (a := sa) (o := SetO w sa (fun _ => false) 0)
    refine ⟨.ref l, rfl, l, _, rfl, SqL.of (e1 _ _ hl), ?_⟩
    refine for_it (walk_enum (K := K) (a := l) (xs := xs)) (fun i σ' H' => (∃ o1 o2 o3 o4 o5, σ' = [some (.ref l), some (.ref sa), o1, o2, o3, o4, o5]) ∧ Ex H H' ∧ ∃ (S : Int → Bool) (m : Nat), H' sa = some (SetO w sa S m) ∧ m ≤ 60 * i ∧ ∀ k, S k = true ↔ k ∈ (alive (qs.take i)).map (·.1)) ⟨⟨none, none, none, none, none, rfl⟩, e1, _, _, hs1, Nat.le_refl _, fun k => ⟨fun h => (by cases h), fun h => (by cases h)⟩⟩ (fun i σ' H' _ p => SqL.of (p.2.1 _ _ hl)) (fun i x σ' H1 H2 hi p y => ?_) (fun σ' H1 p => q _ p.2.1)
    obtain ⟨⟨o1, o2, o3, o4, o5, rfl⟩, x1, S, m, hs, mi, hS⟩ := p
    obtain ⟨Tt, u1, u2, rfl, nT, rfl, g1, g2⟩ := y
    cases g1
    obtain ⟨pt, gp, hpt⟩ := hL.at g2
    have il : i < qs.length := (List.getElem?_eq_some_iff.mp gp).1
    have pok := ok.part pt (List.mem_of_getElem? gp)
    have eT := Ex.new (o := .tup [V.int (i : Nat), u2]) nT
    have hs2 := eT _ _ hs
    have x2 := x1.trans eT
    refine ⟨Tt, _, rfl, SqT.of upd_same, rfl, _, _, rfl, _, _, rfl, rfl, ?_⟩
    generalize (upd H1 Tt (.tup [V.int (i : Nat), u2])) = H3 at hs2 x2 ⊢
    refine ⟨u2, rfl, u2, pt, rfl, hpt.ex x2, pok, fun H4 e4 => ⟨true, rfl, iteF ?_⟩⟩
    have x4 := x2.trans e4
    obtain ⟨a, sg, gl, rfl, h1, hSg, h3⟩ := hpt.ex x4
    refine ⟨.ref a, rfl, a, _, rfl, SqT.of h1, rfl, _, _, rfl, _, _, rfl, rfl, ?_⟩
    refine ⟨.ref sg, rfl, .ref gl, rfl, sg, gl, pt.1, pt.2.1, pt.2.2, rfl, hSg, pok.seg.few, h3, fun nl H5 nnl e5 hnl => ?_⟩
    refine ⟨nl, rfl, ⟨_, SqL.of hnl⟩, ?_⟩
    have x5 := x4.trans e5
    have nums : (sts pt.2.1.length pt.2.2).map (fun i => V.int (pgAt pt.2.1 i).1) = (((stP pt).map (·.1)).map V.int) := by unfold stP; rw [List.map_map, List.map_map]; rfl
    rw [nums] at hnl
    have up := alive_up gp
    have nd := ok.nd
    have pl := Nat.le_trans (stP_len pt) pok.seg.few
    refine for_list (K := K) (a := nl) (xs := (((stP pt).map (·.1)).map V.int)) (fun j σ' H' => (∃ o6, σ' = [some (.ref l), some (.ref sa), some (.int (i : Nat)), some (.ref a), some (.ref sg), some (.ref gl), o6]) ∧ Ex H H' ∧ H' nl = some (.lst (((stP pt).map (·.1)).map V.int)) ∧ ∃ (S : Int → Bool) (m : Nat), H' sa = some (SetO w sa S m) ∧ m ≤ 60 * i + j ∧ ∀ k, S k = true ↔ k ∈ (alive (qs.take i)).map (·.1) ++ ((stP pt).map (·.1)).take j) ⟨⟨o5, rfl⟩, x5, hnl, S, m, e5 _ _ (e4 _ _ hs2), by omega, fun k => by rw [List.take_zero, List.append_nil]; exact hS k⟩ (fun j σ' H' _ p => SqL.of p.2.2.1) (fun j v σ' H6 hj p => ?_) (fun σ' H6 p => ?_)
    · obtain ⟨⟨o6, rfl⟩, x6, hnl6, S', m', hs6, mj, hS'⟩ := p
      rw [List.getElem?_map] at hj
      obtain ⟨n, hn, rfl⟩ := Option.map_eq_some_iff.mp hj
      have jl := (List.getElem?_eq_some_iff.mp hn).1
      rw [List.length_map] at jl
      have nin : S' n = false := by
        cases hsn : S' n with
        | false => rfl
        | true =>
          have mem := (hS' n).mp hsn
          have nd2 : ((alive (qs.take (i + 1))).map (·.1)).Nodup := by
            have e : alive qs = alive (qs.take (i + 1)) ++ alive (qs.drop (i + 1)) := by
              unfold alive
              rw [← List.flatMap_append, List.take_append_drop]
            rw [e, List.map_append] at nd
            exact (List.nodup_append.mp nd).1
          rw [up, List.map_append] at nd2
          obtain ⟨_, nd3, nd4⟩ := List.nodup_append.mp nd2
          rcases List.mem_append.mp mem with h | h
          · exact absurd rfl (nd4 n h n (List.mem_of_getElem? hn))
          · obtain ⟨r, hr'⟩ := List.mem_iff_getElem?.mp h
            have rl := (List.getElem?_eq_some_iff.mp hr').1
            rw [List.length_take] at rl
            rw [List.getElem?_take, if_pos (by omega)] at hr'
            have := (List.getElem?_inj (by rw [List.length_map]; omega) nd3).mp (hr'.trans hn.symm)
            omega
      refine ⟨.int n, rfl, .ref sa, rfl, n, sa, S', m', rfl, rfl, hs6, false, congrArg V.bl nin, iteF ?_⟩
      refine ⟨.ref sa, rfl, ⟨sa, S', m', rfl, hs6⟩, .int n, rfl, sa, n, S', m', rfl, rfl, hs6, by show _ < 4096; omega, ⟨_, rfl⟩, Ex.mut x6 nsa, ?_, _, _, upd_same, ?_, fun k => ?_⟩
      · have : nl ≠ sa := fun e => by rw [e] at hnl6; rw [hs6] at hnl6; cases hnl6
        rw [upd_ne this]
        exact hnl6
      · rw [nin, if_neg (by decide)]
        omega
      · rw [up_take hn, ← List.append_assoc, List.mem_append, ← hS' k, Bool.or_eq_true, decide_eq_true_eq]
        simp
    · obtain ⟨⟨o6, rfl⟩, x6, hnl6, S', m', hs6, mj, hS'⟩ := p
      rw [List.length_map, List.length_map] at mj
      rw [List.length_map, List.take_length] at hS'
      refine ⟨⟨_, _, _, _, _, rfl⟩, x6, S', m', hs6, by omega, fun k => ?_⟩
      rw [hS' k, up, List.map_append]

/-! ### what stays -/
theorem WkAt.keep {N N' : Addr → Prop} {CW CB : Addr} {H H' : Hp} {x d : Addr} {s n : Nat} {es : List En} {ls O : List Nat} (h : WkAt N CW CB H x d s es ls O n) (ki : ∀ b C dx fs, (fs.length = 6 ∨ b = x) → H b = some (.ins C dx fs) → H' b = some (.ins C dx fs)) (kd : ∀ kvs, H d = some (.dK kvs) → H' d = some (.dK kvs)) (kt : ∀ b zs, H b = some (.tup zs) → H' b = some (.tup zs))
    (kl : ∀ b zs, ¬ N b → H b = some (.lst zs) → H' b = some (.lst zs)) (kv : ∀ b, H b ≠ none → ¬ N b → ¬ N' b) (kn : ∀ a, N' a → H' a ≠ none) : WkAt N' CW CB H' x d s es ls O n := by
  obtain ⟨t, ⟨dx, hl, bs, kvs, hW⟩, hS, hn⟩ := h
  have ex : ∀ {b : Addr} {o : HO}, H b = some o → H b ≠ none := fun {b o} e z => by
    rw [z] at e
    cases e
  refine ⟨t, ⟨dx, hl, bs, kvs, ki _ _ _ _ (.inr rfl) hW.ix, kl _ _ hW.ah hW.ih, ⟨hW.ib.1, fun j b g => ?_⟩, kd _ hW.id, ⟨hW.io.keys, hW.io.nd, hW.io.lt, fun j hj => ?_, hW.io.no, fun j hj l gl => ?_⟩, kv _ (ex hW.ih) hW.ah, kn⟩, kt _ _ hS, hn⟩
  · obtain ⟨db, hb⟩ := hW.ib.2 j b g
    exact ⟨db, ki _ _ _ _ (.inl rfl) hb⟩
  · obtain ⟨l, xs, h1, h2, h3⟩ := hW.io.has j hj
    exact ⟨l, xs, h1, kl _ _ (hW.io.av j hj l h1) h2, h3.mono kt⟩
  · obtain ⟨l', xs, h1, h2, h3⟩ := hW.io.has j hj
    rw [h1] at gl
    cases gl
    exact kv _ (ex h2) (hW.io.av j hj _ h1)
section
variable {N : Addr → Prop} {CW CB : Addr} {H H' : Hp} {x d p D : Addr} {s n c : Nat} {es : List En} {ls O : List Nat} {o : HO} {ys : List V}
theorem WkAt.ixd (h : WkAt N CW CB H x d s es ls O n) : ∃ dx hl t kvs, H x = some (.ins CW dx (walkF hl d t)) ∧ H d = some (.dK kvs) ∧ O.length ≤ nb es.length s ∧ n ≤ es.length := by
  obtain ⟨t, ⟨dx, hl, bs, kvs, hW⟩, hS, hn⟩ := h
  have l := hW.io.len
  exact ⟨dx, hl, t, kvs, hW.ix, hW.id, by omega, hn⟩
theorem WkAt.nn (h : WkAt N CW CB H x d s es ls O n) : ∀ a, N a → H a ≠ none := let ⟨_, ⟨_, _, _, _, hW⟩, _⟩ := h; hW.nn
/-- a list to keep out of is written -/
theorem WkAt.updN (h : WkAt N CW CB H x d s es ls O n) (hD : N D) (hl : H D = some (.lst ys)) : WkAt N CW CB (upd H D o) x d s es ls O n :=
  h.keep (fun b C dx fs _ g => by rw [upd_ne (ne_of g hl (by intro z; cases z))]; exact g) (fun kvs g => by rw [upd_ne (ne_of g hl (by intro z; cases z))]; exact g) (fun b zs g => by rw [upd_ne (ne_of g hl (by intro z; cases z))]; exact g)
    (fun b zs hb g => by rw [upd_ne (fun e : b = D => hb (by rw [e]; exact hD))]; exact g) (fun b _ h => h) fun a ha => nn_of (d := D) upd_same (fun b o nb g => by rw [upd_ne nb]; exact g) (h.nn a ha)
/-- a new one is kept out of too -/
theorem WkAt.more (h : WkAt N CW CB H x d s es ls O n) (nD : H D = none) : WkAt (fun a => N a ∨ a = D) CW CB (upd H D o) x d s es ls O n := by
  have e := Ex.new (o := o) nD
  refine h.keep (fun b C dx fs _ g => e _ _ g) (fun kvs g => e _ _ g) (fun b zs g => e _ _ g) (fun b zs _ g => e _ _ g) (fun b hb h => ?_) fun a ha => ?_
  · exact fun z => z.elim h fun e => hb (e ▸ nD)
  · rcases ha with ha | rfl
    · exact nn_ex e (h.nn a ha)
    · rw [upd_same]
      intro z
      cases z
theorem WkAt.less {N' : Addr → Prop} (h : WkAt N CW CB H x d s es ls O n) (k : ∀ a, N' a → N a) : WkAt N' CW CB H x d s es ls O n :=
  h.keep (fun b C dx fs _ g => g) (fun kvs g => g) (fun b zs g => g) (fun b zs _ g => g) (fun b _ h z => h (k b z)) fun a ha => h.nn a (k a ha)
theorem WkAt.fx (h : WkAt N CW CB H x d s es ls O n) (hN : N p) (hp : Pl H p c) {c2 : Nat} (f : Fx p H H') (hp' : Pl H' p c2) : WkAt N CW CB H' x d s es ls O n := by
  obtain ⟨g, b, k, x1, x2⟩ := hp
  obtain ⟨g', b', k', y1, y2⟩ := hp'
  exact h.keep (fun b C dx fs _ hb => f _ _ (ne_of hb x1 (by intro z; cases z)) hb) (fun kvs hb => f _ _ (ne_of hb x1 (by intro z; cases z)) hb) (fun b zs hb => f _ _ (ne_of hb x1 (by intro z; cases z)) hb)
    (fun b zs hz hb => f _ _ (fun e : _ = p => hz (by rw [e]; exact hN)) hb) (fun b _ h => h) fun a ha => nn_of (d := p) y1 (fun b o nb g => f b o nb g) (h.nn a ha)
/-- another walker's deed -/
theorem WkAt.other {x' d' dx' h' t' : Addr} {CW' : Addr} {kv' : List (Key × V)} (h : WkAt N CW CB H x d s es ls O n) (hx' : H x' = some (.ins CW' dx' (walkF h' d' t'))) (hd' : H d' = some (.dK kv')) (nx : x ≠ x') (nd : d ≠ d') (i : ExW x' d' H H') (kn : ∀ a, N a → H' a ≠ none) : WkAt N CW CB H' x d s es ls O n :=
  h.keep (fun b C dx fs hk g => i _ _ (fun e => by
      rcases hk with hk | hk
      · rw [e, hx'] at g
        cases g
        exact absurd (show (3 : Nat) = 6 from hk) (by decide)
      · exact nx (hk.symm.trans e)) (ne_of g hd' (by intro z; cases z)) g) (fun kvs g => i _ _ (ne_of g hx' (by intro z; cases z)) nd g) (fun b zs g => i _ _ (ne_of g hx' (by intro z; cases z)) (ne_of g hd' (by intro z; cases z)) g)
    (fun b zs _ g => i _ _ (ne_of g hx' (by intro z; cases z)) (ne_of g hd' (by intro z; cases z)) g) (fun b _ h => h) kn
end
theorem WkH.at {N : Addr → Prop} {CW CB : Addr} {H : Hp} {x d t : Addr} {s n : Nat} {es : List En} {ls O : List Nat} (h : WkH N CW CB H x d t s es ls O) (hS : StAt H t s es n) (hn : n ≤ es.length) : WkAt N CW CB H x d s es ls O n := ⟨t, h, hS, hn⟩
/-! ### glance, the walk through a row -/
theorem sub_len : ∀ (n : Nat) (O : List Nat), (∀ j, j < n → j ∈ O) → n ≤ O.length
  | 0, O, _ => Nat.zero_le _
  | n + 1, O, h => by
    have h1 := h n (Nat.lt_succ_self n)
    have h2 := sub_len n (O.erase n) fun j hj => (List.mem_erase_of_ne (by omega)).mpr (h j (by omega))
    rw [List.length_erase_of_mem h1] at h2
    have := List.length_pos_of_mem h1
    omega
theorem opS_sub {O : List Nat} {es : List En} {s n i : Nat} (h : i ∈ O) : i ∈ opS O es s n := by
  unfold opS
  split
  · exact h
  · exact mem_addO.mpr (.inl h)
theorem ExI.mutn {x D : Addr} {H H' : Hp} {o : HO} (a : ExI x H H') (n : H D = none) : ExI x H (upd H' D o) := fun b q nb h => by
  rw [upd_ne (ne_of_none h n)]
  exact a b q nb h
theorem stand_of {N : Addr → Prop} {CW CB : Addr} {H : Hp} {x d t dx hl : Addr} {s : Nat} {es : List En} {ls O : List Nat} (h : WkH N CW CB H x d t s es ls O) (t2 dx2 hl2 : Addr) (e : H x = some (.ins CW dx2 (walkF hl2 d t2))) : t2 = t := by
  obtain ⟨dx1, hl1, bs, kvs, hW⟩ := h
  rw [hW.ix] at e
  unfold walkF at e
  cases e
  rfl

/-! ### standing_holders -/
theorem ents_has {k : Str} {ps : List Pg} {i : Nat} (hi : i < ps.length) : (∃ e ∈ ents k 0 (ps.map (·.2)), e.1 = i) ↔ hasW ps k i = true := by
  unfold hasW
  rw [decide_eq_true_eq]
  constructor
  · rintro ⟨e, he, rfl⟩
    obtain ⟨_, ws, h1, h2, h3⟩ := ents_mem he
    rw [Nat.sub_zero, List.getElem?_map, pgAt_in hi] at h1
    cases h1
    rw [h2] at h3
    exact plc_ne.mp h3
  · intro h
    have g : (ps.map (·.2))[i]? = some (pgAt ps i).2 := by rw [List.getElem?_map, pgAt_in hi]; rfl
    have := mem_ents (k := 0) g h
    rw [Nat.zero_add] at this
    exact ⟨_, this, rfl⟩
theorem slotV_dec {k : Str} {ps : List Pg} {i n m : Nat} (hi : i < ps.length) (hb : ∀ j, j < n → ∀ e, (ents k 0 (ps.map (·.2)))[j]? = some e → e.1 < i) (hs : Sought (ents k 0 (ps.map (·.2))) (i : Int) n m) :
    scal (slotV (ents k 0 (ps.map (·.2))) m) (.int (i : Nat)) = true ∧ decide (slotV (ents k 0 (ps.map (·.2))) m = .int (i : Nat)) = hasW ps k i ∧ ∀ j, j < m → ∀ e, (ents k 0 (ps.map (·.2)))[j]? = some e → e.1 < i := by
  have low : ∀ j, j < m → ∀ e, (ents k 0 (ps.map (·.2)))[j]? = some e → e.1 < i := fun j hj e he => by
    by_cases c : j < n
    · exact hb j c e he
    · have := hs.3 j (by omega) hj e he
      omega
  have pr := ents_pair k (ps.map (·.2)) 0
  refine ⟨?_, ?_, low⟩
  · cases hm : (ents k 0 (ps.map (·.2)))[m]? with
    | none => unfold slotV; rw [hm]; rfl
    | some e => rw [slotV_in hm]; rfl
  · rw [Bool.eq_iff_iff, decide_eq_true_eq, ← ents_has hi]
    cases hm : (ents k 0 (ps.map (·.2)))[m]? with
    | none =>
      unfold slotV
      rw [hm]
      refine ⟨fun h => (by cases h), fun h => ?_⟩
      obtain ⟨e, he, e1⟩ := h
      obtain ⟨j, hj⟩ := List.mem_iff_getElem?.mp he
      have jl := (List.getElem?_eq_some_iff.mp hj).1
      have ml := List.getElem?_eq_none_iff.mp hm
      have := low j (by omega) e hj
      omega
    | some e =>
      rw [slotV_in hm]
      refine ⟨fun h => ⟨e, List.mem_of_getElem? hm, by have := V.int.inj h; omega⟩, fun h => ?_⟩
      obtain ⟨e', he', e1⟩ := h
      obtain ⟨j, hj⟩ := List.mem_iff_getElem?.mp he'
      have ge := hs.4 e hm
      rcases Nat.lt_trichotomy j m with c | c | c
      · have := low j c e' hj
        omega
      · subst c
        rw [hm] at hj
        cases hj
        rw [e1]
      · have a1 := slots_at hm
        have a2 := slots_at hj
        have p := List.pairwise_iff_getElem.mp pr m j (List.getElem?_eq_some_iff.mp a1).1 (List.getElem?_eq_some_iff.mp a2).1 c
        rw [(List.getElem?_eq_some_iff.mp a1).2, (List.getElem?_eq_some_iff.mp a2).2] at p
        have p : e.1 < e'.1 := p
        omega
def spStHo (CS CR CB : Addr) : Sp := fun vs H Q _ => ∃ (x gl : Addr) (q : Part) (k : Str), vs = [.ref x, .ref gl, .str k] ∧ SegAt CS CR CB H x q.1 q.2.1 ∧ PartOk q ∧ isW k = true ∧ H gl = some (.tup (nvs q.2.2)) ∧ ∀ H', Ex H H' → Q (.int (holdN q k : Nat)) H'
set_option maxHeartbeats 8000000 in
theorem ok_st_holders (T : TX K mg A FD TK CC) : FnOk P w K mg base CX0 14 (A 85) (FD 85) ["segment", "gone", "word"] (spStHo (A 71) (A 62) (A 61)) := by
  have G_Segment_row := (ok_srowA (P := P) (w := w) (base := base) T).mono (show 12 ≤ 13 by decide)
  have G_Walker := (ok_winit (P := P) (w := w) (base := base) T).mono (show 2 ≤ 12 by decide)
  have G_Row_len := (ok_rlen (P := P) (w := w) (base := base) T).mono (show 1 ≤ 12 by decide)
  have G_Walker_seek := (ok_seek (P := P) (w := w) (base := base) T).mono (show 7 ≤ 13 by decide)
  have B1_Walker := T.b_Walker_init
  have R1_Walker : Vals [] [] := .nil
  refine T.f_standing_holders.ok (k := 13) sc_standing_holders (fun vs H Q E h => ?_) (fun cdv A' outer s H vs Q E hr h => ?_)
  · obtain ⟨x, gl, q, k, rfl, _⟩ := h
    rfl
  · obtain ⟨x, gl, ⟨sz_, ps, gone⟩, k, rfl, hS, ok, hw, hg, q⟩ := h
    obtain ⟨d, dx, t1, t2, kas, h1, _⟩ := id hS
    refine ⟨_, (pss_cons (ps_set (i := 3) sc_standing_holders.nd rfl (.inl rfl) (pe_meth (pv 0) T.cl_Segment T.M_Segment_row G_Segment_row hr T.b_Segment_row .nil pass0 (pa_cons (pv 2) pa_nil)))
      (pss_cons (ps_set (i := 4) sc_standing_holders.nd rfl (.inr rfl) (pe_make T.M_Walker G_Walker hr (by rfl) T.k_Walker B1_Walker R1_Walker pass0 (pa_cons (pv 3) pa_nil)))
      (pss_one (ps_ret (pe_op op_sub (pe_callB (Own.cr_lenO G_Row_len T.M_Row_len T.b_Row_len pass0 hr) (by rfl) T.m_len (by decide +kernel) (pa_cons (pv 3) pa_nil)) (pe_callB (lenK (K := K) rfl) (by rfl) T.m_len (by decide +kernel) (pa_cons (pe_lc (own := [("slot", 5)])  rfl sc_standing_holders.nd (piTK (K := K) rfl (pv 1)) (blkOk_by (own := [("slot", 5)]) (N := N_standing_holders) (sc := defScope (topS 85)) (by decide +kernel)) (fun _ _ _ _ _ => (pg_name (i := 5) sc_standing_holders.nd rfl (Or.inl rfl))) (fun _ _ _ _ _ => (pts_one (pt_cmpR op_eq (pe_meth (pv 4) T.cl_Walker T.M_Walker_seek G_Walker_seek hr T.b_Walker_seek .nil pass0 (pa_cons (pv 5) pa_nil)) (pv 5) (nomark _)))) (fun _ _ _ _ _ => (pv 5))) pa_nil))))))), ?_⟩
    have hRI := ok.seg.pg.row hw ok.seg.lo ok.seg.hi
    have hR : WkR sz_ (ents k 0 (ps.map (·.2))) ((ps.map (·.2)).map List.length) := ⟨hRI.lo, hRI.hi, hRI.ens, hRI.fit⟩
    have es_few : (ents k 0 (ps.map (·.2))).length ≤ 60 := hRI.ens.few
    have g_few : gone.length ≤ 60 := ok.gl
    refine ⟨.ref x, rfl, x, dx, _, rfl, h1, rfl, .str k, rfl, x, sz_, ps, k, rfl, hS, ok.seg, hw, fun r H1 e1 hr1 => ?_⟩
    refine ⟨.ref r, rfl, fun wx wdx nwx nwd _ => ?_⟩
    have x0 := ex2 (o := .own wx) (u := .ins (A 67) wdx []) nwx nwd
    refine ⟨(fun _ => False), wx, wdx, r, k, sz_, _, _, rfl, upd_same, hr1.ex x0, hR, (fun a h => h.elim), fun wd H2 nwd2 i2 hW => ⟨rfl, ?_⟩⟩
    have e2 : Ex H1 H2 := ExI.new nwx nwd i2
    have nd1 : H1 wd = none := fresh_back x0 nwd2
    have hr2 := hr1.ex e2
    obtain ⟨dxr, tr, br, hrr, hr2b, _⟩ := id hr2
    refine ⟨.ref r, rfl, r, dxr, _, rfl, hrr, r, k, sz_, _, _, rfl, hr2, hRI, fun H3 e3 => ⟨_, rfl, ⟨by omega, by omega⟩, ?_⟩⟩
    have hW3 := hW.ex e3
    have e03 : Ex H H3 := (e1.trans e2).trans e3
    refine ⟨.ref gl, rfl, gl, rfl, ⟨_, SqT.of (e03 _ _ hg)⟩, fun D nD => ?_⟩
    have hgn : gone.Pairwise (· < ·) := ok.inc
    have hgl : ∀ i ∈ gone, i < ps.length := ok.lt
    have nxd : D ≠ wx := by obtain ⟨_, _, _, _, hx', _⟩ := hW3.ixd; exact (ne_of_none hx' nD).symm
    have ndd : D ≠ wd := by obtain ⟨_, _, _, _, _, hd', _⟩ := hW3.ixd; exact (ne_of_none hd' nD).symm
    have nDH : H D = none := fresh_back e03 nD
    have old : ∀ {b o}, H b = some o → b ≠ wx ∧ b ≠ wd := fun {b o} hb => ⟨ne_of_none (e1 _ _ hb) nwx, ne_of_none (e1 _ _ hb) nd1⟩
    refine lc_tup (K := K) (xs := nvs gone) (fun i H' => ∃ (n : Nat) (O : List Nat), Ex H H' ∧ WkAt (fun a => False ∨ a = D) (A 67) (A 61) H' wx wd sz_ (ents k 0 (ps.map (·.2))) ((ps.map (·.2)).map List.length) O n ∧ (∀ j, j < n → ∀ e, (ents k 0 (ps.map (·.2)))[j]? = some e → ∀ z ∈ gone.drop i, e.1 < z) ∧ H' D = some (.lst (nvs ((gone.take i).filter (hasW ps k))))) ⟨0, [], e03.trans (Ex.new nD), hW3.more nD, fun j hj => absurd hj (Nat.not_lt_zero j), upd_same⟩ (fun i H' _ p => let ⟨_, _, p1, _⟩ := p; SqT.of (p1 _ _ hg)) (fun i v H4 hv p => ?_) (fun H4 p => ?_)
    · obtain ⟨n, O, p1, hW4, low, hD⟩ := p
      obtain ⟨z, gz, rfl, il⟩ := nvs_at hv
      have zi := hgl z (List.mem_of_getElem? gz)
      have dz : gone.drop i = z :: gone.drop (i + 1) := by
        rw [List.drop_eq_getElem_cons il]
        congr 1
        exact (List.getElem?_eq_some_iff.mp gz).2
      obtain ⟨dxw, hlw, tw, kvw, hx4, hd4, _⟩ := hW4.ixd
      refine ⟨rfl, .ref wx, rfl, wx, dxw, _, rfl, hx4, rfl, .int (z : Nat), rfl, _, wx, wd, sz_, _, _, O, n, (z : Nat), rfl, hW4, hR, fun m H5 hs w5 hW5 => ?_⟩
      obtain ⟨q1, q2, q3⟩ := slotV_dec zi (fun j hj e he => low j hj e he z (by rw [dz]; exact List.mem_cons_self ..)) hs
      have e5 : Ex H H5 := fun b o hb => w5 b o (old hb).1 (old hb).2 (p1 _ _ hb)
      have hD5 := w5 D _ nxd ndd hD
      have low5 : ∀ j, j < m → ∀ e, (ents k 0 (ps.map (·.2)))[j]? = some e → ∀ z' ∈ gone.drop (i + 1), e.1 < z' := fun j hj e he z' hz' => by
        have h1 := q3 j hj e he
        have h2 : (gone.drop i).Pairwise (· < ·) := hgn.sublist (List.drop_sublist _ _)
        rw [dz] at h2
        have := (List.pairwise_cons.mp h2).1 z' hz'
        omega
      refine ⟨.int (z : Nat), rfl, q1, _, rfl, ?_⟩
      rw [q2]
      have fl := List.length_filter_le (hasW ps k) (gone.take i)
      rw [List.length_take] at fl
      cases hc : hasW ps k z with
      | true =>
        refine iteT ⟨.int (z : Nat), rfl, _, hD5, ?_, m, _, Ex.mut e5 nDH, hW5.updN (.inr rfl) hD5, low5, ?_⟩
        · rw [nvs_len]
          exact sz_lt (by omega)
        · rw [upd_same, up_take gz, List.filter_append, List.filter_cons_of_pos hc, List.filter_nil, nvs_snoc]
      | false =>
        refine iteF ⟨m, _, e5, hW5, low5, ?_⟩
        rw [up_take gz, List.filter_append, List.filter_cons_of_neg (by rw [hc]; decide), List.filter_nil, List.append_nil]
        exact hD5
    · obtain ⟨n, O, p1, hW4, low, hD⟩ := p
      rw [nvs_len, List.take_length] at hD
      have fl := List.length_filter_le (hasW ps k) gone
      refine ⟨D, _, rfl, .inl (SqL.of hD), _, _, rfl, rfl, ?_⟩
      rw [nvs_len, ← List.countP_eq_length_filter]
      have := (hold_is ok k).1
      show Q (.int (((ents k 0 (ps.map (·.2))).length : Int) - (gone.countP (hasW ps k) : Int))) H4
      rw [show ((ents k 0 (ps.map (·.2))).length : Int) - (gone.countP (hasW ps k) : Int) = (holdN (sz_, ps, gone) k : Int) from this.symm]
      exact q H4 p1

/-! ### Figures -/
def hidX (H : Hp) (x : Addr) : Hp := fun b => if b = x then none else H b
theorem hid_at {H : Hp} {x b : Addr} (n : b ≠ x) : hidX H x b = H b := if_neg n
theorem hid_x {H : Hp} {x : Addr} : hidX H x x = none := if_pos rfl
theorem ex_hid {H H' : Hp} {x : Addr} (i : ExI x H H') : Ex (hidX H x) H' := fun b o h => by
  by_cases c : b = x
  · rw [c, hid_x] at h
    cases h
  · rw [hid_at c] at h
    exact i b o c h
theorem SegAt.hid {CS CR CB C x dx sg : Addr} {H : Hp} {s : Nat} {ps : List Pg} (h : SegAt CS CR CB H sg s ps) (hx : H x = some (.ins C dx [])) : SegAt CS CR CB (hidX H x) sg s ps := by
  obtain ⟨d, e, t1, t2, kas, h1, h2, h3, h4, h5⟩ := h
  have ni : ∀ {b D e : Addr} {fs : List (Str × V)}, H b = some (.ins D e fs) → fs ≠ [] → b ≠ x := fun hb hf => ne_of hb hx (fun z => hf (HO.ins.inj z).2.2)
  refine ⟨d, e, t1, t2, kas, by rw [hid_at (ni h1 (by simp [segF]))]; exact h1, by rw [hid_at (ne_of h2 hx (by intro z; cases z))]; exact h2, by rw [hid_at (ne_of h3 hx (by intro z; cases z))]; exact h3, by rw [hid_at (ne_of h4 hx (by intro z; cases z))]; exact h4, h5.one, h5.keys, fun p hp => ?_⟩
  obtain ⟨dr, t, bs, r1, r2, r3⟩ := h5.row p hp
  refine ⟨dr, t, bs, by rw [hid_at (ni r1 (by simp [rowF]))]; exact r1, by rw [hid_at (ne_of r2 hx (by intro z; cases z))]; exact r2, r3.1, fun i b g => ?_⟩
  obtain ⟨db, hb⟩ := r3.2 i b g
  exact ⟨db, by rw [hid_at (ni hb (by simp [blkF]))]; exact hb⟩
theorem SegAt.updL {CS CR CB D sg : Addr} {H : Hp} {s : Nat} {ps : List Pg} {ys : List V} {o : HO} (h : SegAt CS CR CB H sg s ps) (hD : H D = some (.lst ys)) : SegAt CS CR CB (upd H D o) sg s ps := by
  obtain ⟨d, e, t1, t2, kas, h1, h2, h3, h4, h5⟩ := h
  exact ⟨d, e, t1, t2, kas, by rw [upd_ne (ne_of h1 hD (by intro z; cases z))]; exact h1, by rw [upd_ne (ne_of h2 hD (by intro z; cases z))]; exact h2, by rw [upd_ne (ne_of h3 hD (by intro z; cases z))]; exact h3, by rw [upd_ne (ne_of h4 hD (by intro z; cases z))]; exact h4, h5.one, h5.keys, fun p hp => (h5.row p hp).updL hD⟩
theorem PrtA.updL {CS CR CB D : Addr} {H : Hp} {v : V} {q : Part} {ys : List V} {o : HO} (h : PrtA HO.tup CS CR CB H v q) (hD : H D = some (.lst ys)) : PrtA HO.tup CS CR CB (upd H D o) v q := by
  obtain ⟨a, sg, gl, h0, h1, h2, h3⟩ := h
  exact ⟨a, sg, gl, h0, by rw [upd_ne (ne_of h1 hD (by intro z; cases z))]; exact h1, h2.updL hD, by rw [upd_ne (ne_of h3 hD (by intro z; cases z))]; exact h3⟩
theorem hid_exI {H H' : Hp} {x : Addr} (i : ExI x H H') : Ex (hidX H x) (hidX H' x) := fun b o h => by
  by_cases c : b = x
  · rw [c, hid_x] at h
    cases h
  · rw [hid_at c] at h ⊢
    exact i b o c h
theorem hid_ex {H H' : Hp} {x : Addr} (e : Ex H H') : Ex (hidX H x) (hidX H' x) := hid_exI fun b o _ h => e b o h
theorem hid_le {H : Hp} {x : Addr} : Ex (hidX H x) H := fun b o h => by
  by_cases c : b = x
  · rw [c, hid_x] at h
    cases h
  · rwa [hid_at c] at h
theorem hid_upd {H : Hp} {x D : Addr} {o : HO} (n : D ≠ x) : hidX (upd H D o) x = upd (hidX H x) D o := by
  funext b
  by_cases c : b = x
  · subst c
    rw [hid_x, upd_ne n.symm, hid_x]
  · rw [hid_at c]
    by_cases e : b = D
    · subst e
      rw [upd_same, upd_same]
    · rw [upd_ne e, upd_ne e, hid_at c]
theorem hid_same {H : Hp} {x : Addr} {o : HO} : hidX (upd H x o) x = hidX H x := by
  funext b
  by_cases c : b = x
  · subst c
    rw [hid_x, hid_x]
  · rw [hid_at c, hid_at c, upd_ne c]
def holdS (qs : List Part) (k : Str) : Nat := (alive qs).countP fun g => decide (k ∈ g.2)
theorem countP_alive (f : Pg → Bool) : ∀ qs : List Part, (alive qs).countP f = (qs.map fun q => (stP q).countP f).sum
  | [] => rfl
  | q :: r => by
    have ih := countP_alive f r
    unfold alive at ih ⊢
    rw [List.flatMap_cons, List.countP_append, ih, List.map_cons, List.sum_cons]
theorem length_alive : ∀ qs : List Part, (alive qs).length = (qs.map fun q => (stP q).length).sum
  | [] => rfl
  | q :: r => by
    have ih := length_alive r
    unfold alive at ih ⊢
    rw [List.flatMap_cons, List.length_append, ih, List.map_cons, List.sum_cons]
def wordsS (qs : List Part) : Int := ((alive qs).map fun g => (g.2.length : Int)).sum
theorem words_alive : ∀ qs : List Part, wordsS qs = (qs.map fun q => lensOf q.2.1 (sts q.2.1.length q.2.2)).sum
  | [] => rfl
  | q :: r => by
    have ih := words_alive r
    unfold wordsS alive at ih ⊢
    rw [List.flatMap_cons, List.map_append, List.sum_append, ih, List.map_cons, List.sum_cons]
    congr 1
    unfold stP lensOf
    rw [List.map_map]
    rfl
theorem sum_nat (l : List Nat) : (l.map fun n : Nat => (n : Int)).sum = (l.sum : Int) := by
  induction l with
  | nil => rfl
  | cons a r ih => rw [List.map_cons, List.sum_cons, List.sum_cons, ih]; omega
def figF (t cd : Addr) (qs : List Part) : List (Str × V) := [("parts", .ref t), ("pages_in_all", .int ((alive qs).length : Nat)), ("words_in_all", .int (wordsS qs)), ("counted", .ref cd)]
/-- the figures of a shelf; n words at most are counted -/
structure FigD (CF CS CR CB : Addr) (H : Hp) (f cd t dx : Addr) (ys : List V) (kvs : List (Key × V)) (qs : List Part) (n : Nat) : Prop where
  ix : H f = some (.ins CF dx (figF t cd qs))
  it : H t = some (.tup ys)
  ip : LsA (PrtA HO.tup CS CR CB (hidX H cd)) ys qs
  id : H cd = some (.dK kvs)
  few : kvs.length ≤ n
  cnt : ∀ k v, valV kvs k = some v → ∃ z : Str, k = .inr z ∧ v = .int (holdS qs z : Nat)
def FigAt (CF CS CR CB : Addr) (H : Hp) (f cd : Addr) (qs : List Part) (n : Nat) : Prop := ∃ (t dx : Addr) (ys : List V) (kvs : List (Key × V)), FigD CF CS CR CB H f cd t dx ys kvs qs n
theorem FigAt.ex {CF CS CR CB f cd : Addr} {H H' : Hp} {qs : List Part} {n : Nat} (h : FigAt CF CS CR CB H f cd qs n) (e : Ex H H') : FigAt CF CS CR CB H' f cd qs n := by
  obtain ⟨t, dx, ys, kvs, h⟩ := h
  exact ⟨t, dx, ys, kvs, e _ _ h.ix, e _ _ h.it, h.ip.mono fun v q _ k => k.ex (hid_ex e), e _ _ h.id, h.few, h.cnt⟩
theorem FigAt.updL {CF CS CR CB f cd D : Addr} {H : Hp} {qs : List Part} {n : Nat} {xs : List V} {o : HO} (h : FigAt CF CS CR CB H f cd qs n) (hD : H D = some (.lst xs)) : FigAt CF CS CR CB (upd H D o) f cd qs n := by
  obtain ⟨t, dx, ys, kvs, h⟩ := h
  exact ⟨t, dx, ys, kvs, by rw [upd_ne (ne_of h.ix hD (by intro z; cases z))]; exact h.ix, by rw [upd_ne (ne_of h.it hD (by intro z; cases z))]; exact h.it, h.ip.mono fun v q _ k => (by have n : D ≠ cd := (ne_of hD h.id (by intro z; cases z)); rw [hid_upd n]; exact k.updL (by rw [hid_at n]; exact hD)), by rw [upd_ne (ne_of h.id hD (by intro z; cases z))]; exact h.id, h.few, h.cnt⟩
def spFigI (CF CS CR CB : Addr) : Sp := fun vs H Q _ => ∃ (x dx l : Addr) (xs : List V) (qs : List Part), vs = [.ref x, .ref l] ∧ H x = some (.ins CF dx []) ∧ H l = some (.lst xs) ∧ LsA (PrtA HO.lst CS CR CB H) xs qs ∧ ShOk qs ∧
  ∀ (cd : Addr) (H' : Hp), H cd = none → ExI x H H' → FigAt CF CS CR CB H' x cd qs 0 → Q .non H'
set_option maxHeartbeats 8000000 in
theorem ok_figinit (T : TX K mg A FD TK CC) : FnOk P w K mg base CX0 6 (A 125) (FD 125) ["self", "shelf"] (spFigI (A 83) (A 71) (A 62) (A 61)) := by
  have G_check_shelf := (ok_check_shelf (P := P) (w := w) (base := base) T).mono (show 5 ≤ 5 by decide)
  have G_standing_slots := (ok_st_slots (P := P) (w := w) (base := base) T).mono (show 3 ≤ 5 by decide)
  have G_standing_words := (ok_st_words (P := P) (w := w) (base := base) T).mono (show 4 ≤ 5 by decide)
  refine T.f_Figures_init.ok (k := 5) sc_Figures_init (fun vs H Q E h => ?_) (fun cdv A' outer s H vs Q E hr h => ?_)
  · obtain ⟨x, dx, l, xs, qs, rfl, _⟩ := h
    rfl
  · obtain ⟨x, dx, l, xs, qs, rfl, hx, hl, hL, ok, q⟩ := h
    have few := ok.few
    have xl : xs.length = qs.length := hL.1
    refine ⟨_, (pss_cons (ps_expr (pe_call G_check_shelf hr (by rfl) T.g_check_shelf T.f_check_shelf.kp T.b_check_shelf .nil pass0 (pa_cons (pv 1) pa_nil)))
      (pss_cons (ps_fld (pv 0) (pe_callTy (tupK (K := K) rfl) (by rfl) T.m_tuple (by decide +kernel) (pa_cons (pe_lc (own := [("segment", 2), ("gone", 3)])  rfl sc_Figures_init.nd (piLK (K := K) rfl (pv 1)) (blkOk_by (own := [("segment", 2), ("gone", 3)]) (N := N_Figures_init) (sc := defScope (inClass (topS 83) 0)) (by decide +kernel)) (fun _ _ _ _ _ => (tupGK (K := K) (n := 2) rfl rfl (pgs_cons (pg_name (i := 2) sc_Figures_init.nd rfl (Or.inl rfl)) (pgs_cons (pg_name (i := 3) sc_Figures_init.nd rfl (Or.inl rfl)) pgs_nil)))) (fun _ _ _ _ _ => pts_nil) (fun _ _ _ _ _ => (pe_tup (pa_cons (pv 2) (pa_cons (pe_callTy (tupK (K := K) rfl) (by rfl) T.m_tuple (by decide +kernel) (pa_cons (pv 3) pa_nil)) pa_nil))))) pa_nil)) rfl)
      (pss_cons (ps_fld (pv 0) (pe_callB (sumK (K := K) rfl rfl) (by rfl) T.m_sum (by decide +kernel) (pa_cons (pe_lc (own := [("segment", 2), ("gone", 3)])  rfl sc_Figures_init.nd (piTK (K := K) rfl (fldK (K := K) rfl (pv 0) rfl)) (blkOk_by (own := [("segment", 2), ("gone", 3)]) (N := N_Figures_init) (sc := defScope (inClass (topS 83) 0)) (by decide +kernel)) (fun _ _ _ _ _ => (tupGK (K := K) (n := 2) rfl rfl (pgs_cons (pg_name (i := 2) sc_Figures_init.nd rfl (Or.inl rfl)) (pgs_cons (pg_name (i := 3) sc_Figures_init.nd rfl (Or.inl rfl)) pgs_nil)))) (fun _ _ _ _ _ => pts_nil) (fun _ _ _ _ _ => (pe_callB (lenK (K := K) rfl) (by rfl) T.m_len (by decide +kernel) (pa_cons (pe_call G_standing_slots hr (by rfl) T.g_standing_slots T.f_standing_slots.kp T.b_standing_slots .nil pass0 (pa_cons (pv 2) (pa_cons (pv 3) pa_nil))) pa_nil)))) pa_nil)) rfl)
      (pss_cons (ps_fld (pv 0) (pe_callB (sumK (K := K) rfl rfl) (by rfl) T.m_sum (by decide +kernel) (pa_cons (pe_lc (own := [("segment", 2), ("gone", 3)])  rfl sc_Figures_init.nd (piTK (K := K) rfl (fldK (K := K) rfl (pv 0) rfl)) (blkOk_by (own := [("segment", 2), ("gone", 3)]) (N := N_Figures_init) (sc := defScope (inClass (topS 83) 0)) (by decide +kernel)) (fun _ _ _ _ _ => (tupGK (K := K) (n := 2) rfl rfl (pgs_cons (pg_name (i := 2) sc_Figures_init.nd rfl (Or.inl rfl)) (pgs_cons (pg_name (i := 3) sc_Figures_init.nd rfl (Or.inl rfl)) pgs_nil)))) (fun _ _ _ _ _ => pts_nil) (fun _ _ _ _ _ => (pe_call G_standing_words hr (by rfl) T.g_standing_words T.f_standing_words.kp T.b_standing_words .nil pass0 (pa_cons (pv 2) (pa_cons (pv 3) pa_nil))))) pa_nil)) rfl)
      (pss_one (ps_fld (pv 0) pe_dnewK rfl)))))), ?_⟩
    refine ⟨.ref l, rfl, l, xs, qs, rfl, hl, hL, ok, fun H1 e1 => ?_⟩
    have hx1 := e1 _ _ hx
    have hl1 := e1 _ _ hl
    have lx : l ≠ x := ne_of hl hx (by intro z; cases z)
    -- all but x
    have hLB : LsA (PrtA HO.lst (A 71) (A 62) (A 61) (hidX H x)) xs qs := hL.mono fun v q _ k => by
      obtain ⟨a, sg, gl, h0, k1, k2, k3⟩ := k
      exact ⟨a, sg, gl, h0, by rw [hid_at (ne_of k1 hx (by intro z; cases z))]; exact k1, k2.hid hx, by rw [hid_at (ne_of k3 hx (by intro z; cases z))]; exact k3⟩
    have hlB : hidX H x l = some (.lst xs) := by rw [hid_at lx]; exact hl
    have eB1 : Ex (hidX H x) H1 := ex_hid fun b o _ h => e1 _ _ h
    have hBx : hidX H x x = none := hid_x
    have fin : ∀ (cd : Addr) (H' : Hp), H cd = none → Ex (hidX H x) H' → FigAt (A 83) (A 71) (A 62) (A 61) H' x cd qs 0 → Q .non H' := fun cd H' nc e f => q cd H' nc (fun b o nb h => e b o (by rw [hid_at nb]; exact h)) f
    have nH : ∀ {c : Addr} {H' : Hp}, Ex (hidX H x) H' → H' x ≠ none → H' c = none → H c = none := fun {c H'} e nx n => by
      by_cases z : c = x
      · rw [z] at n; exact absurd n nx
      · have := fresh_back e n
        rwa [hid_at z] at this
    generalize hidX H x = HB at hLB hlB eB1 hBx fin nH
    refine ⟨.ref l, rfl, l, rfl, ⟨_, SqL.of hl1⟩, fun D nD => ?_⟩
    refine lc_list (K := K) (xs := xs) (fun i H' => Ex HB H' ∧ H' x = some (.ins (A 83) dx []) ∧ ∃ ys, H' D = some (.lst ys) ∧ LsA (PrtA HO.tup (A 71) (A 62) (A 61) H') ys (qs.take i)) ⟨eB1.trans (Ex.new nD), (Ex.new nD) _ _ hx1, [], upd_same, LsA.nil⟩ (fun i H' _ p => SqL.of (p.1 _ _ hlB)) (fun i v H2 hv p => ?_) (fun H2 p => ?_)
    · obtain ⟨p1, p2, ys, p3, p4⟩ := p
      obtain ⟨pt, gp, hpt⟩ := hLB.at hv
      obtain ⟨a, sg, gl, rfl, k1, k2, k3⟩ := hpt.ex p1
      refine ⟨a, _, rfl, SqT.of k1, rfl, _, _, rfl, _, _, rfl, rfl, rfl, .ref sg, rfl, .ref gl, rfl, gl, _, rfl, .inl ⟨SqL.of k3, fun t nt => ⟨by show 2 ≤ sizeLine; decide, fun b nb => ?_⟩⟩⟩
      have e3 := Ex.new (o := .tup (nvs pt.2.2)) nt
      have h3 := upd_same (H := H2) (a := t) (o := .tup (nvs pt.2.2))
      generalize (upd H2 t (.tup (nvs pt.2.2))) = H3 at e3 h3 nb ⊢
      have e4 := Ex.new (o := .tup [.ref sg, .ref t]) nb
      have h4 := upd_same (H := H3) (a := b) (o := .tup [.ref sg, .ref t])
      generalize (upd H3 b (.tup [.ref sg, .ref t])) = H4 at e4 h4 ⊢
      have e34 := e3.trans e4
      have hD4 := e34 _ _ p3
      have nDx : x ≠ D := ne_of p2 p3 (by intro z; cases z)
      refine ⟨ys, hD4, ?_, Ex.mut (p1.trans e34) (fresh_back eB1 nD), ?_, ys ++ [.ref b], upd_same, ?_⟩
      · rw [p4.1, List.length_take]
        exact sz_lt (by omega)
      · rw [upd_ne nDx]
        exact e34 _ _ p2
      · rw [up_take gp]
        exact LsA.mono ((p4.mono fun v q _ k => k.ex e34).snoc ⟨b, sg, t, rfl, h4, k2.ex e34, e4 _ _ h3⟩) fun v q _ k => PrtA.updL k hD4
    obtain ⟨p1, p2, ys, p3, p4⟩ := p
    rw [xl, List.take_length] at p4
    refine ⟨D, _, rfl, .inl ⟨SqL.of p3, fun t nt => ?_⟩⟩
    have e3 := Ex.new (o := .tup ys) nt
    have h3 := upd_same (H := H2) (a := t) (o := .tup ys)
    have hx3 := e3 _ _ p2
    have hL3 := p4.mono fun v q _ (k : PrtA HO.tup _ _ _ _ v q) => k.ex e3
    have eB3 := p1.trans e3
    have tx : t ≠ x := (ne_of_none p2 nt).symm
    generalize (upd H2 t (.tup ys)) = H3 at e3 h3 hx3 hL3 eB3 ⊢
    refine ⟨.ref x, rfl, x, A 83, dx, _, rfl, hx3, T.cl_Figures, T.n_Figures_parts, (by show 0 < 1000; decide), ?_⟩
    have hLB2 : LsA (PrtA HO.tup (A 71) (A 62) (A 61) (hidX H3 x)) ys qs := hL3.mono fun v q _ k => by
      obtain ⟨a, sg, gl, h0, k1, k2, k3⟩ := k
      exact ⟨a, sg, gl, h0, by rw [hid_at (ne_of k1 hx3 (by intro z; cases z))]; exact k1, k2.hid hx3, by rw [hid_at (ne_of k3 hx3 (by intro z; cases z))]; exact k3⟩
    have htB2 : hidX H3 x t = some (.tup ys) := by rw [hid_at tx]; exact h3
    have eB2 : Ex HB (hidX H3 x) := fun b o h => by
      rw [hid_at (ne_of_none h hBx)]
      exact eB3 _ _ h
    have hB2x : hidX H3 x x = none := hid_x
    have e4 : Ex (hidX H3 x) (upd H3 x (.ins (A 83) dx (putF "parts" (.ref t) []))) := ex_hid fun b o nb h => by rw [upd_ne nb]; exact h
    have hx4 := upd_same (H := H3) (a := x) (o := .ins (A 83) dx (putF "parts" (.ref t) []))
    show tSeq _ _ _ _ (upd H3 x (.ins (A 83) dx (putF "parts" (.ref t) [])))
    generalize (upd H3 x (.ins (A 83) dx (putF "parts" (.ref t) []))) = H4 at e4 hx4 ⊢
    generalize hidX H3 x = HC at hLB2 htB2 eB2 hB2x e4
    clear hL3 eB3 hx3 h3 e3 nt p1 p2 p3 p4 nD eB1 hl1 hx1 e1
    have yl : ys.length = qs.length := hLB2.1
    have x1f : ∀ (qs : List Part) (i : Nat) (pt : Part), qs[i]? = some pt → (qs.take (i + 1)).map (fun q => ((stP q).length : Int)) = (qs.take i).map (fun q => ((stP q).length : Int)) ++ [((stP pt).length : Int)] := fun qs i pt g => by
      rw [up_take g, List.map_append]
      rfl
    refine ⟨.ref x, rfl, x, A 83, dx, _, _, rfl, hx4, T.cl_Figures, T.n_Figures_parts, rfl, t, rfl, ⟨_, SqT.of (e4 _ _ htB2)⟩, fun D nD => ?_⟩
    refine lc_tup (K := K) (xs := ys) (fun i H' => Ex HC H' ∧ H' x = some (.ins (A 83) dx [("parts", .ref t)]) ∧ H' D = some (.lst (((qs.take i).map fun q => ((stP q).length : Int)).map V.int))) ⟨e4.trans (Ex.new nD), (Ex.new nD) _ _ hx4, upd_same⟩ (fun i H' _ p => SqT.of (p.1 _ _ htB2)) (fun i v H5 hv p => ?_) (fun H5 p => ?_)
    · obtain ⟨p1, p2, p3⟩ := p
      obtain ⟨pt, gp, hpt⟩ := hLB2.at hv
      obtain ⟨a, sg, gl, rfl, k1, k2, k3⟩ := hpt.ex p1
      have pok := ok.part pt (List.mem_of_getElem? gp)
      have nDx : x ≠ D := ne_of p2 p3 (by intro z; cases z)
      refine ⟨a, _, rfl, SqT.of k1, rfl, _, _, rfl, _, _, rfl, rfl, rfl, .ref sg, rfl, .ref gl, rfl, sg, gl, pt.1, pt.2.1, pt.2.2, rfl, k2, pok.seg.few, .inr (SqT.of k3), fun l6 H6 nl6 e6 hl6 => ⟨l6, _, rfl, .inl (SqL.of hl6), _, e6 _ _ p3, ?_, Ex.mut (p1.trans e6) (fresh_back e4 nD), ?_, ?_⟩⟩
      · rw [List.length_map, List.length_map, List.length_take]
        exact sz_lt (by omega)
      · rw [upd_ne nDx]
        exact e6 _ _ p2
      · rw [upd_same, x1f _ _ _ gp, List.map_append, nvs_len]
        unfold stP
        rw [List.length_map]
        rfl
    obtain ⟨p1, p2, p3⟩ := p
    rw [yl, List.take_length] at p3
    refine ⟨D, _, rfl, SqL.of p3, ?_⟩
    have se : ((qs.map fun q => ((stP q).length : Int)).sum) = ((alive qs).length : Nat) := by
      rw [length_alive, ← sum_nat, List.map_map]
      rfl
    rw [se]
    refine ⟨.ref x, rfl, x, A 83, dx, _, rfl, p2, T.cl_Figures, T.n_Figures_pages_in_all, (by show 1 < 1000; decide), ?_⟩
    have e6 : Ex HC (upd H5 x (.ins (A 83) dx (putF "pages_in_all" (.int ((alive qs).length : Nat)) [("parts", .ref t)]))) := Ex.mut p1 hB2x
    have hx6 := upd_same (H := H5) (a := x) (o := .ins (A 83) dx (putF "pages_in_all" (.int ((alive qs).length : Nat)) [("parts", .ref t)]))
    show tSeq _ _ _ _ (upd H5 x (.ins (A 83) dx (putF "pages_in_all" (.int ((alive qs).length : Nat)) [("parts", .ref t)])))
    generalize (upd H5 x (.ins (A 83) dx (putF "pages_in_all" (.int ((alive qs).length : Nat)) [("parts", .ref t)]))) = H6 at e6 hx6 ⊢
    clear p1 p2 p3 nD e4 hx4
    refine ⟨.ref x, rfl, x, A 83, dx, _, _, rfl, hx6, T.cl_Figures, T.n_Figures_parts, rfl, t, rfl, ⟨_, SqT.of (e6 _ _ htB2)⟩, fun D nD => ?_⟩
    refine lc_tup (K := K) (xs := ys) (fun i H' => Ex HC H' ∧ H' x = some (.ins (A 83) dx [("parts", .ref t), ("pages_in_all", .int ((alive qs).length : Nat))]) ∧ H' D = some (.lst (((qs.take i).map fun q => lensOf q.2.1 (sts q.2.1.length q.2.2)).map V.int))) ⟨e6.trans (Ex.new nD), (Ex.new nD) _ _ hx6, upd_same⟩ (fun i H' _ p => SqT.of (p.1 _ _ htB2)) (fun i v H7 hv p => ?_) (fun H7 p => ?_)
    · obtain ⟨p1, p2, p3⟩ := p
      obtain ⟨pt, gp, hpt⟩ := hLB2.at hv
      obtain ⟨a, sg, gl, rfl, k1, k2, k3⟩ := hpt.ex p1
      have pok := ok.part pt (List.mem_of_getElem? gp)
      have nDx : x ≠ D := ne_of p2 p3 (by intro z; cases z)
      refine ⟨a, _, rfl, SqT.of k1, rfl, _, _, rfl, _, _, rfl, rfl, rfl, .ref sg, rfl, .ref gl, rfl, sg, gl, pt.1, pt.2.1, pt.2.2, rfl, k2, pok.seg.few, k3, fun H8 e8 => ⟨_, e8 _ _ p3, ?_, Ex.mut (p1.trans e8) (fresh_back e6 nD), ?_, ?_⟩⟩
      · rw [List.length_map, List.length_map, List.length_take]
        exact sz_lt (by omega)
      · rw [upd_ne nDx]
        exact e8 _ _ p2
      · rw [upd_same, up_take gp, List.map_append, List.map_append]
        rfl
    obtain ⟨p1, p2, p3⟩ := p
    rw [yl, List.take_length] at p3
    refine ⟨D, _, rfl, SqL.of p3, ?_⟩
    rw [← words_alive]
    refine ⟨.ref x, rfl, x, A 83, dx, _, rfl, p2, T.cl_Figures, T.n_Figures_words_in_all, (by show 2 < 1000; decide), ?_⟩
    have e8 : Ex HC (upd H7 x (.ins (A 83) dx (putF "words_in_all" (.int (wordsS qs)) [("parts", .ref t), ("pages_in_all", .int ((alive qs).length : Nat))]))) := Ex.mut p1 hB2x
    have hx8 := upd_same (H := H7) (a := x) (o := .ins (A 83) dx (putF "words_in_all" (.int (wordsS qs)) [("parts", .ref t), ("pages_in_all", .int ((alive qs).length : Nat))]))
    show tSeq _ _ _ _ (upd H7 x (.ins (A 83) dx (putF "words_in_all" (.int (wordsS qs)) [("parts", .ref t), ("pages_in_all", .int ((alive qs).length : Nat))])))
    generalize (upd H7 x (.ins (A 83) dx (putF "words_in_all" (.int (wordsS qs)) [("parts", .ref t), ("pages_in_all", .int ((alive qs).length : Nat))]))) = H8 at e8 hx8 ⊢
    refine fun cd ncd => ?_
    have e9 := Ex.new (o := .dK []) ncd
    have h9 := upd_same (H := H8) (a := cd) (o := .dK [])
    have hx9 := e9 _ _ hx8
    have cx : cd ≠ x := (ne_of_none hx8 ncd).symm
    have nC : HC cd = none := fresh_back e8 ncd
    have eC9 := e8.trans e9
    generalize (upd H8 cd (.dK [])) = H9 at e9 h9 hx9 eC9 ⊢
    refine ⟨.ref x, rfl, x, A 83, dx, _, rfl, hx9, T.cl_Figures, T.n_Figures_counted, (by show 3 < 1000; decide), ?_⟩
    have e10 : Ex HC (upd H9 x (.ins (A 83) dx (putF "counted" (.ref cd) [("parts", .ref t), ("pages_in_all", .int ((alive qs).length : Nat)), ("words_in_all", .int (wordsS qs))]))) := Ex.mut eC9 hB2x
    refine fin cd _ (nH (eB2.trans e8) (by rw [hx8]; intro z; cases z) ncd) (eB2.trans e10) ⟨t, dx, ys, [], upd_same, e10 _ _ htB2, hLB2.mono fun v q _ k => k.ex (fun b o h => by rw [hid_at (ne_of_none h nC)]; exact e10 _ _ h), ?_, Nat.le_refl _, fun k v h => (by cases h)⟩
    rw [upd_ne cx]
    exact h9

/-! ### Figures.holders of a word -/
def spHold (CF CS CR CB : Addr) : Sp := fun vs H Q _ => ∃ (f cd : Addr) (qs : List Part) (n : Nat) (z : Str), vs = [.ref f, .str z] ∧ FigAt CF CS CR CB H f cd qs n ∧ n ≤ 5000 ∧ ShOk qs ∧ isW z = true ∧
  ∀ H', ExI cd H H' → FigAt CF CS CR CB H' f cd qs (n + 1) → Q (.int (holdS qs z : Nat)) H'
set_option maxHeartbeats 8000000 in
theorem ok_hold (T : TX K mg A FD TK CC) : FnOk P w K mg base CX0 15 (A 126) (FD 126) ["self", "word"] (spHold (A 83) (A 71) (A 62) (A 61)) := by
  have G_check_word := (ok_check_word (P := P) (w := w) (base := base) T).mono (show 2 ≤ 14 by decide)
  have G_standing_holders := (ok_st_holders (P := P) (w := w) (base := base) T).mono (show 14 ≤ 14 by decide)
  refine T.f_Figures_holders.ok (k := 14) sc_Figures_holders (fun vs H Q E h => ?_) (fun cdv A' outer s H vs Q E hr h => ?_)
  · obtain ⟨f, cd, qs, n, z, rfl, _⟩ := h
    rfl
  · obtain ⟨f, cd, qs, n, z, rfl, hF, hn, ok, hw, q⟩ := h
    refine ⟨_, (pss_cons (ps_expr (pe_call G_check_word hr (by rfl) T.g_check_word T.f_check_word.kp T.b_check_word .nil pass0 (pa_cons (pv 1) pa_nil)))
      (pss_cons (ps_if (pt_cmp (pc_dnotin (hu_of hr) (pv 1) (fldK (K := K) rfl (pv 0) rfl)))
      (pss_one (ps_dput (hu_of hr) (fldK (K := K) rfl (pv 0) rfl) (pv 1) (pe_callB (sumK (K := K) rfl rfl) (by rfl) T.m_sum (by decide +kernel) (pa_cons (pe_lc (own := [("segment", 2), ("gone", 3)])  rfl sc_Figures_holders.nd (piTK (K := K) rfl (fldK (K := K) rfl (pv 0) rfl)) (blkOk_by (own := [("segment", 2), ("gone", 3)]) (N := N_Figures_holders) (sc := defScope (inClass (topS 83) 1)) (by decide +kernel)) (fun _ _ _ _ _ => (tupGK (K := K) (n := 2) rfl rfl (pgs_cons (pg_name (i := 2) sc_Figures_holders.nd rfl (Or.inl rfl)) (pgs_cons (pg_name (i := 3) sc_Figures_holders.nd rfl (Or.inl rfl)) pgs_nil)))) (fun _ _ _ _ _ => pts_nil) (fun _ _ _ _ _ => (pe_call G_standing_holders hr (by rfl) T.g_standing_holders T.f_standing_holders.kp T.b_standing_holders .nil pass0 (pa_cons (pv 2) (pa_cons (pv 3) (pa_cons (pv 1) pa_nil)))))) pa_nil)) rfl))
      pss_nil)
      (pss_one (ps_ret (pe_dget (hu_of hr) (fldK (K := K) rfl (pv 0) rfl) (pv 1) (fun _ _ => rfl)))))), ?_⟩
    refine ⟨.str z, rfl, z, rfl, hw, fun H1 e1 => ?_⟩
    have hF1 := hF.ex e1
    have few := ok.few
    obtain ⟨t, dx, ys, kvs, hD⟩ := id hF1
    have fcd : f ≠ cd := ne_of hD.ix hD.id (by intro z; cases z)
    have tcd : t ≠ cd := ne_of hD.it hD.id (by intro z; cases z)
    cases hv : valV kvs (.inr z) with
    | some v =>
      obtain ⟨z', e, rfl⟩ := hD.cnt _ _ hv
      obtain rfl : z = z' := Sum.inr.inj e
      refine ⟨.str z, rfl, .ref f, rfl, f, A 83, dx, _, _, rfl, hD.ix, T.cl_Figures, T.n_Figures_counted, rfl, cd, some _, rfl, .inl ⟨kvs, .inr z, .inl hD.id, rfl, hv.symm⟩, false, rfl, iteF ?_⟩
      refine ⟨.ref f, rfl, f, A 83, dx, _, _, rfl, hD.ix, T.cl_Figures, T.n_Figures_counted, rfl, .str z, rfl, cd, _, rfl, .inl ⟨kvs, .inr z, .inl hD.id, rfl, hv.symm⟩, ?_⟩
      exact q H1 (ExI.ofEx e1) ⟨t, dx, ys, kvs, hD.ix, hD.it, hD.ip, hD.id, Nat.le_succ_of_le hD.few, hD.cnt⟩
    | none =>
      refine ⟨.str z, rfl, .ref f, rfl, f, A 83, dx, _, _, rfl, hD.ix, T.cl_Figures, T.n_Figures_counted, rfl, cd, none, rfl, .inl ⟨kvs, .inr z, .inl hD.id, rfl, hv.symm⟩, true, rfl, iteT ?_⟩
      refine ⟨.ref f, rfl, f, A 83, dx, _, _, rfl, hD.ix, T.cl_Figures, T.n_Figures_parts, rfl, t, rfl, ⟨_, SqT.of hD.it⟩, fun D nD => ?_⟩
      have yl : ys.length = qs.length := hD.ip.1
      have hsum : (qs.map fun q => (holdN q z : Int)).sum = (holdS qs z : Nat) := by
        unfold holdS
        rw [countP_alive, ← sum_nat, List.map_map]
        congr 1
        refine List.map_congr_left fun q hq => ?_
        rw [(hold_is (ok.part q hq) z).2]
        rfl
      refine lc_tup (K := K) (xs := ys) (fun i H' => Ex H1 H' ∧ H' D = some (.lst (((qs.take i).map fun q => (holdN q z : Int)).map V.int))) ⟨Ex.new nD, upd_same⟩ (fun i H' _ p => SqT.of (p.1 _ _ hD.it)) (fun i v H5 hv p => ?_) (fun H5 p => ?_)
      · obtain ⟨p1, p3⟩ := p
        obtain ⟨pt, gp, hpt⟩ := hD.ip.at hv
        obtain ⟨a, sg, gl, rfl, k1, k2, k3⟩ := (hpt.ex hid_le).ex p1
        have pok := ok.part pt (List.mem_of_getElem? gp)
        refine ⟨a, _, rfl, SqT.of k1, rfl, _, _, rfl, _, _, rfl, rfl, rfl, .ref sg, rfl, .ref gl, rfl, .str z, rfl, sg, gl, pt, z, rfl, k2, pok, hw, k3, fun H6 e6 => ⟨_, e6 _ _ p3, ?_, Ex.mut (p1.trans e6) nD, ?_⟩⟩
        · rw [List.length_map, List.length_map, List.length_take]
          exact sz_lt (by omega)
        · rw [upd_same, up_take gp, List.map_append, List.map_append]
          rfl
      obtain ⟨p1, p3⟩ := p
      rw [yl, List.take_length] at p3
      refine ⟨D, _, rfl, SqL.of p3, ?_⟩
      rw [hsum]
      refine ⟨.ref f, rfl, f, A 83, dx, _, _, rfl, p1 _ _ hD.ix, T.cl_Figures, T.n_Figures_counted, rfl, .str z, rfl, cd, _, rfl, DPut.k (k := .inr z) (p1 _ _ hD.id) (sz_lt (by have := hD.few; omega)), ?_⟩
      have i5 : ExI cd H (upd H5 cd (.dK (putK kvs (.inr z) (.int (holdS qs z : Nat))))) := ((ExI.ofEx e1).trans (ExI.ofEx p1)).trans (ExI.mut ExI.refl)
      have hip := hD.ip.mono fun v q _ (k : PrtA HO.tup _ _ _ _ v q) => k.ex (hid_ex p1)
      rw [← hid_same (H := H5) (x := cd) (o := .dK (putK kvs (.inr z) (.int (holdS qs z : Nat))))] at hip
      have hix := p1 _ _ hD.ix
      have hit := p1 _ _ hD.it
      rw [← upd_ne (H := H5) (o := .dK (putK kvs (.inr z) (.int (holdS qs z : Nat)))) fcd] at hix
      rw [← upd_ne (H := H5) (o := .dK (putK kvs (.inr z) (.int (holdS qs z : Nat)))) tcd] at hit
      have hid' := upd_same (H := H5) (a := cd) (o := .dK (putK kvs (.inr z) (.int (holdS qs z : Nat))))
      generalize (upd H5 cd (.dK (putK kvs (.inr z) (.int (holdS qs z : Nat))))) = H6 at i5 hip hix hit hid' ⊢
      have g1 : valV (putK kvs (.inr z) (.int (holdS qs z : Nat))) (.inr z) = some (.int (holdS qs z : Nat)) := by rw [valV_put, if_pos rfl]
      refine ⟨.ref f, rfl, f, A 83, dx, _, _, rfl, hix, T.cl_Figures, T.n_Figures_counted, rfl, .str z, rfl, cd, _, rfl, .inl ⟨_, .inr z, .inl hid', rfl, g1.symm⟩, ?_⟩
      refine q H6 i5 ⟨t, dx, ys, _, hix, hit, hip, hid', Nat.le_trans (length_putK _ _ _) (Nat.succ_le_succ hD.few), fun k v h => ?_⟩
      rw [valV_put] at h
      by_cases c : k = .inr z
      · rw [if_pos c] at h
        cases h
        exact ⟨z, c, rfl⟩
      · rw [if_neg c] at h
        exact hD.cnt k v h

/-! ### drawn words -/
def Lc (cs : List Nat) : Prop := ∀ c ∈ cs, 97 ≤ c ∧ c ≤ 122
theorem isW_lc {cs : List Nat} (h : Lc cs) (l1 : 1 ≤ cs.length) (l2 : cs.length ≤ 12) : isW (txt cs) = true := by
  rw [show isW (txt cs) = (decide (1 ≤ cs.length) && decide (cs.length ≤ 12) && cs.all fun c => decide (97 ≤ c) && decide (c ≤ 122)) from rfl, decide_eq_true l1, decide_eq_true l2, List.all_eq_true.mpr fun c hc => ?_]
  · rfl
  · have := h c hc
    rw [decide_eq_true this.1, decide_eq_true this.2]
    rfl
def alC : List Nat := [97, 98, 99, 100, 101, 102, 103, 104, 105, 106, 107, 108, 109, 110, 111, 112, 113, 114, 115, 116, 117, 118, 119, 120, 121, 122]
theorem al_txt : (("abcdefghijklmnopqrstuvwxyz" : String) : Str) = txt alC := by decide +kernel
theorem al_lc : Lc alC := by unfold Lc; decide
theorem al_len : (("abcdefghijklmnopqrstuvwxyz" : String) : Str).length ≤ 100000 := by decide +kernel
theorem al_at {d : Int} (h0 : 0 ≤ d) (h1 : d < 26) : ∃ c, atI (("abcdefghijklmnopqrstuvwxyz" : String) : Str).cps.toList d = some c ∧ 97 ≤ c ∧ c ≤ 122 := by
  rw [al_txt]
  obtain ⟨j, rfl⟩ := Int.eq_ofNat_of_zero_le h0
  have hl : (txt alC).cps.toList.length = 26 := by decide +kernel
  have hj : j < (txt alC).cps.toList.length := by omega
  exact ⟨_, atI_nat (List.getElem?_eq_getElem hj), al_lc _ (List.getElem_mem hj)⟩
theorem tx_app (a b : List Nat) : txt a ++ txt b = txt (a ++ b) := by
  refine ext_tl ?_
  show ((txt a).cps ++ (txt b).cps).toList = a ++ b
  rw [Array.toList_append]
  rfl
theorem tx_to (l : List Nat) (n : Nat) : cutS (txt l) none (some (n : Int)) = txt (l.take n) := by
  have k : HT.sIx l.length l.length (some ((n : Nat) : Int)) = min n l.length := HT.sIx_nat _ _ _
  have m : l.take (min n l.length) = l.take n := by
    by_cases c : n ≤ l.length
    · rw [Nat.min_eq_left c]
    · rw [Nat.min_eq_right (by omega), List.take_length, List.take_of_length_le (by omega)]
  show txt ((l.drop (HT.sIx l.length 0 none)).take (HT.sIx l.length l.length (some ((n : Nat) : Int)) - HT.sIx l.length 0 none)) = _
  rw [k, HT.sIx_none, Nat.sub_zero, List.drop_zero, m]
theorem tx_from (l : List Nat) (n : Nat) : cutS (txt l) (some (n : Int)) none = txt (l.drop n) := by
  have k : HT.sIx l.length 0 (some ((n : Nat) : Int)) = min n l.length := HT.sIx_nat _ _ _
  show txt ((l.drop (HT.sIx l.length 0 (some ((n : Nat) : Int)))).take (HT.sIx l.length l.length none - HT.sIx l.length 0 (some ((n : Nat) : Int)))) = _
  rw [k, HT.sIx_none]
  by_cases c : n ≤ l.length
  · rw [Nat.min_eq_left c, List.take_of_length_le (by rw [List.length_drop]; omega)]
  · rw [Nat.min_eq_right (by omega), Nat.sub_self, List.take_zero, List.drop_of_length_le (by omega)]
theorem Lc.app {a b : List Nat} (h : Lc a) (g : Lc b) : Lc (a ++ b) := fun c hc => (List.mem_append.mp hc).elim (h c) (g c)
theorem Lc.take {a : List Nat} (h : Lc a) (n : Nat) : Lc (a.take n) := fun c hc => h c (List.mem_of_mem_take hc)
theorem Lc.drop {a : List Nat} (h : Lc a) (n : Nat) : Lc (a.drop n) := fun c hc => h c (List.mem_of_mem_drop hc)
theorem Lc.one {c : Nat} (h : 97 ≤ c ∧ c ≤ 122) : Lc [c] := fun x hx => by rw [List.mem_singleton.mp hx]; exact h
theorem tx_join (cs : List Nat) : Txt.join "" ((cs.map fun c => [c]).map txt) = txt cs := by
  rw [join_txts]
  congr 1
  induction cs with
  | nil => rfl
  | cons c r ih => rw [List.map_cons, List.flatten_cons, ih]; rfl
theorem tx_sum (cs : List Nat) : (((cs.map fun c => [c]).map txt).map (·.length)).sum = cs.length := by
  induction cs with
  | nil => rfl
  | cons c r ih => rw [List.map_cons, List.map_cons, List.map_cons, List.sum_cons, ih, List.length_cons]; show 1 + _ = _; omega
theorem tx_szl {cs : List Nat} (h : cs.length ≤ 100000) : (txt cs).length ≤ sizeLine := sz h
theorem words_snoc {ws : List Str} {z : Str} (h : ws.all isW = true) (g : isW z = true) : (ws ++ [z]).all isW = true := by rw [List.all_append, h, List.all_cons, g]; rfl
/-- five words at l -/
def Kw (H : Hp) (a : Addr) (zs : List Str) : Prop := H a = some (.lst (zs.map V.str)) ∧ zs.length = 5 ∧ zs.all isW = true
def spWords5 : Sp := fun vs H Q _ => ∃ (p : Addr) (c : Nat), vs = [.ref p] ∧ Pl H p c ∧ c < 900000 ∧ ∀ (l : Addr) (zs : List Str) (H' : Hp), l ≠ p → H l = none → Kw H' l zs → Pl H' p (c + 12) → Fx p H H' → Q (.ref l) H'
set_option maxHeartbeats 8000000 in
theorem ok_l_words5 (T : TX K mg A FD TK CC) : FnOk P w K mg base CX0 2 (A 92) (FD 92) ["_law_purse_here"] spWords5 := by
  have G_l_take := ok_l_take (P := P) (w := w) (base := base) T
  refine T.f_l_words.ok (k := 1) sc_l_words (fun vs H Q E h => ?_) (fun cdv A' outer s H vs Q E hr h => ?_)
  · obtain ⟨p, c, rfl, _⟩ := h
    rfl
  · obtain ⟨p, c, rfl, hp, hc, q⟩ := h
    refine ⟨_, (pss_cons (ps_set (i := 1) sc_l_words.nd rfl (.inr rfl) pe_str)
      (pss_cons (ps_set (i := 2) sc_l_words.nd rfl (.inl rfl) (pe_call G_l_take hr (by rfl) T.g_l_take T.f_l_take.kp T.b_l_take .nil pass0 (pa_cons (pv 0) (pa_cons pe_int pa_nil))))
      (pss_cons (ps_set (i := 3) sc_l_words.nd rfl (.inr rfl) (pe_call G_l_take hr (by rfl) T.g_l_take T.f_l_take.kp T.b_l_take .nil pass0 (pa_cons (pv 0) (pa_cons pe_int pa_nil))))
      (pss_cons (ps_set (i := 4) sc_l_words.nd rfl (.inr rfl) (pe_join pe_str (pe_lc (own := [("_law_nth", 6)])  rfl sc_l_words.nd (pi_range1 (by rfl) T.m_range (pa_cons (pe_call G_l_take hr (by rfl) T.g_l_take T.f_l_take.kp T.b_l_take .nil pass0 (pa_cons (pv 0) (pa_cons pe_int pa_nil))) pa_nil)) (blkOk_by (own := [("_law_nth", 6)]) (N := N_l_words) (sc := defScope (topS 92)) (by decide +kernel)) (fun _ _ _ _ _ => (pg_name (i := 6) sc_l_words.nd rfl (Or.inl rfl))) (fun _ _ _ _ _ => pts_nil) (fun _ _ _ _ _ => (pe_ix ix_str (pv 1) (pe_call G_l_take hr (by rfl) T.g_l_take T.f_l_take.kp T.b_l_take .nil pass0 (pa_cons (pv 0) (pa_cons pe_int pa_nil))) (fun _ _ => rfl))))))
      (pss_cons (ps_set (i := 5) sc_l_words.nd rfl (.inr rfl) (pe_call G_l_take hr (by rfl) T.g_l_take T.f_l_take.kp T.b_l_take .nil pass0 (pa_cons (pv 0) (pa_cons (pe_op op_add (pe_callB call_len_str (by rfl) T.m_len (by decide +kernel) (pa_cons (pv 4) pa_nil)) pe_int) pa_nil))))
      (pss_cons (ps_if (pt_cmpR op_eq (pv 2) pe_int (nomark _))
      (pss_one (ps_ret (pe_lc (own := [("_law_nth", 6)])  rfl sc_l_words.nd (pi_range1 (by rfl) T.m_range (pa_cons pe_int pa_nil)) (blkOk_by (own := [("_law_nth", 6)]) (N := N_l_words) (sc := defScope (topS 92)) (by decide +kernel)) (fun _ _ _ _ _ => (pg_name (i := 6) sc_l_words.nd rfl (Or.inl rfl))) (fun _ _ _ _ _ => pts_nil) (fun _ _ _ _ _ => (pe_ix ix_str (pv 1) (pe_op op_mod (pe_op op_add (pv 3) (pe_op op_mul pe_int (pv 6))) pe_int) (fun _ _ => rfl))))))
      pss_nil)
      (pss_cons (ps_if (pt_cmpR op_eq (pv 2) pe_int (nomark _))
      (pss_one (ps_ret (pe_lc (own := [("_law_nth", 6)])  rfl sc_l_words.nd (pi_range1 (by rfl) T.m_range (pa_cons pe_int pa_nil)) (blkOk_by (own := [("_law_nth", 6)]) (N := N_l_words) (sc := defScope (topS 92)) (by decide +kernel)) (fun _ _ _ _ _ => (pg_name (i := 6) sc_l_words.nd rfl (Or.inl rfl))) (fun _ _ _ _ _ => pts_nil) (fun _ _ _ _ _ => (pe_slice sl_str (pe_op op_add_str (pe_op op_add_str (pe_ix ix_str (pv 1) (pv 3) (fun _ _ => rfl)) (pv 4)) (pv 1)) po_none (po_some (pe_op op_add (pe_op op_add pe_int (pv 6)) (pe_callB call_len_str (by rfl) T.m_len (by decide +kernel) (pa_cons (pv 4) pa_nil)))))))))
      pss_nil)
      (pss_one (ps_ret (pe_lc (own := [("_law_nth", 6)])  rfl sc_l_words.nd (pi_range1 (by rfl) T.m_range (pa_cons pe_int pa_nil)) (blkOk_by (own := [("_law_nth", 6)]) (N := N_l_words) (sc := defScope (topS 92)) (by decide +kernel)) (fun _ _ _ _ _ => (pg_name (i := 6) sc_l_words.nd rfl (Or.inl rfl))) (fun _ _ _ _ _ => pts_nil) (fun _ _ _ _ _ => (pe_op op_add_str (pe_op op_add_str (pe_slice sl_str (pv 4) po_none (po_some (pv 5))) (pe_ix ix_str (pv 1) (pe_op op_mod (pe_op op_add (pv 3) (pe_op op_mul pe_int (pv 6))) pe_int) (fun _ _ => rfl))) (pe_slice sl_str (pv 4) (po_some (pv 5)) po_none))))))))))))), ?_⟩
    refine ⟨.ref p, rfl, p, 3, c, rfl, hp, by decide, by decide, by omega, fun so H1 s0 s1 hp1 f1 => ?_⟩
    refine ⟨.ref p, rfl, p, 26, c + 1, rfl, hp1, by decide, by decide, by omega, fun fi H2 i0 i1 hp2 f2 => ?_⟩
    refine ⟨⟨_, rfl⟩, .ref p, rfl, p, 8, c + 2, rfl, hp2, by decide, by decide, by omega, fun n H3 n0 n1 hp3 f3 => ?_⟩
    refine ⟨n, rfl, by omega, by omega, fun D nD => ?_⟩
    have nDp := pool_ne hp3 nD
    refine lc_range (lo := 0) (n := n.toNat) (fun i H' => ∃ cs : List Nat, cs.length = i ∧ Lc cs ∧ H' D = some (.lst (((cs.map fun c => [c]).map txt).map V.str)) ∧ Pl H' p (c + 3 + i) ∧ Fx p H3 H') ⟨[], rfl, fun c h => (by cases h), upd_same, hp3.ex (Ex.new nD), Fx.ex (Ex.new nD)⟩ (fun i H4 hi pv => ?_) (fun H4 pv => ?_)
    · obtain ⟨cs, cl, cc, hD, hp4, f4⟩ := pv
      refine ⟨rfl, .str "abcdefghijklmnopqrstuvwxyz", rfl, .ref p, rfl, p, 26, c + 3 + i, rfl, hp4, by decide, by decide, by omega, fun d H5 d0 d1 hp5 f5 => ?_⟩
      obtain ⟨ch, hch, hlc⟩ := al_at d0 d1
      refine ⟨_, d, ch, rfl, rfl, sz al_len, hch, _, f5 _ _ nDp hD, ?_, cs ++ [ch], by rw [List.length_append, cl]; rfl, cc.app (Lc.one hlc), ?_, (pl_upd hp5 nDp).mono (by omega), fun b o nb hb => ?_⟩
      · rw [List.length_map, List.length_map, List.length_map]
        exact sz_lt (by omega)
      · rw [upd_same, List.map_append, List.map_append, List.map_append]
        rfl
      · rw [upd_ne (ne_of_none hb nD)]
        exact f5 _ _ nb (f4 _ _ nb hb)
    · obtain ⟨cs, cl, cc, hD, hp4, f4⟩ := pv
      have cl7 : cs.length ≤ 7 := by omega
      refine ⟨"", D, (cs.map fun c => [c]).map txt, rfl, rfl, .inl (SqL.of hD), by rw [tx_sum, show (Str.ofString "").length = 0 by decide +kernel, Nat.mul_zero]; omega, ?_⟩
      rw [tx_join]
      have hp4 := hp4.mono (show c + 3 + n.toNat ≤ c + 10 by omega)
      have tl : (txt cs).length = cs.length := rfl
      refine ⟨.ref p, rfl, .str (txt cs), rfl, txt cs, rfl, sz (by omega), (cs.length : Int), 1, rfl, rfl, p, (cs.length : Int) + 1, c + 10, rfl, hp4, by omega, by omega, by omega, fun at_ H5 a0 a1 hp5 f5 => ?_⟩
      obtain ⟨an, rfl⟩ := Int.eq_ofNat_of_zero_le a0
      have f05 : Fx p H H5 := ((f1.trans f2).trans f3).trans (f4.trans f5)
      have fin : ∀ (l : Addr) (zs : List Str) (H' : Hp), H5 l = none → Ex H5 H' → H' l = some (.lst (zs.map V.str)) → zs.length = 5 → zs.all isW = true → Q (.ref l) H' := fun l zs H' nl e hl l5 hw => q l zs H' (pool_ne hp5 nl) (fx_free f05 hp5 nl) ⟨hl, l5, hw⟩ ((hp5.ex e).mono (by omega)) (f05.trans (Fx.ex e))
      have mds : ∀ (a : Int), ∃ ch, atI (("abcdefghijklmnopqrstuvwxyz" : String) : Str).cps.toList (a % 26) = some ch ∧ 97 ≤ ch ∧ ch ≤ 122 := fun a => al_at (Int.emod_nonneg _ (by decide)) (Int.emod_lt_of_pos _ (by decide))
      refine ⟨.int so, rfl, rfl, _, rfl, ite2 (fun h => ?_) (fun h => ?_)⟩
      · refine ⟨5, rfl, by decide, by decide, fun D2 nD2 => ?_⟩
        refine lc_range (lo := 0) (n := (5 : Int).toNat) (fun i H' => ∃ zs : List Str, zs.length = i ∧ zs.all isW = true ∧ H' D2 = some (.lst (zs.map V.str)) ∧ Ex H5 H') ⟨[], rfl, rfl, upd_same, Ex.new nD2⟩ (fun i H6 hi pv => ?_) (fun H6 pv => ?_)
        · obtain ⟨zs, zl, zw, hD2, e6⟩ := pv
          obtain ⟨ch, hch, hlc⟩ := mds (fi + 3 * ((0 : Int) + i))
          have hi : i < 5 := hi
          refine ⟨rfl, .str "abcdefghijklmnopqrstuvwxyz", rfl, .int fi, rfl, .int ((0 : Int) + i), rfl, 3, (0 : Int) + i, rfl, rfl, .inl ⟨by decide, by omega⟩, fi, _, rfl, rfl, _, 26, rfl, rfl, (show (0 : Int) < 26 by decide), _, _, ch, rfl, rfl, sz al_len, hch, _, hD2, ?_, zs ++ [txt [ch]], by rw [List.length_append, zl]; rfl, words_snoc zw (isW_lc (Lc.one hlc) (Nat.le_refl 1) (show 1 ≤ 12 by decide)), ?_, Ex.mut e6 nD2⟩
          · rw [List.length_map]
            exact sz_lt (by omega)
          · rw [upd_same, List.map_append]
            rfl
        · obtain ⟨zs, zl, zw, hD2, e6⟩ := pv
          exact fin D2 zs H6 nD2 e6 hD2 zl zw
      refine ⟨.int so, rfl, rfl, _, rfl, ite2 (fun h => ?_) (fun h => ?_)⟩
      · refine ⟨5, rfl, by decide, by decide, fun D2 nD2 => ?_⟩
        obtain ⟨ch, hch, hlc⟩ := al_at i0 i1
        refine lc_range (lo := 0) (n := (5 : Int).toNat) (fun i H' => ∃ zs : List Str, zs.length = i ∧ zs.all isW = true ∧ H' D2 = some (.lst (zs.map V.str)) ∧ Ex H5 H') ⟨[], rfl, rfl, upd_same, Ex.new nD2⟩ (fun i H6 hi pv => ?_) (fun H6 pv => ?_)
        · obtain ⟨zs, zl, zw, hD2, e6⟩ := pv
          have hi : i < 5 := hi
          have la : (("abcdefghijklmnopqrstuvwxyz" : String) : Str).length = 26 := by decide +kernel
          refine ⟨rfl, .str "abcdefghijklmnopqrstuvwxyz", rfl, .int fi, rfl, _, fi, ch, rfl, rfl, sz al_len, hch, .str (txt cs), rfl, txt [ch], txt cs, rfl, rfl, sz (show 1 + cs.length ≤ 100000 by omega), .str "abcdefghijklmnopqrstuvwxyz", rfl, txt [ch] ++ txt cs, _, rfl, rfl, sz ?_, .int ((0 : Int) + i), rfl, 1, (0 : Int) + i, rfl, rfl, .str (txt cs), rfl, txt cs, rfl, sz (by omega), 1 + ((0 : Int) + i), (cs.length : Int), rfl, rfl, 1 + ((0 : Int) + i) + (cs.length : Int), rfl, txt [ch] ++ txt cs ++ (("abcdefghijklmnopqrstuvwxyz" : String) : Str), rfl, sz ?_, ?_⟩
          · rw [tx_app, la]
            show ([ch] ++ cs).length + 26 ≤ 100000
            rw [List.length_append]
            show 1 + cs.length + 26 ≤ _
            omega
          · rw [al_txt, tx_app, tx_app]
            show ([ch] ++ cs ++ alC).length ≤ 100000
            rw [List.length_append, List.length_append]
            show 1 + cs.length + 26 ≤ _
            omega
          rw [al_txt, tx_app, tx_app, show 1 + ((0 : Int) + i) + (cs.length : Int) = ((1 + i + cs.length : Nat) : Int) by omega, tx_to]
          have ln : (([ch] ++ cs ++ alC).take (1 + i + cs.length)).length = 1 + i + cs.length := by
            rw [List.length_take, List.length_append, List.length_append]
            show min _ (1 + cs.length + 26) = _
            omega
          refine ⟨_, hD2, ?_, zs ++ [txt (([ch] ++ cs ++ alC).take (1 + i + cs.length))], by rw [List.length_append, zl]; rfl, words_snoc zw (isW_lc ((((Lc.one hlc).app cc).app al_lc).take _) (by omega) (by omega)), ?_, Ex.mut e6 nD2⟩
          · rw [List.length_map]
            exact sz_lt (by omega)
          · rw [upd_same, List.map_append]
            rfl
        · obtain ⟨zs, zl, zw, hD2, e6⟩ := pv
          exact fin D2 zs H6 nD2 e6 hD2 zl zw
      · refine ⟨5, rfl, by decide, by decide, fun D2 nD2 => ?_⟩
        refine lc_range (lo := 0) (n := (5 : Int).toNat) (fun i H' => ∃ zs : List Str, zs.length = i ∧ zs.all isW = true ∧ H' D2 = some (.lst (zs.map V.str)) ∧ Ex H5 H') ⟨[], rfl, rfl, upd_same, Ex.new nD2⟩ (fun i H6 hi pv => ?_) (fun H6 pv => ?_)
        · obtain ⟨zs, zl, zw, hD2, e6⟩ := pv
          obtain ⟨ch, hch, hlc⟩ := mds (fi + 7 * ((0 : Int) + i))
          have hi : i < 5 := hi
          refine ⟨rfl, .str (txt cs), rfl, .int (an : Int), rfl, (an : Int), rfl, txt cs, rfl, sz (by omega), .str "abcdefghijklmnopqrstuvwxyz", rfl, .int fi, rfl, .int ((0 : Int) + i), rfl, 7, (0 : Int) + i, rfl, rfl, .inl ⟨by decide, by omega⟩, fi, _, rfl, rfl, _, 26, rfl, rfl, (show (0 : Int) < 26 by decide), _, _, ch, rfl, rfl, sz al_len, hch, ?_⟩
          rw [tx_to]
          have lt := List.length_take (i := an) (l := cs)
          have ld := List.length_drop (i := an) (l := cs)
          refine ⟨txt (cs.take an), txt [ch], rfl, rfl, sz (show (cs.take an).length + 1 ≤ 100000 by omega), .str (txt cs), rfl, .int (an : Int), rfl, (an : Int), rfl, txt cs, rfl, sz (by omega), ?_⟩
          rw [tx_from, tx_app]
          have l3 : (cs.take an ++ [ch]).length = (cs.take an).length + 1 := by rw [List.length_append]; rfl
          refine ⟨txt (cs.take an ++ [ch]), txt (cs.drop an), rfl, rfl, sz (show (cs.take an ++ [ch]).length + (cs.drop an).length ≤ 100000 by omega), ?_⟩
          rw [tx_app]
          have l4 : (cs.take an ++ [ch] ++ cs.drop an).length = (cs.take an).length + 1 + (cs.drop an).length := by rw [List.length_append, l3]
          refine ⟨_, hD2, ?_, zs ++ [txt (cs.take an ++ [ch] ++ cs.drop an)], by rw [List.length_append, zl]; rfl, words_snoc zw (isW_lc (((cc.take an).app (Lc.one hlc)).app (cc.drop an)) (by omega) (by omega)), ?_, Ex.mut e6 nD2⟩
          · rw [List.length_map]
            exact sz_lt (by omega)
          · rw [upd_same, List.map_append]
            rfl
        · obtain ⟨zs, zl, zw, hD2, e6⟩ := pv
          exact fin D2 zs H6 nD2 e6 hD2 zl zw

/-! ### drawn texts and pages -/
theorem cutV_to34 {xs : List V} {n : Nat} : cutV xs none (some (n : Int)) = xs.take n := by
  have k : HT.sIx xs.length xs.length (some ((n : Nat) : Int)) = min n xs.length := HT.sIx_nat _ _ _
  unfold cutV
  rw [k, HT.sIx_none, Nat.sub_zero, List.drop_zero]
  by_cases c : n ≤ xs.length
  · rw [Nat.min_eq_left c]
  · rw [Nat.min_eq_right (by omega), List.take_length, List.take_of_length_le (by omega)]
theorem Kw.fx {H H' : Hp} {p a : Addr} {zs : List Str} (h : Kw H a zs) (n : a ≠ p) (f : Fx p H H') : Kw H' a zs := ⟨f _ _ n h.1, h.2⟩
theorem Kw.ex {H H' : Hp} {a : Addr} {zs : List Str} (h : Kw H a zs) (e : Ex H H') : Kw H' a zs := ⟨e _ _ h.1, h.2⟩
theorem kw_at {zs : List Str} {d : Int} (hw : zs.all isW = true) (h0 : 0 ≤ d) (h1 : d < (zs.length : Int)) : ∃ z : Str, atI (zs.map V.str) d = some (.str z) ∧ isW z = true := by
  obtain ⟨j, rfl⟩ := Int.eq_ofNat_of_zero_le h0
  have hj : j < zs.length := by omega
  refine ⟨zs[j], atI_nat ?_, List.all_eq_true.mp hw _ (List.getElem_mem hj)⟩
  rw [List.getElem?_map, List.getElem?_eq_getElem hj]
  rfl
def spTextW : Sp := fun vs H Q _ => ∃ (p kk : Addr) (c : Nat) (b : Bool) (zs : List Str), vs = [.ref p, .ref kk, .bl b] ∧ Pl H p c ∧ Kw H kk zs ∧ kk ≠ p ∧ c < 900000 ∧ ∀ (l : Addr) (ws : List Str) (H' : Hp), l ≠ p → H l = none → H' l = some (.lst (ws.map V.str)) → ws.length ≤ 120 → ws.all isW = true → Pl H' p (c + 130) → Fx p H H' → Q (.ref l) H'
set_option maxHeartbeats 8000000 in
theorem ok_l_text_words (T : TX K mg A FD TK CC) : FnOk P w K mg base CX0 2 (A 93) (FD 93) ["_law_purse_here", "_law_words_here", "_law_is_long"] spTextW := by
  have G_l_take := ok_l_take (P := P) (w := w) (base := base) T
  refine T.f_l_text_words.ok (k := 1) sc_l_text_words (fun vs H Q E h => ?_) (fun cdv A' outer s H vs Q E hr h => ?_)
  · obtain ⟨p, kk, c, b, zs, rfl, _⟩ := h
    rfl
  · obtain ⟨p, kk, c, b, zs, rfl, hp, hk, nk, hc, q⟩ := h
    refine ⟨_, (pss_cons (ps_set (i := 3) sc_l_text_words.nd rfl (.inl rfl) (pe_call G_l_take hr (by rfl) T.g_l_take T.f_l_take.kp T.b_l_take .nil pass0 (pa_cons (pv 0) (pa_cons pe_int pa_nil))))
      (pss_cons (ps_set (i := 4) sc_l_text_words.nd rfl (.inr rfl) (pe_ix (ixLK (K := K) rfl) (pe_lst (pa_cons pe_int (pa_cons pe_int (pa_cons pe_int (pa_cons pe_int pa_nil))))) (pe_call G_l_take hr (by rfl) T.g_l_take T.f_l_take.kp T.b_l_take .nil pass0 (pa_cons (pv 0) (pa_cons pe_int pa_nil))) (fun _ _ => rfl)))
      (pss_cons (ps_set (i := 5) sc_l_text_words.nd rfl (.inl rfl) (pe_op op_add pe_int (pe_call G_l_take hr (by rfl) T.g_l_take T.f_l_take.kp T.b_l_take .nil pass0 (pa_cons (pv 0) (pa_cons pe_int pa_nil)))))
      (pss_cut (ps_if (pt_cmpR op_eq (pv 3) pe_int (nomark _))
      (pss_one (ps_set (i := 5) sc_l_text_words.nd rfl (.inl rfl) pe_int))
      pss_nil)
      (pss_cut (ps_if (pt_cmpR op_eq (pv 3) pe_int (nomark _))
      (pss_one (ps_set (i := 5) sc_l_text_words.nd rfl (.inl rfl) (pe_op op_add pe_int (pe_call G_l_take hr (by rfl) T.g_l_take T.f_l_take.kp T.b_l_take .nil pass0 (pa_cons (pv 0) (pa_cons pe_int pa_nil))))))
      pss_nil)
      (pss_cut (ps_if (pt_val (pv 2))
      (pss_one (ps_set (i := 5) sc_l_text_words.nd rfl (.inl rfl) (pe_op op_add pe_int (pe_call G_l_take hr (by rfl) T.g_l_take T.f_l_take.kp T.b_l_take .nil pass0 (pa_cons (pv 0) (pa_cons pe_int pa_nil))))))
      pss_nil)
      (pss_one (ps_ret (pe_lc (own := [("_law_turn", 6)])  rfl sc_l_text_words.nd (pi_range1 (by rfl) T.m_range (pa_cons (pv 5) pa_nil)) (blkOk_by (own := [("_law_turn", 6)]) (N := N_l_text_words) (sc := defScope (topS 93)) (by decide +kernel)) (fun _ _ _ _ _ => (pg_name (i := 6) sc_l_text_words.nd rfl (Or.inl rfl))) (fun _ _ _ _ _ => pts_nil) (fun _ _ _ _ _ => (pe_ix (ixLK (K := K) rfl) (pv 1) (pe_call G_l_take hr (by rfl) T.g_l_take T.f_l_take.kp T.b_l_take .nil pass0 (pa_cons (pv 0) (pa_cons (pv 4) pa_nil))) (fun _ _ => rfl)))))))))))), ?_⟩
    refine ⟨.ref p, rfl, p, 8, c, rfl, hp, by decide, by decide, by omega, fun so H1 s0 s1 hp1 f1 => ?_⟩
    refine ⟨by show 4 ≤ sizeLine; decide, fun D nD => ?_⟩
    have nDp := pool_ne hp1 nD
    have e2 := Ex.new (o := .lst [.int 1, .int 2, .int 3, .int 5]) nD
    have hp2 := pl_upd (o := .lst [.int 1, .int 2, .int 3, .int 5]) hp1 nDp
    have hD := upd_same (H := H1) (a := D) (o := .lst [.int 1, .int 2, .int 3, .int 5])
    generalize (upd H1 D (.lst [.int 1, .int 2, .int 3, .int 5])) = H2 at e2 hp2 hD ⊢
    refine ⟨.ref p, rfl, p, 4, c + 1, rfl, hp2, by decide, by decide, by omega, fun di H3 d0 d3 hp3 f3 => ?_⟩
    have hD3 := f3 _ _ nDp hD
    obtain ⟨m0, hm1, hm2, hm3⟩ : ∃ m0 : Int, atI ([.int 1, .int 2, .int 3, .int 5] : List V) di = some (.int m0) ∧ 0 < m0 ∧ m0 ≤ 5 := by
      have : di = 0 ∨ di = 1 ∨ di = 2 ∨ di = 3 := by omega
      rcases this with rfl | rfl | rfl | rfl <;> exact ⟨_, rfl, by decide, by decide⟩
    refine ⟨D, _, di, .int m0, rfl, rfl, SqL.of hD3, hm1, ?_⟩
    refine ⟨.ref p, rfl, p, 9, c + 2, rfl, hp3, by decide, by decide, by omega, fun mn H4 n0 n1 hp4 f4 => ⟨1, mn, rfl, rfl, ?_⟩⟩
    have f04 : Fx p H H4 := ((f1.trans (Fx.ex e2)).trans f3).trans f4
    clear f1 f3 f4 hp1 hp2 hp3 hD hD3 e2 nDp
    refine ⟨fun σ' H' => ∃ m : Int, σ' = [some (.ref p), some (.ref kk), some (.bl b), some (.int so), some (.int m0), some (.int m), none] ∧ 0 ≤ m ∧ m ≤ 120 ∧ Pl H' p (c + 3) ∧ Fx p H H', ?_, fun σ5 H5 ph => ?_⟩
    · exact ⟨.int so, rfl, rfl, _, rfl, ite2 (fun h => ⟨0, rfl, by decide, by decide, hp4, f04⟩) (fun h => ⟨1 + mn, rfl, by omega, by omega, hp4, f04⟩)⟩
    obtain ⟨m, rfl, l0, l1, hp5, f5⟩ := ph
    refine ⟨fun σ' H' => ∃ m : Int, σ' = [some (.ref p), some (.ref kk), some (.bl b), some (.int so), some (.int m0), some (.int m), none] ∧ 0 ≤ m ∧ m ≤ 120 ∧ Pl H' p (c + 4) ∧ Fx p H H', ?_, fun σ6 H6 ph => ?_⟩
    · refine ⟨.int so, rfl, rfl, _, rfl, ite2 (fun h => ?_) (fun h => ⟨m, rfl, l0, l1, hp5.mono (by omega), f5⟩)⟩
      exact ⟨.ref p, rfl, p, 21, c + 3, rfl, hp5, by decide, by decide, by omega, fun d H6 d0 d1 hp6 f6 => ⟨10, d, rfl, rfl, 10 + d, rfl, by omega, by omega, hp6, f5.trans f6⟩⟩
    clear hp5 f5 l0 l1
    obtain ⟨m', rfl, l0, l1, hp6, f6⟩ := ph
    refine ⟨fun σ' H' => ∃ m : Int, σ' = [some (.ref p), some (.ref kk), some (.bl b), some (.int so), some (.int m0), some (.int m), none] ∧ 0 ≤ m ∧ m ≤ 120 ∧ Pl H' p (c + 5) ∧ Fx p H H', ?_, fun σ7 H7 ph => ?_⟩
    · refine ⟨.bl b, rfl, b, rfl, ite2 (fun h => ?_) (fun h => ⟨m', rfl, l0, l1, hp6.mono (by omega), f6⟩)⟩
      exact ⟨.ref p, rfl, p, 21, c + 4, rfl, hp6, by decide, by decide, by omega, fun d H7 d0 d1 hp7 f7 => ⟨100, d, rfl, rfl, 100 + d, rfl, by omega, by omega, hp7, f6.trans f7⟩⟩
    clear hp6 f6 l0 l1
    obtain ⟨mm, rfl, l0, l1, hp7, f7⟩ := ph
    have hk7 := hk.fx nk f7
    have zl := hk7.2.1
    refine ⟨.int mm, rfl, mm, rfl, by omega, by omega, fun L nL => ?_⟩
    have nLp := pool_ne hp7 nL
    refine lc_range (lo := 0) (n := mm.toNat) (fun i H' => ∃ ws : List Str, ws.length = i ∧ ws.all isW = true ∧ H' L = some (.lst (ws.map V.str)) ∧ Pl H' p (c + 5 + i) ∧ Fx p H7 H') ⟨[], rfl, rfl, upd_same, hp7.ex (Ex.new nL), Fx.ex (Ex.new nL)⟩ (fun i H8 hi pv => ?_) (fun H8 pv => ?_)
    · obtain ⟨ws, wl, ww, hL, hp8, f8⟩ := pv
      refine ⟨rfl, .ref kk, rfl, .ref p, rfl, .int m0, rfl, p, m0, c + 5 + i, rfl, hp8, hm2, by omega, by omega, fun d H9 d0 d1 hp9 f9 => ?_⟩
      obtain ⟨z, hz, wz⟩ := kw_at (d := d) hk.2.2 d0 (by omega)
      refine ⟨kk, _, d, .str z, rfl, rfl, SqL.of (hk7.fx nk (f8.trans f9)).1, hz, _, f9 _ _ nLp hL, ?_, ws ++ [z], by rw [List.length_append, wl]; rfl, words_snoc ww wz, ?_, (pl_upd hp9 nLp).mono (by omega), fun b o nb hb => ?_⟩
      · rw [List.length_map]
        exact sz_lt (by omega)
      · rw [upd_same, List.map_append]
        rfl
      · rw [upd_ne (ne_of_none hb nL)]
        exact f9 _ _ nb (f8 _ _ nb hb)
    · obtain ⟨ws, wl, ww, hL, hp8, f8⟩ := pv
      exact q L ws H8 nLp (fx_free f7 hp7 nL) hL (by omega) ww (hp8.mono (by omega)) (f7.trans f8)
/-! pages -/
structure DrawnG (gs : List Pg) : Prop where
  pos : 1 ≤ gs.length
  few : gs.length ≤ 12
  nd : (gs.map (·.1)).Nodup
  num : ∀ g ∈ gs, 1 ≤ g.1 ∧ g.1 ≤ 9999
  len : ∀ g ∈ gs, g.2.length ≤ 120
  isw : ∀ g ∈ gs, g.2.all isW = true
theorem DrawnG.pgs {gs : List Pg} (h : DrawnG gs) : Pgs (gs.map (·.2)) := ⟨by rw [List.length_map]; have := h.few; omega, fun ws hw => by
  obtain ⟨g, hg, rfl⟩ := List.mem_map.mp hw
  exact ⟨h.len g hg, h.isw g hg⟩⟩
theorem DrawnG.seg {gs : List Pg} {s : Nat} (h : DrawnG gs) (s1 : 1 ≤ s) (s8 : s ≤ 8) : SegOk s (sortPg gs) := ⟨Pgs.sort h.pgs, by rw [sort_len]; exact h.pos, s1, s8, fun g hg => h.num g (sort_mem.mp hg), sort_inc h.nd⟩
/-- pages that are being drawn -/
structure PgS (H : Hp) (p L : Addr) (H' : Hp) (xs : List V) (gs : List Pg) (i c : Nat) : Prop where
  l : H' L = some (.lst xs)
  prs : Prs (fun b => b = p ∨ b = L ∨ H b ≠ none) H' xs gs
  len : gs.length = i
  nd : (gs.map (·.1)).Nodup
  num : ∀ g ∈ gs, 1 ≤ g.1 ∧ g.1 ≤ 9999
  wl : ∀ g ∈ gs, g.2.length ≤ 120
  isw : ∀ g ∈ gs, g.2.all isW = true
  pl : Pl H' p c
  fx : Fx p H H'
/-- the numbers of the dict -/
structure Tk (H' : Hp) (T : Addr) (kvs : List (Key × V)) (ns : List Int) (n : Nat) : Prop where
  d : H' T = some (.dK kvs)
  few : kvs.length ≤ n
  has : ∀ k : Int, (valV kvs (.inl k)).isSome = true ↔ k ∈ ns
theorem Tk.put {H' : Hp} {T : Addr} {kvs : List (Key × V)} {ns : List Int} {n : Nat} {k : Int} {v : V} (h : Tk H' T kvs ns n) : Tk (upd H' T (.dK (putK kvs (.inl k) v))) T (putK kvs (.inl k) v) (ns ++ [k]) (n + 1) :=
  ⟨upd_same, Nat.le_trans (length_putK _ _ _) (Nat.succ_le_succ h.few), fun j => by
    rw [valV_put, List.mem_append, List.mem_singleton]
    by_cases c : j = k
    · rw [if_pos (by rw [c])]
      exact ⟨fun _ => .inr c, fun _ => rfl⟩
    · rw [if_neg (fun z => c (Sum.inl.inj z)), h.has j]
      exact ⟨.inl, fun z => z.elim id fun z => absurd z c⟩⟩
theorem Tk.fx {H H' : Hp} {p T : Addr} {kvs : List (Key × V)} {ns : List Int} {n : Nat} (h : Tk H T kvs ns n) (nt : T ≠ p) (f : Fx p H H') : Tk H' T kvs ns n := ⟨f _ _ nt h.d, h.few, h.has⟩
theorem Tk.ex {H H' : Hp} {T : Addr} {kvs : List (Key × V)} {ns : List Int} {n : Nat} (h : Tk H T kvs ns n) (e : Ex H H') : Tk H' T kvs ns n := ⟨e _ _ h.d, h.few, h.has⟩
theorem Prs.updD {N : Addr → Prop} {H : Hp} {xs : List V} {gs : List Pg} {T : Addr} {kvs : List (Key × V)} {o : HO} (h : Prs N H xs gs) (hT : H T = some (.dK kvs)) : Prs N (upd H T o) xs gs :=
  h.mono (fun c zs z => by rw [upd_ne (ne_of z hT (by intro z; cases z))]; exact z) fun c zs _ z => by rw [upd_ne (ne_of z hT (by intro z; cases z))]; exact z
theorem free_num {ns : List Int} (h : ns.length ≤ 11) : ∃ f : Int, 1 ≤ f ∧ f ≤ 12 ∧ f ∉ ns := by
  refine Classical.byContradiction fun z => ?_
  have a : ∀ k ∈ (List.range 12).map (fun i : Nat => (i : Int) + 1), k ∈ ns := fun k hk => by
    obtain ⟨i, hi, rfl⟩ := List.mem_map.mp hk
    have hi := List.mem_range.mp hi
    exact Classical.byContradiction fun c => z ⟨(i : Int) + 1, by omega, by omega, c⟩
  have nd : ((List.range 12).map (fun i : Nat => (i : Int) + 1)).Nodup := by decide
  have := nodup_le nd a
  rw [List.length_map, List.length_range] at this
  omega

/-! ### _law_pages -/
def spPages : Sp := fun vs H Q _ => ∃ (p kk : Addr) (c m mo : Nat) (zs : List Str), vs = [.ref p, .ref kk, .int (m : Int), .int (mo : Int)] ∧ 1 ≤ m ∧ m ≤ 12 ∧ mo ≤ 120 ∧ Pl H p c ∧ Kw H kk zs ∧ kk ≠ p ∧ c < 800000 ∧
  ∀ (l : Addr) (xs : List V) (gs : List Pg) (H' : Hp), l ≠ p → H l = none → H' l = some (.lst xs) → Prs (fun b => b = p ∨ b = l ∨ H b ≠ none) H' xs gs → DrawnG gs → Pl H' p (c + 2 + 140 * m) → Fx p H H' → Q (.ref l) H'
set_option maxHeartbeats 16000000 in
theorem ok_l_pages (T : TX K mg A FD TK CC) : FnOk P w K mg base CX0 3 (A 94) (FD 94) ["_law_purse_here", "_law_words_here", "_law_many", "_law_most"] spPages := by
  have G_l_take := (ok_l_take (P := P) (w := w) (base := base) T).mono (show 1 ≤ 2 by decide)
  have G_l_text_words := ok_l_text_words (P := P) (w := w) (base := base) T
  refine T.f_l_pages.ok (k := 2) sc_l_pages (fun vs H Q E h => ?_) (fun cdv A' outer s H vs Q E hr h => ?_)
  · obtain ⟨p, kk, c, m, mo, zs, rfl, _⟩ := h
    rfl
  · obtain ⟨p, kk, c, m, mo, zs, rfl, hm1, hm8, hmo, hp, hk, nk, hc, q⟩ := h
    refine ⟨_, (pss_cons (ps_set (i := 4) sc_l_pages.nd rfl (.inl rfl) (pe_lst pa_nil))
      (pss_cons (ps_set (i := 5) sc_l_pages.nd rfl (.inl rfl) pe_dnewK)
      (pss_cons (ps_set (i := 6) sc_l_pages.nd rfl (.inl rfl) (pe_ix (ixLK (K := K) rfl) (pe_lst (pa_cons pe_int (pa_cons pe_int pa_nil))) (pe_call G_l_take hr (by rfl) T.g_l_take T.f_l_take.kp T.b_l_take .nil pass0 (pa_cons (pv 0) (pa_cons pe_int pa_nil))) (fun _ _ => rfl)))
      (pss_cons (ps_set (i := 7) sc_l_pages.nd rfl (.inl rfl) (pe_call G_l_take hr (by rfl) T.g_l_take T.f_l_take.kp T.b_l_take .nil pass0 (pa_cons (pv 0) (pa_cons (pe_op op_add (pe_op op_mul pe_int (pv 2)) pe_int) pa_nil))))
      (pss_cons (ps_for PassesOwn.never rfl (pi_range1 (by rfl) T.m_range (pa_cons (pv 2) pa_nil)) (pg_name (i := 8) sc_l_pages.nd rfl (.inl rfl))
      (pss_cons (ps_set (i := 9) sc_l_pages.nd rfl (.inl rfl) (pe_op op_add pe_int (pe_call G_l_take hr (by rfl) T.g_l_take T.f_l_take.kp T.b_l_take .nil pass0 (pa_cons (pv 0) (pa_cons (pv 6) pa_nil)))))
      (pss_cons (ps_while PassesOwn.never (pt_cmp (pc_din (hu_of hr) (pv 9) (pv 5)))
      (pss_one (ps_set (i := 9) sc_l_pages.nd rfl (.inl rfl) (pe_op op_add (pe_op op_mod (pv 9) pe_int) pe_int))))
      (pss_cons (ps_dput (hu_of hr) (pv 5) (pv 9) pe_bl rfl)
      (pss_cut (ps_set (i := 10) sc_l_pages.nd rfl (.inl rfl) (pe_call G_l_text_words hr (by rfl) T.g_l_text_words T.f_l_text_words.kp T.b_l_text_words .nil pass0 (pa_cons (pv 0) (pa_cons (pv 1) (pa_cons (pe_and (pe_cmpR op_eq (pv 8) (pv 7) (nomark _)) (pe_one (pe_cmpR op_gt (pv 3) pe_int (nomark _)))) pa_nil)))))
      (pss_one (ps_expr (pe_bm PySem.F.plainAttrs_list PySem.F.slot_list_append PySem.F.type_list_append mt_append (pv 4) (pa_cons (pe_tup (pa_cons (pv 9) (pa_cons (pe_slice (slLK (K := K) rfl) (pv 10) po_none (po_some (pv 3))) pa_nil))) pa_nil)))))))))
      (pss_one (ps_ret (pv 4)))))))), ?_⟩
    refine ⟨by show 0 ≤ sizeLine; decide, fun L nL => fun T0 nT => ?_⟩
    have nLp := pool_ne hp nL
    have e1 := Ex.new (o := .lst []) nL
    have hL := upd_same (H := H) (a := L) (o := .lst [])
    generalize (upd H L (.lst [])) = H1 at e1 hL nT ⊢
    have nTp := pool_ne (hp.ex e1) nT
    have nTH : H T0 = none := fresh_back e1 nT
    have e2 := Ex.new (o := .dK []) nT
    have hT := upd_same (H := H1) (a := T0) (o := .dK [])
    have hL2 := e2 _ _ hL
    generalize (upd H1 T0 (.dK [])) = H2 at e2 hT hL2 ⊢
    have e12 := e1.trans e2
    have hp2 := hp.ex e12
    refine ⟨by show 2 ≤ sizeLine; decide, fun D nD => ?_⟩
    have nDp := pool_ne hp2 nD
    have e3 := Ex.new (o := .lst [.int 12, .int 9999]) nD
    have hD := upd_same (H := H2) (a := D) (o := .lst [.int 12, .int 9999])
    have hp3 := hp2.ex e3
    have hT3 := e3 _ _ hT
    have hL3 := e3 _ _ hL2
    generalize (upd H2 D (.lst [.int 12, .int 9999])) = H3 at e3 hD hp3 hT3 hL3 ⊢
    refine ⟨.ref p, rfl, p, 2, c, rfl, hp3, by decide, by decide, by omega, fun di H4 d0 d1 hp4 f4 => ?_⟩
    have hD4 := f4 _ _ nDp hD
    obtain ⟨near, hn1, hn2, hn3⟩ : ∃ m0 : Int, atI ([.int 12, .int 9999] : List V) di = some (.int m0) ∧ 0 < m0 ∧ m0 ≤ 9999 := by
      have : di = 0 ∨ di = 1 := by omega
      rcases this with rfl | rfl <;> exact ⟨_, rfl, by decide, by decide⟩
    refine ⟨D, _, di, .int near, rfl, rfl, SqL.of hD4, hn1, ?_⟩
    refine ⟨.ref p, rfl, .int (m : Int), rfl, 3, (m : Int), rfl, rfl, .inl ⟨by decide, by omega⟩, _, 1, rfl, rfl, p, 3 * (m : Int) + 1, c + 1, rfl, hp4, by omega, by omega, by omega, fun lo H5 lo0 lo1 hp5 f5 => ?_⟩
    have f05 : Fx p H H5 := ((Fx.ex e12).trans (Fx.ex e3)).trans (f4.trans f5)
    have hL5 := f5 _ _ nLp (f4 _ _ nLp hL3)
    have hT5 := f5 _ _ nTp (f4 _ _ nTp hT3)
    clear hD hD4 hL hL2 hL3 hT hT3 e1 e2 e3 e12 hp2 hp3 hp4 nDp f4 f5
    refine ⟨.int (m : Int), rfl, (m : Int), rfl, by omega, by omega, ?_⟩
    have nLT : L ≠ T0 := ne_of hL5 hT5 (by intro z; cases z)
    refine for_range (lo := 0) (n := (m : Int).toNat) (fun i σ' H' => ∃ (o8 o9 o10 : Option V) (xs : List V) (gs : List Pg) (kvs : List (Key × V)), σ' = [some (.ref p), some (.ref kk), some (.int (m : Int)), some (.int (mo : Int)), some (.ref L), some (.ref T0), some (.int near), some (.int lo), o8, o9, o10] ∧ PgS H p L H' xs gs i (c + 2 + 140 * i) ∧ Tk H' T0 kvs (gs.map (·.1)) i) ⟨none, none, none, [], [], [], rfl, ⟨hL5, Prs.nil, rfl, List.nodup_nil, fun g h => (by cases h), fun g h => (by cases h), fun g h => (by cases h), hp5, f05⟩, hT5, Nat.le_refl _, fun k => ⟨fun h => (by cases h), fun h => (by cases h)⟩⟩ (fun i σ' H6 hi pv => ?_) (fun σ' H6 pv => ?_)
    · obtain ⟨o8, o9, o10, xs, gs, kvs, rfl, S, hK⟩ := pv
      have hi : i < m := hi
      have hk6 := hk.fx nk S.fx
      refine ⟨.ref p, rfl, .int near, rfl, p, near, c + 2 + 140 * i, rfl, S.pl, hn2, by omega, by omega, fun nu H7 u0 u1 hp7 f7 => ⟨1, nu, rfl, rfl, ?_⟩⟩
      obtain ⟨fr, g1, g8, gn⟩ := free_num (ns := gs.map (·.1)) (by rw [List.length_map, S.len]; omega)
      have hK7 := hK.fx nTp f7
      refine ⟨fun n σ' H' => ∃ num : Int, σ' = [some (.ref p), some (.ref kk), some (.int (m : Int)), some (.int (mo : Int)), some (.ref L), some (.ref T0), some (.int near), some (.int lo), some (.int ((0 : Int) + i)), some (.int num), o10] ∧ H' = H7 ∧ 1 ≤ num ∧ num ≤ 9999 ∧ n = ((fr - num) % 9999).toNat, ⟨_, 1 + nu, rfl, rfl, by omega, by omega, rfl⟩, fun n σ' H' wv => ?_⟩
      obtain ⟨num, rfl, rfl, n1, n2, rfl⟩ := wv
      refine ⟨.int num, rfl, .ref T0, rfl, T0, _, rfl, .inl ⟨kvs, .inl num, .inl hK7.d, rfl, rfl⟩, _, rfl, ite2 (fun h => ?_) (fun h => ?_)⟩
      · have mem := (hK7.has num).mp h
        have ne : fr ≠ num := fun z => gn (z ▸ mem)
        refine ⟨fun σ' H'' => ∃ m', m' < ((fr - num) % 9999).toNat ∧ ∃ num : Int, σ' = [some (.ref p), some (.ref kk), some (.int (m : Int)), some (.int (mo : Int)), some (.ref L), some (.ref T0), some (.int near), some (.int lo), some (.int ((0 : Int) + i)), some (.int num), o10] ∧ H'' = H' ∧ 1 ≤ num ∧ num ≤ 9999 ∧ m' = ((fr - num) % 9999).toNat, fun σ' H'' z => z, ?_⟩
        refine ⟨.int num, rfl, num, 9999, rfl, rfl, (show (0 : Int) < 9999 by decide), num % 9999, 1, rfl, rfl, _, ?_, num % 9999 + 1, rfl, rfl, by omega, by omega, rfl⟩
        omega
      · have nin : num ∉ gs.map (·.1) := fun z => h ((hK7.has num).mpr z)
        refine ⟨.ref T0, rfl, .int num, rfl, T0, _, rfl, DPut.k (k := .inl num) hK7.d (sz_lt (by have := hK7.few; omega)), ?_⟩
        have hK8 := hK7.put (k := num) (v := .bl true)
        have nTH' : H' T0 ≠ none := fun z => by rw [hK7.d] at z; cases z
        have l8 : (upd H' T0 (.dK (putK kvs (.inl num) (.bl true)))) L = some (.lst xs) := by rw [upd_ne nLT]; exact f7 _ _ nLp S.l
        have P8 := (S.prs.fx S.pl (.inl rfl) f7).updD (o := .dK (putK kvs (.inl num) (.bl true))) hK7.d
        have pl8 := pl_upd (o := .dK (putK kvs (.inl num) (.bl true))) hp7 nTp
        have f8 : Fx p H (upd H' T0 (.dK (putK kvs (.inl num) (.bl true)))) := fun b o nb hb => by
          rw [upd_ne (ne_of_none hb nTH)]
          exact f7 _ _ nb (S.fx _ _ nb hb)
        generalize (upd H' T0 (.dK (putK kvs (.inl num) (.bl true)))) = H8 at hK8 l8 P8 pl8 f8 ⊢
        have hk8 := hk.fx nk f8
        refine ⟨fun σ' H' => ∃ (t : Addr) (ws : List Str), σ' = [some (.ref p), some (.ref kk), some (.int (m : Int)), some (.int (mo : Int)), some (.ref L), some (.ref T0), some (.int near), some (.int lo), some (.int ((0 : Int) + i)), some (.int num), some (.ref t)] ∧ t ≠ p ∧ H' t = some (.lst (ws.map V.str)) ∧ ws.length ≤ 120 ∧ ws.all isW = true ∧ Pl H' p (c + 2 + 140 * i + 1 + 130) ∧ Fx p H8 H', ?_, fun σ9 H9 ph => ?_⟩
        · have mid : ∀ b : Bool, spTextW [.ref p, .ref kk, .bl b] H8 (fun v H' => ∃ (t : Addr) (ws : List Str), [some (V.ref p), some (.ref kk), some (.int (m : Int)), some (.int (mo : Int)), some (.ref L), some (.ref T0), some (.int near), some (.int lo), some (.int ((0 : Int) + i)), some (.int num), some v] = [some (V.ref p), some (.ref kk), some (.int (m : Int)), some (.int (mo : Int)), some (.ref L), some (.ref T0), some (.int near), some (.int lo), some (.int ((0 : Int) + i)), some (.int num), some (.ref t)] ∧ t ≠ p ∧ H' t = some (.lst (ws.map V.str)) ∧ ws.length ≤ 120 ∧ ws.all isW = true ∧ Pl H' p (c + 2 + 140 * i + 1 + 130) ∧ Fx p H8 H') E := fun b => ⟨p, kk, c + 2 + 140 * i + 1, b, zs, rfl, pl8, hk8, nk, by omega, fun l ws H' nl n0 hl lw ww hp' f' => ⟨l, ws, rfl, nl, hl, lw, ww, hp', f'⟩⟩
          exact ⟨.ref p, rfl, .ref kk, rfl, .int ((0 : Int) + i), rfl, .int lo, rfl, rfl, _, rfl, ite2 (fun h => ⟨.int (mo : Int), rfl, _, _, rfl, rfl, mid _⟩) (fun h => mid _)⟩
        · obtain ⟨t, ws, rfl, ntp, ht, lw, ww, hp9, f9⟩ := ph
          have l9 := f9 _ _ nLp l8
          have P9 := P8.fx pl8 (.inl rfl) f9
          have hK9 := hK8.fx nTp f9
          refine ⟨.ref L, rfl, .inl ⟨rfl, _, SqL.of l9⟩, .int num, rfl, .ref t, rfl, .int (mo : Int), rfl, (mo : Int), rfl, t, _, rfl, SqL.of ht, fun u nu' => ⟨by show 2 ≤ sizeLine; decide, fun b nb => ?_⟩⟩
          rw [cutV_to34, ← List.map_take] at nb ⊢
          have e10 := Ex.new (o := .lst ((ws.take mo).map V.str)) nu'
          have h10 := upd_same (H := H9) (a := u) (o := .lst ((ws.take mo).map V.str))
          have nup := pool_ne hp9 nu'
          have nuL : u ≠ L := (ne_of_none l9 nu').symm
          have nuH : H u = none := fx_free (f8.trans f9) hp9 nu'
          generalize (upd H9 u (.lst ((ws.take mo).map V.str))) = H10 at e10 h10 nb ⊢
          have e11 := Ex.new (o := .tup [.int num, .ref u]) nb
          have h11 := upd_same (H := H10) (a := b) (o := .tup [.int num, .ref u])
          generalize (upd H10 b (.tup [.int num, .ref u])) = H11 at e11 h11 ⊢
          have x11 := e10.trans e11
          have l11 := x11 _ _ l9
          refine ⟨L, xs, .ref b, rfl, rfl, l11, sz_lt (by have := S.prs.1; rw [S.len] at this; omega), ?_⟩
          have u11 := e11 _ _ h10
          refine ⟨_, _, _, xs ++ [.ref b], gs ++ [(num, ws.take mo)], putK kvs (.inl num) (.bl true), rfl, ⟨upd_same, ((P9.ex x11).upl (.inr (.inl rfl)) l11).snoc ⟨b, u, rfl, by rw [upd_ne (ne_of h11 l11 (by intro z; cases z))]; exact h11, by rw [upd_ne nuL]; exact u11, fun z => z.elim nup fun z => z.elim nuL fun z => z nuH⟩, by rw [List.length_append, S.len]; rfl, ?_, fun g hg => ?_, fun g hg => ?_, fun g hg => ?_, (pl_upd (hp9.ex x11) nLp).mono (by omega), fun b o nb' hb => ?_⟩, ?_⟩
          · rw [List.map_append]
            exact List.nodup_append.mpr ⟨S.nd, (by simp), fun a ha b hb => by
              rw [List.mem_singleton.mp hb]
              exact fun z => nin (by have z : a = num := z; rw [← z]; exact ha)⟩
          · rcases List.mem_append.mp hg with hg | hg
            · exact S.num g hg
            · rw [List.mem_singleton.mp hg]
              exact ⟨n1, n2⟩
          · rcases List.mem_append.mp hg with hg | hg
            · exact S.wl g hg
            · rw [List.mem_singleton.mp hg]
              show (ws.take mo).length ≤ 120
              rw [List.length_take]
              omega
          · rcases List.mem_append.mp hg with hg | hg
            · exact S.isw g hg
            · rw [List.mem_singleton.mp hg]
              exact List.all_eq_true.mpr fun y hy => List.all_eq_true.mp ww y (List.mem_of_mem_take hy)
          · rw [upd_ne (ne_of_none hb nL)]
            exact x11 _ _ (f9 _ _ nb' (f8 _ _ nb' hb))
          · rw [List.map_append]
            have hK11 := hK9.ex x11
            exact ⟨by rw [upd_ne nLT.symm]; exact hK11.d, hK11.few, hK11.has⟩
    · obtain ⟨o8, o9, o10, xs, gs, kvs, rfl, S, hK⟩ := pv
      have sl : gs.length = m := S.len
      exact ⟨.ref L, rfl, q L xs gs H6 nLp nL S.l S.prs ⟨by omega, by omega, S.nd, S.num, S.wl, S.isw⟩ S.pl S.fx⟩

/-! ### shelves that are drawn -/
theorem tnil_call {R : List V → Hp → VK → Prop} {σ : L2.St} {H : Hp} {v : V} {Q : VK} (h : R [v] H Q) : tNil σ H fun xs H2 => R (v :: xs) H2 Q := h
def prt (r : Part) : Part := (r.1, sortPg r.2.1, r.2.2)
structure RawOk (r : Part) : Prop where
  dr : DrawnG r.2.1
  s1 : 1 ≤ r.1
  s8 : r.1 ≤ 8
  inc : r.2.2.Pairwise (· < ·)
  lt : ∀ i ∈ r.2.2, i < r.2.1.length
theorem RawOk.part {r : Part} (h : RawOk r) : PartOk (prt r) := ⟨h.dr.seg h.s1 h.s8, h.inc, fun i hi => by show i < (sortPg r.2.1).length; rw [sort_len]; exact h.lt i hi⟩
/-- a part of a drawn shelf on the heap -/
def RawA (N : Addr → Prop) (H : Hp) (v : V) (r : Part) : Prop := ∃ (a pl gl : Addr) (xs : List V), v = .ref a ∧ H a = some (.tup [.ref pl, .int (r.1 : Int), .ref gl]) ∧ H pl = some (.lst xs) ∧ ¬ N pl ∧ Prs N H xs r.2.1 ∧ H gl = some (.lst (nvs r.2.2)) ∧ ¬ N gl
theorem RawA.mono {N : Addr → Prop} {H H' : Hp} {v : V} {r : Part} (h : RawA N H v r) (k : ∀ c zs, H c = some (.tup zs) → H' c = some (.tup zs)) (k2 : ∀ c zs, ¬ N c → H c = some (.lst zs) → H' c = some (.lst zs)) : RawA N H' v r := by
  obtain ⟨a, pl, gl, xs, h0, h1, h2, h3, h4, h5, h6⟩ := h
  exact ⟨a, pl, gl, xs, h0, k _ _ h1, k2 _ _ h3 h2, h3, h4.mono k k2, k2 _ _ h6 h5, h6⟩
theorem RawA.ex {N : Addr → Prop} {H H' : Hp} {v : V} {r : Part} (h : RawA N H v r) (e : Ex H H') : RawA N H' v r := h.mono (fun c zs z => e _ _ z) fun c zs _ z => e _ _ z
theorem RawA.exN {N : Addr → Prop} {H H' : Hp} {v : V} {r : Part} (h : RawA N H v r) (e : LamX.ExtN H H') : RawA N H' v r := h.mono (fun c zs z => tup_exN e z) fun c zs _ z => lst_exN e z
theorem RawA.fx {N : Addr → Prop} {H H' : Hp} {v : V} {r : Part} {p : Addr} {c : Nat} (h : RawA N H v r) (hp : Pl H p c) (np : N p) (f : Fx p H H') : RawA N H' v r := h.mono (fun c zs z => f.tup hp z) fun c zs n z => f _ _ (fun e => n (by rw [e]; exact np)) z
theorem RawA.upl {N : Addr → Prop} {H : Hp} {v : V} {ys : List V} {r : Part} {D : Addr} {o : HO} (h : RawA N H v r) (nD : N D) (hD : H D = some (.lst ys)) : RawA N (upd H D o) v r := h.mono (fun c zs z => by rw [upd_ne (ne_of z hD (by intro z; cases z))]; exact z) fun c zs n z => by
  rw [upd_ne (fun e => n (by rw [e]; exact nD))]
  exact z
theorem RawA.less {N N' : Addr → Prop} {H : Hp} {v : V} {r : Part} (h : RawA N H v r) (k : ∀ b, N' b → N b) : RawA N' H v r := by
  obtain ⟨a, pl, gl, xs, h0, h1, h2, h3, h4, h5, h6⟩ := h
  exact ⟨a, pl, gl, xs, h0, h1, h2, fun z => h3 (k _ z), h4.less k, h5, fun z => h6 (k _ z)⟩
theorem Prs.add {N : Addr → Prop} {H : Hp} {xs : List V} {gs : List Pg} {G : Addr} (h : Prs N H xs gs) (nG : H G = none) : Prs (fun b => N b ∨ b = G) H xs gs := ⟨h.1, fun i g q => by
  obtain ⟨v, h1, a, b, e, h2, h3, h4⟩ := h.2 i g q
  exact ⟨v, h1, a, b, e, h2, h3, fun z => z.elim h4 fun z => by rw [z, nG] at h3; cases h3⟩⟩
theorem RawA.add {N : Addr → Prop} {H : Hp} {v : V} {r : Part} {G : Addr} (h : RawA N H v r) (nG : H G = none) : RawA (fun b => N b ∨ b = G) H v r := by
  obtain ⟨a, pl, gl, xs, h0, h1, h2, h3, h4, h5, h6⟩ := h
  exact ⟨a, pl, gl, xs, h0, h1, h2, fun z => z.elim h3 fun z => (by rw [z, nG] at h2; cases h2), h4.add nG, h5, fun z => z.elim h6 fun z => (by rw [z, nG] at h5; cases h5)⟩
/-- all but some addresses stays -/
def FxN (M : Addr → Prop) (H H' : Hp) : Prop := ∀ b o, ¬ M b → H b = some o → H' b = some o
theorem sts_new (j : Nat) (gone : List Nat) : sts j (gone ++ [j]) = sts j gone := by
  unfold sts
  refine List.filter_congr fun i hi => ?_
  have := List.mem_range.mp hi
  refine decide_eq_decide.mpr ⟨fun h z => h (List.mem_append.mpr (.inl z)), fun h z => ?_⟩
  rcases List.mem_append.mp z with z | z
  · exact h z
  · have := List.mem_singleton.mp z
    omega
theorem sts_gone (j : Nat) (gone : List Nat) : sts (j + 1) (gone ++ [j]) = sts j gone := by
  rw [sts_up, if_pos (by simp), List.append_nil, sts_new]
theorem sts_here {j : Nat} {gone : List Nat} (h : ∀ i ∈ gone, i < j) : sts (j + 1) gone = sts j gone ++ [j] := by
  rw [sts_up, if_neg (fun z => Nat.lt_irrefl _ (h j z))]
def numsS (qs : List Pg) (j : Nat) (gone : List Nat) : List Int := (sts j gone).map fun i => (pgAt qs i).1
theorem numsS_stP (q : Part) : (stP q).map (·.1) = numsS q.2.1 q.2.1.length q.2.2 := by
  unfold stP numsS
  rw [List.map_map]
  rfl
theorem alive_snoc (qs : List Part) (q : Part) : alive (qs ++ [q]) = alive qs ++ stP q := by
  unfold alive
  rw [List.flatMap_append]
  simp

/-! ### _law_shelf -/
/-- a shelf that is being drawn -/
structure ShS (H : Hp) (p L T : Addr) (H' : Hp) (xs : List V) (rs : List Part) (kvs : List (Key × V)) (i c : Nat) : Prop where
  l : H' L = some (.lst xs)
  raw : LsA (RawA (fun b => b = p ∨ b = L) H') xs rs
  len : rs.length = i
  ok : ∀ r ∈ rs, RawOk r
  nd : ((alive (rs.map prt)).map (·.1)).Nodup
  tk : Tk H' T kvs ((alive (rs.map prt)).map (·.1)) (12 * i)
  pl : Pl H' p c
  fx : Fx p H H'
theorem raw_shok {rs : List Part} (ok : ∀ r ∈ rs, RawOk r) (l : rs.length ≤ 8) (nd : ((alive (rs.map prt)).map (·.1)).Nodup) : ShOk (rs.map prt) := ⟨by rw [List.length_map]; exact l, fun q hq => by
  obtain ⟨r, hr, rfl⟩ := List.mem_map.mp hq
  exact (ok r hr).part, nd⟩
def spShelf : Sp := fun vs H Q _ => ∃ (p kk : Addr) (c n mx : Nat) (zs : List Str), vs = [.ref p, .ref kk, .int (n : Int), .int (mx : Int)] ∧ 1 ≤ mx ∧ mx ≤ 12 ∧ n ≤ 3 ∧ Pl H p c ∧ Kw H kk zs ∧ kk ≠ p ∧ c < 600000 ∧
  ∀ (l : Addr) (xs : List V) (rs : List Part) (H' : Hp), l ≠ p → H l = none → H' l = some (.lst xs) → LsA (RawA (fun b => b = p ∨ b = l) H') xs rs → rs.length = n → (∀ r ∈ rs, RawOk r) → ((alive (rs.map prt)).map (·.1)).Nodup → Pl H' p (c + 1800 * n) → Fx p H H' → Q (.ref l) H'
set_option maxHeartbeats 32000000 in
theorem ok_l_shelf (T : TX K mg A FD TK CC) : FnOk P w K mg base CX0 4 (A 95) (FD 95) ["_law_purse_here", "_law_words_here", "_law_segments", "_law_most"] spShelf := by
  have G_l_take := (ok_l_take (P := P) (w := w) (base := base) T).mono (show 1 ≤ 3 by decide)
  have G_l_pages := ok_l_pages (P := P) (w := w) (base := base) T
  refine T.f_l_shelf.ok (k := 3) sc_l_shelf (fun vs H Q E h => ?_) (fun cdv A' outer s H vs Q E hr h => ?_)
  · obtain ⟨p, kk, c, n, mx, zs, rfl, _⟩ := h
    rfl
  · obtain ⟨p, kk, c, n, mx, zs, rfl, mx1, mx8, hn, hp, hk, nk, hc, q⟩ := h
    refine ⟨_, (pss_cons (ps_set (i := 4) sc_l_shelf.nd rfl (.inl rfl) (pe_lst pa_nil))
      (pss_cons (ps_set (i := 5) sc_l_shelf.nd rfl (.inl rfl) pe_dnewK)
      (pss_cons (ps_for PassesOwn.never rfl (pi_range1 (by rfl) T.m_range (pa_cons (pv 2) pa_nil)) (pg_name (i := 6) sc_l_shelf.nd rfl (.inl rfl))
      (pss_cons (ps_set (i := 7) sc_l_shelf.nd rfl (.inl rfl) (pe_ix (ixLK (K := K) rfl) (pe_lst (pa_cons pe_int (pa_cons pe_int (pa_cons pe_int (pa_cons (pe_op op_add pe_int (pe_call G_l_take hr (by rfl) T.g_l_take T.f_l_take.kp T.b_l_take .nil pass0 (pa_cons (pv 0) (pa_cons pe_int pa_nil)))) pa_nil))))) (pe_call G_l_take hr (by rfl) T.g_l_take T.f_l_take.kp T.b_l_take .nil pass0 (pa_cons (pv 0) (pa_cons pe_int pa_nil))) (fun _ _ => rfl)))
      (pss_cons (ps_set (i := 8) sc_l_shelf.nd rfl (.inl rfl) (pe_call G_l_pages hr (by rfl) T.g_l_pages T.f_l_pages.kp T.b_l_pages .nil pass0 (pa_cons (pv 0) (pa_cons (pv 1) (pa_cons (pe_op op_add pe_int (pe_call G_l_take hr (by rfl) T.g_l_take T.f_l_take.kp T.b_l_take .nil pass0 (pa_cons (pv 0) (pa_cons (pv 3) pa_nil)))) (pa_cons (pe_ix (ixLK (K := K) rfl) (pe_lst (pa_cons pe_int (pa_cons pe_int pa_nil))) (pe_callTy call_int1 (by rfl) T.m_int (by decide +kernel) (pa_cons (pe_cmpR op_eq (pv 6) pe_int (nomark _)) pa_nil)) (fun _ _ => rfl)) pa_nil))))))
      (pss_cons (ps_set (i := 9) sc_l_shelf.nd rfl (.inl rfl) (pe_lst pa_nil))
      (pss_cons (ps_for PassesOwn.never rfl (pi_enum (by rfl) T.m_enumerate (pa_cons (pe_callB (SrtK.cr_sortNW hr.units) (by rfl) T.m_sorted (by decide +kernel) (pa_cons (pv 8) pa_nil)) pa_nil)) (pg_tup rfl (pgs_cons (pg_name (i := 10) sc_l_shelf.nd rfl (.inl rfl)) (pgs_cons (pg_name (i := 11) sc_l_shelf.nd rfl (.inl rfl)) pgs_nil)))
      (pss_one (ps_if (PW.pt (pw_or (pt_cmp (pc_din (hu_of hr) (pe_ix (ixTK (K := K) rfl) (pv 11) pe_int (fun _ _ => rfl)) (pv 5))) (pw_or1 (pt_cmpR op_eq (pe_call G_l_take hr (by rfl) T.g_l_take T.f_l_take.kp T.b_l_take .nil pass0 (pa_cons (pv 0) (pa_cons pe_int pa_nil))) pe_int (nomark _)))))
      (pss_one (ps_expr (pe_bm PySem.F.plainAttrs_list PySem.F.slot_list_append PySem.F.type_list_append mt_append (pv 9) (pa_cons (pv 10) pa_nil))))
      (pss_one (ps_dput (hu_of hr) (pv 5) (pe_ix (ixTK (K := K) rfl) (pv 11) pe_int (fun _ _ => rfl)) pe_bl rfl)))))
      (pss_one (ps_expr (pe_bm PySem.F.plainAttrs_list PySem.F.slot_list_append PySem.F.type_list_append mt_append (pv 4) (pa_cons (pe_tup (pa_cons (pv 8) (pa_cons (pv 7) (pa_cons (pv 9) pa_nil)))) pa_nil)))))))))
      (pss_one (ps_ret (pv 4)))))), ?_⟩
    refine ⟨by show 0 ≤ sizeLine; decide, fun L nL => fun T0 nT => ?_⟩
    have nLp := pool_ne hp nL
    have e1 := Ex.new (o := .lst []) nL
    have hL := upd_same (H := H) (a := L) (o := .lst [])
    generalize (upd H L (.lst [])) = H1 at e1 hL nT ⊢
    have nTp := pool_ne (hp.ex e1) nT
    have nTH : H T0 = none := fresh_back e1 nT
    have e2 := Ex.new (o := .dK []) nT
    have hT := upd_same (H := H1) (a := T0) (o := .dK [])
    have hL2 := e2 _ _ hL
    generalize (upd H1 T0 (.dK [])) = H2 at e2 hT hL2 ⊢
    have e12 := e1.trans e2
    have hp2 := hp.ex e12
    have nLT : L ≠ T0 := ne_of hL2 hT (by intro z; cases z)
    refine ⟨.int (n : Int), rfl, (n : Int), rfl, by omega, by omega, ?_⟩
    refine for_range (lo := 0) (n := (n : Int).toNat) (fun i σ' H' => ∃ (o6 o7 o8 o9 o10 o11 : Option V) (xs : List V) (rs : List Part) (kvs : List (Key × V)), σ' = [some (.ref p), some (.ref kk), some (.int (n : Int)), some (.int (mx : Int)), some (.ref L), some (.ref T0), o6, o7, o8, o9, o10, o11] ∧ ShS H p L T0 H' xs rs kvs i (c + 1800 * i)) ⟨none, none, none, none, none, none, [], [], [], rfl, hL2, LsA.nil, rfl, fun r h => (by cases h), List.nodup_nil, ⟨hT, Nat.le_refl _, fun k => ⟨fun h => (by cases h), fun h => (by cases h)⟩⟩, hp2, Fx.ex e12⟩ (fun i σ' H3 hi pv => ?_) (fun σ' H3 pv => ?_)
    · obtain ⟨o6, o7, o8, o9, o10, o11, xs, rs, kvs, rfl, S⟩ := pv
      have hi : i < n := hi
      clear hL hL2 hT e1 e2 e12 hp2
      refine ⟨.ref p, rfl, p, 8, c + 1800 * i, rfl, S.pl, by decide, by decide, by omega, fun w0 H4 w00 w01 hp4 f4 => ⟨1, w0, rfl, rfl, by show 4 ≤ sizeLine; decide, fun D nD => ?_⟩⟩
      obtain ⟨wn, rfl⟩ := Int.eq_ofNat_of_zero_le w00
      have nDp := pool_ne hp4 nD
      have e5 := Ex.new (o := .lst [.int 4, .int 1, .int 2, .int (1 + (wn : Int))]) nD
      have hD := upd_same (H := H4) (a := D) (o := .lst [.int 4, .int 1, .int 2, .int (1 + (wn : Int))])
      have hp5 := hp4.ex e5
      have f5 : Fx p H3 (upd H4 D (.lst [.int 4, .int 1, .int 2, .int (1 + (wn : Int))])) := f4.trans (Fx.ex e5)
      generalize (upd H4 D (.lst [.int 4, .int 1, .int 2, .int (1 + (wn : Int))])) = H5 at e5 hD hp5 f5 ⊢
      refine ⟨.ref p, rfl, p, 4, c + 1800 * i + 1, rfl, hp5, by decide, by decide, by omega, fun di H6 d0 d1 hp6 f6 => ?_⟩
      have hD6 := f6 _ _ nDp hD
      obtain ⟨br, hb0, hb1, hb8⟩ : ∃ m0 : Nat, atI ([.int 4, .int 1, .int 2, .int (1 + (wn : Int))] : List V) di = some (.int (m0 : Int)) ∧ 1 ≤ m0 ∧ m0 ≤ 8 := by
        have : di = 0 ∨ di = 1 ∨ di = 2 ∨ di = 3 := by omega
        rcases this with rfl | rfl | rfl | rfl
        · exact ⟨4, rfl, by decide, by decide⟩
        · exact ⟨1, rfl, by decide, by decide⟩
        · exact ⟨2, rfl, by decide, by decide⟩
        · exact ⟨1 + wn, by rw [show ((1 + wn : Nat) : Int) = 1 + (wn : Int) by omega]; rfl, by omega, by omega⟩
      refine ⟨D, _, di, .int (br : Int), rfl, rfl, SqL.of hD6, hb0, ?_⟩
      have f36 := f5.trans f6
      clear f4 f5 f6 e5 hD hD6 hp4 hp5 nDp nD
      refine ⟨.ref p, rfl, .ref kk, rfl, .ref p, rfl, .int (mx : Int), rfl, p, (mx : Int), c + 1800 * i + 2, rfl, hp6, by omega, by omega, by omega, fun m0 H7 m00 m01 hp7 f7 => ⟨1, m0, rfl, rfl, by show 2 ≤ sizeLine; decide, fun D nD => ?_⟩⟩
      obtain ⟨mn, rfl⟩ := Int.eq_ofNat_of_zero_le m00
      have nDp := pool_ne hp7 nD
      have e8 := Ex.new (o := .lst [.int 30, .int 120]) nD
      have hD := upd_same (H := H7) (a := D) (o := .lst [.int 30, .int 120])
      have hp8 := hp7.ex e8
      have f38 : Fx p H3 (upd H7 D (.lst [.int 30, .int 120])) := (f36.trans f7).trans (Fx.ex e8)
      generalize (upd H7 D (.lst [.int 30, .int 120])) = H8 at e8 hD hp8 f38 ⊢
      have hmo : ∀ k : Bool, ∃ mo : Nat, mo ≤ 120 ∧ atI [V.int 30, .int 120] (if k = true then 1 else 0) = some (.int (mo : Int)) := fun k => by
        cases k
        · exact ⟨30, by decide, rfl⟩
        · exact ⟨120, by decide, rfl⟩
      obtain ⟨mo, hmo, hat⟩ := hmo (decide (V.int ((0 : Int) + i) = V.int 0))
      have hk8 := (hk.fx nk S.fx).fx nk f38
      refine ⟨.int ((0 : Int) + i), rfl, rfl, .inr ⟨_, rfl, D, _, _, .int (mo : Int), rfl, rfl, SqL.of hD, hat, ?_⟩⟩
      clear hD e8 hp7 f7 hp6 f36
      refine ⟨p, kk, c + 1800 * i + 3, mn + 1, mo, zs, by rw [show ((mn + 1 : Nat) : Int) = 1 + (mn : Int) by omega]; rfl, by omega, by omega, hmo, hp8, hk8, nk, by omega, fun pl xg gs H9 npl npH hpl hP dr hp9 f9 => ?_⟩
      have f39 := f38.trans f9
      have S9 : ShS H p L T0 H9 xs rs kvs i (c + 1800 * i + 3 + 2 + 140 * (mn + 1)) := ⟨f39 _ _ nLp S.l, S.raw.mono fun v r _ k => k.fx S.pl (.inl rfl) f39, S.len, S.ok, S.nd, S.tk.fx nTp f39, hp9, S.fx.trans f39⟩
      have nplL : pl ≠ L := by
        have := f38 _ _ nLp S.l
        exact (ne_of_none this npH).symm
      have hP9 : Prs (fun b => b = p ∨ b = L) H9 xg gs := hP.less fun b z => z.elim .inl fun z => .inr (.inr (by rw [z, f38 _ _ nLp S.l]; intro z; cases z))
      have nTp9 := S9.tk.d
      clear f9 f38 f39 hp8 hk8 hP S hp9
      refine ⟨by show 0 ≤ sizeLine; decide, fun G nG => ?_⟩
      have nGp := pool_ne S9.pl nG
      have nGL : G ≠ L := (ne_of_none S9.l nG).symm
      have nGT : G ≠ T0 := (ne_of_none nTp9 nG).symm
      have nGpl : G ≠ pl := (ne_of_none hpl nG).symm
      have nGH : H G = none := fx_free S9.fx S9.pl nG
      have eG := Ex.new (o := .lst []) nG
      have hG := upd_same (H := H9) (a := G) (o := .lst [])
      have hPG := (hP9.add nG).ex eG
      have hRG := S9.raw.mono fun v r _ k => (k.add nG).ex eG
      have hplG := eG _ _ hpl
      have hLG := eG _ _ S9.l
      have pl9 := S9.pl.ex eG
      have tk9 := S9.tk.ex eG
      have fxG : Fx p H (upd H9 G (.lst [])) := S9.fx.trans (Fx.ex eG)
      have okr := S9.ok
      have rl := S9.len
      have ndr := S9.nd
      clear hP9 S9
      generalize (upd H9 G (.lst [])) = H10 at eG hG hPG hRG hplG hLG pl9 tk9 fxG ⊢
      refine ⟨.ref pl, rfl, ?_⟩
      refine tnil_call (R := SrtK.rSortNW K) (v := .ref pl) ?_
      refine sortNW_of hplG hPG dr.nd fun l2 ys H11 nl2 e11 hl2 hP2 => ⟨l2, ys, rfl, SqL.of hl2, ?_⟩
      have nl2p := pool_ne pl9 nl2
      have nl2G : l2 ≠ G := (ne_of_none hG nl2).symm
      have sl : (sortPg gs).length = gs.length := sort_len gs
      have few := dr.few
      have yl : ys.length = (sortPg gs).length := hP2.1
      have qnd : ((sortPg gs).map (·.1)).Nodup := (((List.mergeSort_perm gs _).map (·.1)).nodup_iff).mpr dr.nd
      generalize hqs : sortPg gs = qs at hP2 sl yl qnd
      have hT11 := e11 _ _ tk9.d
      have hG11 := e11 _ _ hG
      have tk11 := tk9.ex e11
      have pl11 := pl9.ex e11
      obtain ⟨pls, hpls⟩ := pl11.some
      refine for_it (walk_enum (K := K) (a := l2) (xs := ys)) (fun j σ' H' => ∃ (o10 o11 : Option V) (gone : List Nat) (kv2 : List (Key × V)), σ' = [some (.ref p), some (.ref kk), some (.int (n : Int)), some (.int (mx : Int)), some (.ref L), some (.ref T0), some (.int ((0 : Int) + i)), some (.int (br : Int)), some (.ref pl), some (.ref G), o10, o11] ∧ FxN (fun b => b = p ∨ b = T0 ∨ b = G) H11 H' ∧ H' G = some (.lst (nvs gone)) ∧ gone.Pairwise (· < ·) ∧ (∀ i ∈ gone, i < j) ∧ gone.length ≤ j ∧ Tk H' T0 kv2 ((alive (rs.map prt)).map (·.1) ++ numsS qs j gone) (12 * i + j) ∧ ((alive (rs.map prt)).map (·.1) ++ numsS qs j gone).Nodup ∧ Pl H' p (c + 1800 * i + 3 + 2 + 140 * (mn + 1) + j)) ⟨o10, o11, [], kvs, rfl, fun b o _ h => h, hG11, List.Pairwise.nil, fun i h => (by cases h), Nat.le_refl _, by rw [show numsS qs 0 [] = [] from rfl, List.append_nil]; exact tk11, by rw [show numsS qs 0 [] = [] from rfl, List.append_nil]; exact ndr, pl11⟩ (fun j σ' H' _ pv => ?_) (fun j v σ' H12 H13 hj pv y => ?_) (fun σ' H12 pv => ?_)
      · obtain ⟨_, _, _, _, _, fN, _⟩ := pv
        exact SqL.of (fN _ _ (fun z => by rcases z with z | z | z; exact nl2p z; exact ne_of hl2 hT11 (by intro z; cases z) z; exact nl2G z) hl2)
      · obtain ⟨p10, p11, gone, kv2, rfl, fN, hG12, gi, gl, gf, tk12, nd12, pl12⟩ := pv
        obtain ⟨Tt, u1, u2, rfl, nTt, rfl, g1, g2⟩ := y
        cases g1
        obtain ⟨g, hg, a, th, rfl, k1, k2, k3⟩ := hP2.mem g2
        have jl := (List.getElem?_eq_some_iff.mp hg).1
        have eT := Ex.new (o := .tup [V.int (j : Nat), V.ref a]) nTt
        have k1' := eT _ _ (fN _ _ (fun z => by rcases z with z | z | z; exact ne_of k1 hpls (by intro z; cases z) z; exact ne_of k1 hT11 (by intro z; cases z) z; exact ne_of k1 hG11 (by intro z; cases z) z) k1)
        have fN := (fun b o nb hb => eT _ _ (fN b o nb hb) : FxN (fun b => b = p ∨ b = T0 ∨ b = G) H11 (upd H12 Tt (.tup [V.int (j : Nat), V.ref a])))
        have hG13 := eT _ _ hG12
        have tk13 := tk12.ex eT
        have pl13 := pl12.ex eT
        refine ⟨Tt, _, rfl, SqT.of upd_same, rfl, _, _, rfl, _, _, rfl, rfl, ?_⟩
        generalize (upd H12 Tt (.tup [V.int (j : Nat), V.ref a])) = H13 at k1' fN hG13 tk13 pl13 ⊢
        clear hG12 tk12 pl12 eT nTt
        have pg : pgAt qs j = g := pgAt_of hg
        -- what each of the two ends does
        have gon : ∀ (H14 : Hp) (cc : Nat), cc ≤ c + 1800 * i + 3 + 2 + 140 * (mn + 1) + (j + 1) → Fx p H13 H14 → Pl H14 p cc → (∃ (l : Addr) (xs : List V) (y : V), V.ref G = .ref l ∧ [V.int (j : Nat)] = [y] ∧ H14 l = some (.lst xs) ∧ xs.length < sizeLine ∧ ∃ (gone : List Nat) (kv2 : List (Key × V)), FxN (fun b => b = p ∨ b = T0 ∨ b = G) H11 (upd H14 l (.lst (xs ++ [y]))) ∧ (upd H14 l (.lst (xs ++ [y]))) G = some (.lst (nvs gone)) ∧ gone.Pairwise (· < ·) ∧ (∀ i ∈ gone, i < j + 1) ∧ gone.length ≤ j + 1 ∧ Tk (upd H14 l (.lst (xs ++ [y]))) T0 kv2 ((alive (rs.map prt)).map (·.1) ++ numsS qs (j + 1) gone) (12 * i + (j + 1)) ∧ ((alive (rs.map prt)).map (·.1) ++ numsS qs (j + 1) gone).Nodup ∧ Pl (upd H14 l (.lst (xs ++ [y]))) p (c + 1800 * i + 3 + 2 + 140 * (mn + 1) + (j + 1))) := fun H14 cc hcc f14 pl14 => by
          have hG14 := f14 _ _ nGp hG13
          have tk14 := tk13.fx nTp f14
          refine ⟨G, _, _, rfl, rfl, hG14, sz_lt (by rw [nvs_len]; omega), gone ++ [j], kv2, fun b o nb hb => ?_, by rw [upd_same, nvs_snoc], ?_, fun x hx => ?_, by rw [List.length_append]; show _ + 1 ≤ _; omega, ?_, ?_, (pl_upd pl14 nGp).mono hcc⟩
          · rw [upd_ne (fun z => nb (.inr (.inr z)))]
            exact f14 _ _ (fun z => nb (.inl z)) (fN _ _ nb hb)
          · exact List.pairwise_append.mpr ⟨gi, List.pairwise_singleton .., fun x hx y hy => by rw [List.mem_singleton.mp hy]; exact gl x hx⟩
          · rcases List.mem_append.mp hx with hx | hx
            · exact Nat.lt_succ_of_lt (gl x hx)
            · rw [List.mem_singleton.mp hx]
              exact Nat.lt_succ_self j
          · rw [show numsS qs (j + 1) (gone ++ [j]) = numsS qs j gone by unfold numsS; rw [sts_gone]]
            exact ⟨by rw [upd_ne nGT.symm]; exact tk14.d, Nat.le_succ_of_le tk14.few, tk14.has⟩
          · rw [show numsS qs (j + 1) (gone ++ [j]) = numsS qs j gone by unfold numsS; rw [sts_gone]]
            exact nd12
        refine ⟨.ref a, rfl, a, _, 0, .int g.1, rfl, rfl, SqT.of k1', rfl, .ref T0, rfl, T0, _, rfl, .inl ⟨kv2, .inl g.1, .inl tk13.d, rfl, rfl⟩, _, rfl, ite2 (fun h => ?_) (fun h => ?_)⟩
        · obtain ⟨l, xs', y, e1, e2, h1, h2, gone', kv', h3⟩ := gon H13 _ (by omega) (Fx.refl p H13) pl13
          exact ⟨.ref G, rfl, .inl ⟨rfl, _, SqL.of hG13⟩, .int (j : Nat), rfl, l, xs', y, e1, e2, h1, h2, _, _, gone', kv', rfl, h3⟩
        · refine ⟨.ref p, rfl, p, 5, c + 1800 * i + 3 + 2 + 140 * (mn + 1) + j, rfl, pl13, by decide, by decide, by omega, fun d H14 d0 d1 pl14 f14 => ⟨rfl, _, rfl, ite2 (fun h2 => ?_) (fun h2 => ?_)⟩⟩
          · obtain ⟨l, xs', y, e1, e2, h1, h2, gone', kv', h3⟩ := gon H14 _ (by omega) f14 pl14
            exact ⟨.ref G, rfl, .inl ⟨rfl, _, SqL.of (f14 _ _ nGp hG13)⟩, .int (j : Nat), rfl, l, xs', y, e1, e2, h1, h2, _, _, gone', kv', rfl, h3⟩
          · have tk14 := tk13.fx nTp f14
            have hG14 := f14 _ _ nGp hG13
            have nin : g.1 ∉ (alive (rs.map prt)).map (·.1) ++ numsS qs j gone := fun z => h ((tk13.has g.1).mpr z)
            have up : numsS qs (j + 1) gone = numsS qs j gone ++ [g.1] := by
              unfold numsS
              rw [sts_here gl, List.map_append, List.map_singleton, pg]
            refine ⟨.ref T0, rfl, .ref a, rfl, a, _, 0, .int g.1, rfl, rfl, SqT.of (f14.tup pl13 k1'), rfl, T0, _, rfl, DPut.k (k := .inl g.1) tk14.d (sz_lt (by have := tk14.few; omega)), _, _, gone, putK kv2 (.inl g.1) (.bl true), rfl, fun b o nb hb => ?_, ?_, gi, fun x hx => Nat.lt_succ_of_lt (gl x hx), Nat.le_succ_of_le gf, ?_, ?_, (pl_upd pl14 nTp).mono (by omega)⟩
            · rw [upd_ne (fun z => nb (.inr (.inl z)))]
              exact f14 _ _ (fun z => nb (.inl z)) (fN _ _ nb hb)
            · rw [upd_ne nGT]
              exact hG14
            · rw [up, ← List.append_assoc]
              exact tk14.put
            · rw [up, ← List.append_assoc]
              exact List.nodup_append.mpr ⟨nd12, (by simp), fun a ha b hb => by
                rw [List.mem_singleton.mp hb]
                exact fun z => nin (by rw [← z]; exact ha)⟩
      · obtain ⟨p10, p11, gone, kv2, rfl, fN, hG12, gi, gl, gf, tk12, nd12, pl12⟩ := pv
        have f1012 : ∀ b o, b ≠ p → b ≠ T0 → b ≠ G → H10 b = some o → H12 b = some o := fun b o n1 n2 n3 hb => fN _ _ (fun z => z.elim n1 fun z => z.elim n2 n3) (e11 _ _ hb)
        have hT10 := tk9.d
        obtain ⟨pls0, hpls0⟩ := pl9.some
        have keepT : ∀ (b : Addr) (zs : List V), H10 b = some (.tup zs) → H12 b = some (.tup zs) := fun b zs hb => f1012 _ _ (ne_of hb hpls0 (by intro z; cases z)) (ne_of hb hT10 (by intro z; cases z)) (ne_of hb hG (by intro z; cases z)) hb
        have keepL : ∀ (b : Addr) (zs : List V), ¬ ((b = p ∨ b = L) ∨ b = G) → H10 b = some (.lst zs) → H12 b = some (.lst zs) := fun b zs nb hb => f1012 _ _ (fun z => nb (.inl (.inl z))) (ne_of hb hT10 (by intro z; cases z)) (fun z => nb (.inr z)) hb
        have hL12 := f1012 _ _ nLp nLT nGL.symm hLG
        have hpl12 := f1012 _ _ npl (ne_of hplG hT10 (by intro z; cases z)) nGpl.symm hplG
        have hR12 := hRG.mono fun v r _ k => k.mono keepT keepL
        have hP12 := hPG.mono keepT keepL
        have fx12 : Fx p H H12 := fun b o nb hb => f1012 _ _ nb (ne_of_none hb nTH) (ne_of_none hb nGH) (fxG _ _ nb hb)
        refine ⟨.ref L, rfl, .inl ⟨rfl, _, SqL.of hL12⟩, .ref pl, rfl, .int (br : Int), rfl, .ref G, rfl, by show 3 ≤ sizeLine; decide, fun b nb => ?_⟩
        have e13 := Ex.new (o := .tup [.ref pl, .int (br : Int), .ref G]) nb
        have hb13 := upd_same (H := H12) (a := b) (o := .tup [.ref pl, .int (br : Int), .ref G])
        generalize (upd H12 b (.tup [.ref pl, .int (br : Int), .ref G])) = H13 at e13 hb13 ⊢
        have hL13 := e13 _ _ hL12
        have xl : xs.length = rs.length := hR12.1
        refine ⟨L, xs, .ref b, rfl, rfl, hL13, sz_lt (by omega), _, _, _, _, _, _, xs ++ [.ref b], rs ++ [(br, gs, gone)], kv2, rfl, ⟨upd_same, ?_, by rw [List.length_append, rl]; rfl, fun r hr => ?_, ?_, ?_, (pl_upd (pl12.ex e13) nLp).mono (by omega), fun b o nb' hb => ?_⟩⟩
        · refine LsA.snoc (hR12.mono fun v r _ k => (((k.ex e13).upl (.inl (.inr rfl)) hL13).less fun b z => .inl z)) ⟨b, pl, G, xg, rfl, by rw [upd_ne (ne_of hb13 hL13 (by intro z; cases z))]; exact hb13, by rw [upd_ne nplL]; exact e13 _ _ hpl12, fun z => z.elim npl nplL, ((hP12.ex e13).upl (.inl (.inr rfl)) hL13).less fun b z => .inl z, by rw [upd_ne nGL]; exact e13 _ _ hG12, fun z => z.elim nGp nGL⟩
        · rcases List.mem_append.mp hr with hr | hr
          · exact okr r hr
          · rw [List.mem_singleton.mp hr]
            exact ⟨dr, hb1, hb8, gi, fun x hx => by have := gl x hx; show x < gs.length; omega⟩
        · rw [List.map_append, List.map_singleton, alive_snoc, List.map_append, numsS_stP]
          show (_ ++ numsS (sortPg gs) (sortPg gs).length gone).Nodup
          rw [hqs, ← yl]
          exact nd12
        · rw [List.map_append, List.map_singleton, alive_snoc, List.map_append, numsS_stP]
          show Tk _ _ _ (_ ++ numsS (sortPg gs) (sortPg gs).length gone) _
          rw [hqs, ← yl]
          have tk13 := tk12.ex e13
          exact ⟨by rw [upd_ne nLT.symm]; exact tk13.d, Nat.le_trans tk13.few (by omega), tk13.has⟩
        · rw [upd_ne (ne_of_none hb nL)]
          exact e13 _ _ (fx12 _ _ nb' hb)
    · obtain ⟨o6, o7, o8, o9, o10, o11, xs, rs, kvs, rfl, S⟩ := pv
      exact ⟨.ref L, rfl, q L xs rs H3 nLp nL S.l S.raw S.len S.ok S.nd S.pl S.fx⟩

/-! ### _law_page, _law_made -/
theorem kb_segment (T : TX K mg A FD TK CC) : KBn K (FD 120) ["self", "pages", "size"] 2 ["size"] (fun us ws => us ++ ws) (fun vs zs => vs ++ zs) := by
  obtain ⟨oc, od, dV, kV, doc, pm, an, cdv, ct, osl, e, lk, hcd, hD, hK⟩ := T.f_Segment_init.ex
  rcases hD with ⟨_, rfl⟩ | ⟨e', _⟩
  · rw [e]
    rcases hK with e' | ⟨D, rfl, _⟩
    · cases e'
    · exact ⟨fun s us ws _ l1 l2 => match us, ws, l1, l2 with | [_, _], [_], _, _ => .of_eq rfl, fun r1 r2 => r1.append r2⟩
  · exact absurd rfl e'
def spLPage (C : Addr) : Sp := fun vs H Q _ => ∃ (a h : Addr) (g : Pg), vs = [.ref a] ∧ H a = some (.tup [.int g.1, .ref h]) ∧ H h = some (.lst (g.2.map V.str)) ∧ 1 ≤ g.1 ∧ g.1 ≤ 9999 ∧ g.2.length ≤ 120 ∧ g.2.all isW = true ∧ ∀ (q : Addr) (H' : Hp), Ex H H' → PageAt C H' q g.1 g.2 → Q (.ref q) H'
set_option maxHeartbeats 4000000 in
theorem ok_l_page (T : TX K mg A FD TK CC) : FnOk P w K mg base CX0 7 (A 96) (FD 96) ["_law_page_here"] (spLPage (A 54)) := by
  have G_Page := (ok_pinit (P := P) (w := w) (base := base) T).mono (show 5 ≤ 5 by decide)
  obtain ⟨dsb, R2_Page, B2_Page⟩ := bindsP T
  refine T.f_l_page.ok (k := 6) sc_l_page (fun vs H Q E h => ?_) (fun cdv A' outer s H vs Q E hr h => ?_)
  · obtain ⟨a, hh, g, rfl, _⟩ := h
    rfl
  · obtain ⟨a, hh, g, rfl, h1, h2, n1, n2, wl, ww, q⟩ := h
    refine ⟨_, (pss_one (ps_ret (pe_make T.M_Page G_Page hr (by rfl) T.k_Page B2_Page R2_Page pass0 (pa_cons (pe_ix (ixTK (K := K) rfl) (pv 0) pe_int (fun _ _ => rfl)) (pa_cons (pe_join pe_str (pe_ix (ixTK (K := K) rfl) (pv 0) pe_int (fun _ _ => rfl))) pa_nil))))), ?_⟩
    exact ⟨.ref a, rfl, a, _, 0, .int g.1, rfl, rfl, SqT.of h1, rfl, ⟨_, rfl⟩, .ref a, rfl, a, _, 1, .ref hh, rfl, rfl, SqT.of h1, rfl, " ", hh, g.2, rfl, rfl, .inl (SqL.of h2), jbound ww wl, fun b dx nb ndx _ => mk_page nb ndx n1 n2 wl ww fun H9 x9 hPg => q b H9 x9 hPg⟩
/-- not there yet, but perhaps as a table of closures -/
def Nw (H0 : Hp) (b : Addr) : Prop := ∀ o, H0 b = some o → (∀ ps, o ≠ .tbl ps) → False
theorem Nw.of {H0 H' : Hp} {b : Addr} (e : LamX.ExtN H0 H') (n : H' b = none) : Nw H0 b := fun o h z => by
  have := e _ _ h z
  rw [n] at this
  cases this
theorem Nw.mut {H0 H' : Hp} {b : Addr} {o : HO} (e : LamX.ExtN H0 H') (n : Nw H0 b) : LamX.ExtN H0 (upd H' b o) := fun c u h z => by
  rw [upd_ne (fun x => n u (by rw [← x]; exact h) z)]
  exact e _ _ h z
theorem Nw.not {H0 : Hp} {b : Addr} {o : HO} (h : H0 b = some o) (z : ∀ ps, o ≠ .tbl ps) : ¬ Nw H0 b := fun n => n o h z
theorem Prs.toNw {N : Addr → Prop} {H : Hp} {xs : List V} {gs : List Pg} (h : Prs N H xs gs) : Prs (Nw H) H xs gs := ⟨h.1, fun i g q => by
  obtain ⟨v, h1, a, b, e, h2, h3, _⟩ := h.2 i g q
  exact ⟨v, h1, a, b, e, h2, h3, Nw.not h3 (by intro ps z; cases z)⟩⟩
theorem RawA.toNw {N : Addr → Prop} {H : Hp} {v : V} {r : Part} (h : RawA N H v r) : RawA (Nw H) H v r := by
  obtain ⟨a, pl, gl, xs, h0, h1, h2, _, h4, h5, _⟩ := h
  exact ⟨a, pl, gl, xs, h0, h1, h2, Nw.not h2 (by intro ps z; cases z), h4.toNw, h5, Nw.not h5 (by intro ps z; cases z)⟩
theorem SegAt.exN {CS CR CB : Addr} {H H' : Hp} {x : Addr} {s : Nat} {ps : List Pg} (h : SegAt CS CR CB H x s ps) (e : LamX.ExtN H H') : SegAt CS CR CB H' x s ps := let ⟨d, h⟩ := h; ⟨d, h.exN e⟩
/-- a part of a shelf that the law hands over: its list of what is gone is new -/
def PrtN (H0 : Hp) (D : Addr) (CS CR CB : Addr) (H : Hp) (v : V) (q : Part) : Prop := ∃ a sg gl : Addr, v = .ref a ∧ H a = some (.tup [.ref sg, .ref gl]) ∧ SegAt CS CR CB H sg q.1 q.2.1 ∧ H gl = some (.lst (nvs q.2.2)) ∧ Nw H0 gl ∧ gl ≠ D
theorem PrtN.prt {H0 : Hp} {D CS CR CB : Addr} {H : Hp} {v : V} {q : Part} (h : PrtN H0 D CS CR CB H v q) : PrtA HO.lst CS CR CB H v q := by
  obtain ⟨a, sg, gl, h0, h1, h2, h3, _⟩ := h
  exact ⟨a, sg, gl, h0, h1, h2, h3⟩
theorem PrtN.exN {H0 : Hp} {D CS CR CB : Addr} {H H' : Hp} {v : V} {q : Part} (h : PrtN H0 D CS CR CB H v q) (e : LamX.ExtN H H') : PrtN H0 D CS CR CB H' v q := by
  obtain ⟨a, sg, gl, h0, h1, h2, h3, h4⟩ := h
  exact ⟨a, sg, gl, h0, tup_exN e h1, h2.exN e, lst_exN e h3, h4⟩
theorem PrtN.upl {H0 : Hp} {D CS CR CB : Addr} {H : Hp} {v : V} {q : Part} {ys : List V} {o : HO} (h : PrtN H0 D CS CR CB H v q) (hD : H D = some (.lst ys)) : PrtN H0 D CS CR CB (upd H D o) v q := by
  obtain ⟨a, sg, gl, h0, h1, h2, h3, h4, h5⟩ := h
  exact ⟨a, sg, gl, h0, by rw [upd_ne (ne_of h1 hD (by intro z; cases z))]; exact h1, h2.updL hD, by rw [upd_ne h5]; exact h3, h4, h5⟩
/-- .. its segment's rows are in a new dict -/
def PrtD (H0 : Hp) (D : Addr) (CS CR CB : Addr) (H : Hp) (v : V) (q : Part) : Prop := ∃ a sg gl d : Addr, v = .ref a ∧ H a = some (.tup [.ref sg, .ref gl]) ∧ SegD CS CR CB H sg d q.1 q.2.1 ∧ (∀ kvs, H0 d ≠ some (.dK kvs)) ∧ H gl = some (.lst (nvs q.2.2)) ∧ Nw H0 gl ∧ gl ≠ D
theorem PrtD.n {H0 : Hp} {D : Addr} {CS CR CB : Addr} {H : Hp} {v : V} {q : Part} (h : PrtD H0 D CS CR CB H v q) : PrtN H0 D CS CR CB H v q := by
  obtain ⟨a, sg, gl, d, h0, h1, h2, _, h3, h4⟩ := h
  exact ⟨a, sg, gl, h0, h1, ⟨d, h2⟩, h3, h4⟩
theorem PrtD.exN {H0 : Hp} {D : Addr} {CS CR CB : Addr} {H H' : Hp} {v : V} {q : Part} (h : PrtD H0 D CS CR CB H v q) (e : LamX.ExtN H H') : PrtD H0 D CS CR CB H' v q := by
  obtain ⟨a, sg, gl, d, h0, h1, h2, hd, h3, h4⟩ := h
  exact ⟨a, sg, gl, d, h0, tup_exN e h1, h2.exN e, hd, lst_exN e h3, h4⟩
theorem SegD.updL {CS CR CB D sg d : Addr} {H : Hp} {s : Nat} {ps : List Pg} {ys : List V} {o : HO} (h : SegD CS CR CB H sg d s ps) (hD : H D = some (.lst ys)) : SegD CS CR CB (upd H D o) sg d s ps := by
  obtain ⟨e, t1, t2, kas, h1, h2, h3, h4, h5⟩ := h
  exact ⟨e, t1, t2, kas, by rw [upd_ne (ne_of h1 hD (by intro z; cases z))]; exact h1, by rw [upd_ne (ne_of h2 hD (by intro z; cases z))]; exact h2, by rw [upd_ne (ne_of h3 hD (by intro z; cases z))]; exact h3, by rw [upd_ne (ne_of h4 hD (by intro z; cases z))]; exact h4, h5.one, h5.keys, fun p hp => (h5.row p hp).updL hD⟩
theorem PrtD.upl {H0 : Hp} {D : Addr} {CS CR CB : Addr} {H : Hp} {v : V} {q : Part} {ys : List V} {o : HO} (h : PrtD H0 D CS CR CB H v q) (hD : H D = some (.lst ys)) : PrtD H0 D CS CR CB (upd H D o) v q := by
  obtain ⟨a, sg, gl, d, h0, h1, h2, hd, h3, h4, h5⟩ := h
  exact ⟨a, sg, gl, d, h0, by rw [upd_ne (ne_of h1 hD (by intro z; cases z))]; exact h1, h2.updL hD, hd, by rw [upd_ne h5]; exact h3, h4, h5⟩
/-- with a dict of before hidden -/
theorem PrtD.hid {H0 : Hp} {D c : Addr} {CS CR CB : Addr} {H : Hp} {v : V} {q : Part} {kvs ks : List (Key × V)} (h : PrtD H0 D CS CR CB H v q) (hc0 : H0 c = some (.dK kvs)) (hc : H c = some (.dK ks)) : PrtA HO.lst CS CR CB (hidX H c) v q := by
  obtain ⟨a, sg, gl, d, h0, h1, ⟨e, t1, t2, kas, k1, k2, k3, k4, k5⟩, hd, h3, h4⟩ := h
  have nd : d ≠ c := fun x => hd kvs (by rw [x]; exact hc0)
  refine ⟨a, sg, gl, h0, by rw [hid_at (ne_of h1 hc (by intro z; cases z))]; exact h1, ⟨d, e, t1, t2, kas, by rw [hid_at (ne_of k1 hc (by intro z; cases z))]; exact k1, by rw [hid_at (ne_of k2 hc (by intro z; cases z))]; exact k2, by rw [hid_at (ne_of k3 hc (by intro z; cases z))]; exact k3, by rw [hid_at nd]; exact k4, k5.one, k5.keys, fun p hp => ?_⟩, by rw [hid_at (ne_of h3 hc (by intro z; cases z))]; exact h3⟩
  obtain ⟨dr, t, bs, r1, r2, r3⟩ := k5.row p hp
  refine ⟨dr, t, bs, by rw [hid_at (ne_of r1 hc (by intro z; cases z))]; exact r1, by rw [hid_at (ne_of r2 hc (by intro z; cases z))]; exact r2, r3.1, fun i b g => ?_⟩
  obtain ⟨db, hb⟩ := r3.2 i b g
  exact ⟨db, by rw [hid_at (ne_of hb hc (by intro z; cases z))]; exact hb⟩
def spMade37 (CS CR CB : Addr) (Tt : List (Addr × Str)) : Sp := fun vs H Q _ => ∃ (N : Addr → Prop) (l : Addr) (xs : List V) (rs : List Part), vs = [.ref l] ∧ H l = some (.lst xs) ∧ LsA (RawA N H) xs rs ∧ rs.length ≤ 8 ∧ (∀ r ∈ rs, RawOk r) ∧ LamX.Tabs Tt H ∧
  ∀ (D : Addr) (ys : List V) (H' : Hp), Nw H D → H' D = some (.lst ys) → LsA (PrtD H D CS CR CB H') ys (rs.map prt) → LamX.ExtN H H' → LamX.Tabs Tt H' → Q (.ref D) H'
set_option maxHeartbeats 16000000 in
theorem ok_l_made (T : TX K mg A FD TK CC) {Tt : List (Addr × Str)} {PS : Addr} (TBS : LamX.TabB base mg (CC 120) PS) (hmS : (PS, lamQ "Segment.__init__") ∈ Tt) (huS : ∀ p ∈ Tt, p.1 = PS → p.2 = lamQ "Segment.__init__") :
    FnOk P w K mg base CX0 15 (A 97) (FD 97) ["_law_shelf_here"] (spMade37 (A 71) (A 62) (A 61) Tt) := by
  have G_l_page := (ok_l_page (P := P) (w := w) (base := base) T).mono (show 7 ≤ 14 by decide)
  have G_Segment := (ok_sinit (P := P) (w := w) (base := base) T TBS hmS huS).mono (show 13 ≤ 13 by decide)
  have KB1_Segment := kb_segment T
  refine T.f_l_made.ok (k := 14) sc_l_made (fun vs H Q E h => ?_) (fun cdv A' outer s H vs Q E hr h => ?_)
  · obtain ⟨N, l, xs, rs, rfl, _⟩ := h
    rfl
  · obtain ⟨N, l, xs, rs, rfl, hl, hR, few, ok, hT, q⟩ := h
    refine ⟨_, (pss_one (ps_ret (pe_lc (own := [("_law_pages_here", 1), ("_law_broad", 2), ("_law_gone", 3)])  rfl sc_l_made.nd (piLK (K := K) rfl (pv 0)) (blkOk_by (own := [("_law_pages_here", 1), ("_law_broad", 2), ("_law_gone", 3)]) (N := N_l_made) (sc := defScope (topS 97)) (by decide +kernel)) (fun _ _ _ _ _ => (tupGK (K := K) (n := 3) rfl rfl (pgs_cons (pg_name (i := 1) sc_l_made.nd rfl (Or.inl rfl)) (pgs_cons (pg_name (i := 2) sc_l_made.nd rfl (Or.inl rfl)) (pgs_cons (pg_name (i := 3) sc_l_made.nd rfl (Or.inl rfl)) pgs_nil))))) (fun _ _ _ _ _ => pts_nil) (fun _ _ _ _ _ => (pe_tup (pa_cons (pe_makeK T.M_Segment G_Segment hr (by rfl) T.k_Segment KB1_Segment pass0 (pa_cons (pe_lc (own := [("_law_page_here", 4)])  rfl sc_l_made.nd (piLK (K := K) rfl (pv 1)) (blkOk_by (own := [("_law_page_here", 4)]) (N := N_l_made) (sc := relS _ (defScope (topS 97))) (by decide +kernel)) (fun _ _ _ _ _ => (pg_name (i := 4) sc_l_made.nd rfl (Or.inl rfl))) (fun _ _ _ _ _ => pts_nil) (fun _ _ _ _ _ => (pe_call G_l_page hr (by rfl) T.g_l_page T.f_l_page.kp T.b_l_page .nil pass0 (pa_cons (pv 4) pa_nil)))) pa_nil) (pk_cons (pv 2) pk_nil)) (pa_cons (pe_callTy (listK (K := K) rfl) (by rfl) T.m_list (by decide +kernel) (pa_cons (pv 3) pa_nil)) pa_nil))))))), ?_⟩
    refine ⟨.ref l, rfl, l, rfl, ⟨_, SqL.of hl⟩, fun D nD => ?_⟩
    refine lc_list (K := K) (a := l) (xs := xs) (fun i H' => LamX.ExtN H H' ∧ LamX.Tabs Tt H' ∧ ∃ ys, H' D = some (.lst ys) ∧ LsA (PrtD H D (A 71) (A 62) (A 61) H') ys ((rs.take i).map prt)) ⟨LamX.ExtN.of (Ex.new nD), LamX.Tabs.ext hT (Ex.new nD), [], upd_same, LsA.nil⟩ (fun i H' _ pv => SqL.of (lst_exN pv.1 hl)) (fun i v H1 hv pv => ?_) (fun H1 pv => ?_)
    · obtain ⟨z1, T1, ys, hD, hY⟩ := pv
      obtain ⟨r, gr, hr'⟩ := hR.at hv
      have rok := ok r (List.mem_of_getElem? gr)
      obtain ⟨a, pl, gl, xg, rfl, k1, k2, _, k4, k5, _⟩ := hr'.exN z1
      refine ⟨a, _, rfl, SqT.of k1, rfl, _, _, rfl, _, _, rfl, _, _, rfl, rfl, rfl, .ref pl, rfl, pl, rfl, ⟨_, SqL.of k2⟩, fun D2 nD2 => ?_⟩
      have dr := rok.dr
      refine lc_list (K := K) (a := pl) (xs := xg) (fun j H' => Ex H1 H' ∧ ∃ ps, H' D2 = some (.lst ps) ∧ PagesAt (A 54) H' ps (r.2.1.take j)) ⟨Ex.new nD2, [], upd_same, rfl, fun i v g => by simp at g⟩ (fun j H' _ p => SqL.of (p.1 _ _ k2)) (fun j v H8 hj pv => ?_) (fun H8 pv => ?_)
      · obtain ⟨e8, ps, hD2, hPs⟩ := pv
        obtain ⟨g, hg, c, h, rfl, h1, h2, _⟩ := k4.mem hj
        have gm := List.mem_of_getElem? hg
        have gd := dr.num g gm
        refine ⟨rfl, .ref c, rfl, c, h, g, rfl, e8 _ _ h1, e8 _ _ h2, gd.1, gd.2, dr.len g gm, dr.isw g gm, fun b H9 x9 hPg => ?_⟩
        refine ⟨ps, x9 _ _ hD2, ?_, Ex.mut (e8.trans x9) nD2, ps ++ [.ref b], upd_same, ?_⟩
        · have := dr.few
          rw [hPs.1, List.length_take]
          exact sz_lt (by omega)
        · rw [List.take_add_one, hg]
          exact ((hPs.ex x9).snoc hPg).upl (x9 _ _ hD2)
      obtain ⟨e8, ps, hD2, hPs⟩ := pv
      rw [k4.1, List.take_length] at hPs
      refine ⟨.int (r.1 : Int), rfl, rfl, rfl, fun x dx nx ndx _ => ?_⟩
      refine mk_seg (s := r.1) rfl nx ndx hD2 hPs dr.pos dr.nd dr.pgs rok.s1 rok.s8 (LamX.Tabs.ext T1 e8) fun d H10 n10 z10 T10 sg => ?_
      have z110 := (LamX.ExtN.of e8).trans z10
      refine ⟨.ref gl, rfl, gl, _, rfl, .inl (SqL.of (lst_exN z110 k5)), fun u nu => ⟨by show 2 ≤ sizeLine; decide, fun b nb => ?_⟩⟩
      have e11 := Ex.new (o := .lst (nvs r.2.2)) nu
      have hu := upd_same (H := H10) (a := u) (o := .lst (nvs r.2.2))
      have nuw : Nw H u := Nw.of (z1.trans z110) nu
      have nuD : u ≠ D := (ne_of_none (lst_exN z110 hD) nu).symm
      generalize (upd H10 u (.lst (nvs r.2.2))) = H11 at e11 hu nb ⊢
      have e12 := Ex.new (o := .tup [.ref x, .ref u]) nb
      have hb := upd_same (H := H11) (a := b) (o := .tup [.ref x, .ref u])
      generalize (upd H11 b (.tup [.ref x, .ref u])) = H12 at e12 hb ⊢
      have e1012 := LamX.ExtN.of (e11.trans e12)
      have z112 := z110.trans e1012
      have hD12 := lst_exN z112 hD
      have hY12 := hY.mono fun v q _ k => PrtD.exN k z112
      have nDw : Nw H D := Nw.of (LamX.ExtN.refl H) nD
      refine ⟨ys, hD12, ?_, Nw.mut (z1.trans z112) nDw, tabs_upl (LamX.Tabs.ext T10 (e11.trans e12)) hD12, ys ++ [.ref b], upd_same, ?_⟩
      · rw [hY.1, List.length_map, List.length_take]
        exact sz_lt (by omega)
      · rw [up_take gr, List.map_append]
        refine LsA.snoc (hY12.mono fun v q _ k => PrtD.upl k hD12) ⟨b, x, u, d, rfl, by rw [upd_ne (ne_of hb hD12 (by intro z; cases z))]; exact hb, (SegD.exN sg e1012).updL hD12, fun kvs z => n10 kvs (e8 _ _ (z1 _ _ z (by intro ps z; cases z))), by rw [upd_ne nuD]; exact e12 _ _ hu, nuw, nuD⟩
    · obtain ⟨z1, T1, ys, hD, hY⟩ := pv
      rw [hR.1, List.take_length] at hY
      exact q D ys H1 (Nw.of (LamX.ExtN.refl H) nD) hD hY z1 T1

/-! ### _law_standing, _law_holders -/
def spStand : Sp := fun vs H Q _ => ∃ (N : Addr → Prop) (l : Addr) (xs : List V) (rs : List Part), vs = [.ref l] ∧ H l = some (.lst xs) ∧ LsA (RawA N H) xs rs ∧ rs.length ≤ 8 ∧ (∀ r ∈ rs, RawOk r) ∧
  ∀ (al : Addr) (ys : List V) (H' : Hp), H al = none → Ex H H' → H' al = some (.lst ys) → Prs N H' ys (alive (rs.map prt)) → Q (.ref al) H'
theorem Prs.app {N : Addr → Prop} {H : Hp} {xs ys : List V} {gs ks : List Pg} (h : Prs N H xs gs) (k : Prs N H ys ks) : Prs N H (xs ++ ys) (gs ++ ks) := by
  refine ⟨by rw [List.length_append, List.length_append, h.1, k.1], fun i g q => ?_⟩
  by_cases c : i < gs.length
  · rw [List.getElem?_append_left c] at q
    obtain ⟨v, h1, h2⟩ := h.2 i g q
    exact ⟨v, by rw [List.getElem?_append_left (by rw [h.1]; exact c)]; exact h1, h2⟩
  · rw [List.getElem?_append_right (by omega)] at q
    obtain ⟨v, h1, h2⟩ := k.2 _ g q
    exact ⟨v, by rw [List.getElem?_append_right (by rw [h.1]; omega), h.1]; exact h1, h2⟩
theorem alive_few {rs : List Part} (ok : ∀ r ∈ rs, RawOk r) : (alive (rs.map prt)).length ≤ 12 * rs.length := by
  have := alive_len (qs := rs.map prt) (n := 12) fun q hq => by
    obtain ⟨r, hr, rfl⟩ := List.mem_map.mp hq
    show (sortPg r.2.1).length ≤ 12
    rw [sort_len]
    exact (ok r hr).dr.few
  rwa [List.length_map] at this
set_option maxHeartbeats 16000000 in
theorem ok_l_standing (T : TX K mg A FD TK CC) : FnOk P w K mg base CX0 2 (A 100) (FD 100) ["_law_shelf_here"] spStand := by
  refine T.f_l_standing.ok (k := 1) sc_l_standing (fun vs H Q E h => ?_) (fun cdv A' outer s H vs Q E hr h => ?_)
  · obtain ⟨N, l, xs, rs, rfl, _⟩ := h
    rfl
  · obtain ⟨N, l, xs, rs, rfl, hl, hR, few, ok, q⟩ := h
    refine ⟨_, (pss_cons (ps_set (i := 1) sc_l_standing.nd rfl (.inl rfl) (pe_lst pa_nil))
      (pss_cons (ps_for PassesOwn.never rfl (piLK (K := K) rfl (pv 0)) (pg_tup rfl (pgs_cons (pg_name (i := 2) sc_l_standing.nd rfl (.inl rfl)) (pgs_cons (pg_name (i := 3) sc_l_standing.nd rfl (.inl rfl)) (pgs_cons (pg_name (i := 4) sc_l_standing.nd rfl (.inr rfl)) pgs_nil))))
      (pss_one (ps_set (i := 1) sc_l_standing.nd rfl (.inl rfl) (pe_op op_cat (pv 1) (pe_lc (own := [("_law_slot", 5), ("_law_page_here", 6)])  rfl sc_l_standing.nd (pi_enum (by rfl) T.m_enumerate (pa_cons (pe_callB (SrtK.cr_sortNW hr.units) (by rfl) T.m_sorted (by decide +kernel) (pa_cons (pv 2) pa_nil)) pa_nil)) (blkOk_by (own := [("_law_slot", 5), ("_law_page_here", 6)]) (N := N_l_standing) (sc := defScope (topS 100)) (by decide +kernel)) (fun _ _ _ _ _ => (tupGK (K := K) (n := 2) rfl rfl (pgs_cons (pg_name (i := 5) sc_l_standing.nd rfl (Or.inl rfl)) (pgs_cons (pg_name (i := 6) sc_l_standing.nd rfl (Or.inl rfl)) pgs_nil)))) (fun _ _ _ _ _ => (pts_one (pt_cmpR (notInK (K := K) rfl) (pv 5) (pv 4) (by rfl)))) (fun _ _ _ _ _ => (pv 6)))))))
      (pss_one (ps_ret (pv 1))))), ?_⟩
    refine ⟨by show 0 ≤ sizeLine; decide, fun G0 nG0 => ?_⟩
    have e0 := Ex.new (o := .lst []) nG0
    have hG0 := upd_same (H := H) (a := G0) (o := .lst [])
    generalize (upd H G0 (.lst [])) = H0 at e0 hG0 ⊢
    refine ⟨.ref l, rfl, l, rfl, ⟨_, SqL.of (e0 _ _ hl)⟩, ?_⟩
    refine for_list (K := K) (a := l) (xs := xs) (fun i σ' H' => ∃ (o2 o3 o4 o5 o6 : Option V) (G : Addr) (ys : List V), σ' = [some (.ref l), some (.ref G), o2, o3, o4, o5, o6] ∧ H G = none ∧ Ex H H' ∧ H' G = some (.lst ys) ∧ Prs N H' ys (alive ((rs.take i).map prt))) ⟨none, none, none, none, none, G0, [], rfl, nG0, e0, hG0, Prs.nil⟩ (fun i σ' H' _ pv => by obtain ⟨_, _, _, _, _, _, _, _, _, e, _⟩ := pv; exact SqL.of (e _ _ hl)) (fun i v σ' H1 hv pv => ?_) (fun σ' H1 pv => ?_)
    · obtain ⟨o2, o3, o4, o5, o6, G, ys, rfl, nG, e1, hG, hP⟩ := pv
      obtain ⟨r, gr, hr'⟩ := hR.at hv
      have rok := ok r (List.mem_of_getElem? gr)
      have il := (List.getElem?_eq_some_iff.mp gr).1
      have dr := rok.dr
      obtain ⟨a, pl, gl, xg, rfl, k1, k2, _, k4, k5, _⟩ := hr'.ex e1
      refine ⟨a, _, rfl, SqT.of k1, rfl, _, _, rfl, _, _, rfl, _, _, rfl, rfl, ?_⟩
      refine ⟨.ref G, rfl, .ref pl, rfl, ?_⟩
      refine tnil_call (R := SrtK.rSortNW K) (v := .ref pl) ?_
      refine sortNW_of k2 k4 dr.nd fun l2 zs H2 nl2 e2 hl2 hP2 => ⟨l2, zs, rfl, SqL.of hl2, fun D nD => ?_⟩
      have zl : zs.length = (sortPg r.2.1).length := hP2.1
      have hgl := e2 _ _ k5
      refine lc_it (walk_enum (K := K) (a := l2) (xs := zs)) (fun j H' => Ex H2 H' ∧ ∃ us, H' D = some (.lst us) ∧ Prs (fun b => N b ∨ b = D) H' us ((sts j r.2.2).map (pgAt (sortPg r.2.1)))) ⟨Ex.new nD, [], upd_same, Prs.nil⟩ (fun j H' _ p => SqL.of (p.1 _ _ hl2)) (fun j x H3 H4 hj p y => ?_) (fun H3 p => ?_)
      · obtain ⟨e3, us, hD, hU⟩ := p
        obtain ⟨Tt, u1, u2, rfl, nTt, rfl, g1, g2⟩ := y
        cases g1
        have eT := Ex.new (o := .tup [V.int (j : Nat), u2]) nTt
        have hD4 := eT _ _ hD
        have hU4 := hU.ex eT
        have e4 := e3.trans eT
        refine ⟨Tt, _, rfl, SqT.of upd_same, rfl, _, _, rfl, _, _, rfl, rfl, rfl, .int (j : Nat), rfl, .ref gl, rfl, gl, nvs r.2.2, rfl, .inl (SqL.of (e4 _ _ hgl)), rfl, nvs_flat _, _, rfl, ?_⟩
        generalize (upd H3 Tt (.tup [V.int (j : Nat), u2])) = H5 at hD4 hU4 e4 ⊢
        rw [inV_nvs]
        by_cases c : j ∈ r.2.2
        · rw [decide_eq_true c]
          refine iteF ⟨e4, us, hD4, ?_⟩
          rw [sts_up, if_pos c, List.append_nil]
          exact hU4
        · rw [decide_eq_false c]
          obtain ⟨g, hg, hpr⟩ := hP2.mem g2
          refine iteT ⟨u2, rfl, us, hD4, ?_, Ex.mut e4 nD, us ++ [u2], upd_same, ?_⟩
          · have := sts_len j r.2.2
            rw [hU4.1, List.length_map]
            have := dr.few
            have := sort_len r.2.1
            exact sz_lt (by omega)
          · rw [sts_up, if_neg c, List.map_append, List.map_singleton, pgAt_of hg]
            obtain ⟨b, h, e, h2, h3, h4⟩ := hpr
            exact (hU4.snoc ⟨b, h, e, e4 _ _ h2, e4 _ _ h3, fun z => z.elim h4 fun z => by rw [z, nD] at h3; cases h3⟩).upl (.inr rfl) hD4
      · obtain ⟨e3, us, hD, hU⟩ := p
        rw [zl] at hU
        have hU := hU.less fun b z => Or.inl z
        have x13 := e2.trans e3
        have hG3 := x13 _ _ hG
        have hP3 := hP.ex x13
        have up : alive ((rs.take (i + 1)).map prt) = alive ((rs.take i).map prt) ++ (sts (sortPg r.2.1).length r.2.2).map (pgAt (sortPg r.2.1)) := by
          rw [up_take gr, List.map_append, List.map_singleton, alive_snoc]
          rfl
        have af := alive_few (rs := rs.take (i + 1)) fun r hr => ok r (List.mem_of_mem_take hr)
        refine ⟨G, D, _, _, rfl, rfl, hG3, hD, ?_, fun m nm => ?_⟩
        · rw [hP3.1, hU.1, ← List.length_append, ← up]
          rw [List.length_take] at af
          exact sz (by omega)
        · have eM := Ex.new (o := .lst (ys ++ us)) nm
          refine ⟨_, _, _, _, _, m, ys ++ us, rfl, fresh_back ((e1.trans x13)) nm, (e1.trans x13).trans eM, upd_same, ?_⟩
          rw [up]
          exact (hP3.app hU).ex eM
    · obtain ⟨o2, o3, o4, o5, o6, G, ys, rfl, nG, e1, hG, hP⟩ := pv
      rw [hR.1, List.take_length] at hP
      exact ⟨.ref G, rfl, q G ys H1 nG e1 hG hP⟩
theorem strs_flat (l : List Str) : (l.map V.str).all flatV = true := by
  rw [List.all_eq_true]
  intro v hv
  obtain ⟨m, _, rfl⟩ := List.mem_map.mp hv
  rfl
theorem inV_strs (z : Str) : ∀ l : List Str, inV (.str z) (l.map V.str) = decide (z ∈ l)
  | [] => rfl
  | m :: r => by
    have ih := inV_strs z r
    unfold inV at ih ⊢
    rw [List.map_cons, List.any_cons, ih]
    by_cases h : z = m
    · subst h
      simp [eqV]
    · have h' : ¬ m = z := fun e => h e.symm
      simp [eqV, h, h']
def spLHold : Sp := fun vs H Q _ => ∃ (N : Addr → Prop) (al : Addr) (ys : List V) (gs : List Pg) (z : Str), vs = [.ref al, .str z] ∧ H al = some (.lst ys) ∧ Prs N H ys gs ∧ gs.length ≤ 1000 ∧ RetV (.int (gs.countP fun g => decide (z ∈ g.2) : Nat)) H Q
set_option maxHeartbeats 8000000 in
theorem ok_l_holders (T : TX K mg A FD TK CC) : FnOk P w K mg base CX0 1 (A 101) (FD 101) ["_law_alive", "_law_word"] spLHold := by
  refine T.f_l_holders.ok (k := 0) sc_l_holders (fun vs H Q E h => ?_) (fun cdv A' outer s H vs Q E hr h => ?_)
  · obtain ⟨N, al, ys, gs, z, rfl, _⟩ := h
    rfl
  · obtain ⟨N, al, ys, gs, z, rfl, hl, hP, few, q⟩ := h
    refine ⟨_, (pss_one (ps_ret (pe_callB (lenK (K := K) rfl) (by rfl) T.m_len (by decide +kernel) (pa_cons (pe_lc (own := [("_law_number", 2), ("_law_words_here", 3)])  rfl sc_l_holders.nd (piLK (K := K) rfl (pv 0)) (blkOk_by (own := [("_law_number", 2), ("_law_words_here", 3)]) (N := N_l_holders) (sc := defScope (topS 101)) (by decide +kernel)) (fun _ _ _ _ _ => (tupGK (K := K) (n := 2) rfl rfl (pgs_cons (pg_name (i := 2) sc_l_holders.nd rfl (Or.inl rfl)) (pgs_cons (pg_name (i := 3) sc_l_holders.nd rfl (Or.inl rfl)) pgs_nil)))) (fun _ _ _ _ _ => (pts_one (pt_cmpR (inK (K := K) rfl) (pv 1) (pv 3) (by rfl)))) (fun _ _ _ _ _ => (pv 2))) pa_nil)))), ?_⟩
    refine ⟨.ref al, rfl, al, rfl, ⟨_, SqL.of hl⟩, fun D nD => ?_⟩
    refine lc_list (K := K) (a := al) (xs := ys) (fun i H' => Ex H H' ∧ ∃ us, H' D = some (.lst us) ∧ us.length = (gs.take i).countP fun g => decide (z ∈ g.2)) ⟨Ex.new nD, [], upd_same, rfl⟩ (fun i H' _ p => SqL.of (p.1 _ _ hl)) (fun i v H1 hv p => ?_) (fun H1 p => ?_)
    · obtain ⟨e1, us, hD, hU⟩ := p
      obtain ⟨g, hg, hpr⟩ := hP.mem hv
      obtain ⟨a, h, rfl, h1, h2, _⟩ := hpr
      refine ⟨a, _, rfl, SqT.of (e1 _ _ h1), rfl, _, _, rfl, _, _, rfl, rfl, rfl, .str z, rfl, .ref h, rfl, h, g.2.map V.str, rfl, .inl (SqL.of (e1 _ _ h2)), rfl, strs_flat _, _, rfl, ?_⟩
      rw [inV_strs]
      by_cases c : z ∈ g.2
      · rw [decide_eq_true c]
        refine iteT ⟨.int g.1, rfl, us, hD, ?_, Ex.mut e1 nD, us ++ [.int g.1], upd_same, ?_⟩
        · rw [hU]
          have := List.countP_le_length (p := fun g : Pg => decide (z ∈ g.2)) (l := gs.take i)
          rw [List.length_take] at this
          exact sz_lt (by omega)
        · rw [up_take hg, List.countP_append, List.length_append, hU, List.countP_singleton, if_pos (decide_eq_true c)]
          rfl
      · rw [decide_eq_false c]
        refine iteF ⟨e1, us, hD, ?_⟩
        rw [up_take hg, List.countP_append, hU, List.countP_singleton, if_neg (by simpa using c)]
        rfl
    · obtain ⟨e1, us, hD, hU⟩ := p
      rw [hP.1, List.take_length] at hU
      refine ⟨D, us, rfl, .inl (SqL.of hD), ?_⟩
      rw [hU]
      exact q _ e1

/-! ### a dict is written -/
theorem Prs.exI {N : Addr → Prop} {H H' : Hp} {xs : List V} {gs : List Pg} {cd : Addr} {kvs : List (Key × V)} (h : Prs N H xs gs) (hd : H cd = some (.dK kvs)) (i : ExI cd H H') : Prs N H' xs gs :=
  h.mono (fun c zs z => i _ _ (ne_of z hd (by intro z; cases z)) z) fun c zs _ z => i _ _ (ne_of z hd (by intro z; cases z)) z
theorem RawA.exI {N : Addr → Prop} {H H' : Hp} {v : V} {r : Part} {cd : Addr} {kvs : List (Key × V)} (h : RawA N H v r) (hd : H cd = some (.dK kvs)) (i : ExI cd H H') : RawA N H' v r :=
  h.mono (fun c zs z => i _ _ (ne_of z hd (by intro z; cases z)) z) fun c zs _ z => i _ _ (ne_of z hd (by intro z; cases z)) z
theorem lst_exI {H H' : Hp} {a cd : Addr} {xs : List V} {kvs : List (Key × V)} (h : H a = some (.lst xs)) (hd : H cd = some (.dK kvs)) (i : ExI cd H H') : H' a = some (.lst xs) := i _ _ (ne_of h hd (by intro z; cases z)) h
theorem FigAt.dk {CF CS CR CB f cd : Addr} {H : Hp} {qs : List Part} {n : Nat} (h : FigAt CF CS CR CB H f cd qs n) : ∃ kvs, H cd = some (.dK kvs) := let ⟨_, _, _, kvs, h⟩ := h; ⟨kvs, h.id⟩

/-! ### lowest terms, the program's and the law's -/
def spLow : Sp := fun vs H Q _ => ∃ t b : Int, vs = [.int t, .int b] ∧ b ≠ 0 ∧ t.natAbs < 2 ^ 4000 ∧ b.natAbs < 2 ^ 4000 ∧ ∀ l, H l = none → Q (.ref l) (upd H l (.tup [.int (lwT t b), .int (lwB t b)]))
theorem absI (z : Int) : (if z < 0 then -z else z) = ((z.natAbs : Nat) : Int) := by split <;> omega
/-- the fourth name's number -/
def mu3 : L2.St → Hp → Nat := fun σ _ => match σ with
  | [_, _, _, some (.int r)] => r.toNat
  | _ => 0
theorem gcd_step (d r : Nat) (h : 0 < r) : Nat.gcd r (d % r) = Nat.gcd d r := by
  rw [Nat.gcd_comm d r, Nat.gcd_rec r d, Nat.gcd_comm]
set_option maxHeartbeats 4000000 in
theorem ok_lowest (T : TX K mg A FD TK CC) : FnOk P w K mg base CX0 1 (A 32) (FD 32) ["top", "bottom"] spLow := by
  refine T.f_lowest.ok sc_lowest (fun vs H Q E h => ?_) (fun cdv A' outer s H vs Q E hr h => ?_)
  · obtain ⟨t, b, rfl, _⟩ := h
    rfl
  · obtain ⟨t, b, rfl, hb, ht, hb2, q⟩ := h
    refine ⟨_, (pss_cons (ps_par (by rfl) sc_lowest.nd (i := 2) (j := 3) rfl rfl (by decide) rfl rfl (pa_cons (pe_callB call_abs (by rfl) T.m_abs (by decide +kernel) (pa_cons (pv 1) pa_nil)) (pa_cons (pe_callB call_abs (by rfl) T.m_abs (by decide +kernel) (pa_cons (pv 0) pa_nil)) pa_nil)) (by rfl))
      (pss_cons (ps_while PassesOwn.never (pt_cmpR op_gt (pv 3) pe_int (nomark _))
      (pss_one (ps_par (by rfl) sc_lowest.nd (i := 2) (j := 3) rfl rfl (by decide) rfl rfl (pa_cons (pv 3) (pa_cons (pe_op op_mod (pv 2) (pv 3)) pa_nil)) (by rfl))))
      (pss_cons (ps_if (pt_cmpR op_lt (pv 1) pe_int (nomark _))
      (pss_one (ps_set (i := 2) sc_lowest.nd rfl (.inl rfl) (pe_un un_neg (pv 2))))
      pss_nil)
      (pss_one (ps_ret (pe_tup (pa_cons (pe_op op_fdivWN (pv 0) (pv 2)) (pa_cons (pe_op op_fdivWN (pv 1) (pv 2)) pa_nil)))))))), ?_⟩
    refine ⟨.int b, rfl, b, rfl, .int t, rfl, t, rfl, _, _, rfl, ?_⟩
    rw [absI, absI]
    refine while_by (fun σ' H' => H' = H ∧ ∃ d r : Nat, σ' = [some (.int t), some (.int b), some (.int (d : Int)), some (.int (r : Int))] ∧ Nat.gcd d r = Nat.gcd t.natAbs b.natAbs) mu3 ⟨rfl, _, _, rfl, Nat.gcd_comm ..⟩ (fun σ' H' p => ?_) (fun σ' H' Q Q' m h => ?_)
    · obtain ⟨rfl, d, r, rfl, hg⟩ := p
      refine ⟨.int r, rfl, r, 0, rfl, rfl, _, rfl, ite2 (fun e => ?_) (fun e => ?_)⟩
      · have e0 : (0 : Int) < (r : Int) := of_decide_eq_true e
        refine ⟨.int r, rfl, .int d, rfl, .int r, rfl, d, r, rfl, rfl, e0, _, _, rfl, ⟨rfl, r, d % r, ?_, ?_⟩, ?_⟩
        · rw [Int.natCast_emod]; rfl
        · rw [gcd_step d r (by omega), hg]
        · show ((d : Int) % (r : Int)).toNat < (r : Int).toNat
          have := Int.emod_lt_of_pos (d : Int) e0
          omega
      · have e0 : ¬ (0 : Int) < (r : Int) := fun z => e (decide_eq_true z)
        have r0 : r = 0 := by omega
        subst r0
        rw [Nat.gcd_zero_right] at hg
        subst hg
        refine ⟨.int b, rfl, b, 0, rfl, rfl, _, rfl, ite2 (fun e => ?_) (fun e => ?_)⟩
        · have e1 : b < 0 := of_decide_eq_true e
          have eg : gd t b = -((Nat.gcd t.natAbs b.natAbs : Nat) : Int) := by unfold gd; rw [if_pos e1]
          refine ⟨.int _, rfl, _, rfl, .int t, rfl, .int _, rfl, t, _, rfl, rfl, ?_, .int b, rfl, .int _, rfl, b, _, rfl, rfl, ?_, by show 2 ≤ sizeLine; decide, fun l nl => ?_⟩
          · rw [← eg]; exact ⟨gd_ne hb, log9 (gd_le hb hb2) (by decide) (by decide)⟩
          · rw [← eg]; exact ⟨gd_ne hb, log9 (gd_le hb hb2) (by decide) (by decide)⟩
          · rw [← eg]; exact q l nl
        · have e1 : ¬ b < 0 := fun z => e (decide_eq_true z)
          have eg : gd t b = ((Nat.gcd t.natAbs b.natAbs : Nat) : Int) := by unfold gd; rw [if_neg e1]
          refine ⟨.int t, rfl, .int _, rfl, t, _, rfl, rfl, ?_, .int b, rfl, .int _, rfl, b, _, rfl, rfl, ?_, by show 2 ≤ sizeLine; decide, fun l nl => ?_⟩
          · rw [← eg]; exact ⟨gd_ne hb, log9 (gd_le hb hb2) (by decide) (by decide)⟩
          · rw [← eg]; exact ⟨gd_ne hb, log9 (gd_le hb hb2) (by decide) (by decide)⟩
          · rw [← eg]; exact q l nl
    · obtain ⟨v, hv, i, j, e1, e2, k, hk, hq⟩ := h
      exact ⟨v, hv, i, j, e1, e2, k, hk, m _ _ hq⟩
set_option maxHeartbeats 4000000 in
theorem ok_l_low (T : TX K mg A FD TK CC) : FnOk P w K mg base CX0 1 (A 98) (FD 98) ["_law_upper", "_law_lower"] spLow := by
  refine T.f_l_low.ok sc_l_low (fun vs H Q E h => ?_) (fun cdv A' outer s H vs Q E hr h => ?_)
  · obtain ⟨t, b, rfl, _⟩ := h
    rfl
  · obtain ⟨t, b, rfl, hb, ht, hb2, q⟩ := h
    refine ⟨_, (pss_cons (ps_par (by rfl) sc_l_low.nd (i := 2) (j := 3) rfl rfl (by decide) rfl rfl (pa_cons (pe_callB call_abs (by rfl) T.m_abs (by decide +kernel) (pa_cons (pv 0) pa_nil)) (pa_cons (pe_callB call_abs (by rfl) T.m_abs (by decide +kernel) (pa_cons (pv 1) pa_nil)) pa_nil)) (by rfl))
      (pss_cons (ps_while PassesOwn.never (pt_cmpR op_gt (pv 3) pe_int (nomark _))
      (pss_one (ps_par (by rfl) sc_l_low.nd (i := 2) (j := 3) rfl rfl (by decide) rfl rfl (pa_cons (pv 3) (pa_cons (pe_op op_mod (pv 2) (pv 3)) pa_nil)) (by rfl))))
      (pss_cons (ps_if (pt_cmpR op_lt (pv 1) pe_int (nomark _))
      (pss_one (ps_set (i := 2) sc_l_low.nd rfl (.inl rfl) (pe_op op_sub pe_int (pv 2))))
      pss_nil)
      (pss_one (ps_ret (pe_tup (pa_cons (pe_op op_fdivWN (pv 0) (pv 2)) (pa_cons (pe_op op_fdivWN (pv 1) (pv 2)) pa_nil)))))))), ?_⟩
    refine ⟨.int t, rfl, t, rfl, .int b, rfl, b, rfl, _, _, rfl, ?_⟩
    rw [absI, absI]
    refine while_by (fun σ' H' => H' = H ∧ ∃ d r : Nat, σ' = [some (.int t), some (.int b), some (.int (d : Int)), some (.int (r : Int))] ∧ Nat.gcd d r = Nat.gcd t.natAbs b.natAbs) mu3 ⟨rfl, _, _, rfl, rfl⟩ (fun σ' H' p => ?_) (fun σ' H' Q Q' m h => ?_)
    · obtain ⟨rfl, d, r, rfl, hg⟩ := p
      refine ⟨.int r, rfl, r, 0, rfl, rfl, _, rfl, ite2 (fun e => ?_) (fun e => ?_)⟩
      · have e0 : (0 : Int) < (r : Int) := of_decide_eq_true e
        refine ⟨.int r, rfl, .int d, rfl, .int r, rfl, d, r, rfl, rfl, e0, _, _, rfl, ⟨rfl, r, d % r, ?_, ?_⟩, ?_⟩
        · rw [Int.natCast_emod]; rfl
        · rw [gcd_step d r (by omega), hg]
        · show ((d : Int) % (r : Int)).toNat < (r : Int).toNat
          have := Int.emod_lt_of_pos (d : Int) e0
          omega
      · have e0 : ¬ (0 : Int) < (r : Int) := fun z => e (decide_eq_true z)
        have r0 : r = 0 := by omega
        subst r0
        rw [Nat.gcd_zero_right] at hg
        subst hg
        refine ⟨.int b, rfl, b, 0, rfl, rfl, _, rfl, ite2 (fun e => ?_) (fun e => ?_)⟩
        · have e1 : b < 0 := of_decide_eq_true e
          have eg : gd t b = 0 - ((Nat.gcd t.natAbs b.natAbs : Nat) : Int) := by unfold gd; rw [if_pos e1]; omega
          refine ⟨.int _, rfl, 0, _, rfl, rfl, .int t, rfl, .int _, rfl, t, _, rfl, rfl, ?_, .int b, rfl, .int _, rfl, b, _, rfl, rfl, ?_, by show 2 ≤ sizeLine; decide, fun l nl => ?_⟩
          · rw [← eg]; exact ⟨gd_ne hb, log9 (gd_le hb hb2) (by decide) (by decide)⟩
          · rw [← eg]; exact ⟨gd_ne hb, log9 (gd_le hb hb2) (by decide) (by decide)⟩
          · rw [← eg]; exact q l nl
        · have e1 : ¬ b < 0 := fun z => e (decide_eq_true z)
          have eg : gd t b = ((Nat.gcd t.natAbs b.natAbs : Nat) : Int) := by unfold gd; rw [if_neg e1]
          refine ⟨.int t, rfl, .int _, rfl, t, _, rfl, rfl, ?_, .int b, rfl, .int _, rfl, b, _, rfl, rfl, ?_, by show 2 ≤ sizeLine; decide, fun l nl => ?_⟩
          · rw [← eg]; exact ⟨gd_ne hb, log9 (gd_le hb hb2) (by decide) (by decide)⟩
          · rw [← eg]; exact ⟨gd_ne hb, log9 (gd_le hb hb2) (by decide) (by decide)⟩
          · rw [← eg]; exact q l nl
    · obtain ⟨v, hv, i, j, e1, e2, k, hk, hq⟩ := h
      exact ⟨v, hv, i, j, e1, e2, k, hk, m _ _ hq⟩

/-! ### whole numbers -/
def wholeV : V → Bool
  | .int _ => true
  | _ => false
def within (v : V) (lo hi : Int) : Bool :=
  match v with
  | .int i => decide (lo ≤ i) && decide (i ≤ hi)
  | _ => false
theorem Th.whole (K : PySem.W.Frag) {H : Hp} {v : V} (t : Th H v) : (∃ i, v = .int i) ∨ (∃ b, v = .bl b) ∨ (∃ ty, TyX K H v (.type ty) ∧ kitB ty "int" = some false ∧ wholeV v = false) := by
  cases t with
  | str z h => exact .inr (.inr ⟨_, .base (.str z), by decide +kernel, rfl⟩)
  | non => exact .inr (.inr ⟨_, .base .non, by decide +kernel, rfl⟩)
  | bl b => exact .inr (.inl ⟨b, rfl⟩)
  | int i => exact .inl ⟨i, rfl⟩
  | lst h => exact .inr (.inr ⟨_, .base (.lst h), by decide +kernel, rfl⟩)
  | tup h => exact .inr (.inr ⟨_, .base (.tup h), by decide +kernel, rfl⟩)
def spWholeX : Sp := fun vs H Q _ => ∃ v : V, vs = [v] ∧ Th H v ∧ Q (.bl (wholeV v)) H
set_option maxHeartbeats 4000000 in
theorem ok_is_wholeX (T : TX K mg A FD TK CC) : FnOk P w K mg base CX0 1 (A 17) (FD 17) ["thing"] spWholeX := by
  refine T.f_is_whole.ok sc_is_whole (fun vs H Q E h => ?_) (fun cdv A' outer s H vs Q E hr h => ?_)
  · obtain ⟨v, rfl, _⟩ := h
    rfl
  · obtain ⟨v, rfl, ht, q⟩ := h
    refine ⟨_, (pss_one (ps_ret (pe_and (pe_callB (isiK (K := K) rfl) (by rfl) T.m_isinstance (by decide +kernel) (pa_cons (pv 0) (pa_cons (pe_bltn (v := .ty "int") (by rfl) T.m_int (by decide +kernel) rfl) pa_nil))) (pe_one (pe_not (pe_callB (isiK (K := K) rfl) (by rfl) T.m_isinstance (by decide +kernel) (pa_cons (pv 0) (pa_cons (pe_bltn (v := .ty "bool") (by rfl) T.m_bool (by decide +kernel) rfl) pa_nil)))))))), ?_⟩
    rcases ht.whole K with ⟨i, rfl⟩ | ⟨b, rfl⟩ | ⟨ty, t1, t2, t3⟩
    · refine ⟨.int i, rfl, .int i, .ty "int", .type "int", .type "int", true, rfl, .ty _, .base (.int i), kit_ty (by decide +kernel), true, rfl, ?_⟩
      exact ⟨.int i, rfl, .int i, .ty "bool", .type "int", .type "bool", false, rfl, .ty _, .base (.int i), kit_ty (by decide +kernel), false, rfl, q⟩
    · refine ⟨.bl b, rfl, .bl b, .ty "int", .type "bool", .type "int", true, rfl, .ty _, .base (.bl b), kit_ty (by decide +kernel), true, rfl, ?_⟩
      exact ⟨.bl b, rfl, .bl b, .ty "bool", .type "bool", .type "bool", true, rfl, .ty _, .base (.bl b), kit_ty (by decide +kernel), true, rfl, q⟩
    · rw [t3] at q
      exact ⟨v, rfl, v, .ty "int", .type ty, .type "int", false, rfl, .ty _, t1, kit_ty t2, false, rfl, q⟩
def spWithinX : Sp := fun vs H Q _ => ∃ (v : V) (lo hi : Int), vs = [v, .int lo, .int hi] ∧ Th H v ∧ Q (.bl (within v lo hi)) H
set_option maxHeartbeats 4000000 in
theorem ok_is_withinX (T : TX K mg A FD TK CC) : FnOk P w K mg base CX0 2 (A 18) (FD 18) ["thing", "least", "most"] spWithinX := by
  have G_is_whole := ok_is_wholeX (P := P) (w := w) (base := base) T
  refine T.f_is_within.ok (k := 1) sc_is_within (fun vs H Q E h => ?_) (fun cdv A' outer s H vs Q E hr h => ?_)
  · obtain ⟨v, lo, hi, rfl, _⟩ := h
    rfl
  · obtain ⟨v, lo, hi, rfl, ht, q⟩ := h
    refine ⟨_, (pss_one (ps_ret (pe_and (pe_call G_is_whole hr (by rfl) T.g_is_whole T.f_is_whole.kp T.b_is_whole .nil pass0 (pa_cons (pv 0) pa_nil)) (pe_one (pe_chain op_le op_le (pv 1) (pv 0) (pv 2)))))), ?_⟩
    refine ⟨v, rfl, v, rfl, ht, ?_⟩
    cases v with
    | int i =>
      have q : Q (.bl (decide (lo ≤ i) && decide (i ≤ hi))) H := q
      refine ⟨true, rfl, .int lo, rfl, .int i, rfl, lo, i, rfl, rfl, _, rfl, ite2 (fun c => ?_) (fun c => ?_)⟩
      · rw [c, Bool.true_and] at q
        exact ⟨.int hi, rfl, i, hi, rfl, rfl, q⟩
      · rw [Bool.eq_false_iff.mpr c, Bool.false_and] at q
        exact q
    | _ => exact ⟨false, rfl, q⟩

/-! ### Ratio -/
/-- a ratio at a: top and bottom -/
def Rt (C : Addr) (H : Hp) (a : Addr) (t b : Int) : Prop := ∃ dx, H a = some (.ins C dx [("top", .int t), ("bottom", .int b)])
theorem Rt.ex {C : Addr} {H H' : Hp} {a : Addr} {t b : Int} (h : Rt C H a t b) (e : Ex H H') : Rt C H' a t b := by
  obtain ⟨dx, h⟩ := h
  exact ⟨dx, e _ _ h⟩
theorem Rt.fx {C : Addr} {H H' : Hp} {a p : Addr} {t b : Int} {c : Nat} (h : Rt C H a t b) (hp : Pl H p c) (f : Fx p H H') : Rt C H' a t b := by
  obtain ⟨dx, h⟩ := h
  obtain ⟨xs, hx⟩ := hp.some
  exact ⟨dx, f _ _ (ne_of h hx (by intro z; cases z)) h⟩
abbrev tooG : Int := 1000000000000000000000000000000000000000000000000000000000000000000000000000000000000000000000000000000000000000000000000000000000000000000000000000000000000000000000000000000000000000000000000000000000000000000000000000000000000000000000000000000000000000000000000000000000000000000000000000000000000
def spFigs : Sp := fun vs H Q _ => ∃ z : Int, vs = [.int z] ∧ z.natAbs < 2 ^ 990 ∧ Q .non H
theorem tooG_lt : 2 ^ 990 < tooG.natAbs := by decide +kernel
set_option maxHeartbeats 4000000 in
theorem ok_check_figures (T : TX K mg A FD TK CC) : FnOk P w K mg base CX0 2 (A 33) (FD 33) ["number"] spFigs := by
  have G_is_whole := ok_is_wholeX (P := P) (w := w) (base := base) T
  refine T.f_check_figures.ok (k := 1) sc_check_figures (fun vs H Q E h => ?_) (fun cdv A' outer s H vs Q E hr h => ?_)
  · obtain ⟨z, rfl, _⟩ := h
    rfl
  · obtain ⟨z, rfl, hz, q⟩ := h
    refine ⟨_, (pss_one (ps_if (PW.pt (pw_or (pt_not (pt_val (pe_call G_is_whole hr (by rfl) T.g_is_whole T.f_is_whole.kp T.b_is_whole .nil pass0 (pa_cons (pv 0) pa_nil)))) (pw_or1 (pt_cmpR op_ge (pe_callB call_abs (by rfl) T.m_abs (by decide +kernel) (pa_cons (pv 0) pa_nil)) (pe_glob (v := .int 1000000000000000000000000000000000000000000000000000000000000000000000000000000000000000000000000000000000000000000000000000000000000000000000000000000000000000000000000000000000000000000000000000000000000000000000000000000000000000000000000000000000000000000000000000000000000000000000000000000000000) (by rfl) T.c_TOO_GREAT ⟨_, rfl⟩) (nomark _)))))
      (pss_one ps_never)
      pss_nil)), ?_⟩
    refine ⟨.int z, rfl, .int z, rfl, .int z, true, rfl, .int z, rfl, z, rfl, ?_⟩
    have l := tooG_lt
    rw [absI]
    refine ⟨_, _, rfl, rfl, false, ?_, q⟩
    refine congrArg V.bl (decide_eq_false fun z => ?_)
    have : tooG ≤ _ := z
    omega
def spRInit (C : Addr) : Sp := fun vs H Q _ => ∃ (x dx : Addr) (t b : Int), vs = [.ref x, .int t, .int b] ∧ H x = some (.ins C dx []) ∧ b ≠ 0 ∧ t.natAbs < 2 ^ 990 ∧ b.natAbs < 2 ^ 990 ∧
  ∀ H', ExI x H H' → Rt C H' x (lwT t b) (lwB t b) → Q .non H'
set_option maxHeartbeats 4000000 in
theorem ok_ratinit (T : TX K mg A FD TK CC) : FnOk P w K mg base CX0 3 (A 127) (FD 127) ["self", "top", "bottom"] (spRInit (A 31)) := by
  have G_check_figures := ok_check_figures (P := P) (w := w) (base := base) T
  have G_lowest := (ok_lowest (P := P) (w := w) (base := base) T).mono (show 1 ≤ 2 by decide)
  refine T.f_Ratio_init.ok (k := 2) sc_Ratio_init (fun vs H Q E h => ?_) (fun cdv A' outer s H vs Q E hr h => ?_)
  · obtain ⟨x, dx, t, b, rfl, _⟩ := h
    rfl
  · obtain ⟨x, dx, t, b, rfl, hx, hb, ht, hb2, q⟩ := h
    refine ⟨_, (pss_cons (ps_expr (pe_call G_check_figures hr (by rfl) T.g_check_figures T.f_check_figures.kp T.b_check_figures .nil pass0 (pa_cons (pv 1) pa_nil)))
      (pss_cons (ps_expr (pe_call G_check_figures hr (by rfl) T.g_check_figures T.f_check_figures.kp T.b_check_figures .nil pass0 (pa_cons (pv 2) pa_nil)))
      (pss_cons (ps_if (pt_cmpR op_eq (pv 2) pe_int (nomark _))
      (pss_one ps_never)
      pss_nil)
      (pss_one (ps_asg (pe_call G_lowest hr (by rfl) T.g_lowest T.f_lowest.kp T.b_lowest .nil pass0 (pa_cons (pv 1) (pa_cons (pv 2) pa_nil))) (pg_tup rfl (pgs_cons (pg_fld (pv 0)) (pgs_cons (pg_fld (pv 0)) pgs_nil)))))))), ?_⟩
    refine ⟨.int t, rfl, t, rfl, ht, .int b, rfl, b, rfl, hb2, .int b, rfl, rfl, _, rfl, ?_⟩
    rw [show decide (V.int b = V.int 0) = false from decide_eq_false fun z => hb (V.int.inj z)]
    refine ⟨.int t, rfl, .int b, rfl, t, b, rfl, hb, lt2 ht (by decide), lt2 hb2 (by decide), fun l nl => ?_⟩
    have nlx : x ≠ l := ne_of_none hx nl
    have hx1 : (upd H l (.tup [.int (lwT t b), .int (lwB t b)])) x = some (.ins (A 31) dx []) := by rw [upd_ne nlx]; exact hx
    refine ⟨l, _, rfl, SqT.of upd_same, rfl, _, _, rfl, .ref x, rfl, x, A 31, dx, [], rfl, hx1, T.cl_Ratio, T.n_Ratio_top, (by show 0 < 1000; decide), ?_⟩
    refine ⟨_, _, rfl, .ref x, rfl, x, A 31, dx, _, rfl, upd_same, T.cl_Ratio, T.n_Ratio_bottom, (by show 1 < 1000; decide), rfl, ?_⟩
    refine q _ (fun c o nc h => ?_) ⟨dx, upd_same⟩
    rw [upd_ne nc, upd_ne nc, upd_ne (ne_of_none h nl)]
    exact h
def RetR (C : Addr) (t b : Int) (H : Hp) (Q : VK) : Prop := ∀ (a : Addr) (H' : Hp), H a = none → Ex H H' → Rt C H' a t b → Q (.ref a) H'
/-- what comes of Ratio(t, b) -/
theorem mk_ratio {C : Addr} {H : Hp} {x dx : Addr} {t b : Int} {R : Hp → Prop} {E : XK} (nx : H x = none) (ndx : H dx = none) (hb : b ≠ 0) (ht : t.natAbs < 2 ^ 990) (hb2 : b.natAbs < 2 ^ 990) (q : ∀ H', Ex H H' → Rt C H' x (lwT t b) (lwB t b) → R H') :
    spRInit C [.ref x, .int t, .int b] (upd (upd H dx (.own x)) x (.ins C dx [])) (fun v H2 => v = .non ∧ R H2) E := by
  refine ⟨x, dx, t, b, rfl, upd_same, hb, ht, hb2, fun H' i r => ⟨rfl, q H' (fun c o h => ?_) r⟩⟩
  refine i c o (ne_of_none h nx) ?_
  rw [upd_ne (ne_of_none h nx), upd_ne (ne_of_none h ndx)]
  exact h
theorem bindsR (T : TX K mg A FD TK CC) : (∃ ds, Vals ([] : List V) ds ∧ Binds K (FD 127) ["self", "top", "bottom"] ds) ∧ (∃ ds, Vals [V.int 1] ds ∧ Binds K (FD 127) ["self", "top", "bottom"] ds) := by
  obtain ⟨ds2, R2, B2⟩ := T.f_Ratio_init.binds1 (ps := ["self", "top", "bottom"]) 3 1 (by simp) rfl (fun _ _ _ _ _ _ _ us its hl1 hl2 => match us, its, hl1, hl2 with | [_, _, _], [_], _, _ => ⟨_, rfl, rfl⟩)
  obtain ⟨ds1, R1, B1⟩ := T.f_Ratio_init.binds1 (ps := ["self", "top", "bottom"]) 2 0 (by simp) rfl (fun _ _ _ _ _ _ _ us its hl1 hl2 => match us, its, hl1, hl2 with | [_, _], [_], _, _ => ⟨_, rfl, rfl⟩)
  exact ⟨⟨ds2, R2, B2⟩, ⟨ds1, R1, B1⟩⟩
def spLess (C : Addr) : Sp := fun vs H Q _ => ∃ (a c : Addr) (t b u d : Int), vs = [.ref a, .ref c] ∧ Rt C H a t b ∧ Rt C H c u d ∧ t.natAbs < 2 ^ 1900 ∧ b.natAbs < 2 ^ 1900 ∧ u.natAbs < 2 ^ 1900 ∧ d.natAbs < 2 ^ 1900 ∧ Q (.bl (decide (t * d < u * b))) H
set_option maxHeartbeats 4000000 in
theorem ok_is_less (T : TX K mg A FD TK CC) : FnOk P w K mg base CX0 1 (A 129) (FD 129) ["self", "other"] (spLess (A 31)) := by
  refine T.f_Ratio_is_less.ok sc_Ratio_is_less (fun vs H Q E h => ?_) (fun cdv A' outer s H vs Q E hr h => ?_)
  · obtain ⟨a, c, t, b, u, d, rfl, _⟩ := h
    rfl
  · obtain ⟨a, c, t, b, u, d, rfl, ⟨da, ha⟩, ⟨dc, hc⟩, ht, hb, hu, hd, q⟩ := h
    refine ⟨_, (pss_one (ps_ret (pe_cmpR op_lt (pe_op op_mulW (fldK (K := K) rfl (pv 0) rfl) (fldK (K := K) rfl (pv 1) rfl)) (pe_op op_mulW (fldK (K := K) rfl (pv 1) rfl) (fldK (K := K) rfl (pv 0) rfl)) (nomark _)))), ?_⟩
    refine ⟨.ref a, rfl, a, _, da, _, _, rfl, ha, T.cl_Ratio, T.n_Ratio_top, rfl, .ref c, rfl, c, _, dc, _, _, rfl, hc, T.cl_Ratio, T.n_Ratio_bottom, rfl, t, d, rfl, rfl, cmul2 ht hd (by decide), ?_⟩
    exact ⟨.ref c, rfl, c, _, dc, _, _, rfl, hc, T.cl_Ratio, T.n_Ratio_top, rfl, .ref a, rfl, a, _, da, _, _, rfl, ha, T.cl_Ratio, T.n_Ratio_bottom, rfl, u, b, rfl, rfl, cmul2 hu hb (by decide), _, _, rfl, rfl, q⟩

/-! ### the law's reckoning -/
theorem pairS (t b : Int) : SeqAt.shaped (.tuple [.int t, .int b]) = true := by
  unfold SeqAt.shaped
  simp [PyData.canLay0, PyData.canLayAll0, PyData.depth, PyData.depthAll]
theorem pairE (t b : Int) : PyData.eqv (.tuple [.int t, .int b]) (.tuple [.int t, .int b]) = true := SeqAt.eqv_refl _ (SeqAt.canLay_of_shaped (pairS t b))
def spIsRatio (K : PySem.W.Frag) (C : Addr) : Sp := fun vs H Q _ => ∃ (a c : Addr) (t b : Int), vs = [.ref a, .ref c] ∧ Rt C H a t b ∧ SqT K H c [.int t, .int b] ∧ ∀ H', Ex H H' → Q (.bl true) H'
set_option maxHeartbeats 4000000 in
theorem ok_l_is_ratio (T : TX K mg A FD TK CC) : FnOk P w K mg base CX0 1 (A 99) (FD 99) ["_law_told", "_law_due"] (spIsRatio K (A 31)) := by
  refine T.f_l_is_ratio.ok sc_l_is_ratio (fun vs H Q E h => ?_) (fun cdv A' outer s H vs Q E hr h => ?_)
  · obtain ⟨a, c, t, b, rfl, _⟩ := h
    rfl
  · obtain ⟨a, c, t, b, rfl, ⟨da, ha⟩, hc, q⟩ := h
    refine ⟨_, (pss_cons (ps_for PassesOwn.never rfl (piTK (K := K) rfl (pe_tup (pa_cons (fldK (K := K) rfl (pv 0) rfl) (pa_cons (fldK (K := K) rfl (pv 0) rfl) pa_nil)))) (pg_name (i := 2) sc_l_is_ratio.nd rfl (.inl rfl))
      (pss_one (ps_if (PW.pt (pw_or (pt_not (pt_val (pe_callB (isiK (K := K) rfl) (by rfl) T.m_isinstance (by decide +kernel) (pa_cons (pv 2) (pa_cons (pe_bltn (v := .ty "int") (by rfl) T.m_int (by decide +kernel) rfl) pa_nil))))) (pw_or1 (pt_val (pe_callB (isiK (K := K) rfl) (by rfl) T.m_isinstance (by decide +kernel) (pa_cons (pv 2) (pa_cons (pe_bltn (v := .ty "bool") (by rfl) T.m_bool (by decide +kernel) rfl) pa_nil)))))))
      (pss_one (ps_ret pe_bl))
      pss_nil)))
      (pss_one (ps_ret (pe_cmpR (eqDK (K := K) rfl hr.units) (pe_tup (pa_cons (fldK (K := K) rfl (pv 0) rfl) (pa_cons (fldK (K := K) rfl (pv 0) rfl) pa_nil))) (pv 1) (nomark _))))), ?_⟩
    refine ⟨.ref a, rfl, a, _, da, _, _, rfl, ha, T.cl_Ratio, T.n_Ratio_top, rfl, .ref a, rfl, a, _, da, _, _, rfl, ha, T.cl_Ratio, T.n_Ratio_bottom, rfl, by show 2 ≤ sizeLine; decide, fun p np => ?_⟩
    refine ⟨p, rfl, ⟨_, SqT.of upd_same⟩, ?_⟩
    have e1 : Ex H (upd H p (.tup [.int t, .int b])) := Ex.new np
    refine for_tup (K := K) (xs := [.int t, .int b]) (fun i σ' H' => ∃ y : Option V, σ' = [some (.ref a), some (.ref c), y] ∧ Ex (upd H p (.tup [.int t, .int b])) H') ⟨none, rfl, Ex.refl _⟩ (fun i σ' H' _ pv => ?_) (fun i x σ' H' gx pv => ?_) (fun σ' H' pv => ?_)
    · obtain ⟨y, _, e2⟩ := pv
      exact SqT.of (e2 _ _ upd_same)
    · obtain ⟨y, rfl, e2⟩ := pv
      obtain ⟨z, rfl⟩ : ∃ z : Int, x = .int z := by
        have hx := List.mem_of_getElem? gx
        simp only [List.mem_cons, List.not_mem_nil, or_false] at hx
        rcases hx with rfl | rfl
        · exact ⟨_, rfl⟩
        · exact ⟨_, rfl⟩
      refine ⟨.int z, rfl, .int z, .ty "int", .type "int", .type "int", true, rfl, .ty _, .base (.int z), kit_ty (by decide +kernel), true, rfl, ?_⟩
      exact ⟨.int z, rfl, .int z, .ty "bool", .type "int", .type "bool", false, rfl, .ty _, .base (.int z), kit_ty (by decide +kernel), false, rfl, some (.int z), rfl, e2⟩
    · obtain ⟨y, rfl, e2⟩ := pv
      have e3 := e1.trans e2
      refine ⟨.ref a, rfl, a, _, da, _, _, rfl, e3 _ _ ha, T.cl_Ratio, T.n_Ratio_top, rfl, .ref a, rfl, a, _, da, _, _, rfl, e3 _ _ ha, T.cl_Ratio, T.n_Ratio_bottom, rfl, by show 2 ≤ sizeLine; decide, fun p2 np2 => ?_⟩
      have e4 := e3.trans (Ex.new (o := .tup [.int t, .int b]) np2)
      refine ⟨.ref c, rfl, _, _, .tup (SqT.of upd_same) (.cons (.int t) (.cons (.int b) .nil)), .tup (ex_t e4 hc) (.cons (.int t) (.cons (.int b) .nil)), pairS t b, pairS t b, ?_⟩
      rw [pairE]
      exact q _ e4

/-! ### the law -/
theorem ite_ne {x y : V} {A B : Prop} (h : x = y) (b : B) : if (!decide (x = y)) = true then A else B := by
  rw [decide_eq_true h]
  exact b
theorem ExtN.exI {S H H' : Hp} {cd : Addr} (e : LamX.ExtN S H) (nw : Nw S cd) (i : ExI cd H H') : LamX.ExtN S H' := fun b o h z => i b o (fun x => nw o (by rw [← x]; exact h) z) (e b o h z)
theorem tabs_exI {Tt : List (Addr × Str)} {H H' : Hp} {cd : Addr} {kvs : List (Key × V)} (t : LamX.Tabs Tt H) (hd : H cd = some (.dK kvs)) (i : ExI cd H H') : LamX.Tabs Tt H' := fun q hq => by
  obtain ⟨ps, h1, h2, h3⟩ := t q hq
  refine ⟨ps, i _ _ (ne_of h1 hd (by intro z; cases z)) h1, h2, fun pos cv hc => ?_⟩
  obtain ⟨c, e1, e2⟩ := h3 pos cv hc
  exact ⟨c, e1, i _ _ (ne_of e2 hd (by intro z; cases z)) e2⟩
theorem hid_exN {H H' : Hp} {x : Addr} (e : LamX.ExtN H H') : LamX.ExtN (hidX H x) (hidX H' x) := fun b o h z => by
  by_cases c : b = x
  · rw [c, hid_x] at h
    cases h
  · rw [hid_at c] at h ⊢
    exact e b o h z
theorem PrtA.exNT {CS CR CB : Addr} {H H' : Hp} {v : V} {q : Part} (h : PrtA HO.tup CS CR CB H v q) (e : LamX.ExtN H H') : PrtA HO.tup CS CR CB H' v q := by
  obtain ⟨a, sg, gl, h0, h1, h2, h3⟩ := h
  exact ⟨a, sg, gl, h0, tup_exN e h1, h2.exN e, tup_exN e h3⟩
theorem FigAt.exN {CF CS CR CB f cd : Addr} {H H' : Hp} {qs : List Part} {n : Nat} (h : FigAt CF CS CR CB H f cd qs n) (e : LamX.ExtN H H') : FigAt CF CS CR CB H' f cd qs n := by
  obtain ⟨t, dx, ys, kvs, h⟩ := h
  exact ⟨t, dx, ys, kvs, e _ _ h.ix (by intro ps z; cases z), tup_exN e h.it, h.ip.mono fun v q _ k => k.exNT (hid_exN e), e _ _ h.id (by intro ps z; cases z), h.few, h.cnt⟩
theorem mk_fig {CF CS CR CB : Addr} {H : Hp} {x dx l : Addr} {xs : List V} {qs : List Part} {R : Hp → Prop} {E : XK} (nx : H x = none) (nd : H dx = none) (hl : H l = some (.lst xs)) (hL : LsA (PrtA HO.lst CS CR CB H) xs qs) (ok : ShOk qs)
    (q : ∀ (cd : Addr) (H' : Hp), H cd = none → Ex H H' → FigAt CF CS CR CB H' x cd qs 0 → R H') : spFigI CF CS CR CB [.ref x, .ref l] (upd (upd H dx (.own x)) x (.ins CF dx [])) (fun v H2 => v = .non ∧ R H2) E := by
  have e := ex2 (o := .own x) (u := .ins CF dx []) nx nd
  exact ⟨x, dx, l, xs, qs, rfl, upd_same, e _ _ hl, hL.mono fun v q _ k => k.ex e, ok, fun cd H' nc i f => ⟨rfl, q cd H' (fresh_back e nc) (ExI.new nx nd i) f⟩⟩
/-- what a handed part is after its list of gone slots may have been cleared -/
def Hnd (S : Hp) (hd al : Addr) (H : Hp) (v : V) : Prop := ∃ (a sg gl : Addr) (zs : List V), v = .ref a ∧ H a = some (.tup [.ref sg, .ref gl]) ∧ H gl = some (.lst zs) ∧ Nw S gl ∧ gl ≠ hd ∧ gl ≠ al
theorem Hnd.exN {S H H' : Hp} {hd al : Addr} {v : V} (h : Hnd S hd al H v) (e : LamX.ExtN H H') : Hnd S hd al H' v := by
  obtain ⟨a, sg, gl, zs, h0, h1, h2, h3⟩ := h
  exact ⟨a, sg, gl, zs, h0, tup_exN e h1, lst_exN e h2, h3⟩
theorem Hnd.exI {S H H' : Hp} {hd al cd : Addr} {v : V} {kvs : List (Key × V)} (h : Hnd S hd al H v) (hc : H cd = some (.dK kvs)) (i : ExI cd H H') : Hnd S hd al H' v := by
  obtain ⟨a, sg, gl, zs, h0, h1, h2, h3⟩ := h
  exact ⟨a, sg, gl, zs, h0, i _ _ (ne_of h1 hc (by intro z; cases z)) h1, i _ _ (ne_of h2 hc (by intro z; cases z)) h2, h3⟩
theorem Hnd.clr {S H : Hp} {hd al D : Addr} {v : V} {xs : List V} (h : Hnd S hd al H v) (hD : H D = some (.lst xs)) : Hnd S hd al (upd H D (.lst [])) v := by
  obtain ⟨a, sg, gl, zs, h0, h1, h2, h3⟩ := h
  by_cases c : gl = D
  · subst c
    exact ⟨a, sg, gl, [], h0, by rw [upd_ne (ne_of h1 hD (by intro z; cases z))]; exact h1, upd_same, h3⟩
  · exact ⟨a, sg, gl, zs, h0, by rw [upd_ne (ne_of h1 hD (by intro z; cases z))]; exact h1, by rw [upd_ne c]; exact h2, h3⟩
def spLaw (K : PySem.W.Frag) (Tt : List (Addr × Str)) : Sp := fun vs H Q _ => ∃ (a : Addr) (ns : List Int), vs = [.ref a] ∧ SqL K H a (ns.map V.int) ∧ ns.length ≤ 63 ∧ LamX.Tabs Tt H ∧ ∀ H', Q (.bl true) H'
theorem maxmin26 (n : Nat) : 2 ≤ (if (if (6 : Int) < (n : Int) then 6 else (n : Int)) > 2 then (if (6 : Int) < (n : Int) then 6 else (n : Int)) else 2) ∧ (if (if (6 : Int) < (n : Int) then 6 else (n : Int)) > 2 then (if (6 : Int) < (n : Int) then 6 else (n : Int)) else 2) ≤ 6 := by
  constructor
  · split <;> split <;> omega
  · split <;> split <;> omega
abbrev TabL34 (PS PL : Addr) : List (Addr × Str) := [(PS, lamQ "Segment.__init__"), (PL, lamQ "law")]

/-! ### all but lists, tables, one list and one dict stays -/
def NLk (H H' : Hp) : Prop := ∀ b o, H b = some o → (∀ xs, o ≠ .lst xs) → (∀ ps, o ≠ .tbl ps) → H' b = some o
theorem NLk.fx {H H' : Hp} {p : Addr} {c : Nat} (hp : Pl H p c) (f : Fx p H H') : NLk H H' := fun b o h n _ => f b o (fun e => by
  obtain ⟨xs, hx⟩ := hp.some
  rw [e, hx] at h
  exact n _ (Option.some.inj h).symm) h
theorem RowAt.nl {CR CB : Addr} {H H' : Hp} {r : Addr} {z : Str} {s : Nat} {es : List En} {ls : List Nat} (h : RowAt CR CB H r z s es ls) (e : NLk H H') : RowAt CR CB H' r z s es ls := by
  obtain ⟨dx, t, bs, h1, h2, h3⟩ := h
  exact ⟨dx, t, bs, e _ _ h1 (by intro ps z; cases z) (by intro ps z; cases z), e _ _ h2 (by intro ps z; cases z) (by intro ps z; cases z), h3.1, fun i b g => by
    obtain ⟨db, hb⟩ := h3.2 i b g
    exact ⟨db, e _ _ hb (by intro ps z; cases z) (by intro ps z; cases z)⟩⟩
theorem SegAt.nl {CS CR CB : Addr} {H H' : Hp} {x : Addr} {s : Nat} {ps : List Pg} (h : SegAt CS CR CB H x s ps) (e : NLk H H') : SegAt CS CR CB H' x s ps := by
  obtain ⟨d, dx, t1, t2, kas, h1, h2, h3, h4, h5⟩ := h
  exact ⟨d, dx, t1, t2, kas, e _ _ h1 (by intro ps z; cases z) (by intro ps z; cases z), e _ _ h2 (by intro ps z; cases z) (by intro ps z; cases z), e _ _ h3 (by intro ps z; cases z) (by intro ps z; cases z), e _ _ h4 (by intro ps z; cases z) (by intro ps z; cases z), h5.one, h5.keys, fun p hp => (h5.row p hp).nl e⟩
theorem PrtA.nl {CS CR CB : Addr} {H H' : Hp} {v : V} {q : Part} (h : PrtA HO.tup CS CR CB H v q) (e : NLk H H') : PrtA HO.tup CS CR CB H' v q := by
  obtain ⟨a, sg, gl, h0, h1, h2, h3⟩ := h
  exact ⟨a, sg, gl, h0, e _ _ h1 (by intro ps z; cases z) (by intro ps z; cases z), h2.nl e, e _ _ h3 (by intro ps z; cases z) (by intro ps z; cases z)⟩
theorem hid_nl {H H' : Hp} {x : Addr} (e : NLk H H') : NLk (hidX H x) (hidX H' x) := fun b o h z z2 => by
  by_cases c : b = x
  · rw [c, hid_x] at h
    cases h
  · rw [hid_at c] at h ⊢
    exact e b o h z z2
theorem FigAt.nl {CF CS CR CB f cd : Addr} {H H' : Hp} {qs : List Part} {n : Nat} (h : FigAt CF CS CR CB H f cd qs n) (e : NLk H H') : FigAt CF CS CR CB H' f cd qs n := by
  obtain ⟨t, dx, ys, kvs, h⟩ := h
  exact ⟨t, dx, ys, kvs, e _ _ h.ix (by intro ps z; cases z) (by intro ps z; cases z), e _ _ h.it (by intro ps z; cases z) (by intro ps z; cases z), h.ip.mono fun v q _ k => k.nl (hid_nl e), e _ _ h.id (by intro ps z; cases z) (by intro ps z; cases z), h.few, h.cnt⟩
theorem FigAt.fx {CF CS CR CB f cd p : Addr} {H H' : Hp} {qs : List Part} {n c : Nat} (h : FigAt CF CS CR CB H f cd qs n) (hp : Pl H p c) (x : Fx p H H') : FigAt CF CS CR CB H' f cd qs n := h.nl (NLk.fx hp x)
theorem FigAt.mono {CF CS CR CB f cd : Addr} {H : Hp} {qs : List Part} {n m : Nat} (h : FigAt CF CS CR CB H f cd qs n) (l : n ≤ m) : FigAt CF CS CR CB H f cd qs m := by
  obtain ⟨t, dx, ys, kvs, h⟩ := h
  exact ⟨t, dx, ys, kvs, h.ix, h.it, h.ip, h.id, Nat.le_trans h.few l, h.cnt⟩
/-- all but p, cd and tables stays -/
def Kp (p cd : Addr) (H H' : Hp) : Prop := ∀ b o, b ≠ p → b ≠ cd → H b = some o → (∀ ps, o ≠ .tbl ps) → H' b = some o
theorem Kp.refl {p cd : Addr} {H : Hp} : Kp p cd H H := fun b o _ _ h _ => h
theorem Kp.trans {p cd : Addr} {H H1 H2 : Hp} (a : Kp p cd H H1) (b : Kp p cd H1 H2) : Kp p cd H H2 := fun c o n m h z => b c o n m (a c o n m h z) z
theorem Kp.fx {p cd : Addr} {H H' : Hp} (f : Fx p H H') : Kp p cd H H' := fun b o n _ h _ => f b o n h
theorem Kp.exI {p cd : Addr} {H H' : Hp} (f : ExI cd H H') : Kp p cd H H' := fun b o _ n h _ => f b o n h
theorem Kp.exN {p cd : Addr} {H H' : Hp} (f : LamX.ExtN H H') : Kp p cd H H' := fun b o _ _ h z => f b o h z
theorem Kp.ex {p cd : Addr} {H H' : Hp} (f : Ex H H') : Kp p cd H H' := fun b o _ _ h _ => f b o h
section
variable {p cd : Addr} {H H' : Hp} {c : Nat} {kvs : List (Key × V)}
theorem Kp.tup {a : Addr} {xs : List V} (k : Kp p cd H H') (hp : Pl H p c) (hd : H cd = some (.dK kvs)) (h : H a = some (.tup xs)) : H' a = some (.tup xs) := by
  obtain ⟨ys, hy⟩ := hp.some
  exact k _ _ (ne_of h hy (by intro z; cases z)) (ne_of h hd (by intro z; cases z)) h (by intro ps z; cases z)
theorem Kp.lst {a : Addr} {xs : List V} (k : Kp p cd H H') (hd : H cd = some (.dK kvs)) (n : a ≠ p) (h : H a = some (.lst xs)) : H' a = some (.lst xs) := k _ _ n (ne_of h hd (by intro z; cases z)) h (by intro ps z; cases z)
theorem Prs.kp {N : Addr → Prop} {xs : List V} {gs : List Pg} (h : Prs N H xs gs) (k : Kp p cd H H') (hp : Pl H p c) (hd : H cd = some (.dK kvs)) (np : N p) : Prs N H' xs gs :=
  h.mono (fun c zs z => k.tup hp hd z) fun c zs n z => k.lst hd (fun e => n (by rw [e]; exact np)) z
theorem RawA.kp {N : Addr → Prop} {v : V} {r : Part} (h : RawA N H v r) (k : Kp p cd H H') (hp : Pl H p c) (hd : H cd = some (.dK kvs)) (np : N p) : RawA N H' v r :=
  h.mono (fun c zs z => k.tup hp hd z) fun c zs n z => k.lst hd (fun e => n (by rw [e]; exact np)) z
theorem Th.kp {v : V} (t : Th H v) (k : Kp p cd H H') (hp : Pl H p c) (hd : H cd = some (.dK kvs)) (n : v ≠ .ref p) : Th H' v := by
  cases t with
  | str z h => exact .str z h
  | non => exact .non
  | bl b => exact .bl b
  | int i => exact .int i
  | lst h => exact .lst (k.lst hd (fun e => n (by rw [e])) h)
  | tup h => exact .tup (k.tup hp hd h)
/-- what was there at first stays, where p and cd are new since -/
theorem Kp.toN {H0 : Hp} (k : Kp p cd H H') (e : LamX.ExtN H0 H) (np : Nw H0 p) (nc : Nw H0 cd) : LamX.ExtN H0 H' := fun b o h z => k b o (fun x => np o (by rw [← x]; exact h) z) (fun x => nc o (by rw [← x]; exact h) z) (e b o h z) z
end
theorem Rt.exI {C a cd : Addr} {H H' : Hp} {t b : Int} {kvs : List (Key × V)} (h : Rt C H a t b) (hd : H cd = some (.dK kvs)) (i : ExI cd H H') : Rt C H' a t b := by
  obtain ⟨dx, h⟩ := h
  exact ⟨dx, i _ _ (ne_of h hd (by intro z; cases z)) h⟩
theorem Pl.exN {H H' : Hp} {p : Addr} {c : Nat} (h : Pl H p c) (e : LamX.ExtN H H') : Pl H' p c := by
  obtain ⟨g, b, k, h1, h2⟩ := h
  exact ⟨g, b, k, lst_exN e h1, h2⟩
theorem Pl.exI {H H' : Hp} {p cd : Addr} {c : Nat} {kvs : List (Key × V)} (h : Pl H p c) (hd : H cd = some (.dK kvs)) (i : ExI cd H H') : Pl H' p c := by
  obtain ⟨g, b, k, h1, h2⟩ := h
  exact ⟨g, b, k, lst_exI h1 hd i, h2⟩
theorem Th.fxp {u : V} {A B : Hp} {p : Addr} {c : Nat} (t : Th A u) (une : u ≠ .ref p) (hp : Pl A p c) (f : Fx p A B) : Th B u := by
  cases t with
  | str z h => exact .str z h
  | non => exact .non
  | bl b => exact .bl b
  | int i => exact .int i
  | lst h => exact .lst (f _ _ (fun e => une (by rw [e])) h)
  | tup h => exact .tup (f.tup hp h)

/-! ### share -/
def srT (qs : List Part) (z : Str) (o l : Int) : Int := if o = 0 ∨ holdS qs z = 0 then 0 else (((alive qs).length : Nat) + 1) * o * wordsS qs
def srB (qs : List Part) (z : Str) (o l : Int) : Int := if o = 0 ∨ holdS qs z = 0 then 1 else (holdS qs z : Nat) * (o * wordsS qs + wordsS qs + l * ((alive qs).length : Nat))
theorem words_le : ∀ gs : List Pg, (∀ g ∈ gs, g.2.length ≤ 120) → (gs.map fun g => (g.2.length : Int)).sum ≤ 120 * (gs.length : Int)
  | [], _ => by decide
  | g :: r, h => by
    have ih := words_le r fun x hx => h x (List.mem_cons_of_mem _ hx)
    have h1 := h g (List.mem_cons_self ..)
    rw [List.map_cons, List.sum_cons, List.length_cons]
    omega
theorem words_nn : ∀ gs : List Pg, 0 ≤ (gs.map fun g => (g.2.length : Int)).sum
  | [] => by decide
  | g :: r => by
    have ih := words_nn r
    rw [List.map_cons, List.sum_cons]
    omega
theorem words_ge : ∀ (gs : List Pg) (g : Pg), g ∈ gs → (g.2.length : Int) ≤ (gs.map fun g => (g.2.length : Int)).sum
  | [], _, h => by cases h
  | g :: r, x, h => by
    rw [List.map_cons, List.sum_cons]
    rcases List.mem_cons.mp h with rfl | h
    · have := words_nn r
      omega
    · have := words_ge r x h
      omega
theorem alive_mem {qs : List Part} (ok : ShOk qs) {g : Pg} (h : g ∈ alive qs) : g.2.length ≤ 120 := by
  obtain ⟨q, hq, hg⟩ := List.mem_flatMap.mp h
  obtain ⟨i, hi, rfl⟩ := List.mem_map.mp hg
  have il := (sts_mem.mp hi).1
  have := (ok.part q hq).seg.pg.ok (pgAt q.2.1 i).2 (List.mem_map.mpr ⟨_, List.mem_of_getElem? (pgAt_in il), rfl⟩)
  exact this.1
structure ShN (qs : List Part) : Prop where
  p : (alive qs).length ≤ 480
  w0 : 0 ≤ wordsS qs
  w1 : wordsS qs ≤ 57600
theorem ShOk.nums {qs : List Part} (ok : ShOk qs) : ShN qs := by
  have a := alive_len (qs := qs) (n := 60) fun q hq => (ok.part q hq).seg.few
  have b := ok.few
  have c := words_le (alive qs) fun g hg => alive_mem ok hg
  have d := words_nn (alive qs)
  refine ⟨by omega, d, ?_⟩
  unfold wordsS
  omega
theorem hold_le (qs : List Part) (z : Str) : holdS qs z ≤ (alive qs).length := List.countP_le_length
theorem hold_pos {qs : List Part} {z : Str} (h : holdS qs z ≠ 0) : 1 ≤ (alive qs).length ∧ 1 ≤ wordsS qs := by
  have h1 : 0 < (alive qs).countP fun g => decide (z ∈ g.2) := Nat.pos_of_ne_zero h
  obtain ⟨g, hg, hz⟩ := List.countP_pos_iff.mp h1
  have hz := of_decide_eq_true hz
  have l1 : 1 ≤ g.2.length := List.length_pos_of_mem hz
  have l2 := List.length_pos_of_mem hg
  have := words_ge (alive qs) g hg
  unfold wordsS
  omega
theorem srB_pos {qs : List Part} {z : Str} {o l : Int} (ho : 0 ≤ o) (hl : 0 ≤ l) : 0 < srB qs z o l := by
  unfold srB
  by_cases c : o = 0 ∨ holdS qs z = 0
  · rw [if_pos c]
    decide
  · rw [if_neg c]
    have h0 : holdS qs z ≠ 0 := fun h => c (.inr h)
    obtain ⟨h1, h2⟩ := hold_pos h0
    have a := Int.mul_nonneg ho (show 0 ≤ wordsS qs by omega)
    have b := Int.mul_nonneg hl (show (0 : Int) ≤ ((alive qs).length : Nat) by omega)
    exact Int.mul_pos (by omega) (by omega)
theorem bN7 {x : Int} (h : 0 ≤ x) (h' : x ≤ 121) : x.natAbs < 2 ^ 7 := by
  show _ < 128
  omega
theorem bN9 {x : Nat} (h : x ≤ 480) : ((x : Nat) : Int).natAbs < 2 ^ 9 := by
  show _ < 512
  omega
theorem bN16 {x : Int} (h : 0 ≤ x) (h' : x ≤ 57600) : x.natAbs < 2 ^ 16 := by
  show _ < 65536
  omega
theorem shU_lt {P o W : Int} (hp : P.natAbs < 2 ^ 9) (ho : o.natAbs < 2 ^ 7) (hw : W.natAbs < 2 ^ 16) : ((P + 1) * o * W).natAbs < 2 ^ 33 := mul2 (mul2 (add2 hp (show (1 : Int).natAbs < 2 ^ 9 by decide)) ho) hw
theorem shL_lt {P o l W h : Int} (hp : P.natAbs < 2 ^ 9) (ho : o.natAbs < 2 ^ 7) (hl : l.natAbs < 2 ^ 7) (hw : W.natAbs < 2 ^ 16) (hh : h.natAbs < 2 ^ 9) : (h * (o * W + W + l * P)).natAbs < 2 ^ 34 := mul2 hh (add2 (add2 (mul2 ho hw) (lt2 hw (show 16 ≤ 23 by decide))) (lt2 (mul2 hl hp) (show 16 ≤ 24 by decide)))
def spCntW : Sp := fun vs H Q _ => ∃ n : Int, vs = [.int n] ∧ 0 ≤ n ∧ n ≤ 120 ∧ Q .non H
set_option maxHeartbeats 4000000 in
theorem ok_ck_count (T : TX K mg A FD TK CC) : FnOk P w K mg base CX0 3 (A 87) (FD 87) ["many"] spCntW := by
  have G_is_within := ok_is_withinX (P := P) (w := w) (base := base) T
  refine T.f_check_count.ok (k := 2) sc_check_count (fun vs H Q E h => ?_) (fun cdv A' outer s H vs Q E hr h => ?_)
  · obtain ⟨n, rfl, _⟩ := h
    rfl
  · obtain ⟨n, rfl, h0, h1, q⟩ := h
    refine ⟨_, (pss_one (ps_if (pt_not (pt_val (pe_call G_is_within hr (by rfl) T.g_is_within T.f_is_within.kp T.b_is_within .nil pass0 (pa_cons (pv 0) (pa_cons pe_int (pa_cons (pe_glob (v := .int 120) (by rfl) T.c_MOST_WORDS ⟨_, rfl⟩) pa_nil))))))
      (pss_one ps_never)
      pss_nil)), ?_⟩
    refine ⟨.int n, rfl, .int n, 0, 120, rfl, .int n, ?_⟩
    rw [show within (.int n) 0 120 = true by show (decide (0 ≤ n) && decide (n ≤ 120)) = true; rw [decide_eq_true h0, decide_eq_true h1]; rfl]
    exact ⟨true, rfl, iteF q⟩
def spShare (CT CF CS CR CB : Addr) : Sp := fun vs H Q _ => ∃ (f cd : Addr) (qs : List Part) (n : Nat) (z : Str) (o l : Int), vs = [.ref f, .str z, .int o, .int l] ∧ FigAt CF CS CR CB H f cd qs n ∧ n ≤ 5000 ∧ ShOk qs ∧ isW z = true ∧ 0 ≤ o ∧ o ≤ 120 ∧ 0 ≤ l ∧ l ≤ 120 ∧
  ∀ (a : Addr) (H' : Hp), ExI cd H H' → FigAt CF CS CR CB H' f cd qs (n + 1) → Rt CT H' a (lwT (srT qs z o l) (srB qs z o l)) (lwB (srT qs z o l) (srB qs z o l)) → Q (.ref a) H'
set_option maxHeartbeats 8000000 in
theorem ok_share (T : TX K mg A FD TK CC) : FnOk P w K mg base CX0 16 (A 86) (FD 86) ["figures", "word", "often", "length"] (spShare (A 31) (A 83) (A 71) (A 62) (A 61)) := by
  have G_check_word := (ok_check_word (P := P) (w := w) (base := base) T).mono (show 2 ≤ 15 by decide)
  have G_check_count := (ok_ck_count (P := P) (w := w) (base := base) T).mono (show 3 ≤ 15 by decide)
  have G_Figures_holders := (ok_hold (P := P) (w := w) (base := base) T).mono (show 15 ≤ 15 by decide)
  have G_Ratio := (ok_ratinit (P := P) (w := w) (base := base) T).mono (show 3 ≤ 14 by decide)
  obtain ⟨⟨ds2, R2_Ratio, B2_Ratio⟩, ds1, R1_Ratio, B1_Ratio⟩ := bindsR T
  refine T.f_share.ok (k := 15) sc_share (fun vs H Q E h => ?_) (fun cdv A' outer s H vs Q E hr h => ?_)
  · obtain ⟨f, cd, qs, n, z, o, l, rfl, _⟩ := h
    rfl
  · obtain ⟨f, cd, qs, n, z, o, l, rfl, hF, hn, ok, hw, o0, o1, l0, l1, q⟩ := h
    refine ⟨_, (pss_cons (ps_expr (pe_call G_check_word hr (by rfl) T.g_check_word T.f_check_word.kp T.b_check_word .nil pass0 (pa_cons (pv 1) pa_nil)))
      (pss_cons (ps_expr (pe_call G_check_count hr (by rfl) T.g_check_count T.f_check_count.kp T.b_check_count .nil pass0 (pa_cons (pv 2) pa_nil)))
      (pss_cons (ps_expr (pe_call G_check_count hr (by rfl) T.g_check_count T.f_check_count.kp T.b_check_count .nil pass0 (pa_cons (pv 3) pa_nil)))
      (pss_cons (ps_set (i := 4) sc_share.nd rfl (.inl rfl) (pe_meth (pv 0) T.cl_Figures T.M_Figures_holders G_Figures_holders hr T.b_Figures_holders .nil pass0 (pa_cons (pv 1) pa_nil)))
      (pss_cons (ps_if (PW.pt (pw_or (pt_cmpR op_eq (pv 2) pe_int (nomark _)) (pw_or1 (pt_cmpR op_eq (pv 4) pe_int (nomark _)))))
      (pss_one (ps_ret (pe_make T.M_Ratio G_Ratio hr (by rfl) T.k_Ratio B1_Ratio R1_Ratio pass0 (pa_cons pe_int pa_nil))))
      pss_nil)
      (pss_cons (ps_par (by rfl) sc_share.nd (i := 5) (j := 6) rfl rfl (by decide) rfl rfl (pa_cons (fldK (K := K) rfl (pv 0) rfl) (pa_cons (fldK (K := K) rfl (pv 0) rfl) pa_nil)) (by rfl))
      (pss_one (ps_ret (pe_make T.M_Ratio G_Ratio hr (by rfl) T.k_Ratio B2_Ratio R2_Ratio pass0 (pa_cons (pe_op op_mulW (pe_op op_mulW (pe_op op_add (pv 5) pe_int) (pv 2)) (pv 6)) (pa_cons (pe_op op_mulW (pv 4) (pe_op op_add (pe_op op_add (pe_op op_mulW (pv 2) (pv 6)) (pv 6)) (pe_op op_mulW (pv 3) (pv 5)))) pa_nil))))))))))), ?_⟩
    refine ⟨.str z, rfl, z, rfl, hw, fun H1 e1 => ?_⟩
    refine ⟨.int o, rfl, o, rfl, o0, o1, .int l, rfl, l, rfl, l0, l1, ?_⟩
    have hF1 := hF.ex e1
    obtain ⟨t, dx, ys, kvs, hD⟩ := id hF1
    refine ⟨.ref f, rfl, f, dx, _, rfl, hD.ix, rfl, .str z, rfl, f, cd, qs, n, z, rfl, hF1, hn, ok, hw, fun H2 i2 hF2 => ?_⟩
    have i02 := (ExI.ofEx e1).trans i2
    have zero : (o = 0 ∨ holdS qs z = 0) → ∀ (a : Addr) (H' : Hp), Ex H2 H' → Rt (A 31) H' a (lwT 0 1) (lwB 0 1) → Q (.ref a) H' := fun c a H' e r => by
      refine q a H' (i02.trans (ExI.ofEx e)) (hF2.ex e) ?_
      unfold srT srB
      rw [if_pos c, if_pos c]
      exact r
    refine ⟨.int o, rfl, rfl, _, rfl, ite2 (fun c => ?_) (fun c => ?_)⟩
    · have c : o = 0 := V.int.inj (of_decide_eq_true c)
      exact fun a da na nda _ => mk_ratio (t := 0) (b := 1) na nda (by decide) (by decide) (by decide) fun H3 e3 r3 => zero (.inl c) a H3 e3 r3
    have c1 : o ≠ 0 := fun h => c (decide_eq_true (by rw [h]))
    refine ⟨.int (holdS qs z : Nat), rfl, rfl, _, rfl, ite2 (fun c => ?_) (fun c => ?_)⟩
    · have c : ((holdS qs z : Nat) : Int) = 0 := V.int.inj (of_decide_eq_true c)
      exact fun a da na nda _ => mk_ratio (t := 0) (b := 1) na nda (by decide) (by decide) (by decide) fun H3 e3 r3 => zero (.inr (by omega)) a H3 e3 r3
    have c2 : holdS qs z ≠ 0 := fun h => c (decide_eq_true (by rw [h]; rfl))
    clear zero c
    have nz : ¬ (o = 0 ∨ holdS qs z = 0) := fun h => h.elim c1 c2
    obtain ⟨t2, dx2, ys2, kvs2, hD2⟩ := id hF2
    have N := ok.nums
    have hp := bN9 N.p
    have ho := bN7 o0 (show o ≤ 121 by omega)
    have hl := bN7 l0 (show l ≤ 121 by omega)
    have hW := bN16 N.w0 N.w1
    have hh := bN9 (Nat.le_trans (hold_le qs z) N.p)
    have hp1 := add2 hp (show (1 : Int).natAbs < 2 ^ 9 by decide)
    refine ⟨.ref f, rfl, f, A 83, dx2, _, _, rfl, hD2.ix, T.cl_Figures, T.n_Figures_pages_in_all, rfl, .ref f, rfl, f, A 83, dx2, _, _, rfl, hD2.ix, T.cl_Figures, T.n_Figures_words_in_all, rfl, _, _, rfl, ?_⟩
    refine ⟨.int ((alive qs).length : Nat), rfl, ((alive qs).length : Nat), 1, rfl, rfl, .int o, rfl, (((alive qs).length : Nat) : Int) + 1, o, rfl, rfl, cmul2 hp1 ho (by decide), .int (wordsS qs), rfl, _, wordsS qs, rfl, rfl, cmul2 (mul2 hp1 ho) hW (by decide), ?_⟩
    refine ⟨.int (holdS qs z : Nat), rfl, .int o, rfl, .int (wordsS qs), rfl, o, wordsS qs, rfl, rfl, cmul2 ho hW (by decide), .int (wordsS qs), rfl, _, wordsS qs, rfl, rfl, .int l, rfl, .int ((alive qs).length : Nat), rfl, l, ((alive qs).length : Nat), rfl, rfl, cmul2 hl hp (by decide), _, _, rfl, rfl, (holdS qs z : Nat), _, rfl, rfl, cmul2 hh (add2 (add2 (mul2 ho hW) (lt2 hW (show 16 ≤ 23 by decide))) (lt2 (mul2 hl hp) (show 16 ≤ 24 by decide))) (by decide), ?_⟩
    have bp := srB_pos (qs := qs) (z := z) o0 l0
    have eB : srB qs z o l = (holdS qs z : Nat) * (o * wordsS qs + wordsS qs + l * ((alive qs).length : Nat)) := by
      unfold srB
      rw [if_neg nz]
    have eT : srT qs z o l = (((alive qs).length : Nat) + 1) * o * wordsS qs := by
      unfold srT
      rw [if_neg nz]
    rw [eB] at bp
    refine fun a da na nda _ => mk_ratio na nda (by omega) (lt2 (shU_lt hp ho hW) (by decide)) (lt2 (shL_lt hp ho hl hW hh) (by decide)) fun H3 e3 r3 => ?_
    refine q a H3 (i02.trans (ExI.ofEx e3)) (hF2.ex e3) ?_
    rw [eB, eT]
    exact r3

/-! ### _law_share, _law_right -/
theorem low01 : lwT 0 1 = 0 ∧ lwB 0 1 = 1 := by decide +kernel
def spLShare (K : PySem.W.Frag) : Sp := fun vs H Q _ => ∃ (N : Addr → Prop) (al : Addr) (ys : List V) (qs : List Part) (z : Str) (o l : Int), vs = [.ref al, .str z, .int o, .int l] ∧ H al = some (.lst ys) ∧ Prs N H ys (alive qs) ∧ ShOk qs ∧ 0 ≤ o ∧ o ≤ 121 ∧ 0 ≤ l ∧ l ≤ 121 ∧
  ∀ (c : Addr) (H' : Hp), Ex H H' → SqT K H' c [.int (lwT (srT qs z o l) (srB qs z o l)), .int (lwB (srT qs z o l) (srB qs z o l))] → Q (.ref c) H'
set_option maxHeartbeats 8000000 in
theorem ok_l_share (T : TX K mg A FD TK CC) : FnOk P w K mg base CX0 2 (A 102) (FD 102) ["_law_alive", "_law_word", "_law_often", "_law_length"] (spLShare K) := by
  have G_l_holders := ok_l_holders (P := P) (w := w) (base := base) T
  have G_l_low := ok_l_low (P := P) (w := w) (base := base) T
  refine T.f_l_share.ok (k := 1) sc_l_share (fun vs H Q E h => ?_) (fun cdv A' outer s H vs Q E hr h => ?_)
  · obtain ⟨N, al, ys, qs, z, o, l, rfl, _⟩ := h
    rfl
  · obtain ⟨N, al, ys, qs, z, o, l, rfl, hal, hP, ok, o0, o1, l0, l1, q⟩ := h
    have NN := ok.nums
    refine ⟨_, (pss_cons (ps_set (i := 4) sc_l_share.nd rfl (.inl rfl) (pe_call G_l_holders hr (by rfl) T.g_l_holders T.f_l_holders.kp T.b_l_holders .nil pass0 (pa_cons (pv 0) (pa_cons (pv 1) pa_nil))))
      (pss_cons (ps_if (PW.pt (pw_or (pt_cmpR op_eq (pv 2) pe_int (nomark _)) (pw_or1 (pt_cmpR op_eq (pv 4) pe_int (nomark _)))))
      (pss_one (ps_ret (pe_tup (pa_cons pe_int (pa_cons pe_int pa_nil)))))
      pss_nil)
      (pss_cons (ps_set (i := 5) sc_l_share.nd rfl (.inl rfl) (pe_callB (lenK (K := K) rfl) (by rfl) T.m_len (by decide +kernel) (pa_cons (pv 0) pa_nil)))
      (pss_cons (ps_set (i := 6) sc_l_share.nd rfl (.inl rfl) (pe_callB (sumK (K := K) rfl rfl) (by rfl) T.m_sum (by decide +kernel) (pa_cons (pe_lc (own := [("_law_number", 8), ("_law_words_here", 9)])  rfl sc_l_share.nd (piLK (K := K) rfl (pv 0)) (blkOk_by (own := [("_law_number", 8), ("_law_words_here", 9)]) (N := N_l_share) (sc := defScope (topS 102)) (by decide +kernel)) (fun _ _ _ _ _ => (tupGK (K := K) (n := 2) rfl rfl (pgs_cons (pg_name (i := 8) sc_l_share.nd rfl (Or.inl rfl)) (pgs_cons (pg_name (i := 9) sc_l_share.nd rfl (Or.inl rfl)) pgs_nil)))) (fun _ _ _ _ _ => pts_nil) (fun _ _ _ _ _ => (pe_callB (lenK (K := K) rfl) (by rfl) T.m_len (by decide +kernel) (pa_cons (pv 9) pa_nil)))) pa_nil)))
      (pss_cons (ps_set (i := 7) sc_l_share.nd rfl (.inl rfl) (pe_op op_mulW (pe_op op_mulW (pe_op op_add (pv 5) pe_int) (pv 2)) (pv 6)))
      (pss_one (ps_ret (pe_call G_l_low hr (by rfl) T.g_l_low T.f_l_low.kp T.b_l_low .nil pass0 (pa_cons (pv 7) (pa_cons (pe_op op_mulW (pv 4) (pe_op op_add (pe_op op_add (pe_op op_mulW (pv 2) (pv 6)) (pv 6)) (pe_op op_mulW (pv 3) (pv 5)))) pa_nil)))))))))), ?_⟩
    refine ⟨.ref al, rfl, .str z, rfl, N, al, ys, alive qs, z, rfl, hal, hP, by have := NN.p; omega, fun H1 e1 => ?_⟩
    have zero : (o = 0 ∨ holdS qs z = 0) → ∀ (a : Addr) (H' : Hp), Ex H1 H' → SqT K H' a [.int 0, .int 1] → Q (.ref a) H' := fun c a H' e r => by
      refine q a H' (e1.trans e) ?_
      unfold srT srB
      rw [if_pos c, if_pos c, low01.1, low01.2]
      exact r
    refine ⟨.int o, rfl, rfl, _, rfl, ite2 (fun c => ?_) (fun c => ?_)⟩
    · have c : o = 0 := V.int.inj (of_decide_eq_true c)
      exact ⟨by show 2 ≤ sizeLine; decide, fun b nb => zero (.inl c) b _ (Ex.new nb) (SqT.of upd_same)⟩
    have c1 : o ≠ 0 := fun h => c (decide_eq_true (by rw [h]))
    refine ⟨.int (holdS qs z : Nat), rfl, rfl, _, rfl, ite2 (fun c => ?_) (fun c => ?_)⟩
    · have c : ((holdS qs z : Nat) : Int) = 0 := V.int.inj (of_decide_eq_true c)
      exact ⟨by show 2 ≤ sizeLine; decide, fun b nb => zero (.inr (by omega)) b _ (Ex.new nb) (SqT.of upd_same)⟩
    have c2 : holdS qs z ≠ 0 := fun h => c (decide_eq_true (by rw [h]; rfl))
    clear zero c
    have nz : ¬ (o = 0 ∨ holdS qs z = 0) := fun h => h.elim c1 c2
    have hp := bN9 NN.p
    have ho := bN7 o0 o1
    have hl := bN7 l0 l1
    have hW := bN16 NN.w0 NN.w1
    have hh := bN9 (Nat.le_trans (hold_le qs z) NN.p)
    have hp1 := add2 hp (show (1 : Int).natAbs < 2 ^ 9 by decide)
    refine ⟨.ref al, rfl, al, ys, rfl, .inl (SqL.of (e1 _ _ hal)), ?_⟩
    rw [hP.1]
    refine ⟨.ref al, rfl, al, rfl, ⟨_, SqL.of (e1 _ _ hal)⟩, fun D nD => ?_⟩
    refine lc_list (K := K) (a := al) (xs := ys) (fun i H' => Ex H1 H' ∧ H' D = some (.lst ((((alive qs).take i).map fun g => (g.2.length : Int)).map V.int))) ⟨Ex.new nD, upd_same⟩ (fun i H' _ p => SqL.of (p.1 _ _ (e1 _ _ hal))) (fun i v H2 hv p => ?_) (fun H2 p => ?_)
    · obtain ⟨e2, hD2⟩ := p
      obtain ⟨g, hg, hpr⟩ := hP.mem hv
      obtain ⟨a, h, rfl, h1, h2, _⟩ := hpr
      refine ⟨a, _, rfl, SqT.of (e2 _ _ (e1 _ _ h1)), rfl, _, _, rfl, _, _, rfl, rfl, rfl, .ref h, rfl, h, _, rfl, .inl (SqL.of (e2 _ _ (e1 _ _ h2))), _, hD2, ?_, Ex.mut e2 nD, ?_⟩
      · rw [List.length_map, List.length_map, List.length_take]
        have := NN.p
        exact sz_lt (by omega)
      · rw [upd_same, up_take hg, List.map_append, List.map_append, List.length_map]
        rfl
    obtain ⟨e2, hD2⟩ := p
    rw [hP.1, List.take_length] at hD2
    refine ⟨D, _, rfl, SqL.of hD2, ?_⟩
    show tSeq _ _ _ (wipe [some (V.ref al), some (V.str z), some (V.int o), some (V.int l), some (V.int (holdS qs z : Nat)), some (V.int ((alive qs).length : Nat)), some (V.int (wordsS qs)), none, none, none] []) H2
    refine ⟨.int ((alive qs).length : Nat), rfl, ((alive qs).length : Nat), 1, rfl, rfl, .int o, rfl, (((alive qs).length : Nat) : Int) + 1, o, rfl, rfl, cmul2 hp1 ho (by decide), .int (wordsS qs), rfl, _, wordsS qs, rfl, rfl, cmul2 (mul2 hp1 ho) hW (by decide), ?_⟩
    refine ⟨.int _, rfl, .int (holdS qs z : Nat), rfl, .int o, rfl, .int (wordsS qs), rfl, o, wordsS qs, rfl, rfl, cmul2 ho hW (by decide), .int (wordsS qs), rfl, _, wordsS qs, rfl, rfl, .int l, rfl, .int ((alive qs).length : Nat), rfl, l, ((alive qs).length : Nat), rfl, rfl, cmul2 hl hp (by decide), _, _, rfl, rfl, (holdS qs z : Nat), _, rfl, rfl, cmul2 hh (add2 (add2 (mul2 ho hW) (lt2 hW (show 16 ≤ 23 by decide))) (lt2 (mul2 hl hp) (show 16 ≤ 24 by decide))) (by decide), ?_⟩
    have bp := srB_pos (qs := qs) (z := z) o0 l0
    have eB : srB qs z o l = (holdS qs z : Nat) * (o * wordsS qs + wordsS qs + l * ((alive qs).length : Nat)) := by
      unfold srB
      rw [if_neg nz]
    have eT : srT qs z o l = (((alive qs).length : Nat) + 1) * o * wordsS qs := by
      unfold srT
      rw [if_neg nz]
    rw [eB] at bp
    refine ⟨_, _, rfl, by omega, lt2 (shU_lt hp ho hW) (by decide), lt2 (shL_lt hp ho hl hW hh) (by decide), fun c nc => ?_⟩
    refine q c _ ((e1.trans e2).trans (Ex.new nc)) ?_
    rw [eB, eT]
    exact SqT.of upd_same
/-! ### shares rise and fall -/
theorem gd_pos {t b : Int} (h : 0 < b) : 0 < gd t b := by
  have := gcd_pos (t := t) (b := b) (by omega)
  unfold gd
  rw [if_neg (by omega)]
  omega
theorem low_less {t b u d : Int} (hb : 0 < b) (hd : 0 < d) : (lwT t b * lwB u d < lwT u d * lwB t b) ↔ (t * d < u * b) := by
  have g1 := gd_pos (t := t) hb
  have g2 := gd_pos (t := u) hd
  have a1 := lw_mul_t (t := t) (b := b)
  have a2 := lw_mul_b (t := t) (b := b)
  have a3 := lw_mul_t (t := u) (b := d)
  have a4 := lw_mul_b (t := u) (b := d)
  have gg : 0 < gd t b * gd u d := Int.mul_pos g1 g2
  generalize lwT t b = T at *
  generalize lwB t b = B at *
  generalize lwT u d = U at *
  generalize lwB u d = D at *
  generalize gd t b = g at *
  generalize gd u d = k at *
  have e1 : t * d = T * D * (g * k) := by rw [← a1, ← a4]; ac_rfl
  have e2 : u * b = U * B * (g * k) := by rw [← a3, ← a2]; ac_rfl
  rw [e1, e2]
  exact ⟨fun h => Int.mul_lt_mul_of_pos_right h gg, fun h => Int.lt_of_mul_lt_mul_right h (Int.le_of_lt gg)⟩
theorem sh_rises {qs : List Part} {z : Str} {o l : Int} (h : holdS qs z ≠ 0) (o0 : 0 ≤ o) (l0 : 0 ≤ l) : srT qs z o l * srB qs z (o + 1) l < srT qs z (o + 1) l * srB qs z o l := by
  obtain ⟨p1, w1⟩ := hold_pos h
  have bp := srB_pos (qs := qs) (z := z) (o := o) (l := l) o0 l0
  have eT : srT qs z (o + 1) l = (((alive qs).length : Nat) + 1) * (o + 1) * wordsS qs := by
    unfold srT
    rw [if_neg (fun c => c.elim (fun c => by omega) h)]
  have tp : 0 < srT qs z (o + 1) l := by
    rw [eT]
    exact Int.mul_pos (Int.mul_pos (by omega) (by omega)) (by omega)
  by_cases c : o = 0
  · rw [show srT qs z o l = 0 by unfold srT; rw [if_pos (.inl c)], Int.zero_mul]
    exact Int.mul_pos tp bp
  · have nz : ¬ (o = 0 ∨ holdS qs z = 0) := fun x => x.elim c h
    have e1 : srT qs z o l = (((alive qs).length : Nat) + 1) * o * wordsS qs := by
      unfold srT
      rw [if_neg nz]
    have e2 : srB qs z o l = (holdS qs z : Nat) * (o * wordsS qs + wordsS qs + l * ((alive qs).length : Nat)) := by
      unfold srB
      rw [if_neg nz]
    have e3 : srB qs z (o + 1) l = (holdS qs z : Nat) * ((o + 1) * wordsS qs + wordsS qs + l * ((alive qs).length : Nat)) := by
      unfold srB
      rw [if_neg (fun c => c.elim (fun c => by omega) h)]
    rw [e1, e2, e3, eT]
    have pp : (1 : Int) ≤ ((alive qs).length : Nat) := by omega
    generalize (((alive qs).length : Nat) : Int) = P at *
    have hh : (0 : Int) < (holdS qs z : Nat) := by omega
    generalize ((holdS qs z : Nat) : Int) = k at *
    generalize wordsS qs = W at *
    have c1 : 0 < (P + 1) * W * k := Int.mul_pos (Int.mul_pos (by omega) (by omega)) hh
    have f1 : (P + 1) * o * W * (k * ((o + 1) * W + W + l * P)) = ((P + 1) * W * k) * (o * ((o + 1) * W + W + l * P)) := by ac_rfl
    have f2 : (P + 1) * (o + 1) * W * (k * (o * W + W + l * P)) = ((P + 1) * W * k) * ((o + 1) * (o * W + W + l * P)) := by ac_rfl
    rw [f1, f2]
    refine Int.mul_lt_mul_of_pos_left ?_ c1
    have lp : 0 ≤ l * P := Int.mul_nonneg l0 (by omega)
    have x1 : o * ((o + 1) * W + W + l * P) = o * (o * W) + o * W + o * W + o * (l * P) := by
      rw [Int.mul_add, Int.mul_add, Int.add_mul, Int.one_mul, Int.mul_add]
    have x2 : (o + 1) * (o * W + W + l * P) = o * (o * W) + o * W + o * (l * P) + (o * W + W + l * P) := by
      rw [Int.add_mul, Int.one_mul, Int.mul_add, Int.mul_add]
    rw [x1, x2]
    omega
theorem sh_falls {qs : List Part} {z : Str} {o l : Int} (h : holdS qs z ≠ 0) (o0 : 0 < o) (l0 : 0 ≤ l) : srT qs z o (l + 1) * srB qs z o l < srT qs z o l * srB qs z o (l + 1) := by
  obtain ⟨p1, w1⟩ := hold_pos h
  have nz : ¬ (o = 0 ∨ holdS qs z = 0) := fun x => x.elim (fun c => by omega) h
  have eT : ∀ l, srT qs z o l = (((alive qs).length : Nat) + 1) * o * wordsS qs := fun l => by
    unfold srT
    rw [if_neg nz]
  have eB : ∀ l, srB qs z o l = (holdS qs z : Nat) * (o * wordsS qs + wordsS qs + l * ((alive qs).length : Nat)) := fun l => by
    unfold srB
    rw [if_neg nz]
  rw [eT, eT, eB, eB]
  have hh : (0 : Int) < (holdS qs z : Nat) := by omega
  have pp : (1 : Int) ≤ ((alive qs).length : Nat) := by omega
  generalize (((alive qs).length : Nat) : Int) = P at *
  generalize ((holdS qs z : Nat) : Int) = k at *
  generalize wordsS qs = W at *
  refine Int.mul_lt_mul_of_pos_left ?_ (Int.mul_pos (Int.mul_pos (by omega) o0) (by omega))
  refine Int.mul_lt_mul_of_pos_left ?_ hh
  rw [Int.add_mul, Int.one_mul]
  omega
theorem sh_zero {qs : List Part} {z : Str} {l m : Int} : srT qs z 0 m * srB qs z 0 l < srT qs z 0 l * srB qs z 0 m ↔ False := by
  unfold srT
  rw [if_pos (.inl rfl), Int.zero_mul, Int.zero_mul]
  exact ⟨fun h => absurd h (by decide), False.elim⟩

theorem sr_lt {qs : List Part} {z : Str} {o l : Int} (ok : ShOk qs) (o0 : 0 ≤ o) (o1 : o ≤ 121) (l0 : 0 ≤ l) (l1 : l ≤ 121) : (lwT (srT qs z o l) (srB qs z o l)).natAbs < 2 ^ 1900 ∧ (lwB (srT qs z o l) (srB qs z o l)).natAbs < 2 ^ 1900 := by
  have bp := srB_pos (qs := qs) (z := z) o0 l0
  have NN := ok.nums
  have hp := bN9 NN.p
  have ho := bN7 o0 o1
  have hl := bN7 l0 l1
  have hW := bN16 NN.w0 NN.w1
  have hh := bN9 (Nat.le_trans (hold_le qs z) NN.p)
  have t : (srT qs z o l).natAbs < 2 ^ 33 := by
    unfold srT
    by_cases c : o = 0 ∨ holdS qs z = 0
    · rw [if_pos c]; decide
    · rw [if_neg c]; exact shU_lt hp ho hW
  have b : (srB qs z o l).natAbs < 2 ^ 34 := by
    unfold srB
    by_cases c : o = 0 ∨ holdS qs z = 0
    · rw [if_pos c]; decide
    · rw [if_neg c]; exact shL_lt hp ho hl hW hh
  have ne : srB qs z o l ≠ 0 := by omega
  exact ⟨lt2 (Nat.lt_of_le_of_lt (lwT_le ne) t) (by decide), lt2 (Nat.lt_of_le_of_lt (lwB_le ne) b) (by decide)⟩

/-! ### the pages that have a word, by slots -/
theorem plc_cnt (w : Str) : ∀ (xs : List Str) (k : Nat), (plc w k xs).length = xs.count w
  | [], _ => rfl
  | x :: r, k => by
    have ih := plc_cnt w r (k + 1)
    rw [plc, List.count_cons]
    by_cases e : x = w
    · rw [if_pos e, List.length_cons, ih, if_pos (beq_iff_eq.mpr e)]
    · rw [if_neg e, ih, if_neg (fun h => e (beq_iff_eq.mp h)), Nat.add_zero]
abbrev So := Nat × List Str
def som (w : Str) : Nat → List (List Str) → List So
  | _, [] => []
  | k, ws :: r => (if w ∈ ws then [(k, ws)] else []) ++ som w (k + 1) r
theorem som_ents (w : Str) : ∀ (ps : List (List Str)) (k : Nat), ents w k ps = (som w k ps).map fun e => (e.1, plc w 0 e.2)
  | [], _ => rfl
  | ws :: r, k => by
    rw [ents, som, List.map_append, som_ents w r (k + 1)]
    by_cases h : w ∈ ws
    · rw [if_neg (plc_ne.mpr h), if_pos h]
      rfl
    · rw [if_pos (Classical.byContradiction fun z => h (plc_ne.mp z)), if_neg h]
      rfl
theorem som_snoc (w : Str) (ws : List Str) : ∀ (ps : List (List Str)) (k : Nat), som w k (ps ++ [ws]) = som w k ps ++ (if w ∈ ws then [(k + ps.length, ws)] else [])
  | [], k => by
    show (if w ∈ ws then [(k, ws)] else []) ++ [] = [] ++ _
    rw [List.append_nil, List.nil_append]
    rfl
  | p :: r, k => by
    rw [List.cons_append, som, som, som_snoc w ws r (k + 1), List.length_cons, show k + 1 + r.length = k + (r.length + 1) by omega, List.append_assoc]
theorem som_mem {w : Str} : ∀ {ps : List (List Str)} {k : Nat} {e : So}, e ∈ som w k ps → k ≤ e.1 ∧ ps[e.1 - k]? = some e.2 ∧ w ∈ e.2
  | [], _, _, h => by cases h
  | p :: r, k, e, h => by
    rw [som] at h
    rcases List.mem_append.mp h with h | h
    · by_cases c : w ∈ p
      · rw [if_pos c] at h
        rw [List.mem_singleton.mp h]
        exact ⟨Nat.le_refl _, by rw [Nat.sub_self]; rfl, c⟩
      · rw [if_neg c] at h
        cases h
    · obtain ⟨h1, h2, h3⟩ := som_mem h
      refine ⟨by omega, ?_, h3⟩
      rw [show e.1 - k = (e.1 - (k + 1)) + 1 by omega]
      exact h2
theorem som_len (w : Str) (ps : List (List Str)) : (som w 0 ps).length = (ents w 0 ps).length := by
  rw [som_ents, List.length_map]
theorem som_few (w : Str) : ∀ (ps : List (List Str)) (k : Nat), (som w k ps).length ≤ ps.length
  | [], _ => Nat.le_refl _
  | p :: r, k => by
    have ih := som_few w r (k + 1)
    rw [som, List.length_append, List.length_cons]
    by_cases c : w ∈ p
    · rw [if_pos c, List.length_singleton]; omega
    · rw [if_neg c, List.length_nil]; omega
def cutS (es : List So) (s i : Nat) : List So := (es.drop (i * s)).take s
theorem cut_som (w : Str) (ps : List (List Str)) (s i : Nat) : cutE (ents w 0 ps) s i = (cutS (som w 0 ps) s i).map fun e => (e.1, plc w 0 e.2) := by
  rw [som_ents]
  unfold cutE cutS
  rw [List.map_take, List.map_drop]
theorem cutS_mem {es : List So} {s i : Nat} {e : So} (h : e ∈ cutS es s i) : e ∈ es := List.mem_of_mem_drop (List.mem_of_mem_take h)
theorem cutS_len (es : List So) (s i : Nat) : (cutS es s i).length = min s (es.length - i * s) := by
  unfold cutS
  rw [List.length_take, List.length_drop]
theorem most_som (w : Str) (ps : List (List Str)) (s i : Nat) : mostE (cutE (ents w 0 ps) s i) = mxL ((cutS (som w 0 ps) s i).map fun e => e.2.count w) := by
  rw [cut_som]
  unfold mostE
  rw [List.map_map]
  congr 1
  exact List.map_congr_left fun e _ => plc_cnt w e.2 0
theorem least_som (w : Str) (ps : List (List Str)) (s i : Nat) : leastE (cutE (ents w 0 ps) s i) (ps.map List.length) = mnL ((cutS (som w 0 ps) s i).map fun e => e.2.length) := by
  rw [cut_som]
  unfold leastE
  rw [List.map_map]
  congr 1
  refine List.map_congr_left fun e he => ?_
  have := (som_mem (cutS_mem he)).2.1
  rw [Nat.sub_zero] at this
  show (ps.map List.length).getD e.1 0 = e.2.length
  rw [List.getD_eq_getElem?_getD, List.getElem?_map, this]
  rfl
theorem LsA.cut {α : Type} {R : V → α → Prop} {xs : List V} {as : List α} (h : LsA R xs as) (i s : Nat) : LsA R ((xs.drop i).take s) ((as.drop i).take s) := by
  refine ⟨by rw [List.length_take, List.length_take, List.length_drop, List.length_drop, h.1], fun j a g => ?_⟩
  rw [List.getElem?_take] at g ⊢
  by_cases c : j < s
  · rw [if_pos c, List.getElem?_drop] at g
    rw [if_pos c, List.getElem?_drop]
    exact h.2 _ _ g
  · rw [if_neg c] at g
    cases g
/-- a slot and its page's words, at v -/
def SomA (H : Hp) (v : V) (e : So) : Prop := ∃ a h : Addr, v = .ref a ∧ H a = some (.tup [.int (e.1 : Nat), .ref h]) ∧ H h = some (.lst (e.2.map V.str))
theorem SomA.ex {H H' : Hp} {v : V} {e : So} (h : SomA H v e) (x : Ex H H') : SomA H' v e := by
  obtain ⟨a, b, h0, h1, h2⟩ := h
  exact ⟨a, b, h0, x _ _ h1, x _ _ h2⟩
theorem SomA.exI {H H' : Hp} {v : V} {e : So} {cd : Addr} {kvs : List (Key × V)} (h : SomA H v e) (hd : H cd = some (.dK kvs)) (i : ExI cd H H') : SomA H' v e := by
  obtain ⟨a, b, h0, h1, h2⟩ := h
  exact ⟨a, b, h0, i _ _ (ne_of h1 hd (by intro z; cases z)) h1, lst_exI h2 hd i⟩
/-! ### a share of less words, of a longer page is no greater -/
theorem sh_mono {qs : List Part} {z : Str} {o u l m : Int} (u0 : 0 < u) (uo : u ≤ o) (l0 : 0 ≤ l) (lm : l ≤ m) : ¬ (srT qs z o l * srB qs z u m < srT qs z u m * srB qs z o l) := by
  by_cases h : holdS qs z = 0
  · have e : ∀ o l, srT qs z o l = 0 := fun o l => by
      unfold srT
      rw [if_pos (.inr h)]
    rw [e, e, Int.zero_mul, Int.zero_mul]
    decide
  · obtain ⟨p1, w1⟩ := hold_pos h
    have eT : ∀ o l, 0 < o → srT qs z o l = (((alive qs).length : Nat) + 1) * o * wordsS qs := fun o l o0 => by
      unfold srT
      rw [if_neg (fun x => x.elim (fun c => by omega) h)]
    have eB : ∀ o l, 0 < o → srB qs z o l = (holdS qs z : Nat) * (o * wordsS qs + wordsS qs + l * ((alive qs).length : Nat)) := fun o l o0 => by
      unfold srB
      rw [if_neg (fun x => x.elim (fun c => by omega) h)]
    have o0 : 0 < o := by omega
    rw [eT o l o0, eT u m u0, eB o l o0, eB u m u0]
    have pp : (1 : Int) ≤ ((alive qs).length : Nat) := by omega
    generalize (((alive qs).length : Nat) : Int) = P at *
    have hh : (0 : Int) < (holdS qs z : Nat) := by omega
    generalize ((holdS qs z : Nat) : Int) = k at *
    generalize wordsS qs = W at *
    have c1 : 0 ≤ (P + 1) * W * k := Int.mul_nonneg (Int.mul_nonneg (by omega) (by omega)) (by omega)
    have f1 : (P + 1) * o * W * (k * (u * W + W + m * P)) = ((P + 1) * W * k) * (o * (u * W + W + m * P)) := by ac_rfl
    have f2 : (P + 1) * u * W * (k * (o * W + W + l * P)) = ((P + 1) * W * k) * (u * (o * W + W + l * P)) := by ac_rfl
    rw [f1, f2]
    refine Int.not_lt.mpr (Int.mul_le_mul_of_nonneg_left ?_ c1)
    have x1 : u * (o * W + W + l * P) = u * (o * W) + u * W + u * (l * P) := by rw [Int.mul_add, Int.mul_add]
    have x2 : o * (u * W + W + m * P) = o * (u * W) + o * W + o * (m * P) := by rw [Int.mul_add, Int.mul_add]
    have x3 : u * (o * W) = o * (u * W) := by ac_rfl
    have x4 : u * W ≤ o * W := Int.mul_le_mul_of_nonneg_right uo (by omega)
    have x5 : l * P ≤ m * P := Int.mul_le_mul_of_nonneg_right lm (by omega)
    have x6 : 0 ≤ l * P := Int.mul_nonneg l0 (by omega)
    have x7 : u * (l * P) ≤ o * (m * P) := Int.mul_le_mul uo x5 x6 (by omega)
    rw [x1, x2, x3]
    omega

/-! ### bound -/
def spBound (CT CF CS CR CB : Addr) : Sp := fun vs H Q _ => ∃ (f cd r b : Addr) (qs : List Part) (n : Nat) (z : Str) (s : Nat) (es cs : List En) (ls : List Nat), vs = [.ref f, .ref r, .ref b] ∧ FigAt CF CS CR CB H f cd qs n ∧ n ≤ 5000 ∧ ShOk qs ∧ isW z = true ∧ RowAt CR CB H r z s es ls ∧ BlkAt CB H b cs ls ∧ mostE cs ≤ 120 ∧ leastE cs ls ≤ 120 ∧
  ∀ (a : Addr) (H' : Hp), ExI cd H H' → FigAt CF CS CR CB H' f cd qs (n + 1) → Rt CT H' a (lwT (srT qs z (mostE cs : Nat) (leastE cs ls : Nat)) (srB qs z (mostE cs : Nat) (leastE cs ls : Nat))) (lwB (srT qs z (mostE cs : Nat) (leastE cs ls : Nat)) (srB qs z (mostE cs : Nat) (leastE cs ls : Nat))) → Q (.ref a) H'
set_option maxHeartbeats 4000000 in
theorem ok_bound (T : TX K mg A FD TK CC) : FnOk P w K mg base CX0 17 (A 88) (FD 88) ["figures", "row", "block"] (spBound (A 31) (A 83) (A 71) (A 62) (A 61)) := by
  have G_share := ok_share (P := P) (w := w) (base := base) T
  refine T.f_bound.ok (k := 16) sc_bound (fun vs H Q E h => ?_) (fun cdv A' outer s H vs Q E hr h => ?_)
  · obtain ⟨f, cd, r, b, qs, n, z, s, es, cs, ls, rfl, _⟩ := h
    rfl
  · obtain ⟨f, cd, r, b, qs, n, z, s, es, cs, ls, rfl, hF, hn, ok, hw, ⟨dx, t, bs, h1, _⟩, ⟨db, hb⟩, m1, m2, q⟩ := h
    refine ⟨_, (pss_one (ps_ret (pe_call G_share hr (by rfl) T.g_share T.f_share.kp T.b_share .nil pass0 (pa_cons (pv 0) (pa_cons (fldK (K := K) rfl (pv 1) rfl) (pa_cons (fldK (K := K) rfl (pv 2) rfl) (pa_cons (fldK (K := K) rfl (pv 2) rfl) pa_nil))))))), ?_⟩
    refine ⟨.ref f, rfl, .ref r, rfl, r, A 62, dx, _, _, rfl, h1, T.cl_Row, T.n_Row_word, rfl, .ref b, rfl, b, A 61, db, _, _, rfl, hb, T.cl_Block, T.n_Block_most, rfl, .ref b, rfl, b, A 61, db, _, _, rfl, hb, T.cl_Block, T.n_Block_least, rfl, ?_⟩
    exact ⟨f, cd, qs, n, z, (mostE cs : Nat), (leastE cs ls : Nat), rfl, hF, hn, ok, hw, by omega, by omega, by omega, by omega, q⟩

/-! ### _law_block_right -/
theorem mxS_mem {hs : List So} {z : Str} {e : So} (h : e ∈ hs) : e.2.count z ≤ mxL (hs.map fun e => e.2.count z) := mxL_ge (List.mem_map.mpr ⟨e, h, rfl⟩)
theorem mnS_mem {hs : List So} {e : So} (h : e ∈ hs) : mnL (hs.map fun e => e.2.length) ≤ e.2.length := mnL_le (List.mem_map.mpr ⟨e, h, rfl⟩)
structure SoOk (z : Str) (hs : List So) : Prop where
  pos : 0 < hs.length
  few : hs.length ≤ 60
  has : ∀ e ∈ hs, z ∈ e.2
  len : ∀ e ∈ hs, e.2.length ≤ 120
theorem SoOk.most {z : Str} {hs : List So} (h : SoOk z hs) : mxL (hs.map fun e => e.2.count z) ≤ 120 := by
  obtain ⟨e, he, e1⟩ := List.mem_map.mp (mxL_mem (ns := hs.map fun e => e.2.count z) (fun x => by have := h.pos; rw [List.map_eq_nil_iff.mp x] at this; cases this))
  rw [← e1]
  have := h.len e he
  have : e.2.count z ≤ e.2.length := List.count_le_length
  omega
theorem SoOk.least {z : Str} {hs : List So} (h : SoOk z hs) : mnL (hs.map fun e => e.2.length) ≤ 120 := by
  obtain ⟨e, he, e1⟩ := List.mem_map.mp (mnL_mem (ns := hs.map fun e => e.2.length) (fun x => by have := h.pos; rw [List.map_eq_nil_iff.mp x] at this; cases this))
  rw [← e1]
  exact h.len e he
def spEqRt (C : Addr) : Sp := fun vs H Q _ => ∃ (a b : Addr) (t d : Int), vs = [.ref a, .ref b] ∧ Rt C H a t d ∧ Rt C H b t d ∧ Q (.bl true) H
set_option maxHeartbeats 4000000 in
theorem ok_rateq (T : TX K mg A FD TK CC) : FnOk P w K mg base CX0 1 (A 128) (FD 128) ["self", "other"] (spEqRt (A 31)) := by
  refine T.f_Ratio_eq.ok sc_Ratio_eq (fun vs H Q E h => ?_) (fun cdv A' outer s H vs Q E hr h => ?_)
  · obtain ⟨a, b, t, d, rfl, _⟩ := h
    rfl
  · obtain ⟨a, b, t, d, rfl, ⟨da, ha⟩, ⟨db, hb⟩, q⟩ := h
    refine ⟨_, (pss_one (ps_ret (pe_and (pe_callB (isiK (K := K) rfl) (by rfl) T.m_isinstance (by decide +kernel) (pa_cons (pv 1) (pa_cons (pe_glob (v := .ref (A 31)) (by rfl) T.k_Ratio rfl) pa_nil))) (pe_and (pe_cmpR op_eq (fldK (K := K) rfl (pv 0) rfl) (fldK (K := K) rfl (pv 1) rfl) (nomark _)) (pe_one (pe_cmpR op_eq (fldK (K := K) rfl (pv 0) rfl) (fldK (K := K) rfl (pv 1) rfl) (nomark _))))))), ?_⟩
    refine ⟨.ref b, rfl, .ref b, .ref (A 31), _, .ref (A 31), true, rfl, .own _, .base (.ins hb T.cl_Ratio T.ciQ T.cs T.ct T.moQ), T.kQ, true, rfl, ?_⟩
    refine ⟨.ref a, rfl, a, _, da, _, _, rfl, ha, T.cl_Ratio, T.n_Ratio_top, rfl, .ref b, rfl, b, _, db, _, _, rfl, hb, T.cl_Ratio, T.n_Ratio_top, rfl, rfl, true, congrArg V.bl (decide_eq_true rfl), ?_⟩
    refine ⟨.ref a, rfl, a, _, da, _, _, rfl, ha, T.cl_Ratio, T.n_Ratio_bottom, rfl, .ref b, rfl, b, _, db, _, _, rfl, hb, T.cl_Ratio, T.n_Ratio_bottom, rfl, rfl, ?_⟩
    rw [show decide (V.int d = V.int d) = true from decide_eq_true rfl]
    exact q
def spBlkR (CT CF CS CR CB : Addr) : Sp := fun vs H Q _ => ∃ (N : Addr → Prop) (f cd al r b l : Addr) (ys xs : List V) (qs : List Part) (n : Nat) (z : Str) (s : Nat) (es cs : List En) (ls : List Nat) (hs : List So), vs = [.ref f, .ref al, .ref r, .ref b, .ref l] ∧ FigAt CF CS CR CB H f cd qs n ∧ n ≤ 4000 ∧ ShOk qs ∧ isW z = true ∧ H al = some (.lst ys) ∧ Prs N H ys (alive qs) ∧ RowAt CR CB H r z s es ls ∧ BlkAt CB H b cs ls ∧ H l = some (.lst xs) ∧ LsA (SomA H) xs hs ∧ SoOk z hs ∧ mostE cs = mxL (hs.map fun e => e.2.count z) ∧ leastE cs ls = mnL (hs.map fun e => e.2.length) ∧
  ∀ H', ExI cd H H' → FigAt CF CS CR CB H' f cd qs (n + 1 + hs.length) → Q (.bl true) H'
set_option maxHeartbeats 16000000 in
theorem ok_l_block (T : TX K mg A FD TK CC) : FnOk P w K mg base CX0 18 (A 103) (FD 103) ["_law_figures", "_law_alive", "_law_row", "_law_block", "_law_here"] (spBlkR (A 31) (A 83) (A 71) (A 62) (A 61)) := by
  have G_bound := ok_bound (P := P) (w := w) (base := base) T
  have G_share := (ok_share (P := P) (w := w) (base := base) T).mono (show 16 ≤ 17 by decide)
  have G_l_share := (ok_l_share (P := P) (w := w) (base := base) T).mono (show 2 ≤ 17 by decide)
  have G_l_is_ratio := (ok_l_is_ratio (P := P) (w := w) (base := base) T).mono (show 1 ≤ 17 by decide)
  have G_Ratio_is_less := (ok_is_less (P := P) (w := w) (base := base) T).mono (show 1 ≤ 17 by decide)
  have G_Ratio_eq7 := (ok_rateq (P := P) (w := w) (base := base) T).mono (show 1 ≤ 16 by decide)
  refine T.f_l_block_right.ok (k := 17) sc_l_block_right (fun vs H Q E h => ?_) (fun cdv A' outer s H vs Q E hr h => ?_)
  · obtain ⟨N, f, cd, al, r, b, l, ys, xs, qs, n, z, s, es, cs, ls, hs, rfl, _⟩ := h
    rfl
  · obtain ⟨N, f, cd, al, r, b, l, ys, xs, qs, n, z, s, es, cs, ls, hs, rfl, hF, hn, ok, hw, hal, hP, hR, hB, hl, hX, so, eM, eL, q⟩ := h
    have few := so.few
    have mle := so.most
    have lle := so.least
    obtain ⟨dx, t, bs, h1, h2, h3⟩ := id hR
    have xl : xs.length = hs.length := hX.1
    refine ⟨_, (pss_cons (ps_set (i := 5) sc_l_block_right.nd rfl (.inl rfl) (pe_callB (maxK (K := K) rfl rfl) (by rfl) T.m_max (by decide +kernel) (pa_cons (pe_lc (own := [("_law_slot", 8), ("_law_words_here", 9)])  rfl sc_l_block_right.nd (piLK (K := K) rfl (pv 4)) (blkOk_by (own := [("_law_slot", 8), ("_law_words_here", 9)]) (N := N_l_block_right) (sc := defScope (topS 103)) (by decide +kernel)) (fun _ _ _ _ _ => (tupGK (K := K) (n := 2) rfl rfl (pgs_cons (pg_name (i := 8) sc_l_block_right.nd rfl (Or.inl rfl)) (pgs_cons (pg_name (i := 9) sc_l_block_right.nd rfl (Or.inl rfl)) pgs_nil)))) (fun _ _ _ _ _ => pts_nil) (fun _ _ _ _ _ => (BmK.pe_bmK (K := K) rfl PySem.F.plainAttrs_list PySem.F.slot_list_count PySem.F.type_list_count (CntS.cntS (K := K) rfl) (pv 9) (pa_cons (fldK (K := K) rfl (pv 2) rfl) pa_nil)))) pa_nil)))
      (pss_cons (ps_set (i := 6) sc_l_block_right.nd rfl (.inl rfl) (pe_callB (minK (K := K) rfl rfl) (by rfl) T.m_min (by decide +kernel) (pa_cons (pe_lc (own := [("_law_slot", 8), ("_law_words_here", 9)])  rfl sc_l_block_right.nd (piLK (K := K) rfl (pv 4)) (blkOk_by (own := [("_law_slot", 8), ("_law_words_here", 9)]) (N := N_l_block_right) (sc := defScope (topS 103)) (by decide +kernel)) (fun _ _ _ _ _ => (tupGK (K := K) (n := 2) rfl rfl (pgs_cons (pg_name (i := 8) sc_l_block_right.nd rfl (Or.inl rfl)) (pgs_cons (pg_name (i := 9) sc_l_block_right.nd rfl (Or.inl rfl)) pgs_nil)))) (fun _ _ _ _ _ => pts_nil) (fun _ _ _ _ _ => (pe_callB (lenK (K := K) rfl) (by rfl) T.m_len (by decide +kernel) (pa_cons (pv 9) pa_nil)))) pa_nil)))
      (pss_cons (ps_set (i := 7) sc_l_block_right.nd rfl (.inl rfl) (pe_call G_bound hr (by rfl) T.g_bound T.f_bound.kp T.b_bound .nil pass0 (pa_cons (pv 0) (pa_cons (pv 2) (pa_cons (pv 3) pa_nil)))))
      (pss_cons (ps_if (pt_not (pt_val (pe_call G_l_is_ratio hr (by rfl) T.g_l_is_ratio T.f_l_is_ratio.kp T.b_l_is_ratio .nil pass0 (pa_cons (pv 7) (pa_cons (pe_call G_l_share hr (by rfl) T.g_l_share T.f_l_share.kp T.b_l_share .nil pass0 (pa_cons (pv 1) (pa_cons (fldK (K := K) rfl (pv 2) rfl) (pa_cons (pv 5) (pa_cons (pv 6) pa_nil))))) pa_nil)))))
      (pss_one (ps_ret pe_bl))
      pss_nil)
      (pss_cons (ps_for PassesOwn.never rfl (piLK (K := K) rfl (pv 4)) (pg_tup rfl (pgs_cons (pg_name (i := 8) sc_l_block_right.nd rfl (.inl rfl)) (pgs_cons (pg_name (i := 9) sc_l_block_right.nd rfl (.inl rfl)) pgs_nil)))
      (pss_cons (ps_set (i := 10) sc_l_block_right.nd rfl (.inl rfl) (pe_call G_share hr (by rfl) T.g_share T.f_share.kp T.b_share .nil pass0 (pa_cons (pv 0) (pa_cons (fldK (K := K) rfl (pv 2) rfl) (pa_cons (pe_bm PySem.F.plainAttrs_list PySem.F.slot_list_count PySem.F.type_list_count (CntS.cntS (K := K) rfl) (pv 9) (pa_cons (fldK (K := K) rfl (pv 2) rfl) pa_nil)) (pa_cons (pe_callB (lenK (K := K) rfl) (by rfl) T.m_len (by decide +kernel) (pa_cons (pv 9) pa_nil)) pa_nil))))))
      (pss_one (ps_if (PW.pt (pw_or (pt_val (pe_meth (pv 7) T.cl_Ratio T.M_Ratio_is_less G_Ratio_is_less hr T.b_Ratio_is_less .nil pass0 (pa_cons (pv 10) pa_nil))) (pw_or1 (PW.pt (pw_and (pt_cmpR op_eq (pe_callB (lenK (K := K) rfl) (by rfl) T.m_len (by decide +kernel) (pa_cons (pv 4) pa_nil)) pe_int (nomark _)) (pw_and1 (pt_cmpR (Own.op_neO G_Ratio_eq7 T.M_Ratio_eq T.b_Ratio_eq pass0 hr T.neQ T.moQ (K := K) rfl) (pv 10) (pv 7) (nomark _))))))))
      (pss_one (ps_ret pe_bl))
      pss_nil))))
      (pss_one (ps_ret pe_bl))))))), ?_⟩
    -- most
    refine ⟨.ref l, rfl, l, rfl, ⟨_, SqL.of hl⟩, fun D nD => ?_⟩
    refine lc_list (K := K) (a := l) (xs := xs) (fun i H' => Ex H H' ∧ H' D = some (.lst (nvs ((hs.take i).map fun e => e.2.count z)))) ⟨Ex.new nD, upd_same⟩ (fun i H' _ p => SqL.of (p.1 _ _ hl)) (fun i v H1 hv p => ?_) (fun H1 p => ?_)
    · obtain ⟨e1, hD⟩ := p
      obtain ⟨e, ge, he⟩ := hX.at hv
      obtain ⟨a, h, rfl, k1, k2⟩ := he.ex e1
      refine ⟨a, _, rfl, SqT.of k1, rfl, _, _, rfl, _, _, rfl, rfl, rfl, .ref h, rfl, .inl ⟨rfl, _, SqL.of k2⟩, .ref r, rfl, r, A 62, dx, _, _, rfl, e1 _ _ h1, T.cl_Row, T.n_Row_word, rfl, h, e.2, z, rfl, rfl, SqL.of k2, _, hD, ?_, Ex.mut e1 nD, ?_⟩
      · rw [nvs_len, List.length_map, List.length_take]
        exact sz_lt (by omega)
      · rw [upd_same, up_take ge, List.map_append]
        exact congrArg (fun z => some (HO.lst z)) (nvs_snoc _ _).symm
    obtain ⟨e1, hD⟩ := p
    rw [xl, List.take_length, nvs_zs] at hD
    refine ⟨D, _, rfl, SqL.of hD, by rw [zsI_len, List.length_map]; exact so.pos, fun mm hmm hmx => ?_⟩
    rw [show mm = ((mostE cs : Nat) : Int) by rw [eM]; exact mx_is hmm hmx]
    clear hmm hmx hD nD
    -- least
    refine ⟨.ref l, rfl, l, rfl, ⟨_, SqL.of (e1 _ _ hl)⟩, fun D nD => ?_⟩
    refine lc_list (K := K) (a := l) (xs := xs) (fun i H' => Ex H1 H' ∧ H' D = some (.lst (nvs ((hs.take i).map fun e => e.2.length)))) ⟨Ex.new nD, upd_same⟩ (fun i H' _ p => SqL.of (p.1 _ _ (e1 _ _ hl))) (fun i v H2 hv p => ?_) (fun H2 p => ?_)
    · obtain ⟨e2, hD⟩ := p
      obtain ⟨e, ge, he⟩ := hX.at hv
      obtain ⟨a, h, rfl, k1, k2⟩ := he.ex (e1.trans e2)
      refine ⟨a, _, rfl, SqT.of k1, rfl, _, _, rfl, _, _, rfl, rfl, rfl, .ref h, rfl, h, _, rfl, .inl (SqL.of k2), _, hD, ?_, Ex.mut e2 nD, ?_⟩
      · rw [nvs_len, List.length_map, List.length_take]
        exact sz_lt (by omega)
      · rw [upd_same, up_take ge, List.map_append, List.length_map]
        exact congrArg (fun z => some (HO.lst z)) (nvs_snoc _ _).symm
    obtain ⟨e2, hD⟩ := p
    rw [xl, List.take_length, nvs_zs] at hD
    refine ⟨D, _, rfl, SqL.of hD, by rw [zsI_len, List.length_map]; exact so.pos, fun mm hmm hmx => ?_⟩
    rw [show mm = ((leastE cs ls : Nat) : Int) by rw [eL]; exact mn_is hmm hmx]
    clear hmm hmx hD nD
    have e02 := e1.trans e2
    -- bound
    refine ⟨.ref f, rfl, .ref r, rfl, .ref b, rfl, f, cd, r, b, qs, n, z, s, es, cs, ls, rfl, hF.ex e02, by omega, ok, hw, hR.ex e02, hB.ex e02, by omega, by omega, fun tl H3 i3 hF3 hr3 => ?_⟩
    have i03 := (ExI.ofEx e02).trans i3
    obtain ⟨kv0, hd0⟩ := hF.dk
    have hal3 := lst_exI hal hd0 i03
    have hl3 := lst_exI hl hd0 i03
    have hP3 := hP.exI hd0 i03
    have hX3 := hX.mono fun v q _ k => SomA.exI k hd0 i03
    have h13 := i03 _ _ (ne_of h1 hd0 (by intro z; cases z)) h1
    clear e1 e2 e02 i3 hX hP hF hR hB
    have o1 : (1 : Int) ≤ (mostE cs : Nat) := by
      rw [eM]
      obtain ⟨e, he⟩ : ∃ e, e ∈ hs := ⟨hs[0]'so.pos, List.getElem_mem _⟩
      have := mxS_mem (z := z) he
      have := List.count_pos_iff.mpr (so.has e he)
      omega
    have o2 : ((mostE cs : Nat) : Int) ≤ 120 := by omega
    have l2 : ((leastE cs ls : Nat) : Int) ≤ 120 := by omega
    have wor : ∀ e ∈ hs, ((e.2.count z : Nat) : Int) ≤ (mostE cs : Nat) ∧ (0 : Int) < (e.2.count z : Nat) ∧ ((leastE cs ls : Nat) : Int) ≤ (e.2.length : Nat) ∧ ((e.2.length : Nat) : Int) ≤ 120 := fun e he => by
      have a1 := mxS_mem (z := z) he
      have a2 := mnS_mem he
      have a3 := List.count_pos_iff.mpr (so.has e he)
      have a4 := so.len e he
      rw [← eM] at a1
      rw [← eL] at a2
      omega
    have one : hs.length = 1 → ∀ e ∈ hs, ((e.2.count z : Nat) : Int) = (mostE cs : Nat) ∧ ((e.2.length : Nat) : Int) = (leastE cs ls : Nat) := fun hl1 e he => by
      rw [eM, eL]
      match hs, hl1 with
      | [e'], _ =>
        rw [List.mem_singleton.mp he]
        exact ⟨by show _ = ((max (e'.2.count z) 0 : Nat) : Int); rw [Nat.max_zero], rfl⟩
    have ll0 : (0 : Int) ≤ ((leastE cs ls : Nat) : Int) := Int.natCast_nonneg _
    generalize ((mostE cs : Nat) : Int) = om at *
    generalize ((leastE cs ls : Nat) : Int) = ll at *
    refine ⟨.ref tl, rfl, .ref al, rfl, .ref r, rfl, r, A 62, dx, _, _, rfl, h13, T.cl_Row, T.n_Row_word, rfl, .int om, rfl, .int ll, rfl, N, al, ys, qs, z, om, ll, rfl, hal3, hP3, ok, by omega, by omega, ll0, by omega, fun c H4 e4 hc => ?_⟩
    refine ⟨tl, c, _, _, rfl, hr3.ex e4, hc, fun H5 e5 => ⟨true, rfl, iteF ?_⟩⟩
    have e35 := e4.trans e5
    have s1 := sr_lt (z := z) ok (show 0 ≤ om by omega) (show om ≤ 121 by omega) ll0 (show ll ≤ 121 by omega)
    refine ⟨.ref l, rfl, l, rfl, ⟨_, SqL.of (e35 _ _ hl3)⟩, ?_⟩
    refine for_list (K := K) (a := l) (xs := xs) (fun i σ' H' => ∃ y8 y9 y10 : Option V, σ' = [some (.ref f), some (.ref al), some (.ref r), some (.ref b), some (.ref l), some (.int om), some (.int ll), some (.ref tl), y8, y9, y10] ∧ ExI cd H3 H' ∧ FigAt (A 83) (A 71) (A 62) (A 61) H' f cd qs (n + 1 + i)) ⟨_, _, _, rfl, ExI.ofEx e35, hF3.ex e35⟩ (fun i σ' H' _ pv => by obtain ⟨_, _, _, _, i, _⟩ := pv; obtain ⟨kv3, hd3⟩ := hF3.dk; exact SqL.of (lst_exI hl3 hd3 i)) (fun i v σ' H6 hv pv => ?_) (fun σ' H6 pv => ?_)
    · obtain ⟨y8, y9, y10, rfl, i6, hF6⟩ := pv
      obtain ⟨kv3, hd3⟩ := hF3.dk
      obtain ⟨e, ge, he⟩ := hX3.at hv
      have il := (List.getElem?_eq_some_iff.mp ge).1
      have em := List.mem_of_getElem? ge
      obtain ⟨w1, w2, w3, w4⟩ := wor e em
      obtain ⟨a, h, rfl, k1, k2⟩ := he.exI hd3 i6
      refine ⟨a, _, rfl, SqT.of k1, rfl, _, _, rfl, _, _, rfl, rfl, ?_⟩
      have h16 := i6 _ _ (ne_of h13 hd3 (by intro z; cases z)) h13
      refine ⟨.ref f, rfl, .ref r, rfl, r, A 62, dx, _, _, rfl, h16, T.cl_Row, T.n_Row_word, rfl, .ref h, rfl, .inl ⟨rfl, _, SqL.of k2⟩, .ref r, rfl, r, A 62, dx, _, _, rfl, h16, T.cl_Row, T.n_Row_word, rfl, h, e.2, z, rfl, rfl, SqL.of k2, .ref h, rfl, h, _, rfl, .inl (SqL.of k2), ?_⟩
      rw [List.length_map]
      refine ⟨f, cd, qs, n + 1 + i, z, _, _, rfl, hF6, by omega, ok, hw, by omega, by omega, by omega, by omega, fun a1 H7 i7 hF7 hr7 => ?_⟩
      obtain ⟨kv6, hd6⟩ := hF6.dk
      have hr7' := (hr3.exI hd3 i6).exI hd6 i7
      obtain ⟨dxt, hxt⟩ := id hr7'
      have s2 := sr_lt (z := z) ok (show (0 : Int) ≤ (e.2.count z : Nat) by omega) (show ((e.2.count z : Nat) : Int) ≤ 121 by omega) (show (0 : Int) ≤ (e.2.length : Nat) by omega) (show ((e.2.length : Nat) : Int) ≤ 121 by omega)
      refine ⟨.ref tl, rfl, tl, dxt, _, rfl, hxt, rfl, .ref a1, rfl, tl, a1, _, _, _, _, rfl, hr7', hr7, s1.1, s1.2, s2.1, s2.2, ?_⟩
      rw [decide_eq_false (fun x => sh_mono w2 w1 ll0 w3 ((low_less (srB_pos (by omega) ll0) (srB_pos (by omega) (by omega))).mp x))]
      refine ⟨false, rfl, iteF ?_⟩
      have hl7 := lst_exI (lst_exI hl3 hd3 i6) hd6 i7
      have fin : ∃ y8 y9 y10 : Option V, [some (V.ref f), some (.ref al), some (.ref r), some (.ref b), some (.ref l), some (.int om), some (.int ll), some (.ref tl), some (V.int (e.1 : Nat)), some (.ref h), some (.ref a1)] = [some (V.ref f), some (.ref al), some (.ref r), some (.ref b), some (.ref l), some (.int om), some (.int ll), some (.ref tl), y8, y9, y10] ∧ ExI cd H3 H7 ∧ FigAt (A 83) (A 71) (A 62) (A 61) H7 f cd qs (n + 1 + (i + 1)) := ⟨_, _, _, rfl, i6.trans i7, hF7⟩
      refine ⟨.ref l, rfl, l, _, rfl, .inl (SqL.of hl7), rfl, _, rfl, ite2 (fun c => ?_) (fun c => fin)⟩
      have c : xs.length = 1 := by
        have c : V.int ((xs.length : Nat) : Int) = V.int 1 := of_decide_eq_true c
        have := V.int.inj c
        omega
      obtain ⟨c1, c2⟩ := one (by omega) e em
      have hr7 := hr7
      rw [c1, c2] at hr7
      obtain ⟨dxo, hxo⟩ := id hr7
      exact ⟨.ref a1, rfl, .ref tl, rfl, a1, dxo, _, rfl, hxo, .inl ⟨tl, dxt, _, rfl, hxt⟩, a1, tl, _, _, rfl, hr7, hr7', true, rfl, false, rfl, iteF fin⟩
    · obtain ⟨y8, y9, y10, rfl, i6, hF6⟩ := pv
      exact q H6 (i03.trans i6) (by rw [xl] at hF6; exact hF6)

/-! ### _law_segment_right -/
def SomD (D : Addr) (H : Hp) (v : V) (e : So) : Prop := ∃ a h : Addr, v = .ref a ∧ H a = some (.tup [.int (e.1 : Nat), .ref h]) ∧ H h = some (.lst (e.2.map V.str)) ∧ h ≠ D
theorem SomD.ex {D : Addr} {H H' : Hp} {v : V} {e : So} (h : SomD D H v e) (x : Ex H H') : SomD D H' v e := by
  obtain ⟨a, b, h0, h1, h2, h3⟩ := h
  exact ⟨a, b, h0, x _ _ h1, x _ _ h2, h3⟩
theorem SomD.upl {D : Addr} {H : Hp} {v : V} {e : So} {xs : List V} {o : HO} (h : SomD D H v e) (hD : H D = some (.lst xs)) : SomD D (upd H D o) v e := by
  obtain ⟨a, b, h0, h1, h2, h3⟩ := h
  exact ⟨a, b, h0, by rw [upd_ne (ne_of h1 hD (by intro z; cases z))]; exact h1, by rw [upd_ne h3]; exact h2, h3⟩
theorem SomD.som {D : Addr} {H : Hp} {v : V} {e : So} (h : SomD D H v e) : SomA H v e := by
  obtain ⟨a, b, h0, h1, h2, _⟩ := h
  exact ⟨a, b, h0, h1, h2⟩
theorem cutV_nth {xs : List V} {i s : Nat} : cutV xs (some ((i : Int) * (s : Int))) (some ((i : Int) * (s : Int) + (s : Int))) = (xs.drop (i * s)).take s := by
  have := cutV_at (xs := xs) (i := i) (s := s)
  rwa [Int.zero_add] at this
theorem nb_cast {n s : Nat} (h : 1 ≤ s) : ((nb n s : Nat) : Int) = ((n : Int) + (s : Int) - 1) / (s : Int) := by
  unfold nb
  rw [Int.natCast_ediv]
  congr 1
  omega
theorem so_ok {z : Str} {ps : List (List Str)} {s i : Nat} (hs : 1 ≤ s) (s8 : s ≤ 8) (hi : i < nb (som z 0 ps).length s) (hl : ∀ ws ∈ ps, ws.length ≤ 120) : SoOk z (cutS (som z 0 ps) s i) := by
  have a := (nb_lt (by omega)).mp hi
  refine ⟨by rw [cutS_len]; omega, by rw [cutS_len]; omega, fun e he => (som_mem (cutS_mem he)).2.2, fun e he => ?_⟩
  exact hl _ (List.mem_of_getElem? (som_mem (cutS_mem he)).2.1)
theorem RowAt.exI {CR CB cd : Addr} {H H' : Hp} {r : Addr} {z : Str} {s : Nat} {es : List En} {ls : List Nat} {kvs : List (Key × V)} (h : RowAt CR CB H r z s es ls) (hd : H cd = some (.dK kvs)) (i : ExI cd H H') : RowAt CR CB H' r z s es ls := by
  obtain ⟨dx, t, bs, h1, h2, h3⟩ := h
  exact ⟨dx, t, bs, i _ _ (ne_of h1 hd (by intro z; cases z)) h1, i _ _ (ne_of h2 hd (by intro z; cases z)) h2, h3.1, fun j b g => by
    obtain ⟨db, hb⟩ := h3.2 j b g
    exact ⟨db, i _ _ (ne_of hb hd (by intro z; cases z)) hb⟩⟩
def spSegR (CT CF CS CR CB : Addr) : Sp := fun vs H Q _ => ∃ (N N2 : Addr → Prop) (f cd al sg pl : Addr) (ys xg : List V) (qs : List Part) (n : Nat) (z : Str) (s : Nat) (gs : List Pg), vs = [.ref f, .ref al, .ref sg, .ref pl, .int (s : Nat), .str z] ∧ FigAt CF CS CR CB H f cd qs n ∧ n ≤ 3000 ∧ ShOk qs ∧ isW z = true ∧ H al = some (.lst ys) ∧ Prs N H ys (alive qs) ∧ SegAt CS CR CB H sg s (sortPg gs) ∧ H pl = some (.lst xg) ∧ Prs N2 H xg gs ∧ DrawnG gs ∧ 1 ≤ s ∧ s ≤ 8 ∧
  ∀ H', ExI cd H H' → FigAt CF CS CR CB H' f cd qs (n + 24) → Q (.bl true) H'
set_option maxHeartbeats 16000000 in
theorem ok_l_seg (T : TX K mg A FD TK CC) : FnOk P w K mg base CX0 19 (A 104) (FD 104) ["_law_figures", "_law_alive", "_law_segment", "_law_pages_here", "_law_broad", "_law_word"] (spSegR (A 31) (A 83) (A 71) (A 62) (A 61)) := by
  have G_Segment_row := (ok_srowA (P := P) (w := w) (base := base) T).mono (show 12 ≤ 18 by decide)
  have G_Row_blocks := (ok_rblocks (P := P) (w := w) (base := base) T).mono (show 1 ≤ 18 by decide)
  have G_l_block_right := (ok_l_block (P := P) (w := w) (base := base) T).mono (show 18 ≤ 18 by decide)
  refine T.f_l_segment_right.ok (k := 18) sc_l_segment_right (fun vs H Q E h => ?_) (fun cdv A' outer s H vs Q E hr h => ?_)
  · obtain ⟨N, N2, f, cd, al, sg, pl, ys, xg, qs, n, z, s, gs, rfl, _⟩ := h
    rfl
  · obtain ⟨N, N2, f, cd, al, sg, pl, ys, xg, qs, n, z, s, gs, rfl, hF, hn, ok, hw, hal, hP, hS, hpl, hG, dr, s1, s8, q⟩ := h
    refine ⟨_, (pss_cons (ps_setLc (i := 6) (own := [("_law_slot", 11), ("_law_page_here", 12)])  rfl sc_l_segment_right.nd rfl rfl (sw_true rfl rfl rfl (by decide +kernel)) (pi_enum (by rfl) T.m_enumerate (pa_cons (pe_callB (SrtK.cr_sortNW hr.units) (by rfl) T.m_sorted (by decide +kernel) (pa_cons (pv 3) pa_nil)) pa_nil)) (blkOk_by (own := [("_law_slot", 11), ("_law_page_here", 12)]) (N := N_l_segment_right) (sc := defScope (topS 104)) (by decide +kernel)) (fun _ _ _ _ _ => (tupGK (K := K) (n := 2) rfl rfl (pgs_cons (pg_name (i := 11) sc_l_segment_right.nd rfl (Or.inl rfl)) (pgs_cons (pg_name (i := 12) sc_l_segment_right.nd rfl (Or.inl rfl)) pgs_nil)))) (fun _ _ _ _ _ => (pts_one (pt_cmpR (inK (K := K) rfl) (pv 5) (pe_ix (ixTK (K := K) rfl) (pv 12) pe_int (fun _ _ => rfl)) (by rfl)))) (fun _ _ _ _ _ => (pe_tup (pa_cons (pv 11) (pa_cons (pe_ix (ixTK (K := K) rfl) (pv 12) pe_int (fun _ _ => rfl)) pa_nil)))))
      (pss_cons (ps_set (i := 7) sc_l_segment_right.nd rfl (.inl rfl) (pe_meth (pv 2) T.cl_Segment T.M_Segment_row G_Segment_row hr T.b_Segment_row .nil pass0 (pa_cons (pv 5) pa_nil)))
      (pss_cons (ps_set (i := 8) sc_l_segment_right.nd rfl (.inl rfl) (pe_meth0 (pv 7) T.cl_Row T.M_Row_blocks G_Row_blocks hr T.b_Row_blocks .nil pass0))
      (pss_cons (ps_if (pt_cmpR op_ne (pe_callB (lenK (K := K) rfl) (by rfl) T.m_len (by decide +kernel) (pa_cons (pv 8) pa_nil)) (pe_op op_fdiv (pe_op op_sub (pe_op op_add (pe_callB (lenK (K := K) rfl) (by rfl) T.m_len (by decide +kernel) (pa_cons (pv 6) pa_nil)) (pv 4)) pe_int) (pv 4)) (nomark _))
      (pss_one (ps_ret pe_bl))
      pss_nil)
      (pss_cons (ps_for PassesOwn.never rfl (pi_enum (by rfl) T.m_enumerate (pa_cons (pv 8) pa_nil)) (pg_tup rfl (pgs_cons (pg_name (i := 9) sc_l_segment_right.nd rfl (.inl rfl)) (pgs_cons (pg_name (i := 10) sc_l_segment_right.nd rfl (.inl rfl)) pgs_nil)))
      (pss_one (ps_if (pt_not (pt_val (pe_call G_l_block_right hr (by rfl) T.g_l_block_right T.f_l_block_right.kp T.b_l_block_right .nil pass0 (pa_cons (pv 0) (pa_cons (pv 1) (pa_cons (pv 7) (pa_cons (pv 10) (pa_cons (pe_slice (slLK (K := K) rfl) (pv 6) (po_some (pe_op op_mul (pv 9) (pv 4))) (po_some (pe_op op_add (pe_op op_mul (pv 9) (pv 4)) (pv 4)))) pa_nil))))))))
      (pss_one (ps_ret pe_bl))
      pss_nil)))
      (pss_one (ps_ret pe_bl))))))), ?_⟩
    have few := dr.few
    obtain ⟨kv0, hd0⟩ := hF.dk
    have pok := dr.seg s1 s8
    generalize hps : (sortPg gs).map (·.2) = pgs
    have pl12 : pgs.length ≤ 12 := by rw [← hps, List.length_map, sort_len]; exact few
    have p120 : ∀ ws ∈ pgs, ws.length ≤ 120 := fun ws hws => by
      rw [← hps] at hws
      obtain ⟨g, hg, rfl⟩ := List.mem_map.mp hws
      exact dr.len g (sort_mem.mp hg)
    refine ⟨.ref pl, rfl, ?_⟩
    refine tnil_call (R := SrtK.rSortNW K) (v := .ref pl) ?_
    refine sortNW_of hpl hG dr.nd fun l2 zs H2 nl2 e2 hl2 hP2 => ⟨l2, zs, rfl, SqL.of hl2, fun D nD => ?_⟩
    have zl : zs.length = (sortPg gs).length := hP2.1
    refine lc_it (walk_enum (K := K) (a := l2) (xs := zs)) (fun j H' => Ex H2 H' ∧ ∃ us, H' D = some (.lst us) ∧ LsA (SomD D H') us (som z 0 (pgs.take j))) ⟨Ex.new nD, [], upd_same, LsA.nil⟩ (fun j H' _ p => SqL.of (p.1 _ _ hl2)) (fun j x H3 H4 hj p y => ?_) (fun H3 p => ?_)
    · obtain ⟨e3, us, hD, hU⟩ := p
      obtain ⟨Tt, u1, u2, rfl, nTt, rfl, g1, g2⟩ := y
      cases g1
      obtain ⟨g, hg, hpr⟩ := hP2.mem g2
      obtain ⟨b, h, rfl, k2, k3, _⟩ := hpr
      have gp : pgs[j]? = some g.2 := by rw [← hps, List.getElem?_map, hg]; rfl
      have hnD : h ≠ D := fun x => by rw [x, nD] at k3; cases k3
      have eT := Ex.new (o := .tup [V.int (j : Nat), .ref b]) nTt
      have hD4 := eT _ _ hD
      have hU4 := hU.mono fun v e _ k => SomD.ex k eT
      have e4 := e3.trans eT
      refine ⟨Tt, _, rfl, SqT.of upd_same, rfl, _, _, rfl, _, _, rfl, rfl, rfl, .str z, rfl, .ref b, rfl, b, _, 1, .ref h, rfl, rfl, SqT.of (e4 _ _ k2), rfl, h, g.2.map V.str, rfl, .inl (SqL.of (e4 _ _ k3)), rfl, strs_flat _, _, rfl, ?_⟩
      generalize (upd H3 Tt (.tup [V.int (j : Nat), .ref b])) = H5 at hD4 hU4 e4 ⊢
      rw [inV_strs, up_take gp]
      have jl := (List.getElem?_eq_some_iff.mp gp).1
      by_cases c : z ∈ g.2
      · rw [decide_eq_true c]
        refine iteT ⟨.int (j : Nat), rfl, .ref b, rfl, b, _, 1, .ref h, rfl, rfl, SqT.of (e4 _ _ k2), rfl, by show 2 ≤ sizeLine; decide, fun t nt => ?_⟩
        have eN := Ex.new (o := .tup [V.int (j : Nat), .ref h]) nt
        have hN := upd_same (H := H5) (a := t) (o := .tup [V.int (j : Nat), .ref h])
        generalize (upd H5 t (.tup [V.int (j : Nat), .ref h])) = H6 at eN hN ⊢
        refine ⟨us, eN _ _ hD4, ?_, Ex.mut (e4.trans eN) nD, us ++ [.ref t], upd_same, ?_⟩
        · rw [hU4.1]
          have := som_few z (pgs.take j) 0
          rw [List.length_take] at this
          exact sz_lt (by omega)
        · rw [som_snoc, if_pos c, List.length_take, Nat.min_eq_left (by omega), Nat.zero_add]
          refine LsA.snoc (hU4.mono fun v e _ k => SomD.upl (SomD.ex k eN) (eN _ _ hD4)) ?_
          exact SomD.upl ⟨t, h, rfl, hN, eN _ _ (e4 _ _ k3), hnD⟩ (eN _ _ hD4)
      · rw [decide_eq_false c]
        refine iteF ⟨e4, us, hD4, ?_⟩
        rw [som_snoc, if_neg c, List.append_nil]
        exact hU4
    obtain ⟨e3, us, hD, hU⟩ := p
    rw [zl, ← List.length_map (f := fun g : Pg => g.2), hps, List.take_length] at hU
    have e03 := e2.trans e3
    have ul := hU.1
    have sfew := som_few z pgs 0
    have hS3 := hS.ex e03
    obtain ⟨d, dxs, t1, t2, kas, hsg, _⟩ := id hS3
    refine ⟨.ref sg, rfl, sg, dxs, _, rfl, hsg, rfl, .str z, rfl, sg, s, sortPg gs, z, rfl, hS3, pok, hw, fun r H4 e4 hR => ?_⟩
    rw [hps] at hR
    obtain ⟨dxr, tr, bs0, hr1, hr2, hr3⟩ := id hR
    refine ⟨.ref r, rfl, r, dxr, _, rfl, hr1, rfl, r, z, s, _, _, rfl, hR, fun l bs H5 nl e5 hl hB => ?_⟩
    have e05 := (e03.trans e4).trans e5
    have hD5 := (e4.trans e5) _ _ hD
    have bl := hB.1
    rw [← som_len] at bl
    refine ⟨.ref l, rfl, l, _, rfl, .inl (SqL.of hl), .ref D, rfl, D, us, rfl, .inl (SqL.of hD5), .int (s : Nat), rfl, _, _, rfl, rfl, _, 1, rfl, rfl, .int (s : Nat), rfl, _, (s : Int), rfl, rfl, ⟨by omega, by omega⟩, rfl, _, rfl, ite_ne ?_ ?_⟩
    · rw [List.length_map, bl, nb_cast s1, ul]
    have hX5 : LsA (SomA H5) us (som z 0 pgs) := hU.mono fun v e _ k => (SomD.som k).ex (e4.trans e5)
    have hR5 := hR.ex e5
    have hal5 := e05 _ _ hal
    have hP5 := hP.ex e05
    have hF5 := hF.ex e05
    have nble := nb_le (n := (som z 0 pgs).length) (s := s) s1
    obtain ⟨kv5, hd5⟩ := hF5.dk
    refine ⟨.ref l, rfl, l, _, rfl, SqL.of hl, ?_⟩
    refine for_it (walk_enum (K := K) (a := l) (xs := bs.map V.ref)) (fun i σ' H' => ∃ y9 y10 y11 y12 : Option V, σ' = [some (.ref f), some (.ref al), some (.ref sg), some (.ref pl), some (.int (s : Nat)), some (.str z), some (.ref D), some (.ref r), some (.ref l), y9, y10, y11, y12] ∧ ExI cd H5 H' ∧ FigAt (A 83) (A 71) (A 62) (A 61) H' f cd qs (n + i + ((som z 0 pgs).take (i * s)).length)) ⟨_, _, _, _, rfl, ExI.refl, by rw [Nat.zero_mul]; exact hF5⟩ (fun i σ' H' _ pv => by obtain ⟨_, _, _, _, _, i, _⟩ := pv; exact SqL.of (lst_exI hl hd5 i)) (fun i x σ' H6 H7 hi pv y => ?_) (fun σ' H6 pv => ?_)
    · obtain ⟨y9, y10, y11, y12, rfl, i6, hF6⟩ := pv
      obtain ⟨Tt, u1, u2, rfl, nTt, rfl, g1, g2⟩ := y
      cases g1
      obtain ⟨b, gb, rfl, ib⟩ := refs_at g2
      rw [bl] at ib
      have eT := Ex.new (o := .tup [V.int (i : Nat), .ref b]) nTt
      refine ⟨Tt, _, rfl, SqT.of upd_same, rfl, _, _, rfl, _, _, rfl, rfl, ?_⟩
      have i7 := i6.trans (ExI.ofEx eT)
      have hF7 := hF6.ex eT
      clear hF6 i6
      generalize (upd H6 Tt (.tup [V.int (i : Nat), .ref b])) = H7 at i7 hF7 eT ⊢
      have hD7 := lst_exI hD5 hd5 i7
      refine ⟨.ref f, rfl, .ref al, rfl, .ref r, rfl, .ref b, rfl, .ref D, rfl, .int (i : Nat), rfl, .int (s : Nat), rfl, (i : Int), (s : Int), rfl, rfl, .inl ⟨by omega, by omega⟩, _, rfl, .int (i : Nat), rfl, .int (s : Nat), rfl, (i : Int), (s : Int), rfl, rfl, .inl ⟨by omega, by omega⟩, .int (s : Nat), rfl, _, _, rfl, rfl, _, rfl, D, _, rfl, SqL.of hD7, fun c nc => ?_⟩
      rw [cutV_nth]
      have eC := Ex.new (o := .lst ((us.drop (i * s)).take s)) nc
      have hc := upd_same (H := H7) (a := c) (o := .lst ((us.drop (i * s)).take s))
      generalize (upd H7 c (.lst ((us.drop (i * s)).take s))) = H8 at eC hc ⊢
      have i8 := i7.trans (ExI.ofEx eC)
      have hF8 := hF7.ex eC
      have hX8 := (hX5.mono fun v e _ k => SomA.exI k hd5 i8).cut (i * s) s
      have hB8 : BlkAt (A 61) H8 b (cutE (ents z 0 pgs) s i) (pgs.map List.length) := by
        obtain ⟨db, hb⟩ := hB.2 i b gb
        exact ⟨db, i8 _ _ (ne_of hb hd5 (by intro z; cases z)) hb⟩
      have hR8 : RowAt (A 62) (A 61) H8 r z s (ents z 0 pgs) (pgs.map List.length) := hR5.exI hd5 i8
      have clen := cutS_len (som z 0 pgs) s i
      refine ⟨N, f, cd, al, r, b, c, ys, _, qs, _, z, s, _, _, _, cutS (som z 0 pgs) s i, rfl, hF8, ?_, ok, hw, lst_exI hal5 hd5 i8, hP5.exI hd5 i8, hR8, hB8, hc, hX8, so_ok s1 s8 ib p120, most_som z pgs s i, least_som z pgs s i, fun H9 i9 hF9 => ⟨true, rfl, iteF ⟨_, _, _, _, rfl, i8.trans i9, hF9.mono ?_⟩⟩⟩
      · rw [List.length_take]
        omega
      · rw [List.length_take, List.length_take, clen, Nat.succ_mul]
        omega
    · obtain ⟨y9, y10, y11, y12, rfl, i6, hF6⟩ := pv
      refine q H6 ((ExI.ofEx e05).trans i6) (hF6.mono ?_)
      rw [List.length_map, List.length_take]
      omega

/-! ### the law -/
/-- all but cd and tables stays -/
def Kc (cd : Addr) (H H' : Hp) : Prop := ∀ b o, b ≠ cd → H b = some o → (∀ ps, o ≠ .tbl ps) → H' b = some o
theorem Kc.refl {cd : Addr} {H : Hp} : Kc cd H H := fun _ _ _ h _ => h
theorem Kc.trans {cd : Addr} {H H1 H2 : Hp} (a : Kc cd H H1) (b : Kc cd H1 H2) : Kc cd H H2 := fun c o n h z => b c o n (a c o n h z) z
theorem Kc.exI {cd : Addr} {H H' : Hp} (f : ExI cd H H') : Kc cd H H' := fun b o n h _ => f b o n h
theorem Kc.exN {cd : Addr} {H H' : Hp} (f : LamX.ExtN H H') : Kc cd H H' := fun b o _ h z => f b o h z
theorem Kc.lst {cd a : Addr} {H H' : Hp} {xs : List V} {kvs : List (Key × V)} (k : Kc cd H H') (hd : H cd = some (.dK kvs)) (h : H a = some (.lst xs)) : H' a = some (.lst xs) := k _ _ (ne_of h hd (by intro z; cases z)) h (by intro ps z; cases z)
theorem Kc.tup {cd a : Addr} {H H' : Hp} {xs : List V} {kvs : List (Key × V)} (k : Kc cd H H') (hd : H cd = some (.dK kvs)) (h : H a = some (.tup xs)) : H' a = some (.tup xs) := k _ _ (ne_of h hd (by intro z; cases z)) h (by intro ps z; cases z)
theorem Prs.kc {cd : Addr} {H H' : Hp} {kvs : List (Key × V)} {N : Addr → Prop} {xs : List V} {gs : List Pg} (h : Prs N H xs gs) (k : Kc cd H H') (hd : H cd = some (.dK kvs)) : Prs N H' xs gs := h.mono (fun c zs z => k.tup hd z) fun c zs n z => k.lst hd z
theorem RawA.kc {cd : Addr} {H H' : Hp} {kvs : List (Key × V)} {N : Addr → Prop} {v : V} {r : Part} (h : RawA N H v r) (k : Kc cd H H') (hd : H cd = some (.dK kvs)) : RawA N H' v r := h.mono (fun c zs z => k.tup hd z) fun c zs n z => k.lst hd z
theorem Kc.toN {H0 H H' : Hp} {cd : Addr} (k : Kc cd H H') (e : LamX.ExtN H0 H) (nc : Nw H0 cd) : LamX.ExtN H0 H' := fun b o h z => k b o (fun x => nc o (by rw [← x]; exact h) z) (e b o h z) z
theorem SegAt.exI {CS CR CB x cd : Addr} {H H' : Hp} {s : Nat} {ps : List Pg} {kvs : List (Key × V)} (h : SegAt CS CR CB H x s ps) (hd : H cd = some (.dK kvs)) (i : ExI cd H H') (nk : ∀ d, SegD CS CR CB H x d s ps → d ≠ cd) : SegAt CS CR CB H' x s ps := by
  obtain ⟨d, h0⟩ := h
  have nd := nk d h0
  obtain ⟨dx, t1, t2, kas, h1, h2, h3, h4, h5⟩ := h0
  exact ⟨d, dx, t1, t2, kas, i _ _ (ne_of h1 hd (by intro z; cases z)) h1, i _ _ (ne_of h2 hd (by intro z; cases z)) h2, i _ _ (ne_of h3 hd (by intro z; cases z)) h3, i _ _ nd h4, h5.one, h5.keys, fun p hp => (h5.row p hp).exI hd i⟩

theorem hid_new {H H' : Hp} {c : Addr} (e : Ex H H') (n : H c = none) : Ex H (hidX H' c) := fun b o h => by
  rw [hid_at (ne_of_none h n)]
  exact e _ _ h
set_option maxHeartbeats 32000000 in
theorem ok_law (T : TX K mg A FD TK CC) {PS : Addr} (TBS : LamX.TabB base mg (CC 120) PS) : FnOk P w K mg base CX0 20 (A 105) (FD 105) ["_law_script"] (spLaw K [(PS, lamQ "Segment.__init__")]) := by
  have G_l_purse := (ok_l_purse (P := P) (w := w) (base := base) T).mono (show 1 ≤ 19 by decide)
  have G_l_take := (ok_l_take (P := P) (w := w) (base := base) T).mono (show 1 ≤ 19 by decide)
  have G_l_words := (ok_l_words5 (P := P) (w := w) (base := base) T).mono (show 2 ≤ 19 by decide)
  have G_l_shelf := (ok_l_shelf (P := P) (w := w) (base := base) T).mono (show 4 ≤ 19 by decide)
  have G_l_standing := (ok_l_standing (P := P) (w := w) (base := base) T).mono (show 2 ≤ 19 by decide)
  have G_l_segment_right := (ok_l_seg (P := P) (w := w) (base := base) T).mono (show 19 ≤ 19 by decide)
  have G_Figures := (ok_figinit (P := P) (w := w) (base := base) T).mono (show 6 ≤ 18 by decide)
  have B1_Figures := T.b_Figures_init
  have R1_Figures : Vals [] [] := .nil
  have hmS : (PS, lamQ "Segment.__init__") ∈ [(PS, lamQ "Segment.__init__")] := List.mem_singleton.mpr rfl
  have huS : ∀ q ∈ [(PS, lamQ "Segment.__init__")], q.1 = PS → q.2 = lamQ "Segment.__init__" := fun q hq _ => by rw [List.mem_singleton.mp hq]
  have G_l_made := (ok_l_made (P := P) (w := w) (base := base) T TBS hmS huS).mono (show 15 ≤ 19 by decide)
  refine T.f_law.ok (k := 19) sc_law (fun vs H Q E h => ?_) (fun cdv A' outer s H vs Q E hr h => ?_)
  · obtain ⟨a, ns, rfl, _⟩ := h
    rfl
  · obtain ⟨a, ns, rfl, hS, hn, hT, q⟩ := h
    refine ⟨_, (pss_cons (ps_for PassesOwn.never rfl (pi_range1 (by rfl) T.m_range (pa_cons (pe_callB (call_max2 rfl) (by rfl) T.m_max (by decide +kernel) (pa_cons pe_int (pa_cons (pe_callB (call_min2 rfl) (by rfl) T.m_min (by decide +kernel) (pa_cons (pe_callB (lenK (K := K) rfl) (by rfl) T.m_len (by decide +kernel) (pa_cons (pv 0) pa_nil)) (pa_cons pe_int pa_nil))) pa_nil))) pa_nil)) (pg_name (i := 1) sc_law.nd rfl (.inl rfl))
      (pss_cons (ps_set (i := 2) sc_law.nd rfl (.inl rfl) (pe_call G_l_purse hr (by rfl) T.g_l_purse T.f_l_purse.kp T.b_l_purse .nil pass0 (pa_cons (pv 0) (pa_cons (pv 1) pa_nil))))
      (pss_cons (ps_set (i := 3) sc_law.nd rfl (.inl rfl) (pe_call G_l_words hr (by rfl) T.g_l_words T.f_l_words.kp T.b_l_words .nil pass0 (pa_cons (pv 2) pa_nil)))
      (pss_cons (ps_set (i := 4) sc_law.nd rfl (.inl rfl) (pe_call G_l_shelf hr (by rfl) T.g_l_shelf T.f_l_shelf.kp T.b_l_shelf .nil pass0 (pa_cons (pv 2) (pa_cons (pv 3) (pa_cons (pe_op op_add pe_int (pe_call G_l_take hr (by rfl) T.g_l_take T.f_l_take.kp T.b_l_take .nil pass0 (pa_cons (pv 2) (pa_cons pe_int pa_nil)))) (pa_cons pe_int pa_nil))))))
      (pss_cons (ps_set (i := 5) sc_law.nd rfl (.inl rfl) (pe_call G_l_standing hr (by rfl) T.g_l_standing T.f_l_standing.kp T.b_l_standing .nil pass0 (pa_cons (pv 4) pa_nil)))
      (pss_cons (ps_set (i := 6) sc_law.nd rfl (.inl rfl) (pe_call G_l_made hr (by rfl) T.g_l_made T.f_l_made.kp T.b_l_made .nil pass0 (pa_cons (pv 4) pa_nil)))
      (pss_cons (ps_set (i := 7) sc_law.nd rfl (.inl rfl) (pe_make T.M_Figures G_Figures hr (by rfl) T.k_Figures B1_Figures R1_Figures pass0 (pa_cons (pv 6) pa_nil)))
      (pss_one (ps_for PassesOwn.never rfl (pi_range1 (by rfl) T.m_range (pa_cons pe_int pa_nil)) (pg_name (i := 8) sc_law.nd rfl (.inl rfl))
      (pss_cons (ps_for PassesOwn.never rfl (pi_zip (by rfl) T.m_zip (pa_cons (pv 6) (pa_cons (pv 4) pa_nil))) (pg_tup rfl (pgs_cons (pg_tup rfl (pgs_cons (pg_name (i := 9) sc_law.nd rfl (.inl rfl)) (pgs_cons (pg_name (i := 10) sc_law.nd rfl (.inl rfl)) pgs_nil))) (pgs_cons (pg_tup rfl (pgs_cons (pg_name (i := 11) sc_law.nd rfl (.inl rfl)) (pgs_cons (pg_name (i := 12) sc_law.nd rfl (.inl rfl)) (pgs_cons (pg_name (i := 13) sc_law.nd rfl (.inl rfl)) pgs_nil)))) pgs_nil)))
      (pss_one (ps_for PassesOwn.never rfl (piLK (K := K) rfl (pv 3)) (pg_name (i := 14) sc_law.nd rfl (.inl rfl))
      (pss_one (ps_if (pt_not (pt_val (pe_call G_l_segment_right hr (by rfl) T.g_l_segment_right T.f_l_segment_right.kp T.b_l_segment_right .nil pass0 (pa_cons (pv 7) (pa_cons (pv 5) (pa_cons (pv 9) (pa_cons (pv 11) (pa_cons (pv 12) (pa_cons (pv 14) pa_nil)))))))))
      (pss_one (ps_ret pe_bl))
      pss_nil)))))
      (pss_one (ps_set (i := 6) sc_law.nd rfl (.inl rfl) (pe_call G_l_made hr (by rfl) T.g_l_made T.f_l_made.kp T.b_l_made .nil pass0 (pa_cons (pv 4) pa_nil))))))))))))))
      (pss_one (ps_ret pe_bl))), ?_⟩
    generalize hTt : [(PS, lamQ "Segment.__init__")] = Tt at *
    refine ⟨.ref a, rfl, a, _, rfl, .inl hS, _, 6, rfl, 2, _, rfl, (if (if (6 : Int) < ((ns.map V.int).length : Int) then 6 else ((ns.map V.int).length : Int)) > 2 then (if (6 : Int) < ((ns.map V.int).length : Int) then 6 else ((ns.map V.int).length : Int)) else 2), rfl, ?_, ?_, ?_⟩
    · have := maxmin26 (ns.map V.int).length
      omega
    · have := maxmin26 (ns.map V.int).length
      omega
    have hmm := maxmin26 (ns.map V.int).length
    generalize (if (if (6 : Int) < ((ns.map V.int).length : Int) then 6 else ((ns.map V.int).length : Int)) > 2 then (if (6 : Int) < ((ns.map V.int).length : Int) then 6 else ((ns.map V.int).length : Int)) else 2) = n at hmm ⊢
    refine for_range (lo := 0) (n := n.toNat) (fun i σ' H' => ∃ y1 y2 y3 y4 y5 y6 y7 y8 y9 y10 y11 y12 y13 y14 : Option V, σ' = [some (.ref a), y1, y2, y3, y4, y5, y6, y7, y8, y9, y10, y11, y12, y13, y14] ∧ LamX.ExtN H H' ∧ LamX.Tabs Tt H') ⟨none, none, none, none, none, none, none, none, none, none, none, none, none, none, rfl, LamX.ExtN.refl H, hT⟩ (fun i σ' H' hi pv => ?_) (fun σ' H' pv => q H')
    obtain ⟨y1, y2, y3, y4, y5, y6, y7, y8, y9, y10, y11, y12, y13, y14, rfl, e0, T0⟩ := pv
    refine ⟨.ref a, rfl, .int ((0 : Int) + i), rfl, a, ns, i, ?_, sql_exN e0 hS, hn, by omega, fun p H1 np e1 hp1 => ?_⟩
    · show [V.ref a, V.int ((0 : Int) + i)] = [V.ref a, V.int (i : Int)]
      rw [Int.zero_add]
    have T1 := LamX.Tabs.ext T0 e1
    have npw : Nw H p := Nw.of e0 np
    have z1 := e0.trans (LamX.ExtN.of e1)
    have zf : ∀ {A B : Hp}, LamX.ExtN H A → Fx p A B → LamX.ExtN H B := fun z f b o h n => f _ _ (fun e => npw o (by rw [← e]; exact h) n) (z b o h n)
    clear T0 e1 e0 np
    refine ⟨.ref p, rfl, p, 0, rfl, hp1, by decide, fun kk zs H2 nkp nk hk2 hp2 f2 => ?_⟩
    refine ⟨.ref p, rfl, .ref kk, rfl, .ref p, rfl, p, 3, 0 + 12, rfl, hp2, by decide, by decide, by decide, fun sg H3 s0 s1 hp3 f3 => ⟨1, sg, rfl, rfl, ?_⟩⟩
    obtain ⟨sn, rfl⟩ := Int.eq_ofNat_of_zero_le s0
    have f13 := f2.trans f3
    refine ⟨p, kk, _, sn + 1, 9, zs, by rw [show ((sn + 1 : Nat) : Int) = 1 + (sn : Int) by omega]; rfl, by decide, by decide, by omega, hp3, hk2.fx nkp f3, nkp, by decide, fun l xs rs S nlp nl hl hR rl rok nd hp4 f4 => ?_⟩
    have f14 := f13.trans f4
    have zS := zf z1 f14
    have TS := tabs_fx T1 hp1 f14
    have hkS : Kw S kk zs := (hk2.fx nkp f3).fx nkp f4
    clear f2 f3 f4 f13 f14 hp1 hp2 hp3 z1 T1 hk2 nl nk
    have sok := raw_shok rok (by omega) nd
    have kk5 : zs.length = 5 := hkS.2.1
    have kkw := hkS.2.2
    have rl3 : rs.length ≤ 3 := by omega
    refine ⟨.ref l, rfl, _, l, xs, rs, rfl, hl, hR, by omega, rok, fun al ya B nal eB hal hPa => ?_⟩
    refine ⟨.ref l, rfl, _, l, xs, rs, rfl, eB _ _ hl, hR.mono fun v r _ k => k.ex eB, by omega, rok, LamX.Tabs.ext TS eB, fun hd ys M nhd hhd hY zM TM => ?_⟩
    refine ⟨.ref hd, rfl, fun x dx nx ndx _ => mk_fig nx ndx hhd (hY.mono fun v q _ k => k.n.prt) sok fun cd F ncd eF hF => ?_⟩
    have zBF := zM.trans (LamX.ExtN.of eF)
    have zSF := (LamX.ExtN.of eB).trans zBF
    have nwc : Nw H cd := Nw.of (zS.trans ((LamX.ExtN.of eB).trans zM)) ncd
    have TF := LamX.Tabs.ext TM eF
    have hYF : LsA (PrtA HO.lst (A 71) (A 62) (A 61) (hidX F cd)) ys (rs.map prt) := hY.mono fun v q _ k => k.n.prt.ex (hid_new eF ncd)
    have hhdF := eF _ _ hhd
    have hlF := lst_exN zSF hl
    have hRF := hR.mono fun v r _ k => RawA.exN k zSF
    have halF := lst_exN zBF hal
    have hPF := hPa.exN zBF
    have hkF := lst_exN zSF hkS.1
    have zF := zS.trans zSF
    obtain ⟨kvF, hdF⟩ := hF.dk
    clear hY hhd nx ndx eF TM zM hPa hal zBF zSF eB hl hR hp4 TS zS hkS ncd nal
    generalize hqs : rs.map prt = qs at sok hF hPF hYF
    have ql : qs.length = rs.length := by rw [← hqs, List.length_map]
    refine ⟨2, rfl, by decide, by decide, ?_⟩
    refine for_range (lo := 0) (n := (2 : Int).toNat) (fun t σ' H' => ∃ (hd : Addr) (ys : List V) (y8 y9 y10 y11 y12 y13 y14 : Option V), σ' = [some (.ref a), some (.int ((0 : Int) + i)), some (.ref p), some (.ref kk), some (.ref l), some (.ref al), some (.ref hd), some (.ref x), y8, y9, y10, y11, y12, y13, y14] ∧ Kc cd F H' ∧ LamX.Tabs Tt H' ∧ FigAt (A 83) (A 71) (A 62) (A 61) H' x cd qs (360 * t) ∧ H' hd = some (.lst ys) ∧ LsA (PrtA HO.lst (A 71) (A 62) (A 61) (hidX H' cd)) ys qs) ⟨hd, ys, _, _, _, _, _, _, _, rfl, Kc.refl, TF, hF, hhdF, hYF⟩ (fun t σ' G ht pv => ?_) (fun σ' G pv => ?_)
    · clear hYF hhdF hF TF nhd
      obtain ⟨hd, ys, y8, y9, y10, y11, y12, y13, y14, rfl, kG, TG, hFG, hhdG, hYG⟩ := pv
      have ht : t < 2 := ht
      have hlG := kG.lst hdF hlF
      have hRG := hRF.mono fun v r _ k => RawA.kc k kG hdF
      have halG := kG.lst hdF halF
      have hPG := hPF.kc kG hdF
      have hkG := kG.lst hdF hkF
      obtain ⟨kvG, hdG⟩ := hFG.dk
      refine ⟨.ref hd, rfl, .ref l, rfl, hd, l, ys, xs, rfl, SqL.of hhdG, SqL.of hlG, ?_⟩
      refine for_it (walk_zip (K := K) (a := hd) (b := l) (xs := ys) (ys := xs) (n := rs.length) (by rw [hYG.1, hRG.1, ql]; omega)) (fun j σ' H' => ∃ y9 y10 y11 y12 y13 y14 : Option V, σ' = [some (.ref a), some (.int ((0 : Int) + i)), some (.ref p), some (.ref kk), some (.ref l), some (.ref al), some (.ref hd), some (.ref x), some (.int ((0 : Int) + t)), y9, y10, y11, y12, y13, y14] ∧ ExI cd G H' ∧ FigAt (A 83) (A 71) (A 62) (A 61) H' x cd qs (360 * t + 120 * j)) ⟨_, _, _, _, _, _, rfl, ExI.refl, hFG⟩ (fun j σ' H' _ pv => by obtain ⟨_, _, _, _, _, _, _, i, _⟩ := pv; exact ⟨SqL.of (lst_exI hhdG hdG i), SqL.of (lst_exI hlG hdG i)⟩) (fun j v σ' H5 H6 hj pv y => ?_) (fun σ' H5 pv => ?_)
      · obtain ⟨y9, y10, y11, y12, y13, y14, rfl, i5, hF5⟩ := pv
        obtain ⟨Tt2, u1, u2, rfl, nTt, rfl, g1, g2⟩ := y
        have eT := Ex.new (o := .tup [u1, u2]) nTt
        have i6 := i5.trans (ExI.ofEx eT)
        have hF6 := hF5.ex eT
        obtain ⟨pt, gp, hpt⟩ := hYG.at g1
        obtain ⟨r, gr, hr'⟩ := hRG.at g2
        have ept : pt = prt r := by
          rw [← hqs, List.getElem?_map, gr] at gp
          exact (Option.some.inj gp).symm
        subst ept
        obtain ⟨a1, sg, gl, rfl, k1, k2, k3⟩ := hpt.ex (hid_exI i6)
        obtain ⟨a2, pl, g2', xg, rfl, m1, m2, _, m4, m5, _⟩ := hr'.exI hdG i6
        have k1 := hid_le _ _ k1
        refine ⟨Tt2, _, rfl, SqT.of upd_same, rfl, _, _, rfl, a1, _, rfl, SqT.of k1, rfl, _, _, rfl, _, _, rfl, rfl, _, _, rfl, a2, _, rfl, SqT.of m1, rfl, _, _, rfl, _, _, rfl, _, _, rfl, rfl, rfl, ?_⟩
        clear hF5 i5
        generalize (upd H5 Tt2 (.tup [.ref a1, .ref a2])) = H7 at i6 hF6 k1 k2 k3 m1 m2 m4 m5 eT ⊢
        have rk := rok r (List.mem_of_getElem? gr)
        have hk7 := lst_exI hkG hdG i6
        have hal7 := lst_exI halG hdG i6
        have hP7 := hPG.exI hdG i6
        obtain ⟨kv7, hd7⟩ := hF6.dk
        refine ⟨.ref kk, rfl, kk, rfl, ⟨_, SqL.of hk7⟩, ?_⟩
        refine for_list (K := K) (a := kk) (xs := zs.map V.str) (fun k σ' H' => ∃ y14 : Option V, σ' = [some (.ref a), some (.int ((0 : Int) + i)), some (.ref p), some (.ref kk), some (.ref l), some (.ref al), some (.ref hd), some (.ref x), some (.int ((0 : Int) + t)), some (.ref sg), some (.ref gl), some (.ref pl), some (.int (r.1 : Int)), some (.ref g2'), y14] ∧ ExI cd H7 H' ∧ FigAt (A 83) (A 71) (A 62) (A 61) H' x cd qs (360 * t + 120 * j + 24 * k)) ⟨_, rfl, ExI.refl, hF6⟩ (fun k σ' H' _ pv => by obtain ⟨_, _, i, _⟩ := pv; exact SqL.of (lst_exI hk7 hd7 i)) (fun k v σ' H8 hk pv => ?_) (fun σ' H8 pv => ?_)
        · obtain ⟨y14, rfl, i8, hF8⟩ := pv
          rw [List.getElem?_map] at hk
          obtain ⟨z, hz, rfl⟩ := Option.map_eq_some_iff.mp hk
          have kl := (List.getElem?_eq_some_iff.mp hz).1
          have hw := List.all_eq_true.mp kkw z (List.mem_of_getElem? hz)
          have hS8 := (k2.ex (hid_exI i8)).ex hid_le
          refine ⟨.ref x, rfl, .ref al, rfl, .ref sg, rfl, .ref pl, rfl, .int (r.1 : Int), rfl, .str z, rfl, _, _, x, cd, al, sg, pl, ya, xg, qs, _, z, r.1, r.2.1, rfl, hF8, (by rw [kk5] at *; omega), sok, hw, lst_exI hal7 hd7 i8, hP7.exI hd7 i8, hS8, lst_exI m2 hd7 i8, m4.exI hd7 i8, rk.dr, rk.s1, rk.s8, fun H9 i9 hF9 => ⟨true, rfl, iteF ⟨_, rfl, i8.trans i9, hF9⟩⟩⟩
        · obtain ⟨y14, rfl, i8, hF8⟩ := pv
          refine ⟨_, _, _, _, _, _, rfl, i6.trans i8, hF8.mono ?_⟩
          rw [List.length_map, kk5]
          omega
      · obtain ⟨y9, y10, y11, y12, y13, y14, rfl, i5, hF5⟩ := pv
        have k5 := kG.trans (Kc.exI i5)
        have hl5 := k5.lst hdF hlF
        obtain ⟨kv5, hd5⟩ := hF5.dk
        refine ⟨.ref l, rfl, _, l, xs, rs, rfl, hl5, hRF.mono fun v r _ k => RawA.kc k k5 hdF, by omega, rok, tabs_exI TG hdG i5, fun hd2 ys2 M2 nhd2 hhd2 hY2 zM2 TM2 => ?_⟩
        have hd5' := zM2 _ _ hd5 (by intro ps z; cases z)
        rw [hqs] at hY2
        exact ⟨hd2, ys2, _, _, _, _, _, _, _, rfl, k5.trans (Kc.exN zM2), TM2, (hF5.exN zM2).mono (by omega), hhd2, hY2.mono fun v q _ k => k.hid hd5 hd5'⟩
    · obtain ⟨hd, ys, y8, y9, y10, y11, y12, y13, y14, rfl, kG, TG, _⟩ := pv
      exact ⟨_, _, _, _, _, _, _, _, _, _, _, _, _, _, rfl, kG.toN zF nwc, TG⟩

end
set_option maxHeartbeats 8000000 in
theorem all_mk {l : PySem.W.OpenLaw} {w : World} {K : PySem.W.Frag} {h : Heap} {mg : Str → Option Value} {fa : Addr} (X : K.In h) (G : h.Ns mainGlobals mg) (hfa : mg "law" = some (.ref fa))
    {f17 : Addr} {od17 an17 : Option Addr} {sl17 : Array (Option Value)} {oc17 kV17 dc17 pm17 cd17 ct17 : Value}
    (a17 : PySem.W.nsIn K mainGlobals "is_whole" = some (some (.ref f17))) (l17 : K.lookup f17 = some ⟨oc17, od17, .func (PySem.W.fnOf "is_whole" "is_whole" (defArgs (topS 17)) (defBody (topS 17)) (defScope (topS 17)) .none kV17 dc17 pm17 an17 cd17 ct17), sl17⟩) (c17 : PySem.W.codeIn K cd17 "is_whole" = true) (k17 : PySem.W.keepIn K (.ref f17) = true)
    {f18 : Addr} {od18 an18 : Option Addr} {sl18 : Array (Option Value)} {oc18 kV18 dc18 pm18 cd18 ct18 : Value}
    (a18 : PySem.W.nsIn K mainGlobals "is_within" = some (some (.ref f18))) (l18 : K.lookup f18 = some ⟨oc18, od18, .func (PySem.W.fnOf "is_within" "is_within" (defArgs (topS 18)) (defBody (topS 18)) (defScope (topS 18)) .none kV18 dc18 pm18 an18 cd18 ct18), sl18⟩) (c18 : PySem.W.codeIn K cd18 "is_within" = true) (k18 : PySem.W.keepIn K (.ref f18) = true)
    {f22 : Addr} {od22 an22 : Option Addr} {sl22 : Array (Option Value)} {oc22 kV22 dc22 pm22 cd22 ct22 : Value}
    (a22 : PySem.W.nsIn K mainGlobals "is_word" = some (some (.ref f22))) (l22 : K.lookup f22 = some ⟨oc22, od22, .func (PySem.W.fnOf "is_word" "is_word" (defArgs (topS 22)) (defBody (topS 22)) (defScope (topS 22)) .none kV22 dc22 pm22 an22 cd22 ct22), sl22⟩) (c22 : PySem.W.codeIn K cd22 "is_word" = true) (k22 : PySem.W.keepIn K (.ref f22) = true)
    {f23 : Addr} {od23 an23 : Option Addr} {sl23 : Array (Option Value)} {oc23 kV23 dc23 pm23 cd23 ct23 : Value}
    (a23 : PySem.W.nsIn K mainGlobals "are_words" = some (some (.ref f23))) (l23 : K.lookup f23 = some ⟨oc23, od23, .func (PySem.W.fnOf "are_words" "are_words" (defArgs (topS 23)) (defBody (topS 23)) (defScope (topS 23)) .none kV23 dc23 pm23 an23 cd23 ct23), sl23⟩) (c23 : PySem.W.codeIn K cd23 "are_words" = true) (k23 : PySem.W.keepIn K (.ref f23) = true)
    {f24 : Addr} {od24 an24 : Option Addr} {sl24 : Array (Option Value)} {oc24 kV24 dc24 pm24 cd24 ct24 : Value}
    (a24 : PySem.W.nsIn K mainGlobals "check_word" = some (some (.ref f24))) (l24 : K.lookup f24 = some ⟨oc24, od24, .func (PySem.W.fnOf "check_word" "check_word" (defArgs (topS 24)) (defBody (topS 24)) (defScope (topS 24)) .none kV24 dc24 pm24 an24 cd24 ct24), sl24⟩) (c24 : PySem.W.codeIn K cd24 "check_word" = true) (k24 : PySem.W.keepIn K (.ref f24) = true)
    {f25 : Addr} {od25 an25 : Option Addr} {sl25 : Array (Option Value)} {oc25 kV25 dc25 pm25 cd25 ct25 : Value}
    (a25 : PySem.W.nsIn K mainGlobals "words_of" = some (some (.ref f25))) (l25 : K.lookup f25 = some ⟨oc25, od25, .func (PySem.W.fnOf "words_of" "words_of" (defArgs (topS 25)) (defBody (topS 25)) (defScope (topS 25)) .none kV25 dc25 pm25 an25 cd25 ct25), sl25⟩) (c25 : PySem.W.codeIn K cd25 "words_of" = true) (k25 : PySem.W.keepIn K (.ref f25) = true)
    {f26 : Addr} {od26 an26 : Option Addr} {sl26 : Array (Option Value)} {oc26 kV26 dc26 pm26 cd26 ct26 : Value}
    (a26 : PySem.W.nsIn K mainGlobals "check_words" = some (some (.ref f26))) (l26 : K.lookup f26 = some ⟨oc26, od26, .func (PySem.W.fnOf "check_words" "check_words" (defArgs (topS 26)) (defBody (topS 26)) (defScope (topS 26)) .none kV26 dc26 pm26 an26 cd26 ct26), sl26⟩) (c26 : PySem.W.codeIn K cd26 "check_words" = true) (k26 : PySem.W.keepIn K (.ref f26) = true)
    {f32 : Addr} {od32 an32 : Option Addr} {sl32 : Array (Option Value)} {oc32 kV32 dc32 pm32 cd32 ct32 : Value}
    (a32 : PySem.W.nsIn K mainGlobals "lowest" = some (some (.ref f32))) (l32 : K.lookup f32 = some ⟨oc32, od32, .func (PySem.W.fnOf "lowest" "lowest" (defArgs (topS 32)) (defBody (topS 32)) (defScope (topS 32)) .none kV32 dc32 pm32 an32 cd32 ct32), sl32⟩) (c32 : PySem.W.codeIn K cd32 "lowest" = true) (k32 : PySem.W.keepIn K (.ref f32) = true)
    {f33 : Addr} {od33 an33 : Option Addr} {sl33 : Array (Option Value)} {oc33 kV33 dc33 pm33 cd33 ct33 : Value}
    (a33 : PySem.W.nsIn K mainGlobals "check_figures" = some (some (.ref f33))) (l33 : K.lookup f33 = some ⟨oc33, od33, .func (PySem.W.fnOf "check_figures" "check_figures" (defArgs (topS 33)) (defBody (topS 33)) (defScope (topS 33)) .none kV33 dc33 pm33 an33 cd33 ct33), sl33⟩) (c33 : PySem.W.codeIn K cd33 "check_figures" = true) (k33 : PySem.W.keepIn K (.ref f33) = true)
    {f38 : Addr} {od38 an38 : Option Addr} {sl38 : Array (Option Value)} {oc38 kV38 dc38 pm38 cd38 ct38 : Value}
    (a38 : PySem.W.nsIn K mainGlobals "is_count" = some (some (.ref f38))) (l38 : K.lookup f38 = some ⟨oc38, od38, .func (PySem.W.fnOf "is_count" "is_count" (defArgs (topS 38)) (defBody (topS 38)) (defScope (topS 38)) .none kV38 dc38 pm38 an38 cd38 ct38), sl38⟩) (c38 : PySem.W.codeIn K cd38 "is_count" = true) (k38 : PySem.W.keepIn K (.ref f38) = true)
    {f39 : Addr} {od39 an39 : Option Addr} {sl39 : Array (Option Value)} {oc39 kV39 dc39 pm39 cd39 ct39 : Value}
    (a39 : PySem.W.nsIn K mainGlobals "code" = some (some (.ref f39))) (l39 : K.lookup f39 = some ⟨oc39, od39, .func (PySem.W.fnOf "code" "code" (defArgs (topS 39)) (defBody (topS 39)) (defScope (topS 39)) .none kV39 dc39 pm39 an39 cd39 ct39), sl39⟩) (c39 : PySem.W.codeIn K cd39 "code" = true) (k39 : PySem.W.keepIn K (.ref f39) = true)
    {f40 : Addr} {od40 an40 : Option Addr} {sl40 : Array (Option Value)} {oc40 kV40 dc40 pm40 cd40 ct40 : Value}
    (a40 : PySem.W.nsIn K mainGlobals "code_all" = some (some (.ref f40))) (l40 : K.lookup f40 = some ⟨oc40, od40, .func (PySem.W.fnOf "code_all" "code_all" (defArgs (topS 40)) (defBody (topS 40)) (defScope (topS 40)) .none kV40 dc40 pm40 an40 cd40 ct40), sl40⟩) (c40 : PySem.W.codeIn K cd40 "code_all" = true) (k40 : PySem.W.keepIn K (.ref f40) = true)
    {f41 : Addr} {od41 an41 : Option Addr} {sl41 : Array (Option Value)} {oc41 kV41 dc41 pm41 cd41 ct41 : Value}
    (a41 : PySem.W.nsIn K mainGlobals "code_entries" = some (some (.ref f41))) (l41 : K.lookup f41 = some ⟨oc41, od41, .func (PySem.W.fnOf "code_entries" "code_entries" (defArgs (topS 41)) (defBody (topS 41)) (defScope (topS 41)) .none kV41 dc41 pm41 an41 cd41 ct41), sl41⟩) (c41 : PySem.W.codeIn K cd41 "code_entries" = true) (k41 : PySem.W.keepIn K (.ref f41) = true)
    {f42 : Addr} {od42 an42 : Option Addr} {sl42 : Array (Option Value)} {oc42 kV42 dc42 pm42 cd42 ct42 : Value}
    (a42 : PySem.W.nsIn K mainGlobals "decode_entries" = some (some (.ref f42))) (l42 : K.lookup f42 = some ⟨oc42, od42, .func (PySem.W.fnOf "decode_entries" "decode_entries" (defArgs (topS 42)) (defBody (topS 42)) (defScope (topS 42)) .none kV42 dc42 pm42 an42 cd42 ct42), sl42⟩) (c42 : PySem.W.codeIn K cd42 "decode_entries" = true) (k42 : PySem.W.keepIn K (.ref f42) = true)
    {f43 : Addr} {od43 an43 : Option Addr} {sl43 : Array (Option Value)} {oc43 kV43 dc43 pm43 cd43 ct43 : Value}
    (a43 : PySem.W.nsIn K mainGlobals "check_entries" = some (some (.ref f43))) (l43 : K.lookup f43 = some ⟨oc43, od43, .func (PySem.W.fnOf "check_entries" "check_entries" (defArgs (topS 43)) (defBody (topS 43)) (defScope (topS 43)) .none kV43 dc43 pm43 an43 cd43 ct43), sl43⟩) (c43 : PySem.W.codeIn K cd43 "check_entries" = true) (k43 : PySem.W.keepIn K (.ref f43) = true)
    {f44 : Addr} {od44 an44 : Option Addr} {sl44 : Array (Option Value)} {oc44 kV44 dc44 pm44 cd44 ct44 : Value}
    (a44 : PySem.W.nsIn K mainGlobals "is_entry" = some (some (.ref f44))) (l44 : K.lookup f44 = some ⟨oc44, od44, .func (PySem.W.fnOf "is_entry" "is_entry" (defArgs (topS 44)) (defBody (topS 44)) (defScope (topS 44)) .none kV44 dc44 pm44 an44 cd44 ct44), sl44⟩) (c44 : PySem.W.codeIn K cd44 "is_entry" = true) (k44 : PySem.W.keepIn K (.ref f44) = true)
    {f45 : Addr} {od45 an45 : Option Addr} {sl45 : Array (Option Value)} {oc45 kV45 dc45 pm45 cd45 ct45 : Value}
    (a45 : PySem.W.nsIn K mainGlobals "are_places" = some (some (.ref f45))) (l45 : K.lookup f45 = some ⟨oc45, od45, .func (PySem.W.fnOf "are_places" "are_places" (defArgs (topS 45)) (defBody (topS 45)) (defScope (topS 45)) .none kV45 dc45 pm45 an45 cd45 ct45), sl45⟩) (c45 : PySem.W.codeIn K cd45 "are_places" = true) (k45 : PySem.W.keepIn K (.ref f45) = true)
    {f46 : Addr} {od46 an46 : Option Addr} {sl46 : Array (Option Value)} {oc46 kV46 dc46 pm46 cd46 ct46 : Value}
    (a46 : PySem.W.nsIn K mainGlobals "first_fall" = some (some (.ref f46))) (l46 : K.lookup f46 = some ⟨oc46, od46, .func (PySem.W.fnOf "first_fall" "first_fall" (defArgs (topS 46)) (defBody (topS 46)) (defScope (topS 46)) .none kV46 dc46 pm46 an46 cd46 ct46), sl46⟩) (c46 : PySem.W.codeIn K cd46 "first_fall" = true) (k46 : PySem.W.keepIn K (.ref f46) = true)
    {f47 : Addr} {od47 an47 : Option Addr} {sl47 : Array (Option Value)} {oc47 kV47 dc47 pm47 cd47 ct47 : Value}
    (a47 : PySem.W.nsIn K mainGlobals "gaps_of" = some (some (.ref f47))) (l47 : K.lookup f47 = some ⟨oc47, od47, .func (PySem.W.fnOf "gaps_of" "gaps_of" (defArgs (topS 47)) (defBody (topS 47)) (defScope (topS 47)) .none kV47 dc47 pm47 an47 cd47 ct47), sl47⟩) (c47 : PySem.W.codeIn K cd47 "gaps_of" = true) (k47 : PySem.W.keepIn K (.ref f47) = true)
    {f48 : Addr} {od48 an48 : Option Addr} {sl48 : Array (Option Value)} {oc48 kV48 dc48 pm48 cd48 ct48 : Value}
    (a48 : PySem.W.nsIn K mainGlobals "risen" = some (some (.ref f48))) (l48 : K.lookup f48 = some ⟨oc48, od48, .func (PySem.W.fnOf "risen" "risen" (defArgs (topS 48)) (defBody (topS 48)) (defScope (topS 48)) .none kV48 dc48 pm48 an48 cd48 ct48), sl48⟩) (c48 : PySem.W.codeIn K cd48 "risen" = true) (k48 : PySem.W.keepIn K (.ref f48) = true)
    {f49 : Addr} {od49 an49 : Option Addr} {sl49 : Array (Option Value)} {oc49 kV49 dc49 pm49 cd49 ct49 : Value}
    (a49 : PySem.W.nsIn K mainGlobals "check_text" = some (some (.ref f49))) (l49 : K.lookup f49 = some ⟨oc49, od49, .func (PySem.W.fnOf "check_text" "check_text" (defArgs (topS 49)) (defBody (topS 49)) (defScope (topS 49)) .none kV49 dc49 pm49 an49 cd49 ct49), sl49⟩) (c49 : PySem.W.codeIn K cd49 "check_text" = true) (k49 : PySem.W.keepIn K (.ref f49) = true)
    {f50 : Addr} {od50 an50 : Option Addr} {sl50 : Array (Option Value)} {oc50 kV50 dc50 pm50 cd50 ct50 : Value}
    (a50 : PySem.W.nsIn K mainGlobals "read_number" = some (some (.ref f50))) (l50 : K.lookup f50 = some ⟨oc50, od50, .func (PySem.W.fnOf "read_number" "read_number" (defArgs (topS 50)) (defBody (topS 50)) (defScope (topS 50)) .none kV50 dc50 pm50 an50 cd50 ct50), sl50⟩) (c50 : PySem.W.codeIn K cd50 "read_number" = true) (k50 : PySem.W.keepIn K (.ref f50) = true)
    {f51 : Addr} {od51 an51 : Option Addr} {sl51 : Array (Option Value)} {oc51 kV51 dc51 pm51 cd51 ct51 : Value}
    (a51 : PySem.W.nsIn K mainGlobals "read_numbers" = some (some (.ref f51))) (l51 : K.lookup f51 = some ⟨oc51, od51, .func (PySem.W.fnOf "read_numbers" "read_numbers" (defArgs (topS 51)) (defBody (topS 51)) (defScope (topS 51)) .none kV51 dc51 pm51 an51 cd51 ct51), sl51⟩) (c51 : PySem.W.codeIn K cd51 "read_numbers" = true) (k51 : PySem.W.keepIn K (.ref f51) = true)
    {f55 : Addr} {od55 an55 : Option Addr} {sl55 : Array (Option Value)} {oc55 kV55 dc55 pm55 cd55 ct55 : Value}
    (a55 : PySem.W.nsIn K mainGlobals "check_page_number" = some (some (.ref f55))) (l55 : K.lookup f55 = some ⟨oc55, od55, .func (PySem.W.fnOf "check_page_number" "check_page_number" (defArgs (topS 55)) (defBody (topS 55)) (defScope (topS 55)) .none kV55 dc55 pm55 an55 cd55 ct55), sl55⟩) (c55 : PySem.W.codeIn K cd55 "check_page_number" = true) (k55 : PySem.W.keepIn K (.ref f55) = true)
    {f56 : Addr} {od56 an56 : Option Addr} {sl56 : Array (Option Value)} {oc56 kV56 dc56 pm56 cd56 ct56 : Value}
    (a56 : PySem.W.nsIn K mainGlobals "check_pages" = some (some (.ref f56))) (l56 : K.lookup f56 = some ⟨oc56, od56, .func (PySem.W.fnOf "check_pages" "check_pages" (defArgs (topS 56)) (defBody (topS 56)) (defScope (topS 56)) .none kV56 dc56 pm56 an56 cd56 ct56), sl56⟩) (c56 : PySem.W.codeIn K cd56 "check_pages" = true) (k56 : PySem.W.keepIn K (.ref f56) = true)
    {f63 : Addr} {od63 an63 : Option Addr} {sl63 : Array (Option Value)} {oc63 kV63 dc63 pm63 cd63 ct63 : Value}
    (a63 : PySem.W.nsIn K mainGlobals "check_lengths" = some (some (.ref f63))) (l63 : K.lookup f63 = some ⟨oc63, od63, .func (PySem.W.fnOf "check_lengths" "check_lengths" (defArgs (topS 63)) (defBody (topS 63)) (defScope (topS 63)) .none kV63 dc63 pm63 an63 cd63 ct63), sl63⟩) (c63 : PySem.W.codeIn K cd63 "check_lengths" = true) (k63 : PySem.W.keepIn K (.ref f63) = true)
    {f64 : Addr} {od64 an64 : Option Addr} {sl64 : Array (Option Value)} {oc64 kV64 dc64 pm64 cd64 ct64 : Value}
    (a64 : PySem.W.nsIn K mainGlobals "check_size" = some (some (.ref f64))) (l64 : K.lookup f64 = some ⟨oc64, od64, .func (PySem.W.fnOf "check_size" "check_size" (defArgs (topS 64)) (defBody (topS 64)) (defScope (topS 64)) .none kV64 dc64 pm64 an64 cd64 ct64), sl64⟩) (c64 : PySem.W.codeIn K cd64 "check_size" = true) (k64 : PySem.W.keepIn K (.ref f64) = true)
    {f65 : Addr} {od65 an65 : Option Addr} {sl65 : Array (Option Value)} {oc65 kV65 dc65 pm65 cd65 ct65 : Value}
    (a65 : PySem.W.nsIn K mainGlobals "check_fit" = some (some (.ref f65))) (l65 : K.lookup f65 = some ⟨oc65, od65, .func (PySem.W.fnOf "check_fit" "check_fit" (defArgs (topS 65)) (defBody (topS 65)) (defScope (topS 65)) .none kV65 dc65 pm65 an65 cd65 ct65), sl65⟩) (c65 : PySem.W.codeIn K cd65 "check_fit" = true) (k65 : PySem.W.keepIn K (.ref f65) = true)
    {f68 : Addr} {od68 an68 : Option Addr} {sl68 : Array (Option Value)} {oc68 kV68 dc68 pm68 cd68 ct68 : Value}
    (a68 : PySem.W.nsIn K mainGlobals "check_number" = some (some (.ref f68))) (l68 : K.lookup f68 = some ⟨oc68, od68, .func (PySem.W.fnOf "check_number" "check_number" (defArgs (topS 68)) (defBody (topS 68)) (defScope (topS 68)) .none kV68 dc68 pm68 an68 cd68 ct68), sl68⟩) (c68 : PySem.W.codeIn K cd68 "check_number" = true) (k68 : PySem.W.keepIn K (.ref f68) = true)
    {f73 : Addr} {od73 an73 : Option Addr} {sl73 : Array (Option Value)} {oc73 kV73 dc73 pm73 cd73 ct73 : Value}
    (a73 : PySem.W.nsIn K mainGlobals "rows_of" = some (some (.ref f73))) (l73 : K.lookup f73 = some ⟨oc73, od73, .func (PySem.W.fnOf "rows_of" "rows_of" (defArgs (topS 73)) (defBody (topS 73)) (defScope (topS 73)) .none kV73 dc73 pm73 an73 cd73 ct73), sl73⟩) (c73 : PySem.W.codeIn K cd73 "rows_of" = true) (k73 : PySem.W.keepIn K (.ref f73) = true)
    {f74 : Addr} {od74 an74 : Option Addr} {sl74 : Array (Option Value)} {oc74 kV74 dc74 pm74 cd74 ct74 : Value}
    (a74 : PySem.W.nsIn K mainGlobals "places_by_word" = some (some (.ref f74))) (l74 : K.lookup f74 = some ⟨oc74, od74, .func (PySem.W.fnOf "places_by_word" "places_by_word" (defArgs (topS 74)) (defBody (topS 74)) (defScope (topS 74)) .none kV74 dc74 pm74 an74 cd74 ct74), sl74⟩) (c74 : PySem.W.codeIn K cd74 "places_by_word" = true) (k74 : PySem.W.keepIn K (.ref f74) = true)
    {f77 : Addr} {od77 an77 : Option Addr} {sl77 : Array (Option Value)} {oc77 kV77 dc77 pm77 cd77 ct77 : Value}
    (a77 : PySem.W.nsIn K mainGlobals "check_shelf" = some (some (.ref f77))) (l77 : K.lookup f77 = some ⟨oc77, od77, .func (PySem.W.fnOf "check_shelf" "check_shelf" (defArgs (topS 77)) (defBody (topS 77)) (defScope (topS 77)) .none kV77 dc77 pm77 an77 cd77 ct77), sl77⟩) (c77 : PySem.W.codeIn K cd77 "check_shelf" = true) (k77 : PySem.W.keepIn K (.ref f77) = true)
    {f78 : Addr} {od78 an78 : Option Addr} {sl78 : Array (Option Value)} {oc78 kV78 dc78 pm78 cd78 ct78 : Value}
    (a78 : PySem.W.nsIn K mainGlobals "is_shelved" = some (some (.ref f78))) (l78 : K.lookup f78 = some ⟨oc78, od78, .func (PySem.W.fnOf "is_shelved" "is_shelved" (defArgs (topS 78)) (defBody (topS 78)) (defScope (topS 78)) .none kV78 dc78 pm78 an78 cd78 ct78), sl78⟩) (c78 : PySem.W.codeIn K cd78 "is_shelved" = true) (k78 : PySem.W.keepIn K (.ref f78) = true)
    {f79 : Addr} {od79 an79 : Option Addr} {sl79 : Array (Option Value)} {oc79 kV79 dc79 pm79 cd79 ct79 : Value}
    (a79 : PySem.W.nsIn K mainGlobals "are_slots" = some (some (.ref f79))) (l79 : K.lookup f79 = some ⟨oc79, od79, .func (PySem.W.fnOf "are_slots" "are_slots" (defArgs (topS 79)) (defBody (topS 79)) (defScope (topS 79)) .none kV79 dc79 pm79 an79 cd79 ct79), sl79⟩) (c79 : PySem.W.codeIn K cd79 "are_slots" = true) (k79 : PySem.W.keepIn K (.ref f79) = true)
    {f80 : Addr} {od80 an80 : Option Addr} {sl80 : Array (Option Value)} {oc80 kV80 dc80 pm80 cd80 ct80 : Value}
    (a80 : PySem.W.nsIn K mainGlobals "standing_slots" = some (some (.ref f80))) (l80 : K.lookup f80 = some ⟨oc80, od80, .func (PySem.W.fnOf "standing_slots" "standing_slots" (defArgs (topS 80)) (defBody (topS 80)) (defScope (topS 80)) .none kV80 dc80 pm80 an80 cd80 ct80), sl80⟩) (c80 : PySem.W.codeIn K cd80 "standing_slots" = true) (k80 : PySem.W.keepIn K (.ref f80) = true)
    {f81 : Addr} {od81 an81 : Option Addr} {sl81 : Array (Option Value)} {oc81 kV81 dc81 pm81 cd81 ct81 : Value}
    (a81 : PySem.W.nsIn K mainGlobals "standing_numbers" = some (some (.ref f81))) (l81 : K.lookup f81 = some ⟨oc81, od81, .func (PySem.W.fnOf "standing_numbers" "standing_numbers" (defArgs (topS 81)) (defBody (topS 81)) (defScope (topS 81)) .none kV81 dc81 pm81 an81 cd81 ct81), sl81⟩) (c81 : PySem.W.codeIn K cd81 "standing_numbers" = true) (k81 : PySem.W.keepIn K (.ref f81) = true)
    {f84 : Addr} {od84 an84 : Option Addr} {sl84 : Array (Option Value)} {oc84 kV84 dc84 pm84 cd84 ct84 : Value}
    (a84 : PySem.W.nsIn K mainGlobals "standing_words" = some (some (.ref f84))) (l84 : K.lookup f84 = some ⟨oc84, od84, .func (PySem.W.fnOf "standing_words" "standing_words" (defArgs (topS 84)) (defBody (topS 84)) (defScope (topS 84)) .none kV84 dc84 pm84 an84 cd84 ct84), sl84⟩) (c84 : PySem.W.codeIn K cd84 "standing_words" = true) (k84 : PySem.W.keepIn K (.ref f84) = true)
    {f85 : Addr} {od85 an85 : Option Addr} {sl85 : Array (Option Value)} {oc85 kV85 dc85 pm85 cd85 ct85 : Value}
    (a85 : PySem.W.nsIn K mainGlobals "standing_holders" = some (some (.ref f85))) (l85 : K.lookup f85 = some ⟨oc85, od85, .func (PySem.W.fnOf "standing_holders" "standing_holders" (defArgs (topS 85)) (defBody (topS 85)) (defScope (topS 85)) .none kV85 dc85 pm85 an85 cd85 ct85), sl85⟩) (c85 : PySem.W.codeIn K cd85 "standing_holders" = true) (k85 : PySem.W.keepIn K (.ref f85) = true)
    {f86 : Addr} {od86 an86 : Option Addr} {sl86 : Array (Option Value)} {oc86 kV86 dc86 pm86 cd86 ct86 : Value}
    (a86 : PySem.W.nsIn K mainGlobals "share" = some (some (.ref f86))) (l86 : K.lookup f86 = some ⟨oc86, od86, .func (PySem.W.fnOf "share" "share" (defArgs (topS 86)) (defBody (topS 86)) (defScope (topS 86)) .none kV86 dc86 pm86 an86 cd86 ct86), sl86⟩) (c86 : PySem.W.codeIn K cd86 "share" = true) (k86 : PySem.W.keepIn K (.ref f86) = true)
    {f87 : Addr} {od87 an87 : Option Addr} {sl87 : Array (Option Value)} {oc87 kV87 dc87 pm87 cd87 ct87 : Value}
    (a87 : PySem.W.nsIn K mainGlobals "check_count" = some (some (.ref f87))) (l87 : K.lookup f87 = some ⟨oc87, od87, .func (PySem.W.fnOf "check_count" "check_count" (defArgs (topS 87)) (defBody (topS 87)) (defScope (topS 87)) .none kV87 dc87 pm87 an87 cd87 ct87), sl87⟩) (c87 : PySem.W.codeIn K cd87 "check_count" = true) (k87 : PySem.W.keepIn K (.ref f87) = true)
    {f88 : Addr} {od88 an88 : Option Addr} {sl88 : Array (Option Value)} {oc88 kV88 dc88 pm88 cd88 ct88 : Value}
    (a88 : PySem.W.nsIn K mainGlobals "bound" = some (some (.ref f88))) (l88 : K.lookup f88 = some ⟨oc88, od88, .func (PySem.W.fnOf "bound" "bound" (defArgs (topS 88)) (defBody (topS 88)) (defScope (topS 88)) .none kV88 dc88 pm88 an88 cd88 ct88), sl88⟩) (c88 : PySem.W.codeIn K cd88 "bound" = true) (k88 : PySem.W.keepIn K (.ref f88) = true)
    {f90 : Addr} {od90 an90 : Option Addr} {sl90 : Array (Option Value)} {oc90 kV90 dc90 pm90 cd90 ct90 : Value}
    (a90 : PySem.W.nsIn K mainGlobals "_law_purse" = some (some (.ref f90))) (l90 : K.lookup f90 = some ⟨oc90, od90, .func (PySem.W.fnOf "_law_purse" "_law_purse" (defArgs (topS 90)) (defBody (topS 90)) (defScope (topS 90)) .none kV90 dc90 pm90 an90 cd90 ct90), sl90⟩) (c90 : PySem.W.codeIn K cd90 "_law_purse" = true) (k90 : PySem.W.keepIn K (.ref f90) = true)
    {f91 : Addr} {od91 an91 : Option Addr} {sl91 : Array (Option Value)} {oc91 kV91 dc91 pm91 cd91 ct91 : Value}
    (a91 : PySem.W.nsIn K mainGlobals "_law_take" = some (some (.ref f91))) (l91 : K.lookup f91 = some ⟨oc91, od91, .func (PySem.W.fnOf "_law_take" "_law_take" (defArgs (topS 91)) (defBody (topS 91)) (defScope (topS 91)) .none kV91 dc91 pm91 an91 cd91 ct91), sl91⟩) (c91 : PySem.W.codeIn K cd91 "_law_take" = true) (k91 : PySem.W.keepIn K (.ref f91) = true)
    {f92 : Addr} {od92 an92 : Option Addr} {sl92 : Array (Option Value)} {oc92 kV92 dc92 pm92 cd92 ct92 : Value}
    (a92 : PySem.W.nsIn K mainGlobals "_law_words" = some (some (.ref f92))) (l92 : K.lookup f92 = some ⟨oc92, od92, .func (PySem.W.fnOf "_law_words" "_law_words" (defArgs (topS 92)) (defBody (topS 92)) (defScope (topS 92)) .none kV92 dc92 pm92 an92 cd92 ct92), sl92⟩) (c92 : PySem.W.codeIn K cd92 "_law_words" = true) (k92 : PySem.W.keepIn K (.ref f92) = true)
    {f93 : Addr} {od93 an93 : Option Addr} {sl93 : Array (Option Value)} {oc93 kV93 dc93 pm93 cd93 ct93 : Value}
    (a93 : PySem.W.nsIn K mainGlobals "_law_text_words" = some (some (.ref f93))) (l93 : K.lookup f93 = some ⟨oc93, od93, .func (PySem.W.fnOf "_law_text_words" "_law_text_words" (defArgs (topS 93)) (defBody (topS 93)) (defScope (topS 93)) .none kV93 dc93 pm93 an93 cd93 ct93), sl93⟩) (c93 : PySem.W.codeIn K cd93 "_law_text_words" = true) (k93 : PySem.W.keepIn K (.ref f93) = true)
    {f94 : Addr} {od94 an94 : Option Addr} {sl94 : Array (Option Value)} {oc94 kV94 dc94 pm94 cd94 ct94 : Value}
    (a94 : PySem.W.nsIn K mainGlobals "_law_pages" = some (some (.ref f94))) (l94 : K.lookup f94 = some ⟨oc94, od94, .func (PySem.W.fnOf "_law_pages" "_law_pages" (defArgs (topS 94)) (defBody (topS 94)) (defScope (topS 94)) .none kV94 dc94 pm94 an94 cd94 ct94), sl94⟩) (c94 : PySem.W.codeIn K cd94 "_law_pages" = true) (k94 : PySem.W.keepIn K (.ref f94) = true)
    {f95 : Addr} {od95 an95 : Option Addr} {sl95 : Array (Option Value)} {oc95 kV95 dc95 pm95 cd95 ct95 : Value}
    (a95 : PySem.W.nsIn K mainGlobals "_law_shelf" = some (some (.ref f95))) (l95 : K.lookup f95 = some ⟨oc95, od95, .func (PySem.W.fnOf "_law_shelf" "_law_shelf" (defArgs (topS 95)) (defBody (topS 95)) (defScope (topS 95)) .none kV95 dc95 pm95 an95 cd95 ct95), sl95⟩) (c95 : PySem.W.codeIn K cd95 "_law_shelf" = true) (k95 : PySem.W.keepIn K (.ref f95) = true)
    {f96 : Addr} {od96 an96 : Option Addr} {sl96 : Array (Option Value)} {oc96 kV96 dc96 pm96 cd96 ct96 : Value}
    (a96 : PySem.W.nsIn K mainGlobals "_law_page" = some (some (.ref f96))) (l96 : K.lookup f96 = some ⟨oc96, od96, .func (PySem.W.fnOf "_law_page" "_law_page" (defArgs (topS 96)) (defBody (topS 96)) (defScope (topS 96)) .none kV96 dc96 pm96 an96 cd96 ct96), sl96⟩) (c96 : PySem.W.codeIn K cd96 "_law_page" = true) (k96 : PySem.W.keepIn K (.ref f96) = true)
    {f97 : Addr} {od97 an97 : Option Addr} {sl97 : Array (Option Value)} {oc97 kV97 dc97 pm97 cd97 ct97 : Value}
    (a97 : PySem.W.nsIn K mainGlobals "_law_made" = some (some (.ref f97))) (l97 : K.lookup f97 = some ⟨oc97, od97, .func (PySem.W.fnOf "_law_made" "_law_made" (defArgs (topS 97)) (defBody (topS 97)) (defScope (topS 97)) .none kV97 dc97 pm97 an97 cd97 ct97), sl97⟩) (c97 : PySem.W.codeIn K cd97 "_law_made" = true) (k97 : PySem.W.keepIn K (.ref f97) = true)
    {f98 : Addr} {od98 an98 : Option Addr} {sl98 : Array (Option Value)} {oc98 kV98 dc98 pm98 cd98 ct98 : Value}
    (a98 : PySem.W.nsIn K mainGlobals "_law_low" = some (some (.ref f98))) (l98 : K.lookup f98 = some ⟨oc98, od98, .func (PySem.W.fnOf "_law_low" "_law_low" (defArgs (topS 98)) (defBody (topS 98)) (defScope (topS 98)) .none kV98 dc98 pm98 an98 cd98 ct98), sl98⟩) (c98 : PySem.W.codeIn K cd98 "_law_low" = true) (k98 : PySem.W.keepIn K (.ref f98) = true)
    {f99 : Addr} {od99 an99 : Option Addr} {sl99 : Array (Option Value)} {oc99 kV99 dc99 pm99 cd99 ct99 : Value}
    (a99 : PySem.W.nsIn K mainGlobals "_law_is_ratio" = some (some (.ref f99))) (l99 : K.lookup f99 = some ⟨oc99, od99, .func (PySem.W.fnOf "_law_is_ratio" "_law_is_ratio" (defArgs (topS 99)) (defBody (topS 99)) (defScope (topS 99)) .none kV99 dc99 pm99 an99 cd99 ct99), sl99⟩) (c99 : PySem.W.codeIn K cd99 "_law_is_ratio" = true) (k99 : PySem.W.keepIn K (.ref f99) = true)
    {f100 : Addr} {od100 an100 : Option Addr} {sl100 : Array (Option Value)} {oc100 kV100 dc100 pm100 cd100 ct100 : Value}
    (a100 : PySem.W.nsIn K mainGlobals "_law_standing" = some (some (.ref f100))) (l100 : K.lookup f100 = some ⟨oc100, od100, .func (PySem.W.fnOf "_law_standing" "_law_standing" (defArgs (topS 100)) (defBody (topS 100)) (defScope (topS 100)) .none kV100 dc100 pm100 an100 cd100 ct100), sl100⟩) (c100 : PySem.W.codeIn K cd100 "_law_standing" = true) (k100 : PySem.W.keepIn K (.ref f100) = true)
    {f101 : Addr} {od101 an101 : Option Addr} {sl101 : Array (Option Value)} {oc101 kV101 dc101 pm101 cd101 ct101 : Value}
    (a101 : PySem.W.nsIn K mainGlobals "_law_holders" = some (some (.ref f101))) (l101 : K.lookup f101 = some ⟨oc101, od101, .func (PySem.W.fnOf "_law_holders" "_law_holders" (defArgs (topS 101)) (defBody (topS 101)) (defScope (topS 101)) .none kV101 dc101 pm101 an101 cd101 ct101), sl101⟩) (c101 : PySem.W.codeIn K cd101 "_law_holders" = true) (k101 : PySem.W.keepIn K (.ref f101) = true)
    {f102 : Addr} {od102 an102 : Option Addr} {sl102 : Array (Option Value)} {oc102 kV102 dc102 pm102 cd102 ct102 : Value}
    (a102 : PySem.W.nsIn K mainGlobals "_law_share" = some (some (.ref f102))) (l102 : K.lookup f102 = some ⟨oc102, od102, .func (PySem.W.fnOf "_law_share" "_law_share" (defArgs (topS 102)) (defBody (topS 102)) (defScope (topS 102)) .none kV102 dc102 pm102 an102 cd102 ct102), sl102⟩) (c102 : PySem.W.codeIn K cd102 "_law_share" = true) (k102 : PySem.W.keepIn K (.ref f102) = true)
    {f103 : Addr} {od103 an103 : Option Addr} {sl103 : Array (Option Value)} {oc103 kV103 dc103 pm103 cd103 ct103 : Value}
    (a103 : PySem.W.nsIn K mainGlobals "_law_block_right" = some (some (.ref f103))) (l103 : K.lookup f103 = some ⟨oc103, od103, .func (PySem.W.fnOf "_law_block_right" "_law_block_right" (defArgs (topS 103)) (defBody (topS 103)) (defScope (topS 103)) .none kV103 dc103 pm103 an103 cd103 ct103), sl103⟩) (c103 : PySem.W.codeIn K cd103 "_law_block_right" = true) (k103 : PySem.W.keepIn K (.ref f103) = true)
    {f104 : Addr} {od104 an104 : Option Addr} {sl104 : Array (Option Value)} {oc104 kV104 dc104 pm104 cd104 ct104 : Value}
    (a104 : PySem.W.nsIn K mainGlobals "_law_segment_right" = some (some (.ref f104))) (l104 : K.lookup f104 = some ⟨oc104, od104, .func (PySem.W.fnOf "_law_segment_right" "_law_segment_right" (defArgs (topS 104)) (defBody (topS 104)) (defScope (topS 104)) .none kV104 dc104 pm104 an104 cd104 ct104), sl104⟩) (c104 : PySem.W.codeIn K cd104 "_law_segment_right" = true) (k104 : PySem.W.keepIn K (.ref f104) = true)
    {f105 : Addr} {od105 an105 : Option Addr} {sl105 : Array (Option Value)} {oc105 kV105 dc105 pm105 cd105 ct105 : Value}
    (a105 : PySem.W.nsIn K mainGlobals "law" = some (some (.ref f105))) (l105 : K.lookup f105 = some ⟨oc105, od105, .func (PySem.W.fnOf "law" "law" (defArgs (topS 105)) (defBody (topS 105)) (defScope (topS 105)) .none kV105 dc105 pm105 an105 cd105 ct105), sl105⟩) (c105 : PySem.W.codeIn K cd105 "law" = true) (k105 : PySem.W.keepIn K (.ref f105) = true)
    (z_IndexError : PySem.W.nsIn K mainGlobals "IndexError" = some none)
    (z_KeyError : PySem.W.nsIn K mainGlobals "KeyError" = some none)
    (z_ValueError : PySem.W.nsIn K mainGlobals "ValueError" = some none)
    (z_ZeroDivisionError : PySem.W.nsIn K mainGlobals "ZeroDivisionError" = some none)
    (z_abs : PySem.W.nsIn K mainGlobals "abs" = some none)
    (z_all : PySem.W.nsIn K mainGlobals "all" = some none)
    (z_bool : PySem.W.nsIn K mainGlobals "bool" = some none)
    (z_divmod : PySem.W.nsIn K mainGlobals "divmod" = some none)
    (z_enumerate : PySem.W.nsIn K mainGlobals "enumerate" = some none)
    (z_int : PySem.W.nsIn K mainGlobals "int" = some none)
    (z_isinstance : PySem.W.nsIn K mainGlobals "isinstance" = some none)
    (z_len : PySem.W.nsIn K mainGlobals "len" = some none)
    (z_list : PySem.W.nsIn K mainGlobals "list" = some none)
    (z_max : PySem.W.nsIn K mainGlobals "max" = some none)
    (z_min : PySem.W.nsIn K mainGlobals "min" = some none)
    (z_range : PySem.W.nsIn K mainGlobals "range" = some none)
    (z_set : PySem.W.nsIn K mainGlobals "set" = some none)
    (z_sorted : PySem.W.nsIn K mainGlobals "sorted" = some none)
    (z_str : PySem.W.nsIn K mainGlobals "str" = some none)
    (z_sum : PySem.W.nsIn K mainGlobals "sum" = some none)
    (z_tuple : PySem.W.nsIn K mainGlobals "tuple" = some none)
    (z_zip : PySem.W.nsIn K mainGlobals "zip" = some none)
    {tk20 : Tok} (e20 : PySem.W.nsIn K mainGlobals "MOST_LETTERS" = some (some (.int 12 tk20)))
    {tk21 : Tok} (e21 : PySem.W.nsIn K mainGlobals "MOST_WORDS" = some (some (.int 120 tk21)))
    {tk28 : Tok} (e28 : PySem.W.nsIn K mainGlobals "TOO_GREAT" = some (some (.int 1000000000000000000000000000000000000000000000000000000000000000000000000000000000000000000000000000000000000000000000000000000000000000000000000000000000000000000000000000000000000000000000000000000000000000000000000000000000000000000000000000000000000000000000000000000000000000000000000000000000000 tk28)))
    {tk29 : Tok} (e29 : PySem.W.nsIn K mainGlobals "FIGURES_AT_ONCE" = some (some (.int 60 tk29)))
    {tk30 : Tok} (e30 : PySem.W.nsIn K mainGlobals "ONE_BEYOND" = some (some (.int 1000000000000000000000000000000000000000000000000000000000000 tk30)))
    {tk36 : Tok} (e36 : PySem.W.nsIn K mainGlobals "DIGITS_AHEAD" = some (some (.str "ABCDEFGHIJKLMNOP" tk36)))
    {tk37 : Tok} (e37 : PySem.W.nsIn K mainGlobals "LAST_DIGITS" = some (some (.str "abcdefghijklmnop" tk37)))
    {tk53 : Tok} (e53 : PySem.W.nsIn K mainGlobals "MOST_NUMBER" = some (some (.int 9999 tk53)))
    {tk58 : Tok} (e58 : PySem.W.nsIn K mainGlobals "SIZE" = some (some (.int 4 tk58)))
    {tk59 : Tok} (e59 : PySem.W.nsIn K mainGlobals "MOST_SIZE" = some (some (.int 8 tk59)))
    {tk60 : Tok} (e60 : PySem.W.nsIn K mainGlobals "MOST_LENGTHS" = some (some (.int 60 tk60)))
    {tk76 : Tok} (e76 : PySem.W.nsIn K mainGlobals "MOST_SEGMENTS" = some (some (.int 8 tk76)))
    {f2 : Addr} (a2 : PySem.W.nsIn K mainGlobals "Wrong" = some (some (.ref f2)))
    {f3 : Addr} (a3 : PySem.W.nsIn K mainGlobals "NoWord" = some (some (.ref f3)))
    {f4 : Addr} (a4 : PySem.W.nsIn K mainGlobals "NoText" = some (some (.ref f4)))
    {f5 : Addr} (a5 : PySem.W.nsIn K mainGlobals "NoNumber" = some (some (.ref f5)))
    {f6 : Addr} (a6 : PySem.W.nsIn K mainGlobals "NoSize" = some (some (.ref f6)))
    {f7 : Addr} (a7 : PySem.W.nsIn K mainGlobals "NoLengths" = some (some (.ref f7)))
    {f8 : Addr} (a8 : PySem.W.nsIn K mainGlobals "NoCode" = some (some (.ref f8)))
    {f9 : Addr} (a9 : PySem.W.nsIn K mainGlobals "NoRow" = some (some (.ref f9)))
    {f10 : Addr} (a10 : PySem.W.nsIn K mainGlobals "NoEntries" = some (some (.ref f10)))
    {f11 : Addr} (a11 : PySem.W.nsIn K mainGlobals "NoPages" = some (some (.ref f11)))
    {f12 : Addr} (a12 : PySem.W.nsIn K mainGlobals "NoShelf" = some (some (.ref f12)))
    {f13 : Addr} (a13 : PySem.W.nsIn K mainGlobals "NoPlace" = some (some (.ref f13)))
    {f14 : Addr} (a14 : PySem.W.nsIn K mainGlobals "NoSlot" = some (some (.ref f14)))
    {f15 : Addr} (a15 : PySem.W.nsIn K mainGlobals "NoRatio" = some (some (.ref f15)))
    {f31 : Addr} (a31 : PySem.W.nsIn K mainGlobals "Ratio" = some (some (.ref f31)))
    {f54 : Addr} (a54 : PySem.W.nsIn K mainGlobals "Page" = some (some (.ref f54)))
    {f61 : Addr} (a61 : PySem.W.nsIn K mainGlobals "Block" = some (some (.ref f61)))
    {f62 : Addr} (a62 : PySem.W.nsIn K mainGlobals "Row" = some (some (.ref f62)))
    {f67 : Addr} (a67 : PySem.W.nsIn K mainGlobals "Walker" = some (some (.ref f67)))
    {f71 : Addr} (a71 : PySem.W.nsIn K mainGlobals "Segment" = some (some (.ref f71)))
    {f83 : Addr} (a83 : PySem.W.nsIn K mainGlobals "Figures" = some (some (.ref f83)))
    (pg54 : PySem.W.plainGet K f54 Str.empty = true) (hd54 : PySem.W.hasDictIn K f54 = true) (po54 : PySem.W.plainOver K f54 = true) (sa54 : PySem.W.findIn K (.ref f54) "__setattr__" = some (some (.builtin "object.__setattr__"))) (mk54 : PySem.W.makesIn K f54 = true) (kc54 : PySem.W.keepIn K (.ref f54) = true)
    (na54_number : PySem.W.findIn K (.ref f54) "number" = some none)
    (na54_in_turn : PySem.W.findIn K (.ref f54) "in_turn" = some none)
    (pg61 : PySem.W.plainGet K f61 Str.empty = true) (hd61 : PySem.W.hasDictIn K f61 = true) (po61 : PySem.W.plainOver K f61 = true) (sa61 : PySem.W.findIn K (.ref f61) "__setattr__" = some (some (.builtin "object.__setattr__"))) (mk61 : PySem.W.makesIn K f61 = true) (kc61 : PySem.W.keepIn K (.ref f61) = true)
    (na61_first : PySem.W.findIn K (.ref f61) "first" = some none)
    (na61_last : PySem.W.findIn K (.ref f61) "last" = some none)
    (na61_many : PySem.W.findIn K (.ref f61) "many" = some none)
    (na61_most : PySem.W.findIn K (.ref f61) "most" = some none)
    (na61_least : PySem.W.findIn K (.ref f61) "least" = some none)
    (na61_coded : PySem.W.findIn K (.ref f61) "coded" = some none)
    (pg62 : PySem.W.plainGet K f62 Str.empty = true) (hd62 : PySem.W.hasDictIn K f62 = true) (po62 : PySem.W.plainOver K f62 = true) (sa62 : PySem.W.findIn K (.ref f62) "__setattr__" = some (some (.builtin "object.__setattr__"))) (mk62 : PySem.W.makesIn K f62 = true) (kc62 : PySem.W.keepIn K (.ref f62) = true)
    (na62_word : PySem.W.findIn K (.ref f62) "word" = some none)
    (na62_size : PySem.W.findIn K (.ref f62) "size" = some none)
    (na62_cut : PySem.W.findIn K (.ref f62) "cut" = some none)
    (pg67 : PySem.W.plainGet K f67 Str.empty = true) (hd67 : PySem.W.hasDictIn K f67 = true) (po67 : PySem.W.plainOver K f67 = true) (sa67 : PySem.W.findIn K (.ref f67) "__setattr__" = some (some (.builtin "object.__setattr__"))) (mk67 : PySem.W.makesIn K f67 = true) (kc67 : PySem.W.keepIn K (.ref f67) = true)
    (na67_heads : PySem.W.findIn K (.ref f67) "heads" = some none)
    (na67_decoded : PySem.W.findIn K (.ref f67) "decoded" = some none)
    (na67_standing : PySem.W.findIn K (.ref f67) "standing" = some none)
    (pg71 : PySem.W.plainGet K f71 Str.empty = true) (hd71 : PySem.W.hasDictIn K f71 = true) (po71 : PySem.W.plainOver K f71 = true) (sa71 : PySem.W.findIn K (.ref f71) "__setattr__" = some (some (.builtin "object.__setattr__"))) (mk71 : PySem.W.makesIn K f71 = true) (kc71 : PySem.W.keepIn K (.ref f71) = true)
    (na71_size : PySem.W.findIn K (.ref f71) "size" = some none)
    (na71_slot_numbers : PySem.W.findIn K (.ref f71) "slot_numbers" = some none)
    (na71_slot_lengths : PySem.W.findIn K (.ref f71) "slot_lengths" = some none)
    (na71_rows : PySem.W.findIn K (.ref f71) "rows" = some none)
    (pg83 : PySem.W.plainGet K f83 Str.empty = true) (hd83 : PySem.W.hasDictIn K f83 = true) (po83 : PySem.W.plainOver K f83 = true) (sa83 : PySem.W.findIn K (.ref f83) "__setattr__" = some (some (.builtin "object.__setattr__"))) (mk83 : PySem.W.makesIn K f83 = true) (kc83 : PySem.W.keepIn K (.ref f83) = true)
    (na83_parts : PySem.W.findIn K (.ref f83) "parts" = some none)
    (na83_pages_in_all : PySem.W.findIn K (.ref f83) "pages_in_all" = some none)
    (na83_words_in_all : PySem.W.findIn K (.ref f83) "words_in_all" = some none)
    (na83_counted : PySem.W.findIn K (.ref f83) "counted" = some none)
    (pg31 : PySem.W.plainGet K f31 Str.empty = true) (hd31 : PySem.W.hasDictIn K f31 = true) (po31 : PySem.W.plainOver K f31 = true) (sa31 : PySem.W.findIn K (.ref f31) "__setattr__" = some (some (.builtin "object.__setattr__"))) (mk31 : PySem.W.makesIn K f31 = true) (kc31 : PySem.W.keepIn K (.ref f31) = true)
    (na31_top : PySem.W.findIn K (.ref f31) "top" = some none)
    (na31_bottom : PySem.W.findIn K (.ref f31) "bottom" = some none)
    {f106 : Addr} {od106 an106 : Option Addr} {sl106 : Array (Option Value)} {oc106 kV106 dc106 pm106 cd106 ct106 : Value}
    (a106 : PySem.W.findIn K (.ref f54) "__init__" = some (some (.ref f106))) (i106 : PySem.W.isFn K (.ref f106) = true)
    {DT106 nd106 : Nat} {ocd106 : Value} {odd106 : Option Addr} {sld106 : Array (Option Value)} {td106_0 : Tok}
    (l106 : K.lookup f106 = some ⟨oc106, od106, .func (PySem.W.fnOf "__init__" "Page.__init__" (defArgs (inClass (topS 54) 0)) (defBody (inClass (topS 54) 0)) (defScope (inClass (topS 54) 0)) (.ref DT106) kV106 dc106 pm106 an106 cd106 ct106), sl106⟩) (c106 : PySem.W.codeIn K cd106 "Page.__init__" = true) (k106 : PySem.W.keepIn K (.ref f106) = true)
    (dt106 : K.lookup DT106 = some ⟨ocd106, odd106, .seq #[.str "" td106_0] nd106, sld106⟩)
    {f107 : Addr} {od107 an107 : Option Addr} {sl107 : Array (Option Value)} {oc107 kV107 dc107 pm107 cd107 ct107 : Value}
    (a107 : PySem.W.findIn K (.ref f54) "__len__" = some (some (.ref f107))) (i107 : PySem.W.isFn K (.ref f107) = true)
    (l107 : K.lookup f107 = some ⟨oc107, od107, .func (PySem.W.fnOf "__len__" "Page.__len__" (defArgs (inClass (topS 54) 2)) (defBody (inClass (topS 54) 2)) (defScope (inClass (topS 54) 2)) .none kV107 dc107 pm107 an107 cd107 ct107), sl107⟩) (c107 : PySem.W.codeIn K cd107 "Page.__len__" = true) (k107 : PySem.W.keepIn K (.ref f107) = true)
    {f108 : Addr} {od108 an108 : Option Addr} {sl108 : Array (Option Value)} {oc108 kV108 dc108 pm108 cd108 ct108 : Value}
    (a108 : PySem.W.findIn K (.ref f54) "words" = some (some (.ref f108))) (i108 : PySem.W.isFn K (.ref f108) = true)
    (l108 : K.lookup f108 = some ⟨oc108, od108, .func (PySem.W.fnOf "words" "Page.words" (defArgs (inClass (topS 54) 5)) (defBody (inClass (topS 54) 5)) (defScope (inClass (topS 54) 5)) .none kV108 dc108 pm108 an108 cd108 ct108), sl108⟩) (c108 : PySem.W.codeIn K cd108 "Page.words" = true) (k108 : PySem.W.keepIn K (.ref f108) = true)
    {f109 : Addr} {od109 an109 : Option Addr} {sl109 : Array (Option Value)} {oc109 kV109 dc109 pm109 cd109 ct109 : Value}
    (a109 : PySem.W.findIn K (.ref f61) "__init__" = some (some (.ref f109))) (i109 : PySem.W.isFn K (.ref f109) = true)
    (l109 : K.lookup f109 = some ⟨oc109, od109, .func (PySem.W.fnOf "__init__" "Block.__init__" (defArgs (inClass (topS 61) 0)) (defBody (inClass (topS 61) 0)) (defScope (inClass (topS 61) 0)) .none kV109 dc109 pm109 an109 cd109 ct109), sl109⟩) (c109 : PySem.W.codeIn K cd109 "Block.__init__" = true) (k109 : PySem.W.keepIn K (.ref f109) = true)
    {f110 : Addr} {od110 an110 : Option Addr} {sl110 : Array (Option Value)} {oc110 dc110 pm110 cd110 ct110 : Value} {DK110 : Addr}
    (a110 : PySem.W.findIn K (.ref f62) "__init__" = some (some (.ref f110))) (i110 : PySem.W.isFn K (.ref f110) = true)
    (l110 : K.lookup f110 = some ⟨oc110, od110, .func (PySem.W.fnOf "__init__" "Row.__init__" (defArgs (inClass (topS 62) 0)) (defBody (inClass (topS 62) 0)) (defScope (inClass (topS 62) 0)) .none (.ref DK110) dc110 pm110 an110 cd110 ct110), sl110⟩) (c110 : PySem.W.codeIn K cd110 "Row.__init__" = true) (k110 : PySem.W.keepIn K (.ref f110) = true)
    {tmk110_0 : Tok} (dk110_0 : PySem.W.nsIn K DK110 "size" = some (some (.int 4 tmk110_0)))
    {f111 : Addr} {od111 an111 : Option Addr} {sl111 : Array (Option Value)} {oc111 kV111 dc111 pm111 cd111 ct111 : Value}
    (a111 : PySem.W.findIn K (.ref f62) "__len__" = some (some (.ref f111))) (i111 : PySem.W.isFn K (.ref f111) = true)
    (l111 : K.lookup f111 = some ⟨oc111, od111, .func (PySem.W.fnOf "__len__" "Row.__len__" (defArgs (inClass (topS 62) 2)) (defBody (inClass (topS 62) 2)) (defScope (inClass (topS 62) 2)) .none kV111 dc111 pm111 an111 cd111 ct111), sl111⟩) (c111 : PySem.W.codeIn K cd111 "Row.__len__" = true) (k111 : PySem.W.keepIn K (.ref f111) = true)
    {f112 : Addr} {od112 an112 : Option Addr} {sl112 : Array (Option Value)} {oc112 kV112 dc112 pm112 cd112 ct112 : Value}
    (a112 : PySem.W.findIn K (.ref f62) "blocks" = some (some (.ref f112))) (i112 : PySem.W.isFn K (.ref f112) = true)
    (l112 : K.lookup f112 = some ⟨oc112, od112, .func (PySem.W.fnOf "blocks" "Row.blocks" (defArgs (inClass (topS 62) 3)) (defBody (inClass (topS 62) 3)) (defScope (inClass (topS 62) 3)) .none kV112 dc112 pm112 an112 cd112 ct112), sl112⟩) (c112 : PySem.W.codeIn K cd112 "Row.blocks" = true) (k112 : PySem.W.keepIn K (.ref f112) = true)
    {f113 : Addr} {od113 an113 : Option Addr} {sl113 : Array (Option Value)} {oc113 kV113 dc113 pm113 cd113 ct113 : Value}
    (a113 : PySem.W.findIn K (.ref f67) "__init__" = some (some (.ref f113))) (i113 : PySem.W.isFn K (.ref f113) = true)
    (l113 : K.lookup f113 = some ⟨oc113, od113, .func (PySem.W.fnOf "__init__" "Walker.__init__" (defArgs (inClass (topS 67) 0)) (defBody (inClass (topS 67) 0)) (defScope (inClass (topS 67) 0)) .none kV113 dc113 pm113 an113 cd113 ct113), sl113⟩) (c113 : PySem.W.codeIn K cd113 "Walker.__init__" = true) (k113 : PySem.W.keepIn K (.ref f113) = true)
    {f114 : Addr} {od114 an114 : Option Addr} {sl114 : Array (Option Value)} {oc114 kV114 dc114 pm114 cd114 ct114 : Value}
    (a114 : PySem.W.findIn K (.ref f67) "slot" = some (some (.ref f114))) (i114 : PySem.W.isFn K (.ref f114) = true)
    (l114 : K.lookup f114 = some ⟨oc114, od114, .func (PySem.W.fnOf "slot" "Walker.slot" (defArgs (inClass (topS 67) 1)) (defBody (inClass (topS 67) 1)) (defScope (inClass (topS 67) 1)) .none kV114 dc114 pm114 an114 cd114 ct114), sl114⟩) (c114 : PySem.W.codeIn K cd114 "Walker.slot" = true) (k114 : PySem.W.keepIn K (.ref f114) = true)
    {f115 : Addr} {od115 an115 : Option Addr} {sl115 : Array (Option Value)} {oc115 kV115 dc115 pm115 cd115 ct115 : Value}
    (a115 : PySem.W.findIn K (.ref f67) "seek" = some (some (.ref f115))) (i115 : PySem.W.isFn K (.ref f115) = true)
    (l115 : K.lookup f115 = some ⟨oc115, od115, .func (PySem.W.fnOf "seek" "Walker.seek" (defArgs (inClass (topS 67) 3)) (defBody (inClass (topS 67) 3)) (defScope (inClass (topS 67) 3)) .none kV115 dc115 pm115 an115 cd115 ct115), sl115⟩) (c115 : PySem.W.codeIn K cd115 "Walker.seek" = true) (k115 : PySem.W.keepIn K (.ref f115) = true)
    {f116 : Addr} {od116 an116 : Option Addr} {sl116 : Array (Option Value)} {oc116 kV116 dc116 pm116 cd116 ct116 : Value}
    (a116 : PySem.W.findIn K (.ref f67) "entries_in" = some (some (.ref f116))) (i116 : PySem.W.isFn K (.ref f116) = true)
    (l116 : K.lookup f116 = some ⟨oc116, od116, .func (PySem.W.fnOf "entries_in" "Walker.entries_in" (defArgs (inClass (topS 67) 10)) (defBody (inClass (topS 67) 10)) (defScope (inClass (topS 67) 10)) .none kV116 dc116 pm116 an116 cd116 ct116), sl116⟩) (c116 : PySem.W.codeIn K cd116 "Walker.entries_in" = true) (k116 : PySem.W.keepIn K (.ref f116) = true)
    {f117 : Addr} {od117 an117 : Option Addr} {sl117 : Array (Option Value)} {oc117 kV117 dc117 pm117 cd117 ct117 : Value}
    (a117 : PySem.W.findIn K (.ref f67) "slot_at" = some (some (.ref f117))) (i117 : PySem.W.isFn K (.ref f117) = true)
    (l117 : K.lookup f117 = some ⟨oc117, od117, .func (PySem.W.fnOf "slot_at" "Walker.slot_at" (defArgs (inClass (topS 67) 11)) (defBody (inClass (topS 67) 11)) (defScope (inClass (topS 67) 11)) .none kV117 dc117 pm117 an117 cd117 ct117), sl117⟩) (c117 : PySem.W.codeIn K cd117 "Walker.slot_at" = true) (k117 : PySem.W.keepIn K (.ref f117) = true)
    {f118 : Addr} {od118 an118 : Option Addr} {sl118 : Array (Option Value)} {oc118 kV118 dc118 pm118 cd118 ct118 : Value}
    (a118 : PySem.W.findIn K (.ref f67) "reaching" = some (some (.ref f118))) (i118 : PySem.W.isFn K (.ref f118) = true)
    (l118 : K.lookup f118 = some ⟨oc118, od118, .func (PySem.W.fnOf "reaching" "Walker.reaching" (defArgs (inClass (topS 67) 12)) (defBody (inClass (topS 67) 12)) (defScope (inClass (topS 67) 12)) .none kV118 dc118 pm118 an118 cd118 ct118), sl118⟩) (c118 : PySem.W.codeIn K cd118 "Walker.reaching" = true) (k118 : PySem.W.keepIn K (.ref f118) = true)
    {f119 : Addr} {od119 an119 : Option Addr} {sl119 : Array (Option Value)} {oc119 kV119 dc119 pm119 cd119 ct119 : Value}
    (a119 : PySem.W.findIn K (.ref f67) "sought" = some (some (.ref f119))) (i119 : PySem.W.isFn K (.ref f119) = true)
    (l119 : K.lookup f119 = some ⟨oc119, od119, .func (PySem.W.fnOf "sought" "Walker.sought" (defArgs (inClass (topS 67) 13)) (defBody (inClass (topS 67) 13)) (defScope (inClass (topS 67) 13)) .none kV119 dc119 pm119 an119 cd119 ct119), sl119⟩) (c119 : PySem.W.codeIn K cd119 "Walker.sought" = true) (k119 : PySem.W.keepIn K (.ref f119) = true)
    {f120 : Addr} {od120 an120 : Option Addr} {sl120 : Array (Option Value)} {oc120 dc120 pm120 ct120 : Value} {DK120 : Addr} {cc120 : Addr}
    (a120 : PySem.W.findIn K (.ref f71) "__init__" = some (some (.ref f120))) (i120 : PySem.W.isFn K (.ref f120) = true)
    (l120 : K.lookup f120 = some ⟨oc120, od120, .func (PySem.W.fnOf "__init__" "Segment.__init__" (defArgs (inClass (topS 71) 0)) (defBody (inClass (topS 71) 0)) (defScope (inClass (topS 71) 0)) .none (.ref DK120) dc120 pm120 an120 (.ref cc120) ct120), sl120⟩) (c120 : PySem.W.codeIn K (.ref cc120) "Segment.__init__" = true) (k120 : PySem.W.keepIn K (.ref f120) = true)
    {tmk120_0 : Tok} (dk120_0 : PySem.W.nsIn K DK120 "size" = some (some (.int 4 tmk120_0)))
    {f121 : Addr} {od121 an121 : Option Addr} {sl121 : Array (Option Value)} {oc121 kV121 dc121 pm121 cd121 ct121 : Value}
    (a121 : PySem.W.findIn K (.ref f71) "__len__" = some (some (.ref f121))) (i121 : PySem.W.isFn K (.ref f121) = true)
    (l121 : K.lookup f121 = some ⟨oc121, od121, .func (PySem.W.fnOf "__len__" "Segment.__len__" (defArgs (inClass (topS 71) 2)) (defBody (inClass (topS 71) 2)) (defScope (inClass (topS 71) 2)) .none kV121 dc121 pm121 an121 cd121 ct121), sl121⟩) (c121 : PySem.W.codeIn K cd121 "Segment.__len__" = true) (k121 : PySem.W.keepIn K (.ref f121) = true)
    {f122 : Addr} {od122 an122 : Option Addr} {sl122 : Array (Option Value)} {oc122 kV122 dc122 pm122 cd122 ct122 : Value}
    (a122 : PySem.W.findIn K (.ref f71) "numbers" = some (some (.ref f122))) (i122 : PySem.W.isFn K (.ref f122) = true)
    (l122 : K.lookup f122 = some ⟨oc122, od122, .func (PySem.W.fnOf "numbers" "Segment.numbers" (defArgs (inClass (topS 71) 3)) (defBody (inClass (topS 71) 3)) (defScope (inClass (topS 71) 3)) .none kV122 dc122 pm122 an122 cd122 ct122), sl122⟩) (c122 : PySem.W.codeIn K cd122 "Segment.numbers" = true) (k122 : PySem.W.keepIn K (.ref f122) = true)
    {f123 : Addr} {od123 an123 : Option Addr} {sl123 : Array (Option Value)} {oc123 kV123 dc123 pm123 cd123 ct123 : Value}
    (a123 : PySem.W.findIn K (.ref f71) "lengths" = some (some (.ref f123))) (i123 : PySem.W.isFn K (.ref f123) = true)
    (l123 : K.lookup f123 = some ⟨oc123, od123, .func (PySem.W.fnOf "lengths" "Segment.lengths" (defArgs (inClass (topS 71) 4)) (defBody (inClass (topS 71) 4)) (defScope (inClass (topS 71) 4)) .none kV123 dc123 pm123 an123 cd123 ct123), sl123⟩) (c123 : PySem.W.codeIn K cd123 "Segment.lengths" = true) (k123 : PySem.W.keepIn K (.ref f123) = true)
    {f124 : Addr} {od124 an124 : Option Addr} {sl124 : Array (Option Value)} {oc124 kV124 dc124 pm124 cd124 ct124 : Value}
    (a124 : PySem.W.findIn K (.ref f71) "row" = some (some (.ref f124))) (i124 : PySem.W.isFn K (.ref f124) = true)
    (l124 : K.lookup f124 = some ⟨oc124, od124, .func (PySem.W.fnOf "row" "Segment.row" (defArgs (inClass (topS 71) 6)) (defBody (inClass (topS 71) 6)) (defScope (inClass (topS 71) 6)) .none kV124 dc124 pm124 an124 cd124 ct124), sl124⟩) (c124 : PySem.W.codeIn K cd124 "Segment.row" = true) (k124 : PySem.W.keepIn K (.ref f124) = true)
    {f125 : Addr} {od125 an125 : Option Addr} {sl125 : Array (Option Value)} {oc125 kV125 dc125 pm125 cd125 ct125 : Value}
    (a125 : PySem.W.findIn K (.ref f83) "__init__" = some (some (.ref f125))) (i125 : PySem.W.isFn K (.ref f125) = true)
    (l125 : K.lookup f125 = some ⟨oc125, od125, .func (PySem.W.fnOf "__init__" "Figures.__init__" (defArgs (inClass (topS 83) 0)) (defBody (inClass (topS 83) 0)) (defScope (inClass (topS 83) 0)) .none kV125 dc125 pm125 an125 cd125 ct125), sl125⟩) (c125 : PySem.W.codeIn K cd125 "Figures.__init__" = true) (k125 : PySem.W.keepIn K (.ref f125) = true)
    {f126 : Addr} {od126 an126 : Option Addr} {sl126 : Array (Option Value)} {oc126 kV126 dc126 pm126 cd126 ct126 : Value}
    (a126 : PySem.W.findIn K (.ref f83) "holders" = some (some (.ref f126))) (i126 : PySem.W.isFn K (.ref f126) = true)
    (l126 : K.lookup f126 = some ⟨oc126, od126, .func (PySem.W.fnOf "holders" "Figures.holders" (defArgs (inClass (topS 83) 1)) (defBody (inClass (topS 83) 1)) (defScope (inClass (topS 83) 1)) .none kV126 dc126 pm126 an126 cd126 ct126), sl126⟩) (c126 : PySem.W.codeIn K cd126 "Figures.holders" = true) (k126 : PySem.W.keepIn K (.ref f126) = true)
    {f127 : Addr} {od127 an127 : Option Addr} {sl127 : Array (Option Value)} {oc127 kV127 dc127 pm127 cd127 ct127 : Value}
    (a127 : PySem.W.findIn K (.ref f31) "__init__" = some (some (.ref f127))) (i127 : PySem.W.isFn K (.ref f127) = true)
    {DT127 nd127 : Nat} {ocd127 : Value} {odd127 : Option Addr} {sld127 : Array (Option Value)} {td127_0 : Tok}
    (l127 : K.lookup f127 = some ⟨oc127, od127, .func (PySem.W.fnOf "__init__" "Ratio.__init__" (defArgs (inClass (topS 31) 0)) (defBody (inClass (topS 31) 0)) (defScope (inClass (topS 31) 0)) (.ref DT127) kV127 dc127 pm127 an127 cd127 ct127), sl127⟩) (c127 : PySem.W.codeIn K cd127 "Ratio.__init__" = true) (k127 : PySem.W.keepIn K (.ref f127) = true)
    (dt127 : K.lookup DT127 = some ⟨ocd127, odd127, .seq #[.int 1 td127_0] nd127, sld127⟩)
    {f128 : Addr} {od128 an128 : Option Addr} {sl128 : Array (Option Value)} {oc128 kV128 dc128 pm128 cd128 ct128 : Value}
    (a128 : PySem.W.findIn K (.ref f31) "__eq__" = some (some (.ref f128))) (i128 : PySem.W.isFn K (.ref f128) = true)
    (l128 : K.lookup f128 = some ⟨oc128, od128, .func (PySem.W.fnOf "__eq__" "Ratio.__eq__" (defArgs (inClass (topS 31) 1)) (defBody (inClass (topS 31) 1)) (defScope (inClass (topS 31) 1)) .none kV128 dc128 pm128 an128 cd128 ct128), sl128⟩) (c128 : PySem.W.codeIn K cd128 "Ratio.__eq__" = true) (k128 : PySem.W.keepIn K (.ref f128) = true)
    {f129 : Addr} {od129 an129 : Option Addr} {sl129 : Array (Option Value)} {oc129 kV129 dc129 pm129 cd129 ct129 : Value}
    (a129 : PySem.W.findIn K (.ref f31) "is_less" = some (some (.ref f129))) (i129 : PySem.W.isFn K (.ref f129) = true)
    (l129 : K.lookup f129 = some ⟨oc129, od129, .func (PySem.W.fnOf "is_less" "Ratio.is_less" (defArgs (inClass (topS 31) 6)) (defBody (inClass (topS 31) 6)) (defScope (inClass (topS 31) 6)) .none kV129 dc129 pm129 an129 cd129 ct129), sl129⟩) (c129 : PySem.W.codeIn K cd129 "Ratio.is_less" = true) (k129 : PySem.W.keepIn K (.ref f129) = true)
    (ff_cs : PySem.W.specialIn K (.builtin "object.__class__") "__get__" = some (some (.builtin "getset_descriptor.__get__")))
    (ff_ct : PySem.W.takesIn K (.builtin "object.__class__") = some true)
    (ff_ciP : PySem.W.findIn K (.ref f54) "__class__" = some (some (.builtin "object.__class__")))
    (ff_moP : PySem.W.mroIn K f54 (.type "object") = some true)
    (ff_kp : PySem.W.kitOne K (.ref f54) (.ref f54) = some true)
    (ff_ciS : PySem.W.findIn K (.ref f71) "__class__" = some (some (.builtin "object.__class__")))
    (ff_moS : PySem.W.mroIn K f71 (.type "object") = some true)
    (ff_kS : PySem.W.kitOne K (.ref f71) (.ref f71) = some true)
    (ff_ciQ : PySem.W.findIn K (.ref f31) "__class__" = some (some (.builtin "object.__class__")))
    (ff_moQ : PySem.W.mroIn K f31 (.type "object") = some true)
    (ff_kQ : PySem.W.kitOne K (.ref f31) (.ref f31) = some true)
    (ff_neQ : PySem.W.findIn K (.ref f31) "__ne__" = some (some (.builtin "object.__ne__")))
    {P120 : Addr} (tb120 : h.get? P120 = some (PySem.W.tabObj #[])) (tn120 : K.lookup P120 = none) (th120 : PySem.W.codeHdIn K cc120 P120 = true)
    : LamX.LawAtS l w K CX0 20 63 "_law_script" mg fa h := by
  have e := hfa.symm.trans (PySem.W.mg_of X G a105)
  cases e
  let A : Nat → Addr := fun i => ([0, 0, f2, f3, f4, f5, f6, f7, f8, f9, f10, f11, f12, f13, f14, f15, 0, f17, f18, 0, 0, 0, f22, f23, f24, f25, f26, 0, 0, 0, 0, f31, f32, f33, 0, 0, 0, 0, f38, f39, f40, f41, f42, f43, f44, f45, f46, f47, f48, f49, f50, f51, 0, 0, f54, f55, f56, 0, 0, 0, 0, f61, f62, f63, f64, f65, 0, f67, f68, 0, 0, f71, 0, f73, f74, 0, 0, f77, f78, f79, f80, f81, 0, f83, f84, f85, f86, f87, f88, 0, f90, f91, f92, f93, f94, f95, f96, f97, f98, f99, f100, f101, f102, f103, f104, fa, f106, f107, f108, f109, f110, f111, f112, f113, f114, f115, f116, f117, f118, f119, f120, f121, f122, f123, f124, f125, f126, f127, f128, f129] : List Addr).getD i 0
  let FD : Nat → FuncData := fun i => ([PySem.W.fnOf "law" "law" (defArgs (topS 105)) (defBody (topS 105)) (defScope (topS 105)) .none kV105 dc105 pm105 an105 cd105 ct105, PySem.W.fnOf "law" "law" (defArgs (topS 105)) (defBody (topS 105)) (defScope (topS 105)) .none kV105 dc105 pm105 an105 cd105 ct105, PySem.W.fnOf "law" "law" (defArgs (topS 105)) (defBody (topS 105)) (defScope (topS 105)) .none kV105 dc105 pm105 an105 cd105 ct105, PySem.W.fnOf "law" "law" (defArgs (topS 105)) (defBody (topS 105)) (defScope (topS 105)) .none kV105 dc105 pm105 an105 cd105 ct105, PySem.W.fnOf "law" "law" (defArgs (topS 105)) (defBody (topS 105)) (defScope (topS 105)) .none kV105 dc105 pm105 an105 cd105 ct105, PySem.W.fnOf "law" "law" (defArgs (topS 105)) (defBody (topS 105)) (defScope (topS 105)) .none kV105 dc105 pm105 an105 cd105 ct105, PySem.W.fnOf "law" "law" (defArgs (topS 105)) (defBody (topS 105)) (defScope (topS 105)) .none kV105 dc105 pm105 an105 cd105 ct105, PySem.W.fnOf "law" "law" (defArgs (topS 105)) (defBody (topS 105)) (defScope (topS 105)) .none kV105 dc105 pm105 an105 cd105 ct105, PySem.W.fnOf "law" "law" (defArgs (topS 105)) (defBody (topS 105)) (defScope (topS 105)) .none kV105 dc105 pm105 an105 cd105 ct105, PySem.W.fnOf "law" "law" (defArgs (topS 105)) (defBody (topS 105)) (defScope (topS 105)) .none kV105 dc105 pm105 an105 cd105 ct105, PySem.W.fnOf "law" "law" (defArgs (topS 105)) (defBody (topS 105)) (defScope (topS 105)) .none kV105 dc105 pm105 an105 cd105 ct105, PySem.W.fnOf "law" "law" (defArgs (topS 105)) (defBody (topS 105)) (defScope (topS 105)) .none kV105 dc105 pm105 an105 cd105 ct105, PySem.W.fnOf "law" "law" (defArgs (topS 105)) (defBody (topS 105)) (defScope (topS 105)) .none kV105 dc105 pm105 an105 cd105 ct105, PySem.W.fnOf "law" "law" (defArgs (topS 105)) (defBody (topS 105)) (defScope (topS 105)) .none kV105 dc105 pm105 an105 cd105 ct105, PySem.W.fnOf "law" "law" (defArgs (topS 105)) (defBody (topS 105)) (defScope (topS 105)) .none kV105 dc105 pm105 an105 cd105 ct105, PySem.W.fnOf "law" "law" (defArgs (topS 105)) (defBody (topS 105)) (defScope (topS 105)) .none kV105 dc105 pm105 an105 cd105 ct105, PySem.W.fnOf "law" "law" (defArgs (topS 105)) (defBody (topS 105)) (defScope (topS 105)) .none kV105 dc105 pm105 an105 cd105 ct105, PySem.W.fnOf "is_whole" "is_whole" (defArgs (topS 17)) (defBody (topS 17)) (defScope (topS 17)) .none kV17 dc17 pm17 an17 cd17 ct17, PySem.W.fnOf "is_within" "is_within" (defArgs (topS 18)) (defBody (topS 18)) (defScope (topS 18)) .none kV18 dc18 pm18 an18 cd18 ct18, PySem.W.fnOf "law" "law" (defArgs (topS 105)) (defBody (topS 105)) (defScope (topS 105)) .none kV105 dc105 pm105 an105 cd105 ct105, PySem.W.fnOf "law" "law" (defArgs (topS 105)) (defBody (topS 105)) (defScope (topS 105)) .none kV105 dc105 pm105 an105 cd105 ct105, PySem.W.fnOf "law" "law" (defArgs (topS 105)) (defBody (topS 105)) (defScope (topS 105)) .none kV105 dc105 pm105 an105 cd105 ct105, PySem.W.fnOf "is_word" "is_word" (defArgs (topS 22)) (defBody (topS 22)) (defScope (topS 22)) .none kV22 dc22 pm22 an22 cd22 ct22, PySem.W.fnOf "are_words" "are_words" (defArgs (topS 23)) (defBody (topS 23)) (defScope (topS 23)) .none kV23 dc23 pm23 an23 cd23 ct23, PySem.W.fnOf "check_word" "check_word" (defArgs (topS 24)) (defBody (topS 24)) (defScope (topS 24)) .none kV24 dc24 pm24 an24 cd24 ct24, PySem.W.fnOf "words_of" "words_of" (defArgs (topS 25)) (defBody (topS 25)) (defScope (topS 25)) .none kV25 dc25 pm25 an25 cd25 ct25, PySem.W.fnOf "check_words" "check_words" (defArgs (topS 26)) (defBody (topS 26)) (defScope (topS 26)) .none kV26 dc26 pm26 an26 cd26 ct26, PySem.W.fnOf "law" "law" (defArgs (topS 105)) (defBody (topS 105)) (defScope (topS 105)) .none kV105 dc105 pm105 an105 cd105 ct105, PySem.W.fnOf "law" "law" (defArgs (topS 105)) (defBody (topS 105)) (defScope (topS 105)) .none kV105 dc105 pm105 an105 cd105 ct105, PySem.W.fnOf "law" "law" (defArgs (topS 105)) (defBody (topS 105)) (defScope (topS 105)) .none kV105 dc105 pm105 an105 cd105 ct105, PySem.W.fnOf "law" "law" (defArgs (topS 105)) (defBody (topS 105)) (defScope (topS 105)) .none kV105 dc105 pm105 an105 cd105 ct105, PySem.W.fnOf "law" "law" (defArgs (topS 105)) (defBody (topS 105)) (defScope (topS 105)) .none kV105 dc105 pm105 an105 cd105 ct105, PySem.W.fnOf "lowest" "lowest" (defArgs (topS 32)) (defBody (topS 32)) (defScope (topS 32)) .none kV32 dc32 pm32 an32 cd32 ct32, PySem.W.fnOf "check_figures" "check_figures" (defArgs (topS 33)) (defBody (topS 33)) (defScope (topS 33)) .none kV33 dc33 pm33 an33 cd33 ct33, PySem.W.fnOf "law" "law" (defArgs (topS 105)) (defBody (topS 105)) (defScope (topS 105)) .none kV105 dc105 pm105 an105 cd105 ct105, PySem.W.fnOf "law" "law" (defArgs (topS 105)) (defBody (topS 105)) (defScope (topS 105)) .none kV105 dc105 pm105 an105 cd105 ct105, PySem.W.fnOf "law" "law" (defArgs (topS 105)) (defBody (topS 105)) (defScope (topS 105)) .none kV105 dc105 pm105 an105 cd105 ct105, PySem.W.fnOf "law" "law" (defArgs (topS 105)) (defBody (topS 105)) (defScope (topS 105)) .none kV105 dc105 pm105 an105 cd105 ct105, PySem.W.fnOf "is_count" "is_count" (defArgs (topS 38)) (defBody (topS 38)) (defScope (topS 38)) .none kV38 dc38 pm38 an38 cd38 ct38, PySem.W.fnOf "code" "code" (defArgs (topS 39)) (defBody (topS 39)) (defScope (topS 39)) .none kV39 dc39 pm39 an39 cd39 ct39, PySem.W.fnOf "code_all" "code_all" (defArgs (topS 40)) (defBody (topS 40)) (defScope (topS 40)) .none kV40 dc40 pm40 an40 cd40 ct40, PySem.W.fnOf "code_entries" "code_entries" (defArgs (topS 41)) (defBody (topS 41)) (defScope (topS 41)) .none kV41 dc41 pm41 an41 cd41 ct41, PySem.W.fnOf "decode_entries" "decode_entries" (defArgs (topS 42)) (defBody (topS 42)) (defScope (topS 42)) .none kV42 dc42 pm42 an42 cd42 ct42, PySem.W.fnOf "check_entries" "check_entries" (defArgs (topS 43)) (defBody (topS 43)) (defScope (topS 43)) .none kV43 dc43 pm43 an43 cd43 ct43, PySem.W.fnOf "is_entry" "is_entry" (defArgs (topS 44)) (defBody (topS 44)) (defScope (topS 44)) .none kV44 dc44 pm44 an44 cd44 ct44, PySem.W.fnOf "are_places" "are_places" (defArgs (topS 45)) (defBody (topS 45)) (defScope (topS 45)) .none kV45 dc45 pm45 an45 cd45 ct45, PySem.W.fnOf "first_fall" "first_fall" (defArgs (topS 46)) (defBody (topS 46)) (defScope (topS 46)) .none kV46 dc46 pm46 an46 cd46 ct46, PySem.W.fnOf "gaps_of" "gaps_of" (defArgs (topS 47)) (defBody (topS 47)) (defScope (topS 47)) .none kV47 dc47 pm47 an47 cd47 ct47, PySem.W.fnOf "risen" "risen" (defArgs (topS 48)) (defBody (topS 48)) (defScope (topS 48)) .none kV48 dc48 pm48 an48 cd48 ct48, PySem.W.fnOf "check_text" "check_text" (defArgs (topS 49)) (defBody (topS 49)) (defScope (topS 49)) .none kV49 dc49 pm49 an49 cd49 ct49, PySem.W.fnOf "read_number" "read_number" (defArgs (topS 50)) (defBody (topS 50)) (defScope (topS 50)) .none kV50 dc50 pm50 an50 cd50 ct50, PySem.W.fnOf "read_numbers" "read_numbers" (defArgs (topS 51)) (defBody (topS 51)) (defScope (topS 51)) .none kV51 dc51 pm51 an51 cd51 ct51, PySem.W.fnOf "law" "law" (defArgs (topS 105)) (defBody (topS 105)) (defScope (topS 105)) .none kV105 dc105 pm105 an105 cd105 ct105, PySem.W.fnOf "law" "law" (defArgs (topS 105)) (defBody (topS 105)) (defScope (topS 105)) .none kV105 dc105 pm105 an105 cd105 ct105, PySem.W.fnOf "law" "law" (defArgs (topS 105)) (defBody (topS 105)) (defScope (topS 105)) .none kV105 dc105 pm105 an105 cd105 ct105, PySem.W.fnOf "check_page_number" "check_page_number" (defArgs (topS 55)) (defBody (topS 55)) (defScope (topS 55)) .none kV55 dc55 pm55 an55 cd55 ct55, PySem.W.fnOf "check_pages" "check_pages" (defArgs (topS 56)) (defBody (topS 56)) (defScope (topS 56)) .none kV56 dc56 pm56 an56 cd56 ct56, PySem.W.fnOf "law" "law" (defArgs (topS 105)) (defBody (topS 105)) (defScope (topS 105)) .none kV105 dc105 pm105 an105 cd105 ct105, PySem.W.fnOf "law" "law" (defArgs (topS 105)) (defBody (topS 105)) (defScope (topS 105)) .none kV105 dc105 pm105 an105 cd105 ct105, PySem.W.fnOf "law" "law" (defArgs (topS 105)) (defBody (topS 105)) (defScope (topS 105)) .none kV105 dc105 pm105 an105 cd105 ct105, PySem.W.fnOf "law" "law" (defArgs (topS 105)) (defBody (topS 105)) (defScope (topS 105)) .none kV105 dc105 pm105 an105 cd105 ct105, PySem.W.fnOf "law" "law" (defArgs (topS 105)) (defBody (topS 105)) (defScope (topS 105)) .none kV105 dc105 pm105 an105 cd105 ct105, PySem.W.fnOf "law" "law" (defArgs (topS 105)) (defBody (topS 105)) (defScope (topS 105)) .none kV105 dc105 pm105 an105 cd105 ct105, PySem.W.fnOf "check_lengths" "check_lengths" (defArgs (topS 63)) (defBody (topS 63)) (defScope (topS 63)) .none kV63 dc63 pm63 an63 cd63 ct63, PySem.W.fnOf "check_size" "check_size" (defArgs (topS 64)) (defBody (topS 64)) (defScope (topS 64)) .none kV64 dc64 pm64 an64 cd64 ct64, PySem.W.fnOf "check_fit" "check_fit" (defArgs (topS 65)) (defBody (topS 65)) (defScope (topS 65)) .none kV65 dc65 pm65 an65 cd65 ct65, PySem.W.fnOf "law" "law" (defArgs (topS 105)) (defBody (topS 105)) (defScope (topS 105)) .none kV105 dc105 pm105 an105 cd105 ct105, PySem.W.fnOf "law" "law" (defArgs (topS 105)) (defBody (topS 105)) (defScope (topS 105)) .none kV105 dc105 pm105 an105 cd105 ct105, PySem.W.fnOf "check_number" "check_number" (defArgs (topS 68)) (defBody (topS 68)) (defScope (topS 68)) .none kV68 dc68 pm68 an68 cd68 ct68, PySem.W.fnOf "law" "law" (defArgs (topS 105)) (defBody (topS 105)) (defScope (topS 105)) .none kV105 dc105 pm105 an105 cd105 ct105, PySem.W.fnOf "law" "law" (defArgs (topS 105)) (defBody (topS 105)) (defScope (topS 105)) .none kV105 dc105 pm105 an105 cd105 ct105, PySem.W.fnOf "law" "law" (defArgs (topS 105)) (defBody (topS 105)) (defScope (topS 105)) .none kV105 dc105 pm105 an105 cd105 ct105, PySem.W.fnOf "law" "law" (defArgs (topS 105)) (defBody (topS 105)) (defScope (topS 105)) .none kV105 dc105 pm105 an105 cd105 ct105, PySem.W.fnOf "rows_of" "rows_of" (defArgs (topS 73)) (defBody (topS 73)) (defScope (topS 73)) .none kV73 dc73 pm73 an73 cd73 ct73, PySem.W.fnOf "places_by_word" "places_by_word" (defArgs (topS 74)) (defBody (topS 74)) (defScope (topS 74)) .none kV74 dc74 pm74 an74 cd74 ct74, PySem.W.fnOf "law" "law" (defArgs (topS 105)) (defBody (topS 105)) (defScope (topS 105)) .none kV105 dc105 pm105 an105 cd105 ct105, PySem.W.fnOf "law" "law" (defArgs (topS 105)) (defBody (topS 105)) (defScope (topS 105)) .none kV105 dc105 pm105 an105 cd105 ct105, PySem.W.fnOf "check_shelf" "check_shelf" (defArgs (topS 77)) (defBody (topS 77)) (defScope (topS 77)) .none kV77 dc77 pm77 an77 cd77 ct77, PySem.W.fnOf "is_shelved" "is_shelved" (defArgs (topS 78)) (defBody (topS 78)) (defScope (topS 78)) .none kV78 dc78 pm78 an78 cd78 ct78, PySem.W.fnOf "are_slots" "are_slots" (defArgs (topS 79)) (defBody (topS 79)) (defScope (topS 79)) .none kV79 dc79 pm79 an79 cd79 ct79, PySem.W.fnOf "standing_slots" "standing_slots" (defArgs (topS 80)) (defBody (topS 80)) (defScope (topS 80)) .none kV80 dc80 pm80 an80 cd80 ct80, PySem.W.fnOf "standing_numbers" "standing_numbers" (defArgs (topS 81)) (defBody (topS 81)) (defScope (topS 81)) .none kV81 dc81 pm81 an81 cd81 ct81, PySem.W.fnOf "law" "law" (defArgs (topS 105)) (defBody (topS 105)) (defScope (topS 105)) .none kV105 dc105 pm105 an105 cd105 ct105, PySem.W.fnOf "law" "law" (defArgs (topS 105)) (defBody (topS 105)) (defScope (topS 105)) .none kV105 dc105 pm105 an105 cd105 ct105, PySem.W.fnOf "standing_words" "standing_words" (defArgs (topS 84)) (defBody (topS 84)) (defScope (topS 84)) .none kV84 dc84 pm84 an84 cd84 ct84, PySem.W.fnOf "standing_holders" "standing_holders" (defArgs (topS 85)) (defBody (topS 85)) (defScope (topS 85)) .none kV85 dc85 pm85 an85 cd85 ct85, PySem.W.fnOf "share" "share" (defArgs (topS 86)) (defBody (topS 86)) (defScope (topS 86)) .none kV86 dc86 pm86 an86 cd86 ct86, PySem.W.fnOf "check_count" "check_count" (defArgs (topS 87)) (defBody (topS 87)) (defScope (topS 87)) .none kV87 dc87 pm87 an87 cd87 ct87, PySem.W.fnOf "bound" "bound" (defArgs (topS 88)) (defBody (topS 88)) (defScope (topS 88)) .none kV88 dc88 pm88 an88 cd88 ct88, PySem.W.fnOf "law" "law" (defArgs (topS 105)) (defBody (topS 105)) (defScope (topS 105)) .none kV105 dc105 pm105 an105 cd105 ct105, PySem.W.fnOf "_law_purse" "_law_purse" (defArgs (topS 90)) (defBody (topS 90)) (defScope (topS 90)) .none kV90 dc90 pm90 an90 cd90 ct90, PySem.W.fnOf "_law_take" "_law_take" (defArgs (topS 91)) (defBody (topS 91)) (defScope (topS 91)) .none kV91 dc91 pm91 an91 cd91 ct91, PySem.W.fnOf "_law_words" "_law_words" (defArgs (topS 92)) (defBody (topS 92)) (defScope (topS 92)) .none kV92 dc92 pm92 an92 cd92 ct92, PySem.W.fnOf "_law_text_words" "_law_text_words" (defArgs (topS 93)) (defBody (topS 93)) (defScope (topS 93)) .none kV93 dc93 pm93 an93 cd93 ct93, PySem.W.fnOf "_law_pages" "_law_pages" (defArgs (topS 94)) (defBody (topS 94)) (defScope (topS 94)) .none kV94 dc94 pm94 an94 cd94 ct94, PySem.W.fnOf "_law_shelf" "_law_shelf" (defArgs (topS 95)) (defBody (topS 95)) (defScope (topS 95)) .none kV95 dc95 pm95 an95 cd95 ct95, PySem.W.fnOf "_law_page" "_law_page" (defArgs (topS 96)) (defBody (topS 96)) (defScope (topS 96)) .none kV96 dc96 pm96 an96 cd96 ct96, PySem.W.fnOf "_law_made" "_law_made" (defArgs (topS 97)) (defBody (topS 97)) (defScope (topS 97)) .none kV97 dc97 pm97 an97 cd97 ct97, PySem.W.fnOf "_law_low" "_law_low" (defArgs (topS 98)) (defBody (topS 98)) (defScope (topS 98)) .none kV98 dc98 pm98 an98 cd98 ct98, PySem.W.fnOf "_law_is_ratio" "_law_is_ratio" (defArgs (topS 99)) (defBody (topS 99)) (defScope (topS 99)) .none kV99 dc99 pm99 an99 cd99 ct99, PySem.W.fnOf "_law_standing" "_law_standing" (defArgs (topS 100)) (defBody (topS 100)) (defScope (topS 100)) .none kV100 dc100 pm100 an100 cd100 ct100, PySem.W.fnOf "_law_holders" "_law_holders" (defArgs (topS 101)) (defBody (topS 101)) (defScope (topS 101)) .none kV101 dc101 pm101 an101 cd101 ct101, PySem.W.fnOf "_law_share" "_law_share" (defArgs (topS 102)) (defBody (topS 102)) (defScope (topS 102)) .none kV102 dc102 pm102 an102 cd102 ct102, PySem.W.fnOf "_law_block_right" "_law_block_right" (defArgs (topS 103)) (defBody (topS 103)) (defScope (topS 103)) .none kV103 dc103 pm103 an103 cd103 ct103, PySem.W.fnOf "_law_segment_right" "_law_segment_right" (defArgs (topS 104)) (defBody (topS 104)) (defScope (topS 104)) .none kV104 dc104 pm104 an104 cd104 ct104, PySem.W.fnOf "law" "law" (defArgs (topS 105)) (defBody (topS 105)) (defScope (topS 105)) .none kV105 dc105 pm105 an105 cd105 ct105, PySem.W.fnOf "__init__" "Page.__init__" (defArgs (inClass (topS 54) 0)) (defBody (inClass (topS 54) 0)) (defScope (inClass (topS 54) 0)) (.ref DT106) kV106 dc106 pm106 an106 cd106 ct106, PySem.W.fnOf "__len__" "Page.__len__" (defArgs (inClass (topS 54) 2)) (defBody (inClass (topS 54) 2)) (defScope (inClass (topS 54) 2)) .none kV107 dc107 pm107 an107 cd107 ct107, PySem.W.fnOf "words" "Page.words" (defArgs (inClass (topS 54) 5)) (defBody (inClass (topS 54) 5)) (defScope (inClass (topS 54) 5)) .none kV108 dc108 pm108 an108 cd108 ct108, PySem.W.fnOf "__init__" "Block.__init__" (defArgs (inClass (topS 61) 0)) (defBody (inClass (topS 61) 0)) (defScope (inClass (topS 61) 0)) .none kV109 dc109 pm109 an109 cd109 ct109, PySem.W.fnOf "__init__" "Row.__init__" (defArgs (inClass (topS 62) 0)) (defBody (inClass (topS 62) 0)) (defScope (inClass (topS 62) 0)) .none (.ref DK110) dc110 pm110 an110 cd110 ct110, PySem.W.fnOf "__len__" "Row.__len__" (defArgs (inClass (topS 62) 2)) (defBody (inClass (topS 62) 2)) (defScope (inClass (topS 62) 2)) .none kV111 dc111 pm111 an111 cd111 ct111, PySem.W.fnOf "blocks" "Row.blocks" (defArgs (inClass (topS 62) 3)) (defBody (inClass (topS 62) 3)) (defScope (inClass (topS 62) 3)) .none kV112 dc112 pm112 an112 cd112 ct112, PySem.W.fnOf "__init__" "Walker.__init__" (defArgs (inClass (topS 67) 0)) (defBody (inClass (topS 67) 0)) (defScope (inClass (topS 67) 0)) .none kV113 dc113 pm113 an113 cd113 ct113, PySem.W.fnOf "slot" "Walker.slot" (defArgs (inClass (topS 67) 1)) (defBody (inClass (topS 67) 1)) (defScope (inClass (topS 67) 1)) .none kV114 dc114 pm114 an114 cd114 ct114, PySem.W.fnOf "seek" "Walker.seek" (defArgs (inClass (topS 67) 3)) (defBody (inClass (topS 67) 3)) (defScope (inClass (topS 67) 3)) .none kV115 dc115 pm115 an115 cd115 ct115, PySem.W.fnOf "entries_in" "Walker.entries_in" (defArgs (inClass (topS 67) 10)) (defBody (inClass (topS 67) 10)) (defScope (inClass (topS 67) 10)) .none kV116 dc116 pm116 an116 cd116 ct116, PySem.W.fnOf "slot_at" "Walker.slot_at" (defArgs (inClass (topS 67) 11)) (defBody (inClass (topS 67) 11)) (defScope (inClass (topS 67) 11)) .none kV117 dc117 pm117 an117 cd117 ct117, PySem.W.fnOf "reaching" "Walker.reaching" (defArgs (inClass (topS 67) 12)) (defBody (inClass (topS 67) 12)) (defScope (inClass (topS 67) 12)) .none kV118 dc118 pm118 an118 cd118 ct118, PySem.W.fnOf "sought" "Walker.sought" (defArgs (inClass (topS 67) 13)) (defBody (inClass (topS 67) 13)) (defScope (inClass (topS 67) 13)) .none kV119 dc119 pm119 an119 cd119 ct119, PySem.W.fnOf "__init__" "Segment.__init__" (defArgs (inClass (topS 71) 0)) (defBody (inClass (topS 71) 0)) (defScope (inClass (topS 71) 0)) .none (.ref DK120) dc120 pm120 an120 (.ref cc120) ct120, PySem.W.fnOf "__len__" "Segment.__len__" (defArgs (inClass (topS 71) 2)) (defBody (inClass (topS 71) 2)) (defScope (inClass (topS 71) 2)) .none kV121 dc121 pm121 an121 cd121 ct121, PySem.W.fnOf "numbers" "Segment.numbers" (defArgs (inClass (topS 71) 3)) (defBody (inClass (topS 71) 3)) (defScope (inClass (topS 71) 3)) .none kV122 dc122 pm122 an122 cd122 ct122, PySem.W.fnOf "lengths" "Segment.lengths" (defArgs (inClass (topS 71) 4)) (defBody (inClass (topS 71) 4)) (defScope (inClass (topS 71) 4)) .none kV123 dc123 pm123 an123 cd123 ct123, PySem.W.fnOf "row" "Segment.row" (defArgs (inClass (topS 71) 6)) (defBody (inClass (topS 71) 6)) (defScope (inClass (topS 71) 6)) .none kV124 dc124 pm124 an124 cd124 ct124, PySem.W.fnOf "__init__" "Figures.__init__" (defArgs (inClass (topS 83) 0)) (defBody (inClass (topS 83) 0)) (defScope (inClass (topS 83) 0)) .none kV125 dc125 pm125 an125 cd125 ct125, PySem.W.fnOf "holders" "Figures.holders" (defArgs (inClass (topS 83) 1)) (defBody (inClass (topS 83) 1)) (defScope (inClass (topS 83) 1)) .none kV126 dc126 pm126 an126 cd126 ct126, PySem.W.fnOf "__init__" "Ratio.__init__" (defArgs (inClass (topS 31) 0)) (defBody (inClass (topS 31) 0)) (defScope (inClass (topS 31) 0)) (.ref DT127) kV127 dc127 pm127 an127 cd127 ct127, PySem.W.fnOf "__eq__" "Ratio.__eq__" (defArgs (inClass (topS 31) 1)) (defBody (inClass (topS 31) 1)) (defScope (inClass (topS 31) 1)) .none kV128 dc128 pm128 an128 cd128 ct128, PySem.W.fnOf "is_less" "Ratio.is_less" (defArgs (inClass (topS 31) 6)) (defBody (inClass (topS 31) 6)) (defScope (inClass (topS 31) 6)) .none kV129 dc129 pm129 an129 cd129 ct129] : List FuncData).getD i (PySem.W.fnOf "law" "law" (defArgs (topS 105)) (defBody (topS 105)) (defScope (topS 105)) .none kV105 dc105 pm105 an105 cd105 ct105)
  let TK : Nat → Tok := fun i => ([0, 0, 0, 0, 0, 0, 0, 0, 0, 0, 0, 0, 0, 0, 0, 0, 0, 0, 0, 0, tk20, tk21, 0, 0, 0, 0, 0, 0, tk28, tk29, tk30, 0, 0, 0, 0, 0, tk36, tk37, 0, 0, 0, 0, 0, 0, 0, 0, 0, 0, 0, 0, 0, 0, 0, tk53, 0, 0, 0, 0, tk58, tk59, tk60, 0, 0, 0, 0, 0, 0, 0, 0, 0, 0, 0, 0, 0, 0, 0, tk76] : List Tok).getD i 0
  let CC : Nat → Addr := fun i => ([0, 0, 0, 0, 0, 0, 0, 0, 0, 0, 0, 0, 0, 0, 0, 0, 0, 0, 0, 0, 0, 0, 0, 0, 0, 0, 0, 0, 0, 0, 0, 0, 0, 0, 0, 0, 0, 0, 0, 0, 0, 0, 0, 0, 0, 0, 0, 0, 0, 0, 0, 0, 0, 0, 0, 0, 0, 0, 0, 0, 0, 0, 0, 0, 0, 0, 0, 0, 0, 0, 0, 0, 0, 0, 0, 0, 0, 0, 0, 0, 0, 0, 0, 0, 0, 0, 0, 0, 0, 0, 0, 0, 0, 0, 0, 0, 0, 0, 0, 0, 0, 0, 0, 0, 0, 0, 0, 0, 0, 0, 0, 0, 0, 0, 0, 0, 0, 0, 0, 0, cc120, 0, 0, 0, 0, 0, 0, 0, 0, 0] : List Addr).getD i 0
  have T : TX K mg A FD TK CC := {
    f_is_whole := fun_mk (st := topS 17) l17 c17 k17
    b_is_whole := (fun_mk (st := topS 17) l17 c17 k17).binds (ps := ["thing"]) fun _ _ _ _ _ _ us hl => match us, hl with | [_], _ => rfl
    g_is_whole := PySem.W.mg_of X G a17
    f_is_within := fun_mk (st := topS 18) l18 c18 k18
    b_is_within := (fun_mk (st := topS 18) l18 c18 k18).binds (ps := ["thing", "least", "most"]) fun _ _ _ _ _ _ us hl => match us, hl with | [_, _, _], _ => rfl
    g_is_within := PySem.W.mg_of X G a18
    f_is_word := fun_mk (st := topS 22) l22 c22 k22
    b_is_word := (fun_mk (st := topS 22) l22 c22 k22).binds (ps := ["thing"]) fun _ _ _ _ _ _ us hl => match us, hl with | [_], _ => rfl
    g_is_word := PySem.W.mg_of X G a22
    f_are_words := fun_mk (st := topS 23) l23 c23 k23
    b_are_words := (fun_mk (st := topS 23) l23 c23 k23).binds (ps := ["things"]) fun _ _ _ _ _ _ us hl => match us, hl with | [_], _ => rfl
    g_are_words := PySem.W.mg_of X G a23
    f_check_word := fun_mk (st := topS 24) l24 c24 k24
    b_check_word := (fun_mk (st := topS 24) l24 c24 k24).binds (ps := ["word"]) fun _ _ _ _ _ _ us hl => match us, hl with | [_], _ => rfl
    g_check_word := PySem.W.mg_of X G a24
    f_words_of := fun_mk (st := topS 25) l25 c25 k25
    b_words_of := (fun_mk (st := topS 25) l25 c25 k25).binds (ps := ["text"]) fun _ _ _ _ _ _ us hl => match us, hl with | [_], _ => rfl
    g_words_of := PySem.W.mg_of X G a25
    f_check_words := fun_mk (st := topS 26) l26 c26 k26
    b_check_words := (fun_mk (st := topS 26) l26 c26 k26).binds (ps := ["words"]) fun _ _ _ _ _ _ us hl => match us, hl with | [_], _ => rfl
    g_check_words := PySem.W.mg_of X G a26
    f_lowest := fun_mk (st := topS 32) l32 c32 k32
    b_lowest := (fun_mk (st := topS 32) l32 c32 k32).binds (ps := ["top", "bottom"]) fun _ _ _ _ _ _ us hl => match us, hl with | [_, _], _ => rfl
    g_lowest := PySem.W.mg_of X G a32
    f_check_figures := fun_mk (st := topS 33) l33 c33 k33
    b_check_figures := (fun_mk (st := topS 33) l33 c33 k33).binds (ps := ["number"]) fun _ _ _ _ _ _ us hl => match us, hl with | [_], _ => rfl
    g_check_figures := PySem.W.mg_of X G a33
    f_is_count := fun_mk (st := topS 38) l38 c38 k38
    b_is_count := (fun_mk (st := topS 38) l38 c38 k38).binds (ps := ["thing"]) fun _ _ _ _ _ _ us hl => match us, hl with | [_], _ => rfl
    g_is_count := PySem.W.mg_of X G a38
    f_code := fun_mk (st := topS 39) l39 c39 k39
    b_code := (fun_mk (st := topS 39) l39 c39 k39).binds (ps := ["number"]) fun _ _ _ _ _ _ us hl => match us, hl with | [_], _ => rfl
    g_code := PySem.W.mg_of X G a39
    f_code_all := fun_mk (st := topS 40) l40 c40 k40
    b_code_all := (fun_mk (st := topS 40) l40 c40 k40).binds (ps := ["numbers"]) fun _ _ _ _ _ _ us hl => match us, hl with | [_], _ => rfl
    g_code_all := PySem.W.mg_of X G a40
    f_code_entries := fun_mk (st := topS 41) l41 c41 k41
    b_code_entries := (fun_mk (st := topS 41) l41 c41 k41).binds (ps := ["entries"]) fun _ _ _ _ _ _ us hl => match us, hl with | [_], _ => rfl
    g_code_entries := PySem.W.mg_of X G a41
    f_decode_entries := fun_mk (st := topS 42) l42 c42 k42
    b_decode_entries := (fun_mk (st := topS 42) l42 c42 k42).binds (ps := ["text"]) fun _ _ _ _ _ _ us hl => match us, hl with | [_], _ => rfl
    g_decode_entries := PySem.W.mg_of X G a42
    f_check_entries := fun_mk (st := topS 43) l43 c43 k43
    b_check_entries := (fun_mk (st := topS 43) l43 c43 k43).binds (ps := ["entries"]) fun _ _ _ _ _ _ us hl => match us, hl with | [_], _ => rfl
    g_check_entries := PySem.W.mg_of X G a43
    f_is_entry := fun_mk (st := topS 44) l44 c44 k44
    b_is_entry := (fun_mk (st := topS 44) l44 c44 k44).binds (ps := ["thing"]) fun _ _ _ _ _ _ us hl => match us, hl with | [_], _ => rfl
    g_is_entry := PySem.W.mg_of X G a44
    f_are_places := fun_mk (st := topS 45) l45 c45 k45
    b_are_places := (fun_mk (st := topS 45) l45 c45 k45).binds (ps := ["thing"]) fun _ _ _ _ _ _ us hl => match us, hl with | [_], _ => rfl
    g_are_places := PySem.W.mg_of X G a45
    f_first_fall := fun_mk (st := topS 46) l46 c46 k46
    b_first_fall := (fun_mk (st := topS 46) l46 c46 k46).binds (ps := ["things"]) fun _ _ _ _ _ _ us hl => match us, hl with | [_], _ => rfl
    g_first_fall := PySem.W.mg_of X G a46
    f_gaps_of := fun_mk (st := topS 47) l47 c47 k47
    b_gaps_of := (fun_mk (st := topS 47) l47 c47 k47).binds (ps := ["numbers"]) fun _ _ _ _ _ _ us hl => match us, hl with | [_], _ => rfl
    g_gaps_of := PySem.W.mg_of X G a47
    f_risen := fun_mk (st := topS 48) l48 c48 k48
    b_risen := (fun_mk (st := topS 48) l48 c48 k48).binds (ps := ["gaps"]) fun _ _ _ _ _ _ us hl => match us, hl with | [_], _ => rfl
    g_risen := PySem.W.mg_of X G a48
    f_check_text := fun_mk (st := topS 49) l49 c49 k49
    b_check_text := (fun_mk (st := topS 49) l49 c49 k49).binds (ps := ["text"]) fun _ _ _ _ _ _ us hl => match us, hl with | [_], _ => rfl
    g_check_text := PySem.W.mg_of X G a49
    f_read_number := fun_mk (st := topS 50) l50 c50 k50
    b_read_number := (fun_mk (st := topS 50) l50 c50 k50).binds (ps := ["text", "start"]) fun _ _ _ _ _ _ us hl => match us, hl with | [_, _], _ => rfl
    g_read_number := PySem.W.mg_of X G a50
    f_read_numbers := fun_mk (st := topS 51) l51 c51 k51
    b_read_numbers := (fun_mk (st := topS 51) l51 c51 k51).binds (ps := ["text", "at", "many"]) fun _ _ _ _ _ _ us hl => match us, hl with | [_, _, _], _ => rfl
    g_read_numbers := PySem.W.mg_of X G a51
    f_check_page_number := fun_mk (st := topS 55) l55 c55 k55
    b_check_page_number := (fun_mk (st := topS 55) l55 c55 k55).binds (ps := ["number"]) fun _ _ _ _ _ _ us hl => match us, hl with | [_], _ => rfl
    g_check_page_number := PySem.W.mg_of X G a55
    f_check_pages := fun_mk (st := topS 56) l56 c56 k56
    g_check_pages := PySem.W.mg_of X G a56
    f_check_lengths := fun_mk (st := topS 63) l63 c63 k63
    b_check_lengths := (fun_mk (st := topS 63) l63 c63 k63).binds (ps := ["lengths"]) fun _ _ _ _ _ _ us hl => match us, hl with | [_], _ => rfl
    g_check_lengths := PySem.W.mg_of X G a63
    f_check_size := fun_mk (st := topS 64) l64 c64 k64
    b_check_size := (fun_mk (st := topS 64) l64 c64 k64).binds (ps := ["size"]) fun _ _ _ _ _ _ us hl => match us, hl with | [_], _ => rfl
    g_check_size := PySem.W.mg_of X G a64
    f_check_fit := fun_mk (st := topS 65) l65 c65 k65
    b_check_fit := (fun_mk (st := topS 65) l65 c65 k65).binds (ps := ["entries", "lengths"]) fun _ _ _ _ _ _ us hl => match us, hl with | [_, _], _ => rfl
    g_check_fit := PySem.W.mg_of X G a65
    f_check_number := fun_mk (st := topS 68) l68 c68 k68
    b_check_number := (fun_mk (st := topS 68) l68 c68 k68).binds (ps := ["slot"]) fun _ _ _ _ _ _ us hl => match us, hl with | [_], _ => rfl
    g_check_number := PySem.W.mg_of X G a68
    f_rows_of := fun_mk (st := topS 73) l73 c73 k73
    b_rows_of := (fun_mk (st := topS 73) l73 c73 k73).binds (ps := ["pages", "size"]) fun _ _ _ _ _ _ us hl => match us, hl with | [_, _], _ => rfl
    g_rows_of := PySem.W.mg_of X G a73
    f_places_by_word := fun_mk (st := topS 74) l74 c74 k74
    b_places_by_word := (fun_mk (st := topS 74) l74 c74 k74).binds (ps := ["page"]) fun _ _ _ _ _ _ us hl => match us, hl with | [_], _ => rfl
    g_places_by_word := PySem.W.mg_of X G a74
    f_check_shelf := fun_mk (st := topS 77) l77 c77 k77
    b_check_shelf := (fun_mk (st := topS 77) l77 c77 k77).binds (ps := ["shelf"]) fun _ _ _ _ _ _ us hl => match us, hl with | [_], _ => rfl
    g_check_shelf := PySem.W.mg_of X G a77
    f_is_shelved := fun_mk (st := topS 78) l78 c78 k78
    b_is_shelved := (fun_mk (st := topS 78) l78 c78 k78).binds (ps := ["thing"]) fun _ _ _ _ _ _ us hl => match us, hl with | [_], _ => rfl
    g_is_shelved := PySem.W.mg_of X G a78
    f_are_slots := fun_mk (st := topS 79) l79 c79 k79
    b_are_slots := (fun_mk (st := topS 79) l79 c79 k79).binds (ps := ["things", "many"]) fun _ _ _ _ _ _ us hl => match us, hl with | [_, _], _ => rfl
    g_are_slots := PySem.W.mg_of X G a79
    f_standing_slots := fun_mk (st := topS 80) l80 c80 k80
    b_standing_slots := (fun_mk (st := topS 80) l80 c80 k80).binds (ps := ["segment", "gone"]) fun _ _ _ _ _ _ us hl => match us, hl with | [_, _], _ => rfl
    g_standing_slots := PySem.W.mg_of X G a80
    f_standing_numbers := fun_mk (st := topS 81) l81 c81 k81
    b_standing_numbers := (fun_mk (st := topS 81) l81 c81 k81).binds (ps := ["segment", "gone"]) fun _ _ _ _ _ _ us hl => match us, hl with | [_, _], _ => rfl
    g_standing_numbers := PySem.W.mg_of X G a81
    f_standing_words := fun_mk (st := topS 84) l84 c84 k84
    b_standing_words := (fun_mk (st := topS 84) l84 c84 k84).binds (ps := ["segment", "gone"]) fun _ _ _ _ _ _ us hl => match us, hl with | [_, _], _ => rfl
    g_standing_words := PySem.W.mg_of X G a84
    f_standing_holders := fun_mk (st := topS 85) l85 c85 k85
    b_standing_holders := (fun_mk (st := topS 85) l85 c85 k85).binds (ps := ["segment", "gone", "word"]) fun _ _ _ _ _ _ us hl => match us, hl with | [_, _, _], _ => rfl
    g_standing_holders := PySem.W.mg_of X G a85
    f_share := fun_mk (st := topS 86) l86 c86 k86
    b_share := (fun_mk (st := topS 86) l86 c86 k86).binds (ps := ["figures", "word", "often", "length"]) fun _ _ _ _ _ _ us hl => match us, hl with | [_, _, _, _], _ => rfl
    g_share := PySem.W.mg_of X G a86
    f_check_count := fun_mk (st := topS 87) l87 c87 k87
    b_check_count := (fun_mk (st := topS 87) l87 c87 k87).binds (ps := ["many"]) fun _ _ _ _ _ _ us hl => match us, hl with | [_], _ => rfl
    g_check_count := PySem.W.mg_of X G a87
    f_bound := fun_mk (st := topS 88) l88 c88 k88
    b_bound := (fun_mk (st := topS 88) l88 c88 k88).binds (ps := ["figures", "row", "block"]) fun _ _ _ _ _ _ us hl => match us, hl with | [_, _, _], _ => rfl
    g_bound := PySem.W.mg_of X G a88
    f_l_purse := fun_mk (st := topS 90) l90 c90 k90
    b_l_purse := (fun_mk (st := topS 90) l90 c90 k90).binds (ps := ["_law_script", "_law_at"]) fun _ _ _ _ _ _ us hl => match us, hl with | [_, _], _ => rfl
    g_l_purse := PySem.W.mg_of X G a90
    f_l_take := fun_mk (st := topS 91) l91 c91 k91
    b_l_take := (fun_mk (st := topS 91) l91 c91 k91).binds (ps := ["_law_purse_here", "_law_many"]) fun _ _ _ _ _ _ us hl => match us, hl with | [_, _], _ => rfl
    g_l_take := PySem.W.mg_of X G a91
    f_l_words := fun_mk (st := topS 92) l92 c92 k92
    b_l_words := (fun_mk (st := topS 92) l92 c92 k92).binds (ps := ["_law_purse_here"]) fun _ _ _ _ _ _ us hl => match us, hl with | [_], _ => rfl
    g_l_words := PySem.W.mg_of X G a92
    f_l_text_words := fun_mk (st := topS 93) l93 c93 k93
    b_l_text_words := (fun_mk (st := topS 93) l93 c93 k93).binds (ps := ["_law_purse_here", "_law_words_here", "_law_is_long"]) fun _ _ _ _ _ _ us hl => match us, hl with | [_, _, _], _ => rfl
    g_l_text_words := PySem.W.mg_of X G a93
    f_l_pages := fun_mk (st := topS 94) l94 c94 k94
    b_l_pages := (fun_mk (st := topS 94) l94 c94 k94).binds (ps := ["_law_purse_here", "_law_words_here", "_law_many", "_law_most"]) fun _ _ _ _ _ _ us hl => match us, hl with | [_, _, _, _], _ => rfl
    g_l_pages := PySem.W.mg_of X G a94
    f_l_shelf := fun_mk (st := topS 95) l95 c95 k95
    b_l_shelf := (fun_mk (st := topS 95) l95 c95 k95).binds (ps := ["_law_purse_here", "_law_words_here", "_law_segments", "_law_most"]) fun _ _ _ _ _ _ us hl => match us, hl with | [_, _, _, _], _ => rfl
    g_l_shelf := PySem.W.mg_of X G a95
    f_l_page := fun_mk (st := topS 96) l96 c96 k96
    b_l_page := (fun_mk (st := topS 96) l96 c96 k96).binds (ps := ["_law_page_here"]) fun _ _ _ _ _ _ us hl => match us, hl with | [_], _ => rfl
    g_l_page := PySem.W.mg_of X G a96
    f_l_made := fun_mk (st := topS 97) l97 c97 k97
    b_l_made := (fun_mk (st := topS 97) l97 c97 k97).binds (ps := ["_law_shelf_here"]) fun _ _ _ _ _ _ us hl => match us, hl with | [_], _ => rfl
    g_l_made := PySem.W.mg_of X G a97
    f_l_low := fun_mk (st := topS 98) l98 c98 k98
    b_l_low := (fun_mk (st := topS 98) l98 c98 k98).binds (ps := ["_law_upper", "_law_lower"]) fun _ _ _ _ _ _ us hl => match us, hl with | [_, _], _ => rfl
    g_l_low := PySem.W.mg_of X G a98
    f_l_is_ratio := fun_mk (st := topS 99) l99 c99 k99
    b_l_is_ratio := (fun_mk (st := topS 99) l99 c99 k99).binds (ps := ["_law_told", "_law_due"]) fun _ _ _ _ _ _ us hl => match us, hl with | [_, _], _ => rfl
    g_l_is_ratio := PySem.W.mg_of X G a99
    f_l_standing := fun_mk (st := topS 100) l100 c100 k100
    b_l_standing := (fun_mk (st := topS 100) l100 c100 k100).binds (ps := ["_law_shelf_here"]) fun _ _ _ _ _ _ us hl => match us, hl with | [_], _ => rfl
    g_l_standing := PySem.W.mg_of X G a100
    f_l_holders := fun_mk (st := topS 101) l101 c101 k101
    b_l_holders := (fun_mk (st := topS 101) l101 c101 k101).binds (ps := ["_law_alive", "_law_word"]) fun _ _ _ _ _ _ us hl => match us, hl with | [_, _], _ => rfl
    g_l_holders := PySem.W.mg_of X G a101
    f_l_share := fun_mk (st := topS 102) l102 c102 k102
    b_l_share := (fun_mk (st := topS 102) l102 c102 k102).binds (ps := ["_law_alive", "_law_word", "_law_often", "_law_length"]) fun _ _ _ _ _ _ us hl => match us, hl with | [_, _, _, _], _ => rfl
    g_l_share := PySem.W.mg_of X G a102
    f_l_block_right := fun_mk (st := topS 103) l103 c103 k103
    b_l_block_right := (fun_mk (st := topS 103) l103 c103 k103).binds (ps := ["_law_figures", "_law_alive", "_law_row", "_law_block", "_law_here"]) fun _ _ _ _ _ _ us hl => match us, hl with | [_, _, _, _, _], _ => rfl
    g_l_block_right := PySem.W.mg_of X G a103
    f_l_segment_right := fun_mk (st := topS 104) l104 c104 k104
    b_l_segment_right := (fun_mk (st := topS 104) l104 c104 k104).binds (ps := ["_law_figures", "_law_alive", "_law_segment", "_law_pages_here", "_law_broad", "_law_word"]) fun _ _ _ _ _ _ us hl => match us, hl with | [_, _, _, _, _, _], _ => rfl
    g_l_segment_right := PySem.W.mg_of X G a104
    f_law := fun_mk (st := topS 105) l105 c105 k105
    b_law := (fun_mk (st := topS 105) l105 c105 k105).binds (ps := ["_law_script"]) fun _ _ _ _ _ _ us hl => match us, hl with | [_], _ => rfl
    g_law := PySem.W.mg_of X G a105
    m_IndexError := PySem.W.mg_none_of X G z_IndexError
    m_KeyError := PySem.W.mg_none_of X G z_KeyError
    m_ValueError := PySem.W.mg_none_of X G z_ValueError
    m_ZeroDivisionError := PySem.W.mg_none_of X G z_ZeroDivisionError
    m_abs := PySem.W.mg_none_of X G z_abs
    m_all := PySem.W.mg_none_of X G z_all
    m_bool := PySem.W.mg_none_of X G z_bool
    m_divmod := PySem.W.mg_none_of X G z_divmod
    m_enumerate := PySem.W.mg_none_of X G z_enumerate
    m_int := PySem.W.mg_none_of X G z_int
    m_isinstance := PySem.W.mg_none_of X G z_isinstance
    m_len := PySem.W.mg_none_of X G z_len
    m_list := PySem.W.mg_none_of X G z_list
    m_max := PySem.W.mg_none_of X G z_max
    m_min := PySem.W.mg_none_of X G z_min
    m_range := PySem.W.mg_none_of X G z_range
    m_set := PySem.W.mg_none_of X G z_set
    m_sorted := PySem.W.mg_none_of X G z_sorted
    m_str := PySem.W.mg_none_of X G z_str
    m_sum := PySem.W.mg_none_of X G z_sum
    m_tuple := PySem.W.mg_none_of X G z_tuple
    m_zip := PySem.W.mg_none_of X G z_zip
    c_MOST_LETTERS := PySem.W.mg_of X G e20
    c_MOST_WORDS := PySem.W.mg_of X G e21
    c_TOO_GREAT := PySem.W.mg_of X G e28
    c_FIGURES_AT_ONCE := PySem.W.mg_of X G e29
    c_ONE_BEYOND := PySem.W.mg_of X G e30
    c_DIGITS_AHEAD := PySem.W.mg_of X G e36
    c_LAST_DIGITS := PySem.W.mg_of X G e37
    c_MOST_NUMBER := PySem.W.mg_of X G e53
    c_SIZE := PySem.W.mg_of X G e58
    c_MOST_SIZE := PySem.W.mg_of X G e59
    c_MOST_LENGTHS := PySem.W.mg_of X G e60
    c_MOST_SEGMENTS := PySem.W.mg_of X G e76
    k_Wrong := PySem.W.mg_of X G a2
    k_NoWord := PySem.W.mg_of X G a3
    k_NoText := PySem.W.mg_of X G a4
    k_NoNumber := PySem.W.mg_of X G a5
    k_NoSize := PySem.W.mg_of X G a6
    k_NoLengths := PySem.W.mg_of X G a7
    k_NoCode := PySem.W.mg_of X G a8
    k_NoRow := PySem.W.mg_of X G a9
    k_NoEntries := PySem.W.mg_of X G a10
    k_NoPages := PySem.W.mg_of X G a11
    k_NoShelf := PySem.W.mg_of X G a12
    k_NoPlace := PySem.W.mg_of X G a13
    k_NoSlot := PySem.W.mg_of X G a14
    k_NoRatio := PySem.W.mg_of X G a15
    k_Ratio := PySem.W.mg_of X G a31
    k_Page := PySem.W.mg_of X G a54
    k_Block := PySem.W.mg_of X G a61
    k_Row := PySem.W.mg_of X G a62
    k_Walker := PySem.W.mg_of X G a67
    k_Segment := PySem.W.mg_of X G a71
    k_Figures := PySem.W.mg_of X G a83
    cl_Page := ⟨pg54, hd54, po54, sa54⟩
    n_Page_number := na54_number
    n_Page_in_turn := na54_in_turn
    cl_Block := ⟨pg61, hd61, po61, sa61⟩
    n_Block_first := na61_first
    n_Block_last := na61_last
    n_Block_many := na61_many
    n_Block_most := na61_most
    n_Block_least := na61_least
    n_Block_coded := na61_coded
    cl_Row := ⟨pg62, hd62, po62, sa62⟩
    n_Row_word := na62_word
    n_Row_size := na62_size
    n_Row_cut := na62_cut
    cl_Walker := ⟨pg67, hd67, po67, sa67⟩
    n_Walker_heads := na67_heads
    n_Walker_decoded := na67_decoded
    n_Walker_standing := na67_standing
    cl_Segment := ⟨pg71, hd71, po71, sa71⟩
    n_Segment_size := na71_size
    n_Segment_slot_numbers := na71_slot_numbers
    n_Segment_slot_lengths := na71_slot_lengths
    n_Segment_rows := na71_rows
    cl_Figures := ⟨pg83, hd83, po83, sa83⟩
    n_Figures_parts := na83_parts
    n_Figures_pages_in_all := na83_pages_in_all
    n_Figures_words_in_all := na83_words_in_all
    n_Figures_counted := na83_counted
    cl_Ratio := ⟨pg31, hd31, po31, sa31⟩
    n_Ratio_top := na31_top
    n_Ratio_bottom := na31_bottom
    f_Page_init := ⟨⟨oc106, od106, .ref DT106, kV106, dc106, pm106, an106, cd106, ct106, sl106, rfl, l106, c106, .inr ⟨by simp, DT106, _, [_], nd106, rfl, dt106, rfl, (.cons ⟨_, rfl⟩ .nil)⟩, .inl rfl⟩, k106⟩
    M_Page := ⟨mk54, a106, i106, kc54⟩
    f_Page_len := fun_mk (st := inClass (topS 54) 2) l107 c107 k107
    b_Page_len := (fun_mk (st := inClass (topS 54) 2) l107 c107 k107).binds (ps := ["self"]) fun _ _ _ _ _ _ us hl => match us, hl with | [_], _ => rfl
    M_Page_len := ⟨a107, i107, k107⟩
    f_Page_words := fun_mk (st := inClass (topS 54) 5) l108 c108 k108
    b_Page_words := (fun_mk (st := inClass (topS 54) 5) l108 c108 k108).binds (ps := ["self"]) fun _ _ _ _ _ _ us hl => match us, hl with | [_], _ => rfl
    M_Page_words := ⟨a108, i108, k108⟩
    f_Block_init := fun_mk (st := inClass (topS 61) 0) l109 c109 k109
    b_Block_init := (fun_mk (st := inClass (topS 61) 0) l109 c109 k109).binds (ps := ["self", "entries", "lengths"]) fun _ _ _ _ _ _ us hl => match us, hl with | [_, _, _], _ => rfl
    M_Block := ⟨mk61, a109, i109, kc61⟩
    f_Row_init := ⟨⟨oc110, od110, .none, .ref DK110, dc110, pm110, an110, cd110, ct110, sl110, rfl, l110, c110, .inl ⟨rfl, rfl⟩, .inr ⟨DK110, rfl, fun q hq => by
        simp only [List.mem_cons, List.not_mem_nil, or_false] at hq
        subst hq
        exact ⟨_, dk110_0, ⟨_, rfl⟩⟩⟩⟩, k110⟩
    M_Row := ⟨mk62, a110, i110, kc62⟩
    f_Row_len := fun_mk (st := inClass (topS 62) 2) l111 c111 k111
    b_Row_len := (fun_mk (st := inClass (topS 62) 2) l111 c111 k111).binds (ps := ["self"]) fun _ _ _ _ _ _ us hl => match us, hl with | [_], _ => rfl
    M_Row_len := ⟨a111, i111, k111⟩
    f_Row_blocks := fun_mk (st := inClass (topS 62) 3) l112 c112 k112
    b_Row_blocks := (fun_mk (st := inClass (topS 62) 3) l112 c112 k112).binds (ps := ["self"]) fun _ _ _ _ _ _ us hl => match us, hl with | [_], _ => rfl
    M_Row_blocks := ⟨a112, i112, k112⟩
    f_Walker_init := fun_mk (st := inClass (topS 67) 0) l113 c113 k113
    b_Walker_init := (fun_mk (st := inClass (topS 67) 0) l113 c113 k113).binds (ps := ["self", "row"]) fun _ _ _ _ _ _ us hl => match us, hl with | [_, _], _ => rfl
    M_Walker := ⟨mk67, a113, i113, kc67⟩
    f_Walker_slot := fun_mk (st := inClass (topS 67) 1) l114 c114 k114
    b_Walker_slot := (fun_mk (st := inClass (topS 67) 1) l114 c114 k114).binds (ps := ["self"]) fun _ _ _ _ _ _ us hl => match us, hl with | [_], _ => rfl
    M_Walker_slot := ⟨a114, i114, k114⟩
    f_Walker_seek := fun_mk (st := inClass (topS 67) 3) l115 c115 k115
    b_Walker_seek := (fun_mk (st := inClass (topS 67) 3) l115 c115 k115).binds (ps := ["self", "slot"]) fun _ _ _ _ _ _ us hl => match us, hl with | [_, _], _ => rfl
    M_Walker_seek := ⟨a115, i115, k115⟩
    f_Walker_entries_in := fun_mk (st := inClass (topS 67) 10) l116 c116 k116
    b_Walker_entries_in := (fun_mk (st := inClass (topS 67) 10) l116 c116 k116).binds (ps := ["self", "at"]) fun _ _ _ _ _ _ us hl => match us, hl with | [_, _], _ => rfl
    M_Walker_entries_in := ⟨a116, i116, k116⟩
    f_Walker_slot_at := fun_mk (st := inClass (topS 67) 11) l117 c117 k117
    b_Walker_slot_at := (fun_mk (st := inClass (topS 67) 11) l117 c117 k117).binds (ps := ["self", "standing"]) fun _ _ _ _ _ _ us hl => match us, hl with | [_, _], _ => rfl
    M_Walker_slot_at := ⟨a117, i117, k117⟩
    f_Walker_reaching := fun_mk (st := inClass (topS 67) 12) l118 c118 k118
    b_Walker_reaching := (fun_mk (st := inClass (topS 67) 12) l118 c118 k118).binds (ps := ["self", "slot", "at"]) fun _ _ _ _ _ _ us hl => match us, hl with | [_, _, _], _ => rfl
    M_Walker_reaching := ⟨a118, i118, k118⟩
    f_Walker_sought := fun_mk (st := inClass (topS 67) 13) l119 c119 k119
    b_Walker_sought := (fun_mk (st := inClass (topS 67) 13) l119 c119 k119).binds (ps := ["self", "slot", "standing"]) fun _ _ _ _ _ _ us hl => match us, hl with | [_, _, _], _ => rfl
    M_Walker_sought := ⟨a119, i119, k119⟩
    f_Segment_init := ⟨⟨oc120, od120, .none, .ref DK120, dc120, pm120, an120, (.ref cc120), ct120, sl120, rfl, l120, c120, .inl ⟨rfl, rfl⟩, .inr ⟨DK120, rfl, fun q hq => by
        simp only [List.mem_cons, List.not_mem_nil, or_false] at hq
        subst hq
        exact ⟨_, dk120_0, ⟨_, rfl⟩⟩⟩⟩, k120⟩
    F_Segment_init := ⟨⟨oc120, od120, .none, .ref DK120, dc120, pm120, an120, ct120, sl120, rfl, l120, c120⟩, k120⟩
    M_Segment := ⟨mk71, a120, i120, kc71⟩
    f_Segment_len := fun_mk (st := inClass (topS 71) 2) l121 c121 k121
    b_Segment_len := (fun_mk (st := inClass (topS 71) 2) l121 c121 k121).binds (ps := ["self"]) fun _ _ _ _ _ _ us hl => match us, hl with | [_], _ => rfl
    M_Segment_len := ⟨a121, i121, k121⟩
    f_Segment_numbers := fun_mk (st := inClass (topS 71) 3) l122 c122 k122
    b_Segment_numbers := (fun_mk (st := inClass (topS 71) 3) l122 c122 k122).binds (ps := ["self"]) fun _ _ _ _ _ _ us hl => match us, hl with | [_], _ => rfl
    M_Segment_numbers := ⟨a122, i122, k122⟩
    f_Segment_lengths := fun_mk (st := inClass (topS 71) 4) l123 c123 k123
    b_Segment_lengths := (fun_mk (st := inClass (topS 71) 4) l123 c123 k123).binds (ps := ["self"]) fun _ _ _ _ _ _ us hl => match us, hl with | [_], _ => rfl
    M_Segment_lengths := ⟨a123, i123, k123⟩
    f_Segment_row := fun_mk (st := inClass (topS 71) 6) l124 c124 k124
    b_Segment_row := (fun_mk (st := inClass (topS 71) 6) l124 c124 k124).binds (ps := ["self", "word"]) fun _ _ _ _ _ _ us hl => match us, hl with | [_, _], _ => rfl
    M_Segment_row := ⟨a124, i124, k124⟩
    f_Figures_init := fun_mk (st := inClass (topS 83) 0) l125 c125 k125
    b_Figures_init := (fun_mk (st := inClass (topS 83) 0) l125 c125 k125).binds (ps := ["self", "shelf"]) fun _ _ _ _ _ _ us hl => match us, hl with | [_, _], _ => rfl
    M_Figures := ⟨mk83, a125, i125, kc83⟩
    f_Figures_holders := fun_mk (st := inClass (topS 83) 1) l126 c126 k126
    b_Figures_holders := (fun_mk (st := inClass (topS 83) 1) l126 c126 k126).binds (ps := ["self", "word"]) fun _ _ _ _ _ _ us hl => match us, hl with | [_, _], _ => rfl
    M_Figures_holders := ⟨a126, i126, k126⟩
    f_Ratio_init := ⟨⟨oc127, od127, .ref DT127, kV127, dc127, pm127, an127, cd127, ct127, sl127, rfl, l127, c127, .inr ⟨by simp, DT127, _, [_], nd127, rfl, dt127, rfl, (.cons ⟨_, rfl⟩ .nil)⟩, .inl rfl⟩, k127⟩
    M_Ratio := ⟨mk31, a127, i127, kc31⟩
    f_Ratio_eq := fun_mk (st := inClass (topS 31) 1) l128 c128 k128
    b_Ratio_eq := (fun_mk (st := inClass (topS 31) 1) l128 c128 k128).binds (ps := ["self", "other"]) fun _ _ _ _ _ _ us hl => match us, hl with | [_, _], _ => rfl
    M_Ratio_eq := ⟨a128, i128, k128⟩
    f_Ratio_is_less := fun_mk (st := inClass (topS 31) 6) l129 c129 k129
    b_Ratio_is_less := (fun_mk (st := inClass (topS 31) 6) l129 c129 k129).binds (ps := ["self", "other"]) fun _ _ _ _ _ _ us hl => match us, hl with | [_, _], _ => rfl
    M_Ratio_is_less := ⟨a129, i129, k129⟩
    cs := ff_cs
    ct := ff_ct
    ciP := ff_ciP
    moP := ff_moP
    kp := ff_kp
    ciS := ff_ciS
    moS := ff_moS
    kS := ff_kS
    ciQ := ff_ciQ
    moQ := ff_moQ
    kQ := ff_kQ
    neQ := ff_neQ }
  refine ⟨FD 105, [(cc120, P120)], spLaw K [(P120, lamQ "Segment.__init__")], (fun p hp => by
      simp only [List.mem_cons, List.not_mem_nil, or_false] at hp
      subst hp
      exact tb120), (fun p hp => by
      simp only [List.mem_cons, List.not_mem_nil, or_false] at hp
      subst hp
      exact tn120), (fun p hp => by
      simp only [List.mem_cons, List.not_mem_nil, or_false] at hp
      subst hp
      exact PySem.W.codeHd_of_K X th120), fun s v => .of_eq rfl, fun H a ns hl _ hT hS => ⟨a, ns, rfl, hS, hl, ?_, fun _ => rfl⟩, fun base _ _ hB => ok_law T (hB (cc120, P120) (by simp))⟩
  intro p hp
  simp only [List.mem_cons, List.not_mem_nil, or_false] at hp
  subst hp
  exact LamX.TabS.nil (hT (cc120, P120) (by simp))
set_option maxHeartbeats 0 in
theorem hmk {w : World} {K : PySem.W.Frag} {h : Heap} {mg : Str → Option Value} {fa : Addr} (X : K.In h) (G : h.Ns mainGlobals mg) (hfa : mg "law" = some (.ref fa)) (c : HX.SaysY hts hfn hfs h K) : LamX.LawAtS PySem.Challenge.rw_blocksearch_k37_whole_bounds_hold w K CX0 20 63 "_law_script" mg fa h := by
  obtain ⟨oc17, od17, dc17, pm17, an17, ct17, sl17, l17, c17⟩ := c.def_ 0 (d := hd17)
  obtain ⟨oc18, od18, dc18, pm18, an18, ct18, sl18, l18, c18⟩ := c.def_ 1 (d := hd18)
  obtain ⟨oc22, od22, dc22, pm22, an22, ct22, sl22, l22, c22⟩ := c.def_ 2 (d := hd22)
  obtain ⟨oc23, od23, dc23, pm23, an23, ct23, sl23, l23, c23⟩ := c.def_ 3 (d := hd23)
  obtain ⟨oc24, od24, dc24, pm24, an24, ct24, sl24, l24, c24⟩ := c.def_ 4 (d := hd24)
  obtain ⟨oc25, od25, dc25, pm25, an25, ct25, sl25, l25, c25⟩ := c.def_ 5 (d := hd25)
  obtain ⟨oc26, od26, dc26, pm26, an26, ct26, sl26, l26, c26⟩ := c.def_ 6 (d := hd26)
  obtain ⟨oc32, od32, dc32, pm32, an32, ct32, sl32, l32, c32⟩ := c.def_ 7 (d := hd32)
  obtain ⟨oc33, od33, dc33, pm33, an33, ct33, sl33, l33, c33⟩ := c.def_ 8 (d := hd33)
  obtain ⟨oc38, od38, dc38, pm38, an38, ct38, sl38, l38, c38⟩ := c.def_ 9 (d := hd38)
  obtain ⟨oc39, od39, dc39, pm39, an39, ct39, sl39, l39, c39⟩ := c.def_ 10 (d := hd39)
  obtain ⟨oc40, od40, dc40, pm40, an40, ct40, sl40, l40, c40⟩ := c.def_ 11 (d := hd40)
  obtain ⟨oc41, od41, dc41, pm41, an41, ct41, sl41, l41, c41⟩ := c.def_ 12 (d := hd41)
  obtain ⟨oc42, od42, dc42, pm42, an42, ct42, sl42, l42, c42⟩ := c.def_ 13 (d := hd42)
  obtain ⟨oc43, od43, dc43, pm43, an43, ct43, sl43, l43, c43⟩ := c.def_ 14 (d := hd43)
  obtain ⟨oc44, od44, dc44, pm44, an44, ct44, sl44, l44, c44⟩ := c.def_ 15 (d := hd44)
  obtain ⟨oc45, od45, dc45, pm45, an45, ct45, sl45, l45, c45⟩ := c.def_ 16 (d := hd45)
  obtain ⟨oc46, od46, dc46, pm46, an46, ct46, sl46, l46, c46⟩ := c.def_ 17 (d := hd46)
  obtain ⟨oc47, od47, dc47, pm47, an47, ct47, sl47, l47, c47⟩ := c.def_ 18 (d := hd47)
  obtain ⟨oc48, od48, dc48, pm48, an48, ct48, sl48, l48, c48⟩ := c.def_ 19 (d := hd48)
  obtain ⟨oc49, od49, dc49, pm49, an49, ct49, sl49, l49, c49⟩ := c.def_ 20 (d := hd49)
  obtain ⟨oc50, od50, dc50, pm50, an50, ct50, sl50, l50, c50⟩ := c.def_ 21 (d := hd50)
  obtain ⟨oc51, od51, dc51, pm51, an51, ct51, sl51, l51, c51⟩ := c.def_ 22 (d := hd51)
  obtain ⟨oc55, od55, dc55, pm55, an55, ct55, sl55, l55, c55⟩ := c.def_ 23 (d := hd55)
  obtain ⟨oc56, od56, dc56, pm56, an56, ct56, sl56, l56, c56⟩ := c.def_ 24 (d := hd56)
  obtain ⟨oc63, od63, dc63, pm63, an63, ct63, sl63, l63, c63⟩ := c.def_ 25 (d := hd63)
  obtain ⟨oc64, od64, dc64, pm64, an64, ct64, sl64, l64, c64⟩ := c.def_ 26 (d := hd64)
  obtain ⟨oc65, od65, dc65, pm65, an65, ct65, sl65, l65, c65⟩ := c.def_ 27 (d := hd65)
  obtain ⟨oc68, od68, dc68, pm68, an68, ct68, sl68, l68, c68⟩ := c.def_ 28 (d := hd68)
  obtain ⟨oc73, od73, dc73, pm73, an73, ct73, sl73, l73, c73⟩ := c.def_ 29 (d := hd73)
  obtain ⟨oc74, od74, dc74, pm74, an74, ct74, sl74, l74, c74⟩ := c.def_ 30 (d := hd74)
  obtain ⟨oc77, od77, dc77, pm77, an77, ct77, sl77, l77, c77⟩ := c.def_ 31 (d := hd77)
  obtain ⟨oc78, od78, dc78, pm78, an78, ct78, sl78, l78, c78⟩ := c.def_ 32 (d := hd78)
  obtain ⟨oc79, od79, dc79, pm79, an79, ct79, sl79, l79, c79⟩ := c.def_ 33 (d := hd79)
  obtain ⟨oc80, od80, dc80, pm80, an80, ct80, sl80, l80, c80⟩ := c.def_ 34 (d := hd80)
  obtain ⟨oc81, od81, dc81, pm81, an81, ct81, sl81, l81, c81⟩ := c.def_ 35 (d := hd81)
  obtain ⟨oc84, od84, dc84, pm84, an84, ct84, sl84, l84, c84⟩ := c.def_ 36 (d := hd84)
  obtain ⟨oc85, od85, dc85, pm85, an85, ct85, sl85, l85, c85⟩ := c.def_ 37 (d := hd85)
  obtain ⟨oc86, od86, dc86, pm86, an86, ct86, sl86, l86, c86⟩ := c.def_ 38 (d := hd86)
  obtain ⟨oc87, od87, dc87, pm87, an87, ct87, sl87, l87, c87⟩ := c.def_ 39 (d := hd87)
  obtain ⟨oc88, od88, dc88, pm88, an88, ct88, sl88, l88, c88⟩ := c.def_ 40 (d := hd88)
  obtain ⟨oc90, od90, dc90, pm90, an90, ct90, sl90, l90, c90⟩ := c.def_ 41 (d := hd90)
  obtain ⟨oc91, od91, dc91, pm91, an91, ct91, sl91, l91, c91⟩ := c.def_ 42 (d := hd91)
  obtain ⟨oc92, od92, dc92, pm92, an92, ct92, sl92, l92, c92⟩ := c.def_ 43 (d := hd92)
  obtain ⟨oc93, od93, dc93, pm93, an93, ct93, sl93, l93, c93⟩ := c.def_ 44 (d := hd93)
  obtain ⟨oc94, od94, dc94, pm94, an94, ct94, sl94, l94, c94⟩ := c.def_ 45 (d := hd94)
  obtain ⟨oc95, od95, dc95, pm95, an95, ct95, sl95, l95, c95⟩ := c.def_ 46 (d := hd95)
  obtain ⟨oc96, od96, dc96, pm96, an96, ct96, sl96, l96, c96⟩ := c.def_ 47 (d := hd96)
  obtain ⟨oc97, od97, dc97, pm97, an97, ct97, sl97, l97, c97⟩ := c.def_ 48 (d := hd97)
  obtain ⟨oc98, od98, dc98, pm98, an98, ct98, sl98, l98, c98⟩ := c.def_ 49 (d := hd98)
  obtain ⟨oc99, od99, dc99, pm99, an99, ct99, sl99, l99, c99⟩ := c.def_ 50 (d := hd99)
  obtain ⟨oc100, od100, dc100, pm100, an100, ct100, sl100, l100, c100⟩ := c.def_ 51 (d := hd100)
  obtain ⟨oc101, od101, dc101, pm101, an101, ct101, sl101, l101, c101⟩ := c.def_ 52 (d := hd101)
  obtain ⟨oc102, od102, dc102, pm102, an102, ct102, sl102, l102, c102⟩ := c.def_ 53 (d := hd102)
  obtain ⟨oc103, od103, dc103, pm103, an103, ct103, sl103, l103, c103⟩ := c.def_ 54 (d := hd103)
  obtain ⟨oc104, od104, dc104, pm104, an104, ct104, sl104, l104, c104⟩ := c.def_ 55 (d := hd104)
  obtain ⟨oc105, od105, dc105, pm105, an105, ct105, sl105, l105, c105⟩ := c.def_ 56 (d := hd105)
  obtain ⟨t_e20, e20⟩ := HX.litInt (c.fact 4 16)
  obtain ⟨t_e21, e21⟩ := HX.litInt (c.fact 4 17)
  obtain ⟨t_e28, e28⟩ := HX.litInt (c.fact 4 18)
  obtain ⟨t_e29, e29⟩ := HX.litInt (c.fact 4 19)
  obtain ⟨t_e30, e30⟩ := HX.litInt (c.fact 4 20)
  obtain ⟨t_e36, e36⟩ := HX.litStr (c.fact 4 21)
  obtain ⟨t_e37, e37⟩ := HX.litStr (c.fact 4 22)
  obtain ⟨t_e53, e53⟩ := HX.litInt (c.fact 4 23)
  obtain ⟨t_e58, e58⟩ := HX.litInt (c.fact 4 24)
  obtain ⟨t_e59, e59⟩ := HX.litInt (c.fact 4 25)
  obtain ⟨t_e60, e60⟩ := HX.litInt (c.fact 4 26)
  obtain ⟨t_e76, e76⟩ := HX.litInt (c.fact 4 27)
  obtain ⟨oc106, od106, dc106, pm106, an106, ct106, sl106, l106, c106⟩ := c.def_ 57 (d := hd106)
  obtain ⟨ocd106, odd106, usd106, nd106, sld106, dt106, vsd106⟩ := HX.seqB_ok (c.fact 7 28)
  obtain _ | ⟨⟨td106_0, rfl⟩, vsd106⟩ := vsd106
  cases vsd106
  obtain ⟨oc107, od107, dc107, pm107, an107, ct107, sl107, l107, c107⟩ := c.def_ 58 (d := hd107)
  obtain ⟨oc108, od108, dc108, pm108, an108, ct108, sl108, l108, c108⟩ := c.def_ 59 (d := hd108)
  obtain ⟨oc109, od109, dc109, pm109, an109, ct109, sl109, l109, c109⟩ := c.def_ 60 (d := hd109)
  obtain ⟨oc110, od110, dc110, pm110, an110, ct110, sl110, l110, c110⟩ := c.def_ 61 (d := hd110)
  obtain ⟨t_dk110_0, dk110_0⟩ := HX.litInt (c.fact 8 11)
  obtain ⟨oc111, od111, dc111, pm111, an111, ct111, sl111, l111, c111⟩ := c.def_ 62 (d := hd111)
  obtain ⟨oc112, od112, dc112, pm112, an112, ct112, sl112, l112, c112⟩ := c.def_ 63 (d := hd112)
  obtain ⟨oc113, od113, dc113, pm113, an113, ct113, sl113, l113, c113⟩ := c.def_ 64 (d := hd113)
  obtain ⟨oc114, od114, dc114, pm114, an114, ct114, sl114, l114, c114⟩ := c.def_ 65 (d := hd114)
  obtain ⟨oc115, od115, dc115, pm115, an115, ct115, sl115, l115, c115⟩ := c.def_ 66 (d := hd115)
  obtain ⟨oc116, od116, dc116, pm116, an116, ct116, sl116, l116, c116⟩ := c.def_ 67 (d := hd116)
  obtain ⟨oc117, od117, dc117, pm117, an117, ct117, sl117, l117, c117⟩ := c.def_ 68 (d := hd117)
  obtain ⟨oc118, od118, dc118, pm118, an118, ct118, sl118, l118, c118⟩ := c.def_ 69 (d := hd118)
  obtain ⟨oc119, od119, dc119, pm119, an119, ct119, sl119, l119, c119⟩ := c.def_ 70 (d := hd119)
  obtain ⟨oc120, od120, dc120, pm120, an120, ct120, sl120, l120, c120⟩ := c.def_ 71 (d := hd120)
  obtain ⟨t_dk120_0, dk120_0⟩ := HX.litInt (c.fact 9 12)
  obtain ⟨oc121, od121, dc121, pm121, an121, ct121, sl121, l121, c121⟩ := c.def_ 72 (d := hd121)
  obtain ⟨oc122, od122, dc122, pm122, an122, ct122, sl122, l122, c122⟩ := c.def_ 73 (d := hd122)
  obtain ⟨oc123, od123, dc123, pm123, an123, ct123, sl123, l123, c123⟩ := c.def_ 74 (d := hd123)
  obtain ⟨oc124, od124, dc124, pm124, an124, ct124, sl124, l124, c124⟩ := c.def_ 75 (d := hd124)
  obtain ⟨oc125, od125, dc125, pm125, an125, ct125, sl125, l125, c125⟩ := c.def_ 76 (d := hd125)
  obtain ⟨oc126, od126, dc126, pm126, an126, ct126, sl126, l126, c126⟩ := c.def_ 77 (d := hd126)
  obtain ⟨oc127, od127, dc127, pm127, an127, ct127, sl127, l127, c127⟩ := c.def_ 78 (d := hd127)
  obtain ⟨ocd127, odd127, usd127, nd127, sld127, dt127, vsd127⟩ := HX.seqB_ok (c.fact 10 4)
  obtain _ | ⟨⟨td127_0, rfl⟩, vsd127⟩ := vsd127
  cases vsd127
  obtain ⟨oc128, od128, dc128, pm128, an128, ct128, sl128, l128, c128⟩ := c.def_ 79 (d := hd128)
  obtain ⟨oc129, od129, dc129, pm129, an129, ct129, sl129, l129, c129⟩ := c.def_ 80 (d := hd129)
  refine all_mk (l := PySem.Challenge.rw_blocksearch_k37_whole_bounds_hold) (w := w) X G hfa (a17 := HX.refB_ok (c.fact 0 0)) (l17 := l17) (c17 := c17) (k17 := (c.fact 0 1)) (a18 := HX.refB_ok (c.fact 0 2)) (l18 := l18) (c18 := c18) (k18 := (c.fact 0 3)) (a22 := HX.refB_ok (c.fact 0 4)) (l22 := l22) (c22 := c22) (k22 := (c.fact 0 5)) (a23 := HX.refB_ok (c.fact 0 6)) (l23 := l23) (c23 := c23) (k23 := (c.fact 0 7)) (a24 := HX.refB_ok (c.fact 0 8)) (l24 := l24) (c24 := c24) (k24 := (c.fact 0 9)) (a25 := HX.refB_ok (c.fact 0 10)) (l25 := l25) (c25 := c25) (k25 := (c.fact 0 11)) (a26 := HX.refB_ok (c.fact 0 12)) (l26 := l26) (c26 := c26) (k26 := (c.fact 0 13)) (a32 := HX.refB_ok (c.fact 0 14)) (l32 := l32) (c32 := c32) (k32 := (c.fact 0 15)) (a33 := HX.refB_ok (c.fact 0 16)) (l33 := l33) (c33 := c33) (k33 := (c.fact 0 17)) (a38 := HX.refB_ok (c.fact 0 18)) (l38 := l38) (c38 := c38) (k38 := (c.fact 0 19)) (a39 := HX.refB_ok (c.fact 0 20)) (l39 := l39) (c39 := c39) (k39 := (c.fact 0 21)) (a40 := HX.refB_ok (c.fact 0 22)) (l40 := l40) (c40 := c40) (k40 := (c.fact 0 23)) (a41 := HX.refB_ok (c.fact 0 24)) (l41 := l41) (c41 := c41) (k41 := (c.fact 0 25)) (a42 := HX.refB_ok (c.fact 0 26)) (l42 := l42) (c42 := c42) (k42 := (c.fact 0 27)) (a43 := HX.refB_ok (c.fact 0 28)) (l43 := l43) (c43 := c43) (k43 := (c.fact 0 29)) (a44 := HX.refB_ok (c.fact 1 0)) (l44 := l44) (c44 := c44) (k44 := (c.fact 1 1)) (a45 := HX.refB_ok (c.fact 1 2)) (l45 := l45) (c45 := c45) (k45 := (c.fact 1 3)) (a46 := HX.refB_ok (c.fact 1 4)) (l46 := l46) (c46 := c46) (k46 := (c.fact 1 5)) (a47 := HX.refB_ok (c.fact 1 6)) (l47 := l47) (c47 := c47) (k47 := (c.fact 1 7)) (a48 := HX.refB_ok (c.fact 1 8)) (l48 := l48) (c48 := c48) (k48 := (c.fact 1 9)) (a49 := HX.refB_ok (c.fact 1 10)) (l49 := l49) (c49 := c49) (k49 := (c.fact 1 11)) (a50 := HX.refB_ok (c.fact 1 12)) (l50 := l50) (c50 := c50) (k50 := (c.fact 1 13)) (a51 := HX.refB_ok (c.fact 1 14)) (l51 := l51) (c51 := c51) (k51 := (c.fact 1 15)) (a55 := HX.refB_ok (c.fact 1 16)) (l55 := l55) (c55 := c55) (k55 := (c.fact 1 17)) (a56 := HX.refB_ok (c.fact 1 18)) (l56 := l56) (c56 := c56) (k56 := (c.fact 1 19)) (a63 := HX.refB_ok (c.fact 1 20)) (l63 := l63) (c63 := c63) (k63 := (c.fact 1 21)) (a64 := HX.refB_ok (c.fact 1 22)) (l64 := l64) (c64 := c64) (k64 := (c.fact 1 23)) (a65 := HX.refB_ok (c.fact 1 24)) (l65 := l65) (c65 := c65) (k65 := (c.fact 1 25)) (a68 := HX.refB_ok (c.fact 1 26)) (l68 := l68) (c68 := c68) (k68 := (c.fact 1 27)) (a73 := HX.refB_ok (c.fact 1 28)) (l73 := l73) (c73 := c73) (k73 := (c.fact 1 29)) (a74 := HX.refB_ok (c.fact 2 0)) (l74 := l74) (c74 := c74) (k74 := (c.fact 2 1)) (a77 := HX.refB_ok (c.fact 2 2)) (l77 := l77) (c77 := c77) (k77 := (c.fact 2 3)) (a78 := HX.refB_ok (c.fact 2 4)) (l78 := l78) (c78 := c78) (k78 := (c.fact 2 5)) (a79 := HX.refB_ok (c.fact 2 6)) (l79 := l79) (c79 := c79) (k79 := (c.fact 2 7)) (a80 := HX.refB_ok (c.fact 2 8)) (l80 := l80) (c80 := c80) (k80 := (c.fact 2 9)) (a81 := HX.refB_ok (c.fact 2 10)) (l81 := l81) (c81 := c81) (k81 := (c.fact 2 11)) (a84 := HX.refB_ok (c.fact 2 12)) (l84 := l84) (c84 := c84) (k84 := (c.fact 2 13)) (a85 := HX.refB_ok (c.fact 2 14)) (l85 := l85) (c85 := c85) (k85 := (c.fact 2 15)) (a86 := HX.refB_ok (c.fact 2 16)) (l86 := l86) (c86 := c86) (k86 := (c.fact 2 17)) (a87 := HX.refB_ok (c.fact 2 18)) (l87 := l87) (c87 := c87) (k87 := (c.fact 2 19)) (a88 := HX.refB_ok (c.fact 2 20)) (l88 := l88) (c88 := c88) (k88 := (c.fact 2 21)) (a90 := HX.refB_ok (c.fact 2 22)) (l90 := l90) (c90 := c90) (k90 := (c.fact 2 23)) (a91 := HX.refB_ok (c.fact 2 24)) (l91 := l91) (c91 := c91) (k91 := (c.fact 2 25)) (a92 := HX.refB_ok (c.fact 2 26)) (l92 := l92) (c92 := c92) (k92 := (c.fact 2 27)) (a93 := HX.refB_ok (c.fact 2 28)) (l93 := l93) (c93 := c93) (k93 := (c.fact 2 29)) (a94 := HX.refB_ok (c.fact 3 0)) (l94 := l94) (c94 := c94) (k94 := (c.fact 3 1)) (a95 := HX.refB_ok (c.fact 3 2)) (l95 := l95) (c95 := c95) (k95 := (c.fact 3 3)) (a96 := HX.refB_ok (c.fact 3 4)) (l96 := l96) (c96 := c96) (k96 := (c.fact 3 5)) (a97 := HX.refB_ok (c.fact 3 6)) (l97 := l97) (c97 := c97) (k97 := (c.fact 3 7)) (a98 := HX.refB_ok (c.fact 3 8)) (l98 := l98) (c98 := c98) (k98 := (c.fact 3 9)) (a99 := HX.refB_ok (c.fact 3 10)) (l99 := l99) (c99 := c99) (k99 := (c.fact 3 11)) (a100 := HX.refB_ok (c.fact 3 12)) (l100 := l100) (c100 := c100) (k100 := (c.fact 3 13)) (a101 := HX.refB_ok (c.fact 3 14)) (l101 := l101) (c101 := c101) (k101 := (c.fact 3 15)) (a102 := HX.refB_ok (c.fact 3 16)) (l102 := l102) (c102 := c102) (k102 := (c.fact 3 17)) (a103 := HX.refB_ok (c.fact 3 18)) (l103 := l103) (c103 := c103) (k103 := (c.fact 3 19)) (a104 := HX.refB_ok (c.fact 3 20)) (l104 := l104) (c104 := c104) (k104 := (c.fact 3 21)) (a105 := HX.refB_ok (c.fact 3 22)) (l105 := l105) (c105 := c105) (k105 := (c.fact 3 23)) (z_IndexError := HX.noB_ok (c.fact 3 24)) (z_KeyError := HX.noB_ok (c.fact 3 25)) (z_ValueError := HX.noB_ok (c.fact 3 26)) (z_ZeroDivisionError := HX.noB_ok (c.fact 3 27)) (z_abs := HX.noB_ok (c.fact 3 28)) (z_all := HX.noB_ok (c.fact 3 29)) (z_bool := HX.noB_ok (c.fact 4 0)) (z_divmod := HX.noB_ok (c.fact 4 1)) (z_enumerate := HX.noB_ok (c.fact 4 2)) (z_int := HX.noB_ok (c.fact 4 3)) (z_isinstance := HX.noB_ok (c.fact 4 4)) (z_len := HX.noB_ok (c.fact 4 5)) (z_list := HX.noB_ok (c.fact 4 6)) (z_max := HX.noB_ok (c.fact 4 7)) (z_min := HX.noB_ok (c.fact 4 8)) (z_range := HX.noB_ok (c.fact 4 9)) (z_set := HX.noB_ok (c.fact 4 10)) (z_sorted := HX.noB_ok (c.fact 4 11)) (z_str := HX.noB_ok (c.fact 4 12)) (z_sum := HX.noB_ok (c.fact 4 13)) (z_tuple := HX.noB_ok (c.fact 4 14)) (z_zip := HX.noB_ok (c.fact 4 15)) (e20 := e20) (e21 := e21) (e28 := e28) (e29 := e29) (e30 := e30) (e36 := e36) (e37 := e37) (e53 := e53) (e58 := e58) (e59 := e59) (e60 := e60) (e76 := e76) (a2 := HX.refB_ok (c.fact 4 28)) (a3 := HX.refB_ok (c.fact 4 29)) (a4 := HX.refB_ok (c.fact 5 0)) (a5 := HX.refB_ok (c.fact 5 1)) (a6 := HX.refB_ok (c.fact 5 2)) (a7 := HX.refB_ok (c.fact 5 3)) (a8 := HX.refB_ok (c.fact 5 4)) (a9 := HX.refB_ok (c.fact 5 5)) (a10 := HX.refB_ok (c.fact 5 6)) (a11 := HX.refB_ok (c.fact 5 7)) (a12 := HX.refB_ok (c.fact 5 8)) (a13 := HX.refB_ok (c.fact 5 9)) (a14 := HX.refB_ok (c.fact 5 10)) (a15 := HX.refB_ok (c.fact 5 11)) (a31 := HX.refB_ok (c.fact 5 12)) (a54 := HX.refB_ok (c.fact 5 13)) (a61 := HX.refB_ok (c.fact 5 14)) (a62 := HX.refB_ok (c.fact 5 15)) (a67 := HX.refB_ok (c.fact 5 16)) (a71 := HX.refB_ok (c.fact 5 17)) (a83 := HX.refB_ok (c.fact 5 18)) (pg54 := (c.fact 5 19)) (hd54 := (c.fact 5 20)) (po54 := (c.fact 5 21)) (sa54 := He.eqO_ok (c.fact 5 22)) (mk54 := (c.fact 5 23)) (kc54 := (c.fact 5 24)) (na54_number := HX.noB_ok (c.fact 5 25)) (na54_in_turn := HX.noB_ok (c.fact 5 26)) (pg61 := (c.fact 5 27)) (hd61 := (c.fact 5 28)) (po61 := (c.fact 5 29)) (sa61 := He.eqO_ok (c.fact 6 0)) (mk61 := (c.fact 6 1)) (kc61 := (c.fact 6 2)) (na61_first := HX.noB_ok (c.fact 6 3)) (na61_last := HX.noB_ok (c.fact 6 4)) (na61_many := HX.noB_ok (c.fact 6 5)) (na61_most := HX.noB_ok (c.fact 6 6)) (na61_least := HX.noB_ok (c.fact 6 7)) (na61_coded := HX.noB_ok (c.fact 6 8)) (pg62 := (c.fact 6 9)) (hd62 := (c.fact 6 10)) (po62 := (c.fact 6 11)) (sa62 := He.eqO_ok (c.fact 6 12)) (mk62 := (c.fact 6 13)) (kc62 := (c.fact 6 14)) (na62_word := HX.noB_ok (c.fact 6 15)) (na62_size := HX.noB_ok (c.fact 6 16)) (na62_cut := HX.noB_ok (c.fact 6 17)) (pg67 := (c.fact 6 18)) (hd67 := (c.fact 6 19)) (po67 := (c.fact 6 20)) (sa67 := He.eqO_ok (c.fact 6 21)) (mk67 := (c.fact 6 22)) (kc67 := (c.fact 6 23)) (na67_heads := HX.noB_ok (c.fact 6 24)) (na67_decoded := HX.noB_ok (c.fact 6 25)) (na67_standing := HX.noB_ok (c.fact 6 26)) (pg71 := (c.fact 6 27)) (hd71 := (c.fact 6 28)) (po71 := (c.fact 6 29)) (sa71 := He.eqO_ok (c.fact 7 0)) (mk71 := (c.fact 7 1)) (kc71 := (c.fact 7 2)) (na71_size := HX.noB_ok (c.fact 7 3)) (na71_slot_numbers := HX.noB_ok (c.fact 7 4)) (na71_slot_lengths := HX.noB_ok (c.fact 7 5)) (na71_rows := HX.noB_ok (c.fact 7 6)) (pg83 := (c.fact 7 7)) (hd83 := (c.fact 7 8)) (po83 := (c.fact 7 9)) (sa83 := He.eqO_ok (c.fact 7 10)) (mk83 := (c.fact 7 11)) (kc83 := (c.fact 7 12)) (na83_parts := HX.noB_ok (c.fact 7 13)) (na83_pages_in_all := HX.noB_ok (c.fact 7 14)) (na83_words_in_all := HX.noB_ok (c.fact 7 15)) (na83_counted := HX.noB_ok (c.fact 7 16)) (pg31 := (c.fact 7 17)) (hd31 := (c.fact 7 18)) (po31 := (c.fact 7 19)) (sa31 := He.eqO_ok (c.fact 7 20)) (mk31 := (c.fact 7 21)) (kc31 := (c.fact 7 22)) (na31_top := HX.noB_ok (c.fact 7 23)) (na31_bottom := HX.noB_ok (c.fact 7 24)) (a106 := HX.refB_ok (c.fact 7 25)) (i106 := (c.fact 7 26)) (l106 := l106) (c106 := c106) (k106 := (c.fact 7 27)) (dt106 := dt106) (a107 := HX.refB_ok (c.fact 7 29)) (i107 := (c.fact 8 0)) (l107 := l107) (c107 := c107) (k107 := (c.fact 8 1)) (a108 := HX.refB_ok (c.fact 8 2)) (i108 := (c.fact 8 3)) (l108 := l108) (c108 := c108) (k108 := (c.fact 8 4)) (a109 := HX.refB_ok (c.fact 8 5)) (i109 := (c.fact 8 6)) (l109 := l109) (c109 := c109) (k109 := (c.fact 8 7)) (a110 := HX.refB_ok (c.fact 8 8)) (i110 := (c.fact 8 9)) (l110 := l110) (c110 := c110) (k110 := (c.fact 8 10)) (dk110_0 := dk110_0) (a111 := HX.refB_ok (c.fact 8 12)) (i111 := (c.fact 8 13)) (l111 := l111) (c111 := c111) (k111 := (c.fact 8 14)) (a112 := HX.refB_ok (c.fact 8 15)) (i112 := (c.fact 8 16)) (l112 := l112) (c112 := c112) (k112 := (c.fact 8 17)) (a113 := HX.refB_ok (c.fact 8 18)) (i113 := (c.fact 8 19)) (l113 := l113) (c113 := c113) (k113 := (c.fact 8 20)) (a114 := HX.refB_ok (c.fact 8 21)) (i114 := (c.fact 8 22)) (l114 := l114) (c114 := c114) (k114 := (c.fact 8 23)) (a115 := HX.refB_ok (c.fact 8 24)) (i115 := (c.fact 8 25)) (l115 := l115) (c115 := c115) (k115 := (c.fact 8 26)) (a116 := HX.refB_ok (c.fact 8 27)) (i116 := (c.fact 8 28)) (l116 := l116) (c116 := c116) (k116 := (c.fact 8 29)) (a117 := HX.refB_ok (c.fact 9 0)) (i117 := (c.fact 9 1)) (l117 := l117) (c117 := c117) (k117 := (c.fact 9 2)) (a118 := HX.refB_ok (c.fact 9 3)) (i118 := (c.fact 9 4)) (l118 := l118) (c118 := c118) (k118 := (c.fact 9 5)) (a119 := HX.refB_ok (c.fact 9 6)) (i119 := (c.fact 9 7)) (l119 := l119) (c119 := c119) (k119 := (c.fact 9 8)) (a120 := HX.refB_ok (c.fact 9 9)) (i120 := (c.fact 9 10)) (l120 := l120) (c120 := c120) (k120 := (c.fact 9 11)) (dk120_0 := dk120_0) (a121 := HX.refB_ok (c.fact 9 13)) (i121 := (c.fact 9 14)) (l121 := l121) (c121 := c121) (k121 := (c.fact 9 15)) (a122 := HX.refB_ok (c.fact 9 16)) (i122 := (c.fact 9 17)) (l122 := l122) (c122 := c122) (k122 := (c.fact 9 18)) (a123 := HX.refB_ok (c.fact 9 19)) (i123 := (c.fact 9 20)) (l123 := l123) (c123 := c123) (k123 := (c.fact 9 21)) (a124 := HX.refB_ok (c.fact 9 22)) (i124 := (c.fact 9 23)) (l124 := l124) (c124 := c124) (k124 := (c.fact 9 24)) (a125 := HX.refB_ok (c.fact 9 25)) (i125 := (c.fact 9 26)) (l125 := l125) (c125 := c125) (k125 := (c.fact 9 27)) (a126 := HX.refB_ok (c.fact 9 28)) (i126 := (c.fact 9 29)) (l126 := l126) (c126 := c126) (k126 := (c.fact 10 0)) (a127 := HX.refB_ok (c.fact 10 1)) (i127 := (c.fact 10 2)) (l127 := l127) (c127 := c127) (k127 := (c.fact 10 3)) (dt127 := dt127) (a128 := HX.refB_ok (c.fact 10 5)) (i128 := (c.fact 10 6)) (l128 := l128) (c128 := c128) (k128 := (c.fact 10 7)) (a129 := HX.refB_ok (c.fact 10 8)) (i129 := (c.fact 10 9)) (l129 := l129) (c129 := c129) (k129 := (c.fact 10 10)) (ff_cs := of_decide_eq_true (c.fact 10 11)) (ff_ct := of_decide_eq_true (c.fact 10 12)) (ff_ciP := of_decide_eq_true (c.fact 10 13)) (ff_moP := of_decide_eq_true (c.fact 10 14)) (ff_kp := of_decide_eq_true (c.fact 10 15)) (ff_ciS := of_decide_eq_true (c.fact 10 16)) (ff_moS := of_decide_eq_true (c.fact 10 17)) (ff_kS := of_decide_eq_true (c.fact 10 18)) (ff_ciQ := of_decide_eq_true (c.fact 10 19)) (ff_moQ := of_decide_eq_true (c.fact 10 20)) (ff_kQ := of_decide_eq_true (c.fact 10 21)) (ff_neQ := of_decide_eq_true (c.fact 10 22)) (tb120 := (c.empty 787 (by decide))) (tn120 := (c.out 787 (by decide))) (th120 := (c.fact 10 23))
end K37
open PySem PySem.W PySem.Calls PyProof.Rows
set_option maxHeartbeats 0 in
theorem PySem.Challenge.cw_blocksearch_k37_whole_bounds_hold_holds : PySem.Challenge.rw_blocksearch_k37_whole_bounds_hold.Holds := by
  w_on; o_law
  refine HandSHeadRun.head_any (r := OpenLaw.row PySem.Challenge.rw_blocksearch_k37_whole_bounds_hold) (q := view (OpenLaw.row PySem.Challenge.rw_blocksearch_k37_whole_bounds_hold).prog [105]) (H := K37.hk) (ob := K37.hob) (M := 17164) (loose := K37.hloose) (d := HandSHeadRun.topDef (OpenLaw.row PySem.Challenge.rw_blocksearch_k37_whole_bounds_hold).prog 105) (kwd := []) K37.hob_eq (by kernel_rfl) (fun s => by kernel_rfl) K37.hrun (by kernel_rfl) (by kernel_rfl) (by kernel_rfl) (by rfl) (by first | assumption | decide +kernel) (by decide +kernel) ⟨rfl, rfl, rfl, rfl, rfl, by decide +kernel⟩ ?hw ?hc
  case hw => w_witness2
  case hc =>
    refine LamX.walk_ofTsE (l := PySem.Challenge.rw_blocksearch_k37_whole_bounds_hold) (n := 63) (k := 20) (x := "_law_script") (CX := fun _ => L2.CX0) rfl (by decide) (by kernel_rfl) ⟨rfl, by decide, by decide⟩ ?F (fun _ _ _ _ _ z => z)
    intro w mg fa h Y G hmg0
    obtain ⟨K, KX, c⟩ := Y
    have hmg : mg ("law" : PySem.Str) = some (.ref fa) := by
      have e : (HandSHeadRun.topDef (OpenLaw.row PySem.Challenge.rw_blocksearch_k37_whole_bounds_hold).prog 105).name = ("law" : PySem.Str) := by kernel_rfl
      rw [← e]
      exact hmg0
    exact ⟨K, KX, K37.hmk KX G hmg c⟩

