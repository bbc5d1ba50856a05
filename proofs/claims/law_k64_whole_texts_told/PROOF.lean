import PyProof.Rows.All
import Wide.All
import OpenK.AllK
import Wide.FinOn
import HandS.ForMost
import HandS.Defaults
import HandS.IsInst
import HandS.Walk
import HandS.Evl
import HandS.More
import HandS.MakeKw
import HandS.Text
import HandS.Deep
import HandS.Style
import HandS.Star
import HandS.FStr
import KE.KxField
import KE.KIntText
import PySem.Challenge.RW_blocksearch_k64_whole_texts_told
set_option Elab.async false
set_option linter.all false
set_option maxRecDepth 100000
/-! words of my own: the drawn pool, heaps that grow beside it, small facts -/
namespace My
open PySem PySem.Spec PyProof.Rows L2 Evl

/-- the pool at p: three ints, at most c draws mixed so far -/
def Pl (H : Hp) (p : Addr) (c : Nat) : Prop := ∃ (g b : Int) (k : Nat), H p = some (.lst [.int g, .int b, .int (k : Int)]) ∧ 0 ≤ g ∧ 0 ≤ b ∧ b < 281474976710656 ∧ k ≤ c
/-- all but p stays -/
def Fx (p : Addr) (H H' : Hp) : Prop := ∀ a o, a ≠ p → H a = some o → H' a = some o
theorem Fx.refl (p : Addr) (H : Hp) : Fx p H H := fun _ _ _ h => h
theorem Fx.trans {p : Addr} {H H1 H2 : Hp} (a : Fx p H H1) (b : Fx p H1 H2) : Fx p H H2 := fun x o n h => b x o n (a x o n h)
theorem Fx.ex {p : Addr} {H H' : Hp} (e : Ex H H') : Fx p H H' := fun a o _ h => e a o h
theorem Fx.upd {p : Addr} {H : Hp} {o : HO} : Fx p H (L2.upd H p o) := fun a u n h => by
  rw [upd_ne n]
  exact h
theorem Pl.mono {H : Hp} {p : Addr} {c c' : Nat} (h : Pl H p c) (l : c ≤ c') : Pl H p c' := by
  obtain ⟨g, b, k, h1, h2, h3, h4, h5⟩ := h
  exact ⟨g, b, k, h1, h2, h3, h4, Nat.le_trans h5 l⟩
theorem Pl.ex {H H' : Hp} {p : Addr} {c : Nat} (h : Pl H p c) (e : Ex H H') : Pl H' p c := by
  obtain ⟨g, b, k, h1, h2⟩ := h
  exact ⟨g, b, k, e _ _ h1, h2⟩
theorem Pl.some {H : Hp} {p : Addr} {c : Nat} (h : Pl H p c) : ∃ xs, H p = some (.lst xs) := by
  obtain ⟨g, b, k, h1, _⟩ := h
  exact ⟨_, h1⟩
/-- what is free behind was free ahead -/
theorem fx_free {p a : Addr} {H H' : Hp} {c : Nat} (f : Fx p H H') (h : Pl H' p c) (e : H' a = none) : H a = none := by
  cases q : H a with
  | none => rfl
  | some o =>
    have n : a ≠ p := fun z => by
      obtain ⟨xs, hx⟩ := h.some
      rw [z, hx] at e
      cases e
    rw [f a o n q] at e
    cases e
/-- a tuple is not the pool -/
theorem Fx.tup {p a : Addr} {H H' : Hp} {xs : List V} {c : Nat} (f : Fx p H H') (hp : Pl H p c) (h : H a = some (.tup xs)) : H' a = some (.tup xs) := by
  obtain ⟨ys, hy⟩ := hp.some
  exact f a _ (ne_of h hy (by intro z; cases z)) h
theorem Fx.sqt {K : PySem.W.Frag} {p a : Addr} {H H' : Hp} {xs : List V} {c : Nat} (f : Fx p H H') (hp : Pl H p c) (h : SqT K H a xs) : SqT K H' a xs := by
  obtain ⟨ys, hy⟩ := hp.some
  rcases h with (h | ⟨o, h⟩) | h
  · exact .inl (.inl (f a _ (ne_of h hy (by intro z; cases z)) h))
  · exact .inl (.inr ⟨o, f a _ (ne_of h hy (by intro z; cases z)) h⟩)
  · exact .inr h
theorem Fx.lst {p a : Addr} {H H' : Hp} {xs : List V} (f : Fx p H H') (n : a ≠ p) (h : H a = some (.lst xs)) : H' a = some (.lst xs) := f a _ n h
theorem ex_upd {H : Hp} {p : Addr} {o : HO} (h : H p = none) : Ex H (L2.upd H p o) := Ex.new h
theorem ret_v {v : V} {H : Hp} {Q : VK} (q : RetV v H Q) : Q v H := q H (Ex.refl H)
theorem sz {n : Nat} (h : n ≤ 100000) : n ≤ sizeLine := sz_of h
theorem natAbs_lt {z : Int} {n : Nat} (h0 : 0 ≤ z) (h : z < (n : Int)) : z.natAbs < n := by omega
/-- a * b ≤ A * B -/
theorem mul_le {a b A B : Int} (h0 : 0 ≤ a) (h1 : a ≤ A) (h2 : 0 ≤ b) (h3 : b ≤ B) : a * b ≤ A * B := Int.mul_le_mul h1 h3 h2 (Int.le_trans h0 h1)
theorem mul_nn {a b : Int} (h0 : 0 ≤ a) (h1 : 0 ≤ b) : 0 ≤ a * b := Int.mul_nonneg h0 h1
/-! the rules with the written part said, for blocks of comprehensions -/
section
variable {X : Cx} {K : PySem.W.Frag}
theorem lenK (h : X.K = K) : CallR X (.builtin "len") (rLenS K) := by subst h; exact call_len_seq
theorem listK (h : X.K = K) : CallR X (.type "list") (rListS K) := by subst h; exact call_list_of
def rTupS (K : PySem.W.Frag) : List V → Hp → VK → Prop := fun xs H Q => ∃ p ys, xs = [.ref p] ∧ ((SqL K H p ys ∧ ∀ l, H l = none → Q (.ref l) (L2.upd H l (.tup ys))) ∨ (SqT K H p ys ∧ Q (.ref p) H))
theorem tupK (h : X.K = K) : CallR X (.type "tuple") (rTupS K) := by subst h; exact call_tuple_of
theorem ixLK (h : X.K = K) : IxR X (rIxL K) := by subst h; exact ix_list
theorem ixTK (h : X.K = K) : IxR X (rIxT K) := by subst h; exact ix_tup
theorem slLK (h : X.K = K) : SlR X (rSlL K) := by subst h; exact sl_list
theorem slTK (h : X.K = K) : SlR X (rSlT K) := by subst h; exact sl_tup
theorem catTK (h : X.K = K) : OpR X (binaryOp .Add) (rCatT K) := by subst h; exact op_catT
theorem inK (h : X.K = K) : OpR X (compareOp .In) (rIn K false) := by subst h; exact op_in_seq
theorem notInK (h : X.K = K) : OpR X (compareOp .NotIn) (rIn K true) := by subst h; exact op_notIn_seq
theorem isiK (h : X.K = K) : CallR X (.builtin "isinstance") (rIsi K) := by subst h; exact call_isi
theorem isiTK (h : X.K = K) : CallR X (.builtin "isinstance") (rIsiT K) := by subst h; exact call_isiT
theorem allK (h : X.K = K) (hc : X.calm = true) : CallR X (.builtin "all") (rAll K) := by subst h; exact cr_all hc
theorem anyK (h : X.K = K) (hc : X.calm = true) : CallR X (.builtin "any") (rAny K) := by subst h; exact cr_any hc
theorem sumK (h : X.K = K) (hc : X.calm = true) : CallR X (.builtin "sum") (rSum K) := by subst h; exact cr_sum hc
theorem maxK (h : X.K = K) (hc : X.calm = true) : CallR X (.builtin "max") (rMax K) := by subst h; exact cr_max hc
theorem minK (h : X.K = K) (hc : X.calm = true) : CallR X (.builtin "min") (rMin K) := by subst h; exact cr_min hc
theorem fldK {e : Expr} {f : Str} {pos : Pos} {ta : TE} (h : X.K = K) (he : PE X e ta) (hb : attributeBase e f X.env (eval e X.env) = eval e X.env) : PE X (.Attribute e f pos) (tFld K ta f) := by subst h; exact pe_fld he hb
theorem tupGK {es : List Expr} {k : Nat} {t : TGs} {n : Nat} {pos : Pos} (h : X.K = K) (hc : X.calm = true) (hg : PGs X es t) (hn : (assignEach es X.env).length = n := by rfl) (hst : (assignEach es X.env).findIdx? (·.1) = none := by rfl) : PG X (.Tuple es k pos) (gTup K n t) := by subst h; exact pg_tup hc hg hn hst
theorem eqDK (h : X.K = K) (hu : X.A.units + 64 < cLine) : OpR X (compareOp .Eq) (rEqD K) := by subst h; exact op_eqD hu
theorem neDK (h : X.K = K) (hu : X.A.units + 64 < cLine) : OpR X (compareOp .NotEq) (rNeD K) := by subst h; exact op_neD hu
theorem indexK (h : X.K = K) : MtR X "list.index" (rIndex K) := by subst h; exact mt_index
theorem piOr {tg e : Expr} {w1 w2 : TI} (h1 : PI X tg e w1) (h2 : PI X tg e w2) : PI X tg e (fun σ H R => w1 σ H R ∨ w2 σ H R) := ⟨fun pins s σ H R I h => h.elim (fun h => h1.run pins s σ H R I h) (fun h => h2.run pins s σ H R I h)⟩
theorem piLK {tg l : Expr} {tl : TE} (h : X.K = K) (hl : PE X l tl) : PI X tg l (iList K tl) := by subst h; exact pi_list hl
theorem piTK {tg l : Expr} {tl : TE} (h : X.K = K) (hl : PE X l tl) : PI X tg l (iTup K tl) := by subst h; exact pi_tup hl
end
end My
/-! ## '{n:04d}' and '{n:04x}' -/
namespace F4
open PySem PySem.Builtin PySem.Builtin.Float PySem.W PyProof.Rows L2
def pad4 (ds : List Nat) : List Nat := List.replicate (4 - ds.length) 48 ++ ds
def dg (b n : Nat) : List Nat := (Nat.toDigits b n).map Char.toNat
def D4 (n : Nat) : Str := ⟨(pad4 (dg 10 n)).toArray⟩
def X4 (n : Nat) : Str := ⟨(pad4 (dg 16 n)).toArray⟩
theorem dg_ne (b n : Nat) : (dg b n).isEmpty = false := by
  have h := tDigits_len_ge b n
  unfold dg
  cases e : Nat.toDigits b n with
  | nil => rw [e] at h; exact absurd h (by decide)
  | cons _ _ => rfl
theorem dgc_le (b : Nat) : ∀ (k fuel n : Nat) (ds : List Char), n < b ^ (k + 1) → (Nat.toDigitsCore b fuel n ds).length ≤ ds.length + k + 1
  | _, 0, _, ds, _ => by simp [Nat.toDigitsCore, Nat.add_assoc]
  | 0, fuel + 1, n, ds, h => by
    rw [Nat.toDigitsCore, if_pos (Nat.div_eq_of_lt (by simpa using h))]
    simp
  | k + 1, fuel + 1, n, ds, h => by
    unfold Nat.toDigitsCore
    dsimp only
    split
    · simp
    · have h2 : n / b < b ^ (k + 1) := Nat.div_lt_of_lt_mul (by rw [Nat.mul_comm, ← Nat.pow_succ]; exact h)
      have i := dgc_le b k fuel (n / b) (Nat.digitChar (n % b) :: ds) h2
      simp only [List.length_cons] at i
      omega
theorem dg_len {b n : Nat} (h : n < b ^ 4) : (dg b n).length ≤ 4 := by
  unfold dg Nat.toDigits
  rw [List.length_map]
  exact dgc_le b 3 _ _ [] h
theorem pad4_len {l : List Nat} (h : l.length ≤ 4) : (pad4 l).length = 4 := by
  unfold pad4
  simp
  omega
theorem D4_len {n : Nat} (h : n < 10000) : (D4 n).length = 4 := pad4_len (dg_len (b := 10) h)
theorem X4_len {n : Nat} (h : n < 65536) : (X4 n).length = 4 := pad4_len (dg_len (b := 16) h)
theorem logs {n : Nat} (h : n < 65536) : (n : Int).natAbs.log2 < 1920 := by
  have : (n : Int).natAbs.log2 ≤ n := by
    show Nat.log2 n ≤ n
    exact Nat.log2_le_self n
  by_cases z : n = 0
  · subst z; decide
  · have : Nat.log2 n < 16 := (Nat.log2_lt z).mpr h
    show Nat.log2 n < 1920
    omega
theorem ret4 {M : Model} {A : Around} {E : Value → Shared → Prop} {s : Shared} {X T : Str} {Q : PySem.Fin → Shared → Prop} (e : X = T) (l : T.length = 4) (h : ∀ t k, Q (.done (.ret (.str T t))) { s with toks := k }) : wpAny M A (retStr X) Q E s :=
  KXf.ret_text e (by rw [e, l]; decide) h
set_option maxHeartbeats 1000000 in
theorem runD {n : Nat} (h : n < 10000) (t u : Tok) : Meets («int.__format__» ⟨[.int (n : Int) t, .str "04d" u], []⟩) (fun _ R s => ∀ t' k, R (.ok (.ret (.str (D4 n) t'))) { s with toks := k }) := by
  apply KPc.meets_of
  intro _ _ _ _ _ _ hR
  unfold Builtin.«int.__format__»
  refine wpAny_bind (wpAny_of_eq (a := (_, _)) rfl (wpAny_bind (wpAny_of_eq (a := _) rfl ?_)))
  kxf_if
  refine wpAny_bind (wpAny_typeNameOf (T := "str") (typeIs_str _ _ _) (by decide) fun _ => wpAny_bind (wpAny_of_eq (a := some _) rfl ?_))
  kxf_if; kxf_if
  refine wpAny_bind (wpAny_typeNameOfCut_int ?_)
  (repeat kxf_if)
  generalize ht : Option.getD _ _ = tt
  have e1 : tt = 100 := by rw [← ht]; decide +kernel
  clear ht
  generalize hf : ({ fill := _, align := _, width := _, type := _ } : FormatSpec) = ff
  have e2 : ff = { fill := 48, align := 61, width := some 4, type := some 100 } := by rw [← hf]; kernel_rfl
  clear hf
  subst e1
  show wpAny _ _ (if _ then _ else _) _ _ _
  rw [if_neg (by rw [e2]; decide), if_neg (by rw [e2]; decide)]
  show wpAny _ _ (if _ then _ else _) _ _ _
  rw [if_neg (by decide)]
  show wpAny _ _ (if _ then _ else _) _ _ _
  rw [if_pos (by decide)]
  refine wpAny_bind (wpAny_of_eq (PySem.overDigitLimit_small (logs (by omega))) ?_)
  show wpAny _ _ (if _ then _ else _) _ _ _
  rw [if_neg (by rw [e2]; decide)]
  refine ret4 (T := D4 n) ?_ (D4_len h) hR
  · have ha : ff.alt = false := by rw [e2]
    simp only [ha, Bool.false_eq_true, if_false, if_true, show ((10 : Nat) == 10) = true by decide, show ((100 : Nat) == 88) = false by decide]
    rw [show decide ((n : Int) < 0) = false from decide_eq_false (by omega)]
    show _ = (⟨(pad4 (dg 10 n)).toArray⟩ : Str)
    have hd := dg_ne 10 n
    have hl := dg_len (b := 10) (n := n) h
    unfold dg at hd hl ⊢
    have e3 : (fun c : Char => c.toNat) = Char.toNat := rfl
    rw [e3]
    rw [show (n : Int).natAbs = n from rfl]
    generalize List.map Char.toNat (Nat.toDigits 10 n) = ds at hd hl ⊢
    subst e2
    conv => lhs; whnf
    simp only [hd, Bool.false_eq_true, if_false, List.length_nil, List.append_nil, List.nil_append, List.replicate_zero, List.length_append, List.length_replicate, pad4]
    rw [if_pos (by decide)]
    have e4 : (((4 : Nat) : Int) - (((0 : Nat) : Int) + ((0 : Nat) : Int) + ((0 : Nat) : Int))).toNat = 4 := by decide
    rw [e4]
    have e5 : (((4 : Nat) : Int) - (((0 : Nat) : Int) + ((0 : Nat) : Int) + ((0 : Nat) : Int)) - ((4 - ds.length + ds.length : Nat) : Int)).toNat = 0 := by omega
    rw [e5]
    rfl
set_option maxHeartbeats 1000000 in
theorem runX {n : Nat} (h : n < 65536) (t u : Tok) : Meets («int.__format__» ⟨[.int (n : Int) t, .str "04x" u], []⟩) (fun _ R s => ∀ t' k, R (.ok (.ret (.str (X4 n) t'))) { s with toks := k }) := by
  apply KPc.meets_of
  intro _ _ _ _ _ _ hR
  unfold Builtin.«int.__format__»
  refine wpAny_bind (wpAny_of_eq (a := (_, _)) rfl (wpAny_bind (wpAny_of_eq (a := _) rfl ?_)))
  kxf_if
  refine wpAny_bind (wpAny_typeNameOf (T := "str") (typeIs_str _ _ _) (by decide) fun _ => wpAny_bind (wpAny_of_eq (a := some _) rfl ?_))
  kxf_if; kxf_if
  refine wpAny_bind (wpAny_typeNameOfCut_int ?_)
  (repeat kxf_if)
  generalize ht : Option.getD _ _ = tt
  have e1 : tt = 120 := by rw [← ht]; decide +kernel
  clear ht
  generalize hf : ({ fill := _, align := _, width := _, type := _ } : FormatSpec) = ff
  have e2 : ff = { fill := 48, align := 61, width := some 4, type := some 120 } := by rw [← hf]; kernel_rfl
  clear hf
  subst e1
  show wpAny _ _ (if _ then _ else _) _ _ _
  rw [if_neg (by rw [e2]; decide), if_neg (by rw [e2]; decide)]
  show wpAny _ _ (if _ then _ else _) _ _ _
  rw [if_neg (by decide)]
  show wpAny _ _ (if _ then _ else _) _ _ _
  rw [if_neg (by decide)]
  show wpAny _ _ (if _ then _ else _) _ _ _
  rw [if_neg (by rw [e2]; decide)]
  refine ret4 (T := X4 n) ?_ (X4_len h) hR
  · have ha : ff.alt = false := by rw [e2]
    simp only [ha, Bool.false_eq_true, if_false, if_true, show ((16 : Nat) == 10) = false by decide, show ((120 : Nat) == 88) = false by decide]
    rw [show decide ((n : Int) < 0) = false from decide_eq_false (by omega)]
    show _ = (⟨(pad4 (dg 16 n)).toArray⟩ : Str)
    have hd := dg_ne 16 n
    have hl := dg_len (b := 16) (n := n) h
    unfold dg at hd hl ⊢
    have e3 : (fun c : Char => c.toNat) = Char.toNat := rfl
    rw [e3]
    rw [show (n : Int).natAbs = n from rfl]
    generalize List.map Char.toNat (Nat.toDigits 16 n) = ds at hd hl ⊢
    subst e2
    conv => lhs; whnf
    simp only [hd, Bool.false_eq_true, if_false, List.length_nil, List.append_nil, List.nil_append, List.replicate_zero, List.length_append, List.length_replicate, pad4]
    rw [if_pos (by decide)]
    have e4 : (((4 : Nat) : Int) - (((0 : Nat) : Int) + ((0 : Nat) : Int) + ((0 : Nat) : Int))).toNat = 4 := by decide
    rw [e4]
    have e5 : (((4 : Nat) : Int) - (((0 : Nat) : Int) + ((0 : Nat) : Int) + ((0 : Nat) : Int)) - ((4 - ds.length + ds.length : Nat) : Int)).toNat = 0 := by omega
    rw [e5]
    rfl
section
variable {X : Cx}
/-- {n:04d} -/
def tD4 (te : TE) : TE := fun σ H Q => te σ H fun x H1 => ∃ n : Nat, x = .int (n : Int) ∧ n < 10000 ∧ Q (.str (D4 n)) H1
/-- {n:04x} -/
def tX4 (te : TE) : TE := fun σ H Q => te σ H fun x H1 => ∃ n : Nat, x = .int (n : Int) ∧ n < 65536 ∧ Q (.str (X4 n)) H1
theorem pe_D4 {e : Expr} {te : TE} {p1 p2 pos : Pos} {k : Nat} (he : PE X e te) : PE X (.FormattedValue e (-1) (some (.JoinedStr [.Constant (.str "04d") k p1] p2)) pos) (tD4 te) := by
  refine ⟨fun pins s σ H Q I h => ?_⟩
  refine wpAny_FormattedValue_spec (thn (he.run pins s σ H _ I h) fun v s1 hv => ?_)
  obtain ⟨x, H1, I1, r1, n, rfl, hn, q⟩ := hv
  obtain ⟨t, rfl⟩ := r1
  exact wpAny_JoinedStr_one (Calls.Constant_str ⟨_, _, rfl, KXf.field_int rfl (by decide +kernel) (by decide +kernel) (fun u => runD hn t u) fun t' k => ⟨.str (D4 n), H1, I1.tok k, ⟨_, rfl⟩, q⟩⟩)
theorem pe_X4 {e : Expr} {te : TE} {p1 p2 pos : Pos} {k : Nat} (he : PE X e te) : PE X (.FormattedValue e (-1) (some (.JoinedStr [.Constant (.str "04x") k p1] p2)) pos) (tX4 te) := by
  refine ⟨fun pins s σ H Q I h => ?_⟩
  refine wpAny_FormattedValue_spec (thn (he.run pins s σ H _ I h) fun v s1 hv => ?_)
  obtain ⟨x, H1, I1, r1, n, rfl, hn, q⟩ := hv
  obtain ⟨t, rfl⟩ := r1
  exact wpAny_JoinedStr_one (Calls.Constant_str ⟨_, _, rfl, KXf.field_int rfl (by decide +kernel) (by decide +kernel) (fun u => runX hn t u) fun t' k => ⟨.str (X4 n), H1, I1.tok k, ⟨_, rfl⟩, q⟩⟩)
end
end F4
namespace K64
open PySem PySem.Spec PyProof.Rows L2 Evl My TL
def topS (i : Nat) : Stmt := PySem.Challenge.pw_blocksearch_k64_whole_texts_told.main.body.getD i (.Pass ⟨0, 0, 0, 0⟩)
abbrev N_whole_text : List Str := ["rows", "body", "row"]
theorem sc_whole_text : FnScope N_whole_text ["rows"] (defScope (topS 8)) := ⟨rfl, rfl, rfl, by decide +kernel, rfl, by decide +kernel, by decide +kernel⟩
abbrev N_check_of : List Str := ["body", "check", "sign"]
theorem sc_check_of : FnScope N_check_of ["body"] (defScope (topS 9)) := ⟨rfl, rfl, rfl, by decide +kernel, rfl, by decide +kernel, by decide +kernel⟩
abbrev N_rows_of : List Str := ["text", "name", "rows", "row"]
theorem sc_rows_of : FnScope N_rows_of ["text", "name"] (defScope (topS 10)) := ⟨rfl, rfl, rfl, by decide +kernel, rfl, by decide +kernel, by decide +kernel⟩
abbrev N_is_row : List Str := ["row", "sign"]
theorem sc_is_row : FnScope N_is_row ["row"] (defScope (topS 11)) := ⟨rfl, rfl, rfl, by decide +kernel, rfl, by decide +kernel, by decide +kernel⟩
abbrev N_l_purse : List Str := ["_law_script", "_law_at", "_law_cell", "_law_far"]
theorem sc_l_purse : FnScope N_l_purse ["_law_script", "_law_at"] (defScope (topS 13)) := ⟨rfl, rfl, rfl, by decide +kernel, rfl, by decide +kernel, by decide +kernel⟩
abbrev N_l_take : List Str := ["_law_purse_here", "_law_many", "_law_digit", "_law_turn", "_law_one", "_law_other"]
theorem sc_l_take : FnScope N_l_take ["_law_purse_here", "_law_many"] (defScope (topS 14)) := ⟨rfl, rfl, rfl, by decide +kernel, rfl, by decide +kernel, by decide +kernel⟩
abbrev N_l_row : List Str := ["_law_purse_here", "_law_most", "_law_signs", "_law_k"]
theorem sc_l_row : FnScope N_l_row ["_law_purse_here", "_law_most"] (defScope (topS 15)) := ⟨rfl, rfl, rfl, by decide +kernel, rfl, by decide +kernel, by decide +kernel⟩
abbrev N_l_check : List Str := ["_law_rows", "_law_told", "_law_sign", "_law_row_here"]
theorem sc_l_check : FnScope N_l_check ["_law_rows"] (defScope (topS 16)) := ⟨rfl, rfl, rfl, by decide +kernel, rfl, by decide +kernel, by decide +kernel⟩
abbrev N_l_whole : List Str := ["_law_rows", "_law_check_here", "_law_figures", "_law_turn", "_law_many", "_law_row_here"]
theorem sc_l_whole : FnScope N_l_whole ["_law_rows"] (defScope (topS 17)) := ⟨rfl, rfl, rfl, by decide +kernel, rfl, by decide +kernel, by decide +kernel⟩
abbrev N_law : List Str := ["_law_script", "_law_k", "_law_purse_here", "_law_rows", "_law_label", "_law_handed", "_law_text", "_law_turn", "_law_found", "_law_at"]
theorem sc_law : FnScope N_law ["_law_script"] (defScope (topS 18)) := ⟨rfl, rfl, rfl, by decide +kernel, rfl, by decide +kernel, by decide +kernel⟩
/-- what the top has left: A the defs' places, FD their data, TK the constants' tokens -/
structure TX (K : PySem.W.Frag) (mg : Str → Option Value) (A : Nat → Addr) (FD : Nat → FuncData) (TK : Nat → Tok) : Prop where
  f_whole_text : Fun K "whole_text" "whole_text" (topS 8) (A 8) (FD 8)
  b_whole_text : Binds K (FD 8) ["rows"] []
  g_whole_text : mg "whole_text" = some (.ref (A 8))
  f_check_of : Fun K "check_of" "check_of" (topS 9) (A 9) (FD 9)
  b_check_of : Binds K (FD 9) ["body"] []
  g_check_of : mg "check_of" = some (.ref (A 9))
  f_rows_of : FunD K "rows_of" "rows_of" (defArgs (topS 10)) (defBody (topS 10)) (defScope (topS 10)) [] [("name", .str "")] (A 10) (FD 10)
  g_rows_of : mg "rows_of" = some (.ref (A 10))
  f_is_row : Fun K "is_row" "is_row" (topS 11) (A 11) (FD 11)
  b_is_row : Binds K (FD 11) ["row"] []
  g_is_row : mg "is_row" = some (.ref (A 11))
  f_l_purse : Fun K "_law_purse" "_law_purse" (topS 13) (A 13) (FD 13)
  b_l_purse : Binds K (FD 13) ["_law_script", "_law_at"] []
  g_l_purse : mg "_law_purse" = some (.ref (A 13))
  f_l_take : Fun K "_law_take" "_law_take" (topS 14) (A 14) (FD 14)
  b_l_take : Binds K (FD 14) ["_law_purse_here", "_law_many"] []
  g_l_take : mg "_law_take" = some (.ref (A 14))
  f_l_row : Fun K "_law_row" "_law_row" (topS 15) (A 15) (FD 15)
  b_l_row : Binds K (FD 15) ["_law_purse_here", "_law_most"] []
  g_l_row : mg "_law_row" = some (.ref (A 15))
  f_l_check : Fun K "_law_check" "_law_check" (topS 16) (A 16) (FD 16)
  b_l_check : Binds K (FD 16) ["_law_rows"] []
  g_l_check : mg "_law_check" = some (.ref (A 16))
  f_l_whole : Fun K "_law_whole" "_law_whole" (topS 17) (A 17) (FD 17)
  b_l_whole : Binds K (FD 17) ["_law_rows"] []
  g_l_whole : mg "_law_whole" = some (.ref (A 17))
  f_law : Fun K "law" "law" (topS 18) (A 18) (FD 18)
  b_law : Binds K (FD 18) ["_law_script"] []
  g_law : mg "law" = some (.ref (A 18))
  m_abs : mg "abs" = none
  m_all : mg "all" = none
  m_int : mg "int" = none
  m_isinstance : mg "isinstance" = none
  m_len : mg "len" = none
  m_list : mg "list" = none
  m_max : mg "max" = none
  m_min : mg "min" = none
  m_ord : mg "ord" = none
  m_range : mg "range" = none
  m_str : mg "str" = none
  c_MOST_ROWS : mg "MOST_ROWS" = some (.int 9999 (TK 3))
  c_MOST_SIGNS : mg "MOST_SIGNS" = some (.int 20000 (TK 4))
  c_FACTOR : mg "FACTOR" = some (.int 31 (TK 5))
  c_DIVISOR : mg "DIVISOR" = some (.int 65521 (TK 6))
  c_HEAD_SIGNS : mg "HEAD_SIGNS" = some (.int 10 (TK 7))
  k_Torn : mg "Torn" = some (.ref (A 1))
section
variable {P : Program} {w : World} {K : PySem.W.Frag} {mg : Str → Option Value} {base : Heap} {A : Nat → Addr} {FD : Nat → FuncData} {TK : Nat → Tok}
/-! ### _law_take -/
def spTake : Sp := fun vs H Q _ => ∃ (p : Addr) (m : Int) (c : Nat), vs = [.ref p, .int m] ∧ Pl H p c ∧ 0 < m ∧ m < 1073741824 ∧ c < 1000000 ∧
  ∀ (d : Int) (H' : Hp), 0 ≤ d → d < m → Pl H' p (c + 1) → Fx p H H' → Q (.int d) H'
set_option maxHeartbeats 4000000 in
theorem ok_l_take (T : TX K mg A FD TK) : FnOk P w K mg base CX0 1 (A 14) (FD 14) ["_law_purse_here", "_law_many"] spTake := by
  refine T.f_l_take.ok sc_l_take (fun vs H Q E h => ?_) (fun cdv A' outer s H vs Q E hr h => ?_)
  · obtain ⟨p, m, c, rfl, _⟩ := h
    rfl
  · obtain ⟨p, m, c, rfl, ⟨g, b, k, hp, hg, hb, hb2, hk⟩, hm, hm2, hc, q⟩ := h
    refine ⟨_, (pss_cons (ps_if (pt_cmpR op_gt (pe_ix (ixLK (K := K) rfl) (pv 0) pe_int (fun _ _ => rfl)) pe_int (nomark _))
      (pss_cons (ps_set (i := 2) sc_l_take.nd rfl (.inl rfl) (pe_op op_mod (pe_ix (ixLK (K := K) rfl) (pv 0) pe_int (fun _ _ => rfl)) (pv 1)))
      (pss_cons (ps_asg (pe_op op_fdiv (pe_ix (ixLK (K := K) rfl) (pv 0) pe_int (fun _ _ => rfl)) (pv 1)) (pg_sub (pv 0) pe_int set_list))
      (pss_one (ps_ret (pv 2)))))
      pss_nil)
      (pss_cons (ps_asg (pe_op op_add (pe_ix (ixLK (K := K) rfl) (pv 0) pe_int (fun _ _ => rfl)) pe_int) (pg_sub (pv 0) pe_int set_list))
      (pss_cons (ps_set (i := 3) sc_l_take.nd rfl (.inl rfl) (pe_ix (ixLK (K := K) rfl) (pv 0) pe_int (fun _ _ => rfl)))
      (pss_cons (ps_set (i := 4) sc_l_take.nd rfl (.inl rfl) (pe_op op_mod (pe_op op_pow (pe_op op_add (pe_op op_add (pe_ix (ixLK (K := K) rfl) (pv 0) pe_int (fun _ _ => rfl)) (pe_op op_mul (pe_op op_mul pe_int (pv 3)) (pv 3))) pe_int) pe_int) pe_int))
      (pss_cons (ps_set (i := 5) sc_l_take.nd rfl (.inl rfl) (pe_op op_mod (pe_op op_pow (pe_op op_add (pe_op op_mul (pv 4) (pe_op op_add (pe_op op_mul pe_int (pv 3)) pe_int)) (pv 3)) pe_int) pe_int))
      (pss_one (ps_ret (pe_op op_mod (pe_op op_fdiv (pe_op op_add (pe_op op_mul (pv 4) pe_int) (pv 5)) pe_int) (pv 1))))))))), ?_⟩
    refine ⟨.ref p, rfl, p, _, 0, .int g, rfl, rfl, SqL.of hp, atI_nat (j := 0) rfl, g, 0, rfl, rfl, _, rfl, ite2 (fun e => ?_) (fun e => ?_)⟩
    · refine ⟨.ref p, rfl, p, _, 0, .int g, rfl, rfl, SqL.of hp, atI_nat (j := 0) rfl, .int m, rfl, g, m, rfl, rfl, hm, ?_⟩
      refine ⟨.ref p, rfl, p, _, 0, .int g, rfl, rfl, SqL.of hp, atI_nat (j := 0) rfl, .int m, rfl, g, m, rfl, rfl, ⟨hm, hm2⟩, .ref p, rfl, p, _, 0, 0, rfl, rfl, hp, rfl, ?_⟩
      refine ⟨.int (g % m), rfl, ?_⟩
      exact q _ _ (Int.emod_nonneg _ (by omega)) (Int.emod_lt_of_pos _ hm) ⟨g / m, b, k, upd_same, Int.ediv_nonneg hg (by omega), hb, hb2, by omega⟩ Fx.upd
    · have hp1 : (upd H p (.lst [.int g, .int b, .int ((k : Int) + 1)])) p = some (.lst [.int g, .int b, .int ((k : Int) + 1)]) := upd_same
      refine ⟨.ref p, rfl, p, _, 2, .int k, rfl, rfl, SqL.of hp, atI_nat (j := 2) rfl, k, 1, rfl, rfl, .ref p, rfl, p, _, 2, 2, rfl, rfl, hp, rfl, ?_⟩
      refine ⟨.ref p, rfl, p, _, 2, .int ((k : Int) + 1), rfl, rfl, SqL.of hp1, atI_nat (j := 2) rfl, ?_⟩
      have t0 : (0 : Int) ≤ (k : Int) + 1 := by omega
      have t1 : (k : Int) + 1 ≤ 1000000 := by omega
      have s1 : 0 ≤ 48271 * ((k : Int) + 1) ∧ 48271 * ((k : Int) + 1) ≤ 48271000000 := by omega
      have s2 : 0 ≤ 48271 * ((k : Int) + 1) * ((k : Int) + 1) := mul_nn s1.1 t0
      have s3 : 48271 * ((k : Int) + 1) * ((k : Int) + 1) ≤ 48271000000 * 1000000 := mul_le s1.1 s1.2 t0 t1
      refine ⟨.ref p, rfl, p, _, 1, .int b, rfl, rfl, SqL.of hp1, atI_nat (j := 1) rfl, .int ((k : Int) + 1), rfl, 48271, (k : Int) + 1, rfl, rfl, .inl ⟨by decide, by decide⟩, .int ((k : Int) + 1), rfl, 48271 * ((k : Int) + 1), (k : Int) + 1, rfl, rfl, .inl ⟨by omega, by omega⟩,
        b, 48271 * ((k : Int) + 1) * ((k : Int) + 1), rfl, rfl, b + 48271 * ((k : Int) + 1) * ((k : Int) + 1), 1, rfl, rfl, b + 48271 * ((k : Int) + 1) * ((k : Int) + 1) + 1, 5, rfl, rfl, ⟨by decide, by decide, natAbs_lt (by omega) (by omega)⟩,
        _, 2147483647, rfl, rfl, (show (0 : Int) < 2147483647 by decide), ?_⟩
      have o0 : 0 ≤ (b + 48271 * ((k : Int) + 1) * ((k : Int) + 1) + 1) ^ Int.toNat 5 % 2147483647 := Int.emod_nonneg _ (by decide)
      have o1 : (b + 48271 * ((k : Int) + 1) * ((k : Int) + 1) + 1) ^ Int.toNat 5 % 2147483647 < 2147483647 := Int.emod_lt_of_pos _ (by decide)
      dsimp only
      generalize (b + 48271 * ((k : Int) + 1) * ((k : Int) + 1) + 1) ^ Int.toNat 5 % 2147483647 = one at o0 o1 ⊢
      have u1 : 0 ≤ 2 * ((k : Int) + 1) + 30011 ∧ 2 * ((k : Int) + 1) + 30011 ≤ 2030011 := by omega
      have u2 : 0 ≤ one * (2 * ((k : Int) + 1) + 30011) := mul_nn o0 u1.1
      have u3 : one * (2 * ((k : Int) + 1) + 30011) ≤ 2147483647 * 2030011 := mul_le o0 (by omega) u1.1 u1.2
      refine ⟨.int one, rfl, .int ((k : Int) + 1), rfl, 2, (k : Int) + 1, rfl, rfl, .inl ⟨by decide, by decide⟩, 2 * ((k : Int) + 1), 30011, rfl, rfl, one, 2 * ((k : Int) + 1) + 30011, rfl, rfl, .inl ⟨by omega, by omega⟩, .int ((k : Int) + 1), rfl, one * (2 * ((k : Int) + 1) + 30011), (k : Int) + 1, rfl, rfl, _, 3, rfl, rfl, ⟨by decide, by decide, natAbs_lt (by omega) (by omega)⟩, _, 998244353, rfl, rfl, (show (0 : Int) < 998244353 by decide), ?_⟩
      have r0 : 0 ≤ (one * (2 * ((k : Int) + 1) + 30011) + ((k : Int) + 1)) ^ Int.toNat 3 % 998244353 := Int.emod_nonneg _ (by decide)
      have r1 : (one * (2 * ((k : Int) + 1) + 30011) + ((k : Int) + 1)) ^ Int.toNat 3 % 998244353 < 998244353 := Int.emod_lt_of_pos _ (by decide)
      dsimp only
      generalize (one * (2 * ((k : Int) + 1) + 30011) + ((k : Int) + 1)) ^ Int.toNat 3 % 998244353 = other at r0 r1 ⊢
      refine ⟨.int one, rfl, one, 998244353, rfl, rfl, .inl ⟨by omega, by omega⟩, .int other, rfl, _, _, rfl, rfl, _, 1009, rfl, rfl, (show (0 : Int) < 1009 ∧ (1009 : Int) < 1073741824 by decide), .int m, rfl, _, m, rfl, rfl, hm, ?_⟩
      exact q _ _ (Int.emod_nonneg _ (by omega)) (Int.emod_lt_of_pos _ hm) ⟨g, b, k + 1, upd_same, hg, hb, hb2, by omega⟩ Fx.upd

/-! ### _law_purse -/
def spPool (K : PySem.W.Frag) : Sp := fun vs H Q _ => ∃ (a : Addr) (ns : List Int) (j : Nat), vs = [.ref a, .int (j : Int)] ∧ SqL K H a (ns.map V.int) ∧ ns.length ≤ 63 ∧ j ≤ 1000 ∧
  ∀ (p : Addr) (H' : Hp), H p = none → Ex H H' → Pl H' p 0 → Q (.ref p) H'
set_option maxHeartbeats 4000000 in
theorem ok_l_purse (T : TX K mg A FD TK) : FnOk P w K mg base CX0 1 (A 13) (FD 13) ["_law_script", "_law_at"] (spPool K) := by
  refine T.f_l_purse.ok sc_l_purse (fun vs H Q E h => ?_) (fun cdv A' outer s H vs Q E hr h => ?_)
  · obtain ⟨a, ns, j, rfl, _⟩ := h
    rfl
  · obtain ⟨a, ns, j, rfl, hS, hn, hj, q⟩ := h
    refine ⟨_, (pss_cons (ps_set (i := 2) sc_l_purse.nd rfl (.inl rfl) pe_int)
      (pss_cut (ps_if (pt_cmpR op_lt (pv 1) (pe_callB (lenK (K := K) rfl) (by rfl) T.m_len (by decide +kernel) (pa_cons (pv 0) pa_nil)) (nomark _))
      (pss_one (ps_set (i := 2) sc_l_purse.nd rfl (.inl rfl) (pe_ix (ixLK (K := K) rfl) (pv 0) (pv 1) (fun _ _ => rfl))))
      pss_nil)
      (pss_cons (ps_set (i := 3) sc_l_purse.nd rfl (.inl rfl) (pe_callB call_abs (by rfl) T.m_abs (by decide +kernel) (pa_cons (pv 2) pa_nil)))
      (pss_one (ps_ret (pe_lst (pa_cons (pe_op op_mul (pv 3) (pe_callTy call_int1 (by rfl) T.m_int (by decide +kernel) (pa_cons (pe_cmpR op_ge (pv 3) (pe_op op_pow pe_int pe_int) (nomark _)) pa_nil))) (pa_cons (pe_op op_mod (pe_op op_add (pe_op op_add (pe_op op_mod (pv 2) pe_int) (pe_op op_mul pe_int (pv 1))) pe_int) pe_int) (pa_cons pe_int pa_nil))))))))), ?_⟩
    refine ⟨fun σ' H' => H' = H ∧ ∃ z : Int, σ' = [some (.ref a), some (.int (j : Int)), some (.int z), none], ?_, ?_⟩
    · refine ⟨.int (j : Int), rfl, .ref a, rfl, a, _, rfl, .inl hS, _, _, rfl, rfl, _, rfl, ite2 (fun e => ?_) (fun e => ?_)⟩
      · have e0 : (j : Int) < ((ns.map V.int).length : Int) := of_decide_eq_true e
        have e1 : j < ns.length := by
          rw [List.length_map] at e0
          omega
        refine ⟨.ref a, rfl, .int (j : Int), rfl, a, _, _, .int ns[j], rfl, rfl, hS, atI_nat (j := j) ?_, rfl, ns[j], rfl⟩
        rw [List.getElem?_map, List.getElem?_eq_getElem e1]
        rfl
      · exact ⟨rfl, 0, rfl⟩
    · rintro σ' H' ⟨rfl, z, rfl⟩
      refine ⟨.int z, rfl, z, rfl, ?_⟩
      have f0 : 0 ≤ (if z < 0 then -z else z) := by split <;> omega
      generalize (if z < 0 then -z else z) = far at f0 ⊢
      refine ⟨.int far, rfl, .int far, rfl, 10, 18, rfl, rfl, ⟨by decide, by decide, by decide⟩, far, _, rfl, rfl, .inr ⟨_, rfl, ?_⟩⟩
      generalize hd : decide ((10 : Int) ^ Int.toNat 18 ≤ far) = big
      have m0 : 0 ≤ z % 2147483647 := Int.emod_nonneg _ (by decide)
      have m1 : z % 2147483647 < 2147483647 := Int.emod_lt_of_pos _ (by decide)
      refine ⟨far, _, rfl, rfl, .inr ⟨?_, ?_⟩, ?_⟩
      · cases big <;> decide
      · cases big <;> decide
      refine ⟨.int z, rfl, z, 2147483647, rfl, rfl, (show (0 : Int) < 2147483647 by decide), ?_⟩
      dsimp only
      generalize z % 2147483647 = y at m0 m1 ⊢
      refine ⟨.int (j : Int), rfl, 7919, (j : Int), rfl, rfl, .inl ⟨by decide, by decide⟩, _, _, rfl, rfl, _, 17, rfl, rfl, _, 2147483647, rfl, rfl, (show (0 : Int) < 2147483647 by decide), (by show 3 ≤ sizeLine; decide), fun p np => ?_⟩
      have w0 : 0 ≤ (y + 7919 * (j : Int) + 17) % 2147483647 := Int.emod_nonneg _ (by decide)
      have w1 : (y + 7919 * (j : Int) + 17) % 2147483647 < 2147483647 := Int.emod_lt_of_pos _ (by decide)
      refine q p _ np (ex_upd np) ⟨_, _, 0, upd_same, ?_, w0, by omega, Nat.le_refl _⟩
      cases big
      · show (0 : Int) ≤ far * 0
        omega
      · show (0 : Int) ≤ far * 1
        omega

/-! ### rows of a file, their check sum and whole text -/
theorem tl_len (z : Str) : (tl z).length = z.length := by
  simp [tl, Str.length]
def okR (z : Str) : Bool := decide (z.length ≤ 30) && (tl z).all fun c => decide (32 ≤ c) && decide (c ≤ 126)
def bodyL : List Str → List Nat
  | [] => []
  | z :: r => tl z ++ (10 :: bodyL r)
def bodyS (rs : List Str) : Str := ⟨(bodyL rs).toArray⟩
def chk (l : List Nat) : Nat := l.foldl (fun a c => (31 * a + c) % 65521) 1
structure Fit (rs : List Str) : Prop where
  many : rs.length ≤ 9999
  short : (bodyL rs).length ≤ 30000
  ok : rs.all okR = true
def nl (z : Str) : Str := z ++ "\n"
theorem tl_nl (z : Str) : tl (nl z) = tl z ++ [10] := tl_append z "\n"
theorem joinL_nil : ∀ ps : List (List Nat), joinL [] ps = ps.flatten
  | [] => rfl
  | [p] => by simp [joinL]
  | p :: q :: r => by
    rw [joinL, joinL_nil (q :: r)]
    rfl
theorem body_flat : ∀ rs : List Str, ((rs.map nl).map tl).flatten = bodyL rs
  | [] => rfl
  | z :: r => by
    rw [List.map_cons, List.map_cons, List.flatten_cons, body_flat r, tl_nl, bodyL, List.append_assoc]
    rfl
theorem join_body (rs : List Str) : Txt.join "" (rs.map nl) = bodyS rs := by
  refine ext_tl ?_
  rw [join_eq, tl_join]
  exact (joinL_nil _).trans (body_flat rs)
theorem joinL_ten : ∀ rs : List Str, joinL [10] ((rs ++ [Str.empty]).map tl) = bodyL rs
  | [] => rfl
  | [z] => by
    show tl z ++ ([10] ++ tl Str.empty) = tl z ++ (10 :: [])
    rfl
  | z :: y :: r => by
    show tl z ++ ([10] ++ joinL [10] ((y :: r ++ [Str.empty]).map tl)) = _
    rw [joinL_ten (y :: r)]
    rfl
theorem no10 {z : Str} (h : okR z = true) : 10 ∉ tl z := fun m => by
  unfold okR at h
  rw [Bool.and_eq_true] at h
  have := List.all_eq_true.mp h.2 _ m
  exact absurd this (by decide)
theorem split_body {rs : List Str} (h : rs.all okR = true) : Txt.split (bodyS rs) "\n" = rs ++ [Str.empty] := by
  have e : bodyS rs = Txt.join "\n" (rs ++ [Str.empty]) := by
    refine ext_tl ?_
    rw [join_eq, tl_join]
    exact (joinL_ten rs).symm
  rw [e]
  refine split_join (y := "\n") (s := 10) (S := []) (by decide +kernel) (by decide +kernel) (by simp) fun p hp => ?_
  rcases List.mem_append.mp hp with m | m
  · exact no10 (List.all_eq_true.mp h p m)
  · rw [List.mem_singleton.mp m]
    decide
theorem chk_lt (l : List Nat) : chk l < 65521 := by
  unfold chk
  suffices h : ∀ (l : List Nat) (a : Nat), a < 65521 → l.foldl (fun a c => (31 * a + c) % 65521) a < 65521 from h l 1 (by decide)
  intro l
  induction l with
  | nil => exact fun a h => h
  | cons c r ih => exact fun a _ => ih _ (Nat.mod_lt _ (by decide))
def Whole (rs : List Str) : Str := Str.empty ++ F4.D4 rs.length ++ ":" ++ F4.X4 (chk (bodyL rs)) ++ "\n" ++ bodyS rs
theorem tl_whole (rs : List Str) : tl (Whole rs) = F4.pad4 (F4.dg 10 rs.length) ++ ([58] ++ (F4.pad4 (F4.dg 16 (chk (bodyL rs))) ++ ([10] ++ bodyL rs))) := by
  unfold Whole
  rw [tl_append, tl_append, tl_append, tl_append, tl_append, List.append_assoc, List.append_assoc, List.append_assoc, List.append_assoc]
  rfl
theorem head_len {rs : List Str} (h : Fit rs) : (F4.pad4 (F4.dg 10 rs.length)).length = 4 ∧ (F4.pad4 (F4.dg 16 (chk (bodyL rs)))).length = 4 :=
  ⟨F4.pad4_len (F4.dg_len (b := 10) (by have := h.many; omega)), F4.pad4_len (F4.dg_len (b := 16) (by have := chk_lt (bodyL rs); omega))⟩
theorem whole_len {rs : List Str} (h : Fit rs) : (Whole rs).length = 10 + (bodyL rs).length := by
  rw [← tl_len, tl_whole]
  have := head_len h
  simp only [List.length_append, List.length_cons, List.length_nil]
  omega
theorem cut_whole {rs : List Str} (h : Fit rs) : cutS (Whole rs) (some 10) none = bodyS rs := by
  refine ext_tl ?_
  have e : HT.sIx (Whole rs).length 0 (some 10) = 10 := by
    have e := HT.sIx_nat (Whole rs).length 0 10
    rw [whole_len h] at e ⊢
    exact e.trans (by omega)
  show ((tl (Whole rs)).drop (HT.sIx (Whole rs).length 0 (some 10))).take ((Whole rs).length - HT.sIx (Whole rs).length 0 (some 10)) = bodyL rs
  rw [e, tl_whole, whole_len h]
  have hh := head_len h
  generalize F4.pad4 (F4.dg 10 rs.length) = a at hh ⊢
  generalize F4.pad4 (F4.dg 16 (chk (bodyL rs))) = b at hh ⊢
  have e2 : a ++ ([58] ++ (b ++ ([10] ++ bodyL rs))) = (a ++ [58] ++ b ++ [10]) ++ bodyL rs := by simp
  rw [e2, List.drop_left' (by simp; omega), List.take_of_length_le (by omega)]
theorem cut_last (rs : List Str) : cutV ((rs ++ [Str.empty]).map V.str) none (some (-1)) = rs.map V.str := by
  unfold cutV
  have e : HT.sIx ((rs ++ [Str.empty]).map V.str).length ((rs ++ [Str.empty]).map V.str).length (some (-1)) = rs.length := by
    show ((-1 : Int) + ((((rs ++ [Str.empty]).map V.str).length : Nat) : Int)).toNat = rs.length
    simp
    omega
  rw [e, HT.sIx_none, List.drop_zero, List.map_append, Nat.sub_zero, List.take_left' (by simp)]
/-! '0' * n -/
theorem op_rep0 {X : Cx} : OpR X (binaryOp .Mult) (fun x y H Q => ∃ n : Int, x = .str "0" ∧ y = .int n ∧ 0 ≤ n ∧ n ≤ 3 ∧ Q (.str ⟨(List.replicate n.toNat 48).toArray⟩) H) := by
  intro pins s σ H x y v u Q I rx ry h
  obtain ⟨n, rfl, rfl, h1, h2, q⟩ := h
  obtain ⟨t, rfl⟩ := rx
  obtain ⟨t', rfl⟩ := ry
  have hz : ("0" : Str).length = 1 := by decide +kernel
  refine PySem.P.mul_str ?_ (fun _ _ => ?_) (fun _ _ => ?_) ?_
  · rw [decide_eq_false (by omega), decide_eq_false (by omega)]
    rfl
  · rw [hz]
    have : (1000 : Int) ≤ (2 ^ 63 - 1) / n := by
      rw [Int.le_ediv_iff_mul_le (by omega)]
      omega
    omega
  · rw [hz]
    exact PyProof.Rows.short24 (by omega)
  · have c : n = 0 ∨ n = 1 ∨ n = 2 ∨ n = 3 := by omega
    rcases c with rfl | rfl | rfl | rfl
    · exact ⟨by decide +kernel, .str _, H, I.tok _, ⟨_, rfl⟩, q⟩
    · exact ⟨.str _, H, I, ⟨_, rfl⟩, q⟩
    · exact ⟨by decide +kernel, .str _, H, I.tok _, ⟨_, rfl⟩, q⟩
    · exact ⟨by decide +kernel, .str _, H, I.tok _, ⟨_, rfl⟩, q⟩
/-! four figures of base 16 -/
def hexS : Str := "0123456789abcdef"
def hx (d : Nat) : Nat := hexS.cps.toList.getD d 0
theorem hx_is : ∀ d, d < 16 → (Nat.digitChar d).toNat = hx d := by decide +kernel
theorem dg_low {n : Nat} (h : n < 16) : F4.dg 16 n = [hx n] := by
  unfold F4.dg
  rw [Nat.toDigits_of_lt_base h, List.map_cons, hx_is n h]
  rfl
theorem dg_up {n : Nat} (h : 16 ≤ n) : F4.dg 16 n = F4.dg 16 (n / 16) ++ [hx (n % 16)] := by
  have e := Nat.toDigits_append_toDigits (b := 16) (n := n / 16) (d := n % 16) (by decide) (by omega) (by omega)
  rw [Nat.div_add_mod] at e
  rw [← dg_low (n := n % 16) (by omega)]
  unfold F4.dg
  rw [← e, List.map_append]
theorem hx0 : hx 0 = 48 := by decide +kernel
theorem hex4 {n : Nat} (h : n < 65536) : F4.pad4 (F4.dg 16 n) = [hx (n / 16 / 16 / 16 % 16), hx (n / 16 / 16 % 16), hx (n / 16 % 16), hx (n % 16)] := by
  by_cases h1 : n < 16
  · rw [dg_low h1, show n / 16 / 16 / 16 % 16 = 0 by omega, show n / 16 / 16 % 16 = 0 by omega, show n / 16 % 16 = 0 by omega, show n % 16 = n by omega, hx0]
    rfl
  · rw [dg_up (by omega)]
    by_cases h2 : n / 16 < 16
    · rw [dg_low h2, show n / 16 / 16 / 16 % 16 = 0 by omega, show n / 16 / 16 % 16 = 0 by omega, show n / 16 % 16 = n / 16 by omega, hx0]
      rfl
    · rw [dg_up (n := n / 16) (by omega)]
      by_cases h3 : n / 16 / 16 < 16
      · rw [dg_low h3, show n / 16 / 16 / 16 % 16 = 0 by omega, show n / 16 / 16 % 16 = n / 16 / 16 by omega, hx0]
        rfl
      · rw [dg_up (n := n / 16 / 16) (by omega), dg_low (n := n / 16 / 16 / 16) (by omega), show n / 16 / 16 / 16 % 16 = n / 16 / 16 / 16 by omega]
        rfl

/-! ### is_row, check_of, whole_text, rows_of -/
def spIsRow : Sp := fun vs H Q _ => ∃ z : Str, vs = [.str z] ∧ okR z = true ∧ ∀ H', Ex H H' → Q (.bl true) H'
theorem okR_len {z : Str} (h : okR z = true) : z.length ≤ 30 := by
  unfold okR at h
  rw [Bool.and_eq_true] at h
  exact of_decide_eq_true h.1
theorem okR_at {z : Str} (h : okR z = true) {i c : Nat} (g : (tl z)[i]? = some c) : 32 ≤ c ∧ c ≤ 126 := by
  unfold okR at h
  rw [Bool.and_eq_true] at h
  have := List.all_eq_true.mp h.2 _ (List.mem_of_getElem? g)
  rw [Bool.and_eq_true] at this
  exact ⟨of_decide_eq_true this.1, of_decide_eq_true this.2⟩
theorem lt_one (a b : Nat) : decide (([a] : List Nat) < [b]) = decide (a < b) := by
  by_cases h : a < b
  · rw [decide_eq_true h]
    exact decide_eq_true (List.Lex.rel h)
  · rw [decide_eq_false h]
    refine decide_eq_false fun x => ?_
    cases x with
    | rel r => exact h r
    | cons r => cases r
set_option maxHeartbeats 4000000 in
theorem ok_is_row (T : TX K mg A FD TK) : FnOk P w K mg base CX0 1 (A 11) (FD 11) ["row"] spIsRow := by
  refine T.f_is_row.ok sc_is_row (fun vs H Q E h => ?_) (fun cdv A' outer s H vs Q E hr h => ?_)
  · obtain ⟨z, rfl, _⟩ := h
    rfl
  · obtain ⟨z, rfl, hz, q⟩ := h
    have hl := okR_len hz
    have hs : z.cps.size = z.length := rfl
    refine ⟨_, (pss_one (ps_ret (pe_and (pe_cmpR op_le (pe_callB call_len_str (by rfl) T.m_len (by decide +kernel) (pa_cons (pv 0) pa_nil)) (pe_glob (v := .int 20000) (by rfl) T.c_MOST_SIGNS ⟨_, rfl⟩) (nomark _)) (pe_one (pe_callB (allK (K := K) rfl rfl) (by rfl) T.m_all (by decide +kernel) (pa_cons (pe_lc (own := [("sign", 1)])  rfl sc_is_row.nd (pi_str (pv 0)) (blkOk_by (own := [("sign", 1)]) (N := N_is_row) (sc := defScope (topS 11)) (by decide +kernel)) (fun _ _ _ _ _ => (pg_name (i := 1) sc_is_row.nd rfl (Or.inl rfl))) (fun _ _ _ _ _ => pts_nil) (fun _ _ _ _ _ => (pe_chain op_le_str op_le_str pe_str (pv 1) pe_str))) pa_nil)))))), ?_⟩
    refine ⟨.str z, rfl, z, rfl, sz (by omega), (z.length : Int), 20000, rfl, rfl, _, rfl, ite2 (fun c1 => ?_) (fun c1 => ?_)⟩
    · refine ⟨.str z, rfl, z, rfl, fun D hD => ?_⟩
      refine lc_it (walk_str (z := z)) (fun i H' => Ex H H' ∧ H' D = some (.lst ((List.replicate i true).map V.bl))) ⟨Ex.new hD, upd_same⟩ (fun _ _ _ _ => True.intro) (fun i x H1 H2 hi p y => ?_) (fun H1 p => ?_)
      · obtain ⟨p1, p2⟩ := p
        obtain ⟨rfl, c, hc, rfl⟩ := y
        have g : (tl z)[i]? = some c := by
          show z.cps.toList[i]? = some c
          rw [Array.getElem?_toList]
          exact hc
        obtain ⟨c1, c2⟩ := okR_at hz g
        refine ⟨rfl, .str ⟨#[c]⟩, rfl, " ", ⟨#[c]⟩, rfl, rfl, _, rfl, ?_⟩
        have e1 : (!decide ((⟨#[c]⟩ : Str).cps.toList < (" " : Str).cps.toList)) = true := by
          show (!decide (([c] : List Nat) < [32])) = true
          rw [lt_one, decide_eq_false (by omega)]
          rfl
        have e2 : (!decide (("~" : Str).cps.toList < (⟨#[c]⟩ : Str).cps.toList)) = true := by
          show (!decide (([126] : List Nat) < [c])) = true
          rw [lt_one, decide_eq_false (by omega)]
          rfl
        rw [if_pos e1]
        refine ⟨⟨#[c]⟩, "~", rfl, rfl, _, p2, ?_, Ex.mut p1 hD, ?_⟩
        · rw [List.length_map, List.length_replicate]
          exact sz_lt (by omega)
        · rw [upd_same, e2, List.replicate_succ', List.map_append]
          rfl
      · obtain ⟨p1, p2⟩ := p
        refine ⟨D, List.replicate z.cps.size true, rfl, SqL.of p2, ?_⟩
        have e : (List.replicate z.cps.size true).all id = true := by
          rw [List.all_eq_true]
          intro b hb
          rw [List.eq_of_mem_replicate hb]
          rfl
        rw [e]
        exact q H1 p1
    · exact absurd (decide_eq_true (show (z.length : Int) ≤ 20000 by omega)) c1
def spCheck : Sp := fun vs H Q _ => ∃ z : Str, vs = [.str z] ∧ z.length ≤ 90000 ∧ (∀ c ∈ tl z, c < 1000) ∧ Q (.int (chk (tl z) : Nat)) H
theorem chk_snoc (l : List Nat) (c : Nat) : chk (l ++ [c]) = (31 * chk l + c) % 65521 := by
  unfold chk
  rw [List.foldl_append]
  rfl
theorem chk_step {l : List Nat} {i c : Nat} (g : l[i]? = some c) : ((chk (l.take (i + 1)) : Nat) : Int) = (31 * (chk (l.take i) : Nat) + (c : Nat)) % 65521 := by
  rw [List.take_add_one, g]
  show ((chk (l.take i ++ [c]) : Nat) : Int) = _
  rw [chk_snoc]
  omega
set_option maxHeartbeats 4000000 in
theorem ok_check_of (T : TX K mg A FD TK) : FnOk P w K mg base CX0 1 (A 9) (FD 9) ["body"] spCheck := by
  refine T.f_check_of.ok sc_check_of (fun vs H Q E h => ?_) (fun cdv A' outer s H vs Q E hr h => ?_)
  · obtain ⟨z, rfl, _⟩ := h
    rfl
  · obtain ⟨z, rfl, hz, ha, q⟩ := h
    refine ⟨_, (pss_cons (ps_set (i := 1) sc_check_of.nd rfl (.inl rfl) pe_int)
      (pss_cons (ps_for PassesOwn.never rfl (pi_str (pv 0)) (pg_name (i := 2) sc_check_of.nd rfl (.inl rfl))
      (pss_one (ps_set (i := 1) sc_check_of.nd rfl (.inl rfl) (pe_op op_mod (pe_op op_add (pe_op op_mul (pe_glob (v := .int 31) (by rfl) T.c_FACTOR ⟨_, rfl⟩) (pv 1)) (pe_callB call_ord (by rfl) T.m_ord (by decide +kernel) (pa_cons (pv 2) pa_nil))) (pe_glob (v := .int 65521) (by rfl) T.c_DIVISOR ⟨_, rfl⟩)))))
      (pss_one (ps_ret (pv 1))))), ?_⟩
    refine ⟨.str z, rfl, z, rfl, ?_⟩
    refine for_it (walk_str (z := z)) (fun i σ' H' => H' = H ∧ ∃ o, σ' = [some (.str z), some (.int (chk ((tl z).take i) : Nat)), o]) ⟨rfl, none, rfl⟩ (fun _ _ _ _ _ => True.intro) (fun i x σ' H1 H2 hi p y => ?_) (fun σ' H1 p => ?_)
    · obtain ⟨rfl, o, rfl⟩ := p
      obtain ⟨rfl, c, hc, rfl⟩ := y
      have g : (tl z)[i]? = some c := by
        show z.cps.toList[i]? = some c
        rw [Array.getElem?_toList]
        exact hc
      have hc2 := ha c (List.mem_of_getElem? g)
      have hk := chk_lt ((tl z).take i)
      refine ⟨.int (chk ((tl z).take i) : Nat), rfl, 31, _, rfl, rfl, .inl ⟨by decide, by omega⟩, .str ⟨#[c]⟩, rfl, ⟨#[c]⟩, rfl, rfl, _, _, rfl, rfl, _, 65521, rfl, rfl, (show (0 : Int) < 65521 by decide), rfl, some (.str ⟨#[c]⟩), ?_⟩
      rw [chk_step g]
      rfl
    · obtain ⟨rfl, o, rfl⟩ := p
      refine ⟨.int (chk ((tl z).take z.cps.size) : Nat), rfl, ?_⟩
      show Q (.int ((chk (List.take z.length (tl z)) : Nat) : Int)) _
      rw [List.take_of_length_le (Nat.le_of_eq (tl_len z))]
      exact q
theorem body_len {rs : List Str} : ((rs.map nl).map (·.length)).sum = (bodyL rs).length := by
  induction rs with
  | nil => rfl
  | cons z r ih =>
    rw [List.map_cons, List.map_cons, List.sum_cons, ih, bodyL, List.length_append, ← tl_len (nl z), tl_nl]
    simp
    omega
theorem body_small : ∀ {rs : List Str}, rs.all okR = true → ∀ c ∈ bodyL rs, c < 1000
  | [], _, c, hc => by cases hc
  | z :: r, h, c, hc => by
    rw [List.all_cons, Bool.and_eq_true] at h
    rw [bodyL, List.mem_append, List.mem_cons] at hc
    rcases hc with m | rfl | m
    · obtain ⟨i, hi⟩ := List.getElem?_of_mem m
      have := okR_at h.1 hi
      omega
    · decide
    · exact body_small h.2 c m
theorem nl_len (z : Str) : (nl z).length = z.length + 1 := by
  rw [← tl_len, tl_nl, List.length_append, tl_len]
  rfl
theorem row_at {rs : List Str} (h : rs.all okR = true) {i : Nat} {x : V} (g : (rs.map V.str)[i]? = some x) : ∃ z, x = .str z ∧ rs[i]? = some z ∧ okR z = true := by
  rw [List.getElem?_map] at g
  cases e : rs[i]? with
  | none => rw [e] at g; cases g
  | some z =>
    rw [e] at g
    cases g
    exact ⟨z, rfl, rfl, List.all_eq_true.mp h z (List.mem_of_getElem? e)⟩
theorem snoc_map {rs : List Str} {i : Nat} {z : Str} (g : rs[i]? = some z) : (rs.take (i + 1)).map nl = (rs.take i).map nl ++ [nl z] := by
  rw [List.take_add_one, g, List.map_append]
  rfl
def spWhole (K : PySem.W.Frag) : Sp := fun vs H Q _ => ∃ (a : Addr) (rs : List Str), vs = [.ref a] ∧ SqL K H a (rs.map V.str) ∧ Fit rs ∧ ∀ H', Ex H H' → Q (.str (Whole rs)) H'
set_option maxHeartbeats 4000000 in
theorem ok_whole_text (T : TX K mg A FD TK) : FnOk P w K mg base CX0 2 (A 8) (FD 8) ["rows"] (spWhole K) := by
  have G_check_of := ok_check_of (P := P) (w := w) (base := base) T
  refine T.f_whole_text.ok (k := 1) sc_whole_text (fun vs H Q E h => ?_) (fun cdv A' outer s H vs Q E hr h => ?_)
  · obtain ⟨a, rs, rfl, _⟩ := h
    rfl
  · obtain ⟨a, rs, rfl, hS, hf, q⟩ := h
    have hm := hf.many
    have hs := hf.short
    refine ⟨_, (pss_cons (ps_set (i := 1) sc_whole_text.nd rfl (.inl rfl) (pe_join pe_str (pe_lc (own := [("row", 2)])  rfl sc_whole_text.nd (piLK (K := K) rfl (pv 0)) (blkOk_by (own := [("row", 2)]) (N := N_whole_text) (sc := defScope (topS 8)) (by decide +kernel)) (fun _ _ _ _ _ => (pg_name (i := 2) sc_whole_text.nd rfl (Or.inl rfl))) (fun _ _ _ _ _ => pts_nil) (fun _ _ _ _ _ => (pe_op op_add_str (pv 2) pe_str)))))
      (pss_one (ps_ret (pe_joined (PJ.cons (F4.pe_D4 (pe_callB (lenK (K := K) rfl) (by rfl) T.m_len (by decide +kernel) (pa_cons (pv 0) pa_nil))) (PJ.cons pe_str (PJ.cons (F4.pe_X4 (pe_call G_check_of hr (by rfl) T.g_check_of T.f_check_of.kp T.b_check_of .nil pass0 (pa_cons (pv 1) pa_nil))) (PJ.cons pe_str (PJ.cons (pe_fmt (pv 1)) PJ.nil))))))))), ?_⟩
    refine ⟨⟨_, rfl⟩, .ref a, rfl, a, rfl, ⟨_, hS⟩, fun D hD => ?_⟩
    refine lc_list (K := K) (xs := rs.map V.str) (fun i H' => Ex H H' ∧ H' D = some (.lst (((rs.take i).map nl).map V.str))) ⟨Ex.new hD, upd_same⟩ (fun i H' _ p => ex_l p.1 hS) (fun i x H1 hx p => ?_) (fun H1 p => ?_)
    · obtain ⟨p1, p2⟩ := p
      obtain ⟨z, rfl, gz, oz⟩ := row_at hf.ok hx
      have il : i < rs.length := (List.getElem?_eq_some_iff.mp gz).1
      refine ⟨rfl, .str z, rfl, z, "\n", rfl, rfl, ?_, _, p2, ?_, Ex.mut p1 hD, ?_⟩
      · have := okR_len oz
        exact sz (show z.length + 1 ≤ 100000 by omega)
      · rw [List.length_map, List.length_map, List.length_take]
        exact sz_lt (by omega)
      · rw [upd_same, snoc_map gz, List.map_append]
        rfl
    · obtain ⟨p1, p2⟩ := p
      rw [List.length_map, List.take_length] at p2
      refine ⟨"", D, rs.map nl, rfl, rfl, .inl (SqL.of p2), ?_, ?_⟩
      · rw [body_len]
        show (bodyL rs).length + (rs.map nl).length * 0 ≤ 16777216
        omega
      · rw [join_body]
        have k0 := chk_lt (bodyL rs)
        have d4 : (F4.D4 rs.length).length = 4 := F4.D4_len (by omega)
        have x4 : (F4.X4 (chk (bodyL rs))).length = 4 := F4.X4_len (by omega)
        have bl : (bodyS rs).length = (bodyL rs).length := by
          rw [← tl_len]
          rfl
        have sl : ∀ x y : Str, (x ++ y).length = x.length + y.length := fun x y => by
          rw [← tl_len, ← tl_len, ← tl_len, tl_append, List.length_append]
        have c1 : (":" : Str).length = 1 := by decide +kernel
        have c2 : ("\n" : Str).length = 1 := by decide +kernel
        have c0 : (Str.empty).length = 0 := by decide +kernel
        refine ⟨.ref a, rfl, a, rs.map V.str, rfl, .inl (ex_l p1 hS), rs.length, ?_, by omega, F4.D4 rs.length, rfl, ?_, ":", rfl, ?_, ?_⟩
        · rw [List.length_map]
        · rw [sl, c0, d4]
          exact sz (by omega)
        · rw [sl, sl, c0, d4, c1]
          exact sz (by omega)
        refine ⟨.str (bodyS rs), rfl, bodyS rs, rfl, by omega, body_small hf.ok, chk (bodyL rs), rfl, by omega, F4.X4 (chk (bodyL rs)), rfl, ?_, "\n", rfl, ?_, ?_⟩
        · rw [sl, sl, sl, c0, d4, c1, x4]
          exact sz (by omega)
        · rw [sl, sl, sl, sl, c0, d4, c1, x4, c2]
          exact sz (by omega)
        refine ⟨.str (bodyS rs), rfl, .inl ⟨bodyS rs, rfl, sz (by omega), bodyS rs, rfl, ?_, q H1 p1⟩⟩
        rw [sl, sl, sl, sl, sl, c0, d4, c1, x4, c2]
        exact sz (by omega)

/-! ### rows_of -/
def spRowsOf : Sp := fun vs H Q _ => ∃ (rs : List Str) (nm : Str), vs = [.str (Whole rs), .str nm] ∧ Fit rs ∧ ∀ (p : Addr) (H' : Hp), H p = none → Ex H H' → H' p = some (.lst (rs.map V.str)) → Q (.ref p) H'
set_option maxHeartbeats 4000000 in
theorem ok_rows_of (T : TX K mg A FD TK) : FnOk P w K mg base CX0 3 (A 10) (FD 10) ["text", "name"] spRowsOf := by
  have G_whole_text := ok_whole_text (P := P) (w := w) (base := base) T
  have G_is_row := (ok_is_row (P := P) (w := w) (base := base) T).mono (show 1 ≤ 2 by decide)
  refine T.f_rows_of.ok (k := 2) sc_rows_of (fun vs H Q E h => ?_) (fun cdv A' outer s H vs Q E hr h => ?_)
  · obtain ⟨rs, nm, rfl, _⟩ := h
    rfl
  · obtain ⟨rs, nm, rfl, hf, q⟩ := h
    have hm := hf.many
    have hs := hf.short
    have hl := whole_len hf
    refine ⟨_, PSs.nox (pss_cons (ps_if (pt_not (pt_val (pe_callB (isiK (K := K) rfl) (by rfl) T.m_isinstance (by decide +kernel) (pa_cons (pv 0) (pa_cons (pe_bltn (v := .ty "str") (by rfl) T.m_str (by decide +kernel) rfl) pa_nil)))))
      (pss_one ps_never)
      pss_nil)
      (pss_cons (ps_set (i := 2) sc_rows_of.nd rfl (.inl rfl) (pe_slice (slLK (K := K) rfl) (pe_split (pe_slice sl_str (pv 0) (po_some (pe_glob (v := .int 10) (by rfl) T.c_HEAD_SIGNS ⟨_, rfl⟩)) po_none) pe_str) po_none (po_some (pe_un un_neg pe_int))))
      (pss_cons (ps_if (PW.pt (pw_or (pt_cmpR op_gt (pe_callB (lenK (K := K) rfl) (by rfl) T.m_len (by decide +kernel) (pa_cons (pv 2) pa_nil)) (pe_glob (v := .int 9999) (by rfl) T.c_MOST_ROWS ⟨_, rfl⟩) (nomark _)) (pw_or (pt_not (pt_val (pe_callB (allK (K := K) rfl rfl) (by rfl) T.m_all (by decide +kernel) (pa_cons (pe_lc (own := [("row", 3)])  rfl sc_rows_of.nd (piLK (K := K) rfl (pv 2)) (blkOk_by (own := [("row", 3)]) (N := N_rows_of) (sc := defScope (topS 10)) (by decide +kernel)) (fun _ _ _ _ _ => (pg_name (i := 3) sc_rows_of.nd rfl (Or.inl rfl))) (fun _ _ _ _ _ => pts_nil) (fun _ _ _ _ _ => (pe_call G_is_row hr (by rfl) T.g_is_row T.f_is_row.kp T.b_is_row .nil pass0 (pa_cons (pv 3) pa_nil)))) pa_nil)))) (pw_or1 (pt_cmpR op_ne (pe_call G_whole_text hr (by rfl) T.g_whole_text T.f_whole_text.kp T.b_whole_text .nil pass0 (pa_cons (pv 2) pa_nil)) (pv 0) (nomark _))))))
      (pss_one ps_never)
      pss_nil)
      (pss_one (ps_ret (pv 2)))))), ?_⟩
    refine ⟨.str (Whole rs), rfl, .str (Whole rs), .ty "str", .type "str", .type "str", true, rfl, .ty _, .base (.str _), kit_ty (by decide +kernel), _, rfl, ite2 (fun c => absurd c (by decide)) (fun _ => ?_)⟩
    refine ⟨.str (Whole rs), rfl, 10, rfl, Whole rs, rfl, sz (by omega), ⟨_, rfl⟩, _, "\n", rfl, rfl, by decide +kernel, ?_, fun p1 n1 => ?_⟩
    · have := cutS_length (Whole rs) (some 10) none
      exact sz (by omega)
    rw [cut_whole hf, split_body hf.ok]
    have e1 := Ex.new (o := .lst ((rs ++ [Str.empty]).map V.str)) n1
    have h1 := upd_same (H := H) (a := p1) (o := .lst ((rs ++ [Str.empty]).map V.str))
    generalize upd H p1 (.lst ((rs ++ [Str.empty]).map V.str)) = H1 at e1 h1 ⊢
    refine ⟨1, rfl, -1, rfl, p1, _, rfl, SqL.of h1, fun p2 n2 => ?_⟩
    rw [cut_last]
    have e2 := e1.trans (Ex.new (o := .lst (rs.map V.str)) n2)
    have h2 := upd_same (H := H1) (a := p2) (o := .lst (rs.map V.str))
    have n2' : H p2 = none := by
      cases e : H p2 with
      | none => rfl
      | some o => rw [e1 _ _ e] at n2; cases n2
    generalize upd H1 p2 (.lst (rs.map V.str)) = H2 at e2 h2 ⊢
    refine ⟨.ref p2, rfl, p2, _, rfl, .inl (SqL.of h2), _, 9999, rfl, rfl, _, rfl, ite2 (fun c => ?_) (fun _ => ?_)⟩
    · rw [List.length_map] at c
      have : (9999 : Int) < (rs.length : Int) := of_decide_eq_true c
      omega
    refine ⟨.ref p2, rfl, p2, rfl, ⟨_, SqL.of h2⟩, fun D hD => ?_⟩
    refine lc_list (K := K) (xs := rs.map V.str) (fun i H' => Ex H2 H' ∧ H' D = some (.lst ((List.replicate i true).map V.bl))) ⟨Ex.new hD, upd_same⟩ (fun i H' _ p => SqL.of (p.1 _ _ h2)) (fun i x H3 hx p => ?_) (fun H3 p => ?_)
    · obtain ⟨p1, p3⟩ := p
      obtain ⟨z, rfl, gz, oz⟩ := row_at hf.ok hx
      have il : i < rs.length := (List.getElem?_eq_some_iff.mp gz).1
      refine ⟨rfl, .str z, rfl, z, rfl, oz, fun H4 e4 => ⟨_, e4 _ _ p3, ?_, (Ex.trans p1 e4).mut hD, ?_⟩⟩
      · rw [List.length_map, List.length_replicate]
        exact sz_lt (by omega)
      · rw [upd_same, List.replicate_succ', List.map_append]
        rfl
    · obtain ⟨p1, p3⟩ := p
      have e : (List.replicate (rs.map V.str).length true).all id = true := by
        rw [List.all_eq_true]
        intro b hb
        rw [List.eq_of_mem_replicate hb]
        rfl
      refine ⟨D, List.replicate (rs.map V.str).length true, rfl, SqL.of p3, _, rfl, ?_⟩
      rw [e]
      refine ite2 (fun c => absurd c (by decide)) (fun _ => ?_)
      refine ⟨.ref p2, rfl, p2, rs, rfl, SqL.of (p1 _ _ h2), hf, fun H4 e4 => ⟨.str (Whole rs), rfl, ?_⟩⟩
      refine ⟨rfl, _, rfl, ite2 (fun c => ?_) (fun _ => ?_)⟩
      · simp at c
      · exact ⟨.ref p2, rfl, q p2 H4 n2' ((e2.trans p1).trans e4) (e4 _ _ (p1 _ _ h2))⟩

/-! ### the law's own defs -/
def rowS : Str := " !#$&'()*+,-./0123456789:;<=>?@ABCXYZ[]^_abcdefxyz{|}~"
theorem rowS_len : rowS.length = 54 := by decide +kernel
theorem rowS_at (d : Int) (h0 : 0 ≤ d) (h1 : d < 54) : ∃ c, atI rowS.cps.toList d = some c ∧ 32 ≤ c ∧ c ≤ 126 := by
  have k : ∀ n, n < 54 → ∃ c, rowS.cps.toList[n]? = some c ∧ 32 ≤ c ∧ c ≤ 126 := by
    have a : ∀ n, n < 54 → (match rowS.cps.toList[n]? with | some c => decide (32 ≤ c) && decide (c ≤ 126) | none => false) = true := by decide +kernel
    intro n hn
    have := a n hn
    cases e : rowS.cps.toList[n]? with
    | none => rw [e] at this; cases this
    | some c =>
      rw [e] at this
      have this : (decide (32 ≤ c) && decide (c ≤ 126)) = true := this
      rw [Bool.and_eq_true] at this
      exact ⟨c, rfl, of_decide_eq_true this.1, of_decide_eq_true this.2⟩
  obtain ⟨n, rfl⟩ := Int.eq_ofNat_of_zero_le h0
  obtain ⟨c, e, b⟩ := k n (by omega)
  exact ⟨c, atI_nat e, b⟩
theorem pool_ne {H : Hp} {p D : Addr} {c : Nat} (h : Pl H p c) (e : H D = none) : D ≠ p := fun x => by
  subst x
  obtain ⟨g, b, k, hp, _⟩ := h
  rw [e] at hp
  cases hp
theorem pl_upd {H : Hp} {p D : Addr} {o : HO} {c : Nat} (h : Pl H p c) (n : D ≠ p) : Pl (upd H D o) p c := by
  obtain ⟨g, b, k, hp, r⟩ := h
  exact ⟨g, b, k, (upd_ne (fun e => n e.symm)).trans hp, r⟩
def spRow : Sp := fun vs H Q _ => ∃ (p : Addr) (c : Nat), vs = [.ref p, .int 30] ∧ Pl H p c ∧ c < 900000 ∧ ∀ (z : Str) (H' : Hp), okR z = true → Pl H' p (c + 32) → Fx p H H' → Q (.str z) H'
theorem ones_okR {cs : List Nat} (hl : cs.length ≤ 30) (h : ∀ c ∈ cs, 32 ≤ c ∧ c ≤ 126) : okR (Txt.join "" (cs.map fun c => (⟨#[c]⟩ : Str))) = true := by
  have e : tl (Txt.join "" (cs.map fun c => (⟨#[c]⟩ : Str))) = cs := by
    rw [join_eq, tl_join]
    refine (joinL_nil _).trans ?_
    rw [List.map_map]
    clear hl h
    induction cs with
    | nil => rfl
    | cons c r ih =>
      rw [List.map_cons, List.flatten_cons, ih]
      rfl
  unfold okR
  rw [← tl_len, e, decide_eq_true hl, List.all_eq_true.mpr]
  · rfl
  · intro c hc
    rw [decide_eq_true (h c hc).1, decide_eq_true (h c hc).2]
    rfl
set_option maxHeartbeats 4000000 in
theorem ok_l_row (T : TX K mg A FD TK) : FnOk P w K mg base CX0 2 (A 15) (FD 15) ["_law_purse_here", "_law_most"] spRow := by
  have G_l_take := ok_l_take (P := P) (w := w) (base := base) T
  refine T.f_l_row.ok (k := 1) sc_l_row (fun vs H Q E h => ?_) (fun cdv A' outer s H vs Q E hr h => ?_)
  · obtain ⟨p, c, rfl, _⟩ := h
    rfl
  · obtain ⟨p, c, rfl, hp, hc, q⟩ := h
    refine ⟨_, (pss_cons (ps_set (i := 2) sc_l_row.nd rfl (.inr rfl) pe_str)
      (pss_one (ps_ret (pe_join pe_str (pe_lc (own := [("_law_k", 3)])  rfl sc_l_row.nd (pi_range1 (by rfl) T.m_range (pa_cons (pe_call G_l_take hr (by rfl) T.g_l_take T.f_l_take.kp T.b_l_take .nil pass0 (pa_cons (pv 0) (pa_cons (pe_op op_add (pv 1) pe_int) pa_nil))) pa_nil)) (blkOk_by (own := [("_law_k", 3)]) (N := N_l_row) (sc := defScope (topS 15)) (by decide +kernel)) (fun _ _ _ _ _ => (pg_name (i := 3) sc_l_row.nd rfl (Or.inl rfl))) (fun _ _ _ _ _ => pts_nil) (fun _ _ _ _ _ => (pe_ix ix_str (pv 2) (pe_call G_l_take hr (by rfl) T.g_l_take T.f_l_take.kp T.b_l_take .nil pass0 (pa_cons (pv 0) (pa_cons (pe_callB call_len_str (by rfl) T.m_len (by decide +kernel) (pa_cons (pv 2) pa_nil)) pa_nil))) (fun _ _ => rfl)))))))), ?_⟩
    refine ⟨⟨_, rfl⟩, .ref p, rfl, .int 30, rfl, 30, 1, rfl, rfl, p, 31, c, rfl, hp, by decide, by decide, by omega, fun e H2 e0 e1 hp2 f2 => ⟨e, rfl, by omega, by omega, fun D nD => ?_⟩⟩
    have nDp := pool_ne hp2 nD
    refine lc_range (lo := 0) (n := e.toNat) (fun i H' => ∃ cs : List Nat, cs.length = i ∧ (∀ c ∈ cs, 32 ≤ c ∧ c ≤ 126) ∧ H' D = some (.lst ((cs.map fun c => (⟨#[c]⟩ : Str)).map V.str)) ∧ Pl H' p (c + 1 + i) ∧ Fx p H2 H') ⟨[], rfl, (fun _ h => (by cases h)), upd_same, hp2.ex (Ex.new nD), Fx.ex (Ex.new nD)⟩ (fun i H3 hi pv => ?_) (fun H3 pv => ?_)
    · obtain ⟨us, ul, uw, hD, hp3, f3⟩ := pv
      refine ⟨rfl, .str rowS, rfl, .ref p, rfl, .str rowS, rfl, rowS, rfl, sz (by rw [rowS_len]; decide), p, 54, c + 1 + i, ?_, hp3, by decide, by decide, by omega, fun e H4 e0 e1 hp4 f4 => ?_⟩
      · rw [rowS_len]
        rfl
      obtain ⟨z, gz, hz⟩ := rowS_at e e0 e1
      refine ⟨rowS, e, z, rfl, rfl, sz (by rw [rowS_len]; decide), gz, _, f4 _ _ nDp hD, ?_, us ++ [z], ?_, ?_, ?_, pl_upd hp4 nDp, fun b o nb hb => ?_⟩
      · rw [List.length_map, List.length_map]
        exact sz_lt (by omega)
      · rw [List.length_append, ul]
        rfl
      · intro c hc
        rcases List.mem_append.mp hc with m | m
        · exact uw c m
        · rw [List.mem_singleton.mp m]
          exact hz
      · rw [upd_same, List.map_append, List.map_append]
        rfl
      · rw [upd_ne (ne_of_none hb nD)]
        exact f4 _ _ nb (f3 _ _ nb hb)
    · obtain ⟨us, ul, uw, hD, hp3, f3⟩ := pv
      refine ⟨"", D, _, rfl, rfl, .inl (SqL.of hD), ?_, q _ H3 (ones_okR (by omega) uw) (hp3.mono (by omega)) (f2.trans f3)⟩
      have e : ∀ l : List Nat, ((l.map fun c => (⟨#[c]⟩ : Str)).map (·.length)).sum = l.length := by
        intro l
        induction l with
        | nil => rfl
        | cons a r ih =>
          rw [List.map_cons, List.map_cons, List.sum_cons, ih, List.length_cons]
          show 1 + r.length = r.length + 1
          omega
      rw [e]
      show us.length + _ * 0 ≤ 16777216
      omega
def spLCheck (K : PySem.W.Frag) : Sp := fun vs H Q _ => ∃ (a : Addr) (rs : List Str), vs = [.ref a] ∧ SqL K H a (rs.map V.str) ∧ Fit rs ∧ ∀ H', Ex H H' → Q (.int (chk (bodyL rs) : Nat)) H'
set_option maxHeartbeats 4000000 in
theorem ok_l_check (T : TX K mg A FD TK) : FnOk P w K mg base CX0 1 (A 16) (FD 16) ["_law_rows"] (spLCheck K) := by
  refine T.f_l_check.ok sc_l_check (fun vs H Q E h => ?_) (fun cdv A' outer s H vs Q E hr h => ?_)
  · obtain ⟨a, rs, rfl, _⟩ := h
    rfl
  · obtain ⟨a, rs, rfl, hS, hf, q⟩ := h
    have hm := hf.many
    have hs := hf.short
    refine ⟨_, (pss_cons (ps_set (i := 1) sc_l_check.nd rfl (.inl rfl) pe_int)
      (pss_cons (ps_for PassesOwn.never rfl (pi_str (pe_join pe_str (pe_lc (own := [("_law_row_here", 3)])  rfl sc_l_check.nd (piLK (K := K) rfl (pv 0)) (blkOk_by (own := [("_law_row_here", 3)]) (N := N_l_check) (sc := defScope (topS 16)) (by decide +kernel)) (fun _ _ _ _ _ => (pg_name (i := 3) sc_l_check.nd rfl (Or.inl rfl))) (fun _ _ _ _ _ => pts_nil) (fun _ _ _ _ _ => (pe_op op_add_str (pv 3) pe_str))))) (pg_name (i := 2) sc_l_check.nd rfl (.inl rfl))
      (pss_one (ps_set (i := 1) sc_l_check.nd rfl (.inl rfl) (pe_op op_mod (pe_op op_add (pe_op op_mul pe_int (pv 1)) (pe_callB call_ord (by rfl) T.m_ord (by decide +kernel) (pa_cons (pv 2) pa_nil))) pe_int))))
      (pss_one (ps_ret (pv 1))))), ?_⟩
    refine ⟨⟨_, rfl⟩, .ref a, rfl, a, rfl, ⟨_, hS⟩, fun D hD => ?_⟩
    refine lc_list (K := K) (xs := rs.map V.str) (fun i H' => Ex H H' ∧ H' D = some (.lst (((rs.take i).map nl).map V.str))) ⟨Ex.new hD, upd_same⟩ (fun i H' _ p => ex_l p.1 hS) (fun i x H1 hx p => ?_) (fun H1 p => ?_)
    · obtain ⟨p1, p2⟩ := p
      obtain ⟨z, rfl, gz, oz⟩ := row_at hf.ok hx
      have il : i < rs.length := (List.getElem?_eq_some_iff.mp gz).1
      refine ⟨rfl, .str z, rfl, z, "\n", rfl, rfl, ?_, _, p2, ?_, Ex.mut p1 hD, ?_⟩
      · have := okR_len oz
        exact sz (show z.length + 1 ≤ 100000 by omega)
      · rw [List.length_map, List.length_map, List.length_take]
        exact sz_lt (by omega)
      · rw [upd_same, snoc_map gz, List.map_append]
        rfl
    · obtain ⟨p1, p2⟩ := p
      rw [List.length_map, List.take_length] at p2
      refine ⟨"", D, rs.map nl, rfl, rfl, .inl (SqL.of p2), ?_, ?_⟩
      · rw [body_len]
        show (bodyL rs).length + (rs.map nl).length * 0 ≤ 16777216
        omega
      · rw [join_body]
        refine ⟨bodyS rs, rfl, ?_⟩
        have bs : (bodyS rs).cps.size = (bodyL rs).length := by
          show (bodyS rs).length = _
          rw [← tl_len]
          rfl
        refine for_it (walk_str (z := bodyS rs)) (fun i σ' H' => H' = H1 ∧ ∃ o1 o2, σ' = [some (.ref a), some (.int (chk ((bodyL rs).take i) : Nat)), o1, o2]) ⟨rfl, none, none, rfl⟩ (fun _ _ _ _ _ => True.intro) (fun i x σ' H1 H2 hi p y => ?_) (fun σ' H1 p => ?_)
        · obtain ⟨rfl, o1, o2, rfl⟩ := p
          obtain ⟨rfl, c, hc, rfl⟩ := y
          have g : (bodyL rs)[i]? = some c := by
            have : (bodyS rs).cps.toList[i]? = some c := by
              rw [Array.getElem?_toList]
              exact hc
            exact this
          have hc2 := body_small hf.ok c (List.mem_of_getElem? g)
          have hk := chk_lt ((bodyL rs).take i)
          refine ⟨.int (chk ((bodyL rs).take i) : Nat), rfl, 31, _, rfl, rfl, .inl ⟨by decide, by omega⟩, .str ⟨#[c]⟩, rfl, ⟨#[c]⟩, rfl, rfl, _, _, rfl, rfl, _, 65521, rfl, rfl, (show (0 : Int) < 65521 by decide), rfl, some (.str ⟨#[c]⟩), o2, ?_⟩
          rw [chk_step g]
          rfl
        · obtain ⟨rfl, o1, o2, rfl⟩ := p
          refine ⟨.int (chk ((bodyL rs).take (bodyS rs).cps.size) : Nat), rfl, ?_⟩
          rw [bs, List.take_length]
          exact q _ p1

/-! ### _law_whole -/
def qd (n : Nat) : Nat → Nat
  | 0 => n
  | i + 1 => qd n i / 16
def figs (n : Nat) : Nat → List Nat
  | 0 => []
  | i + 1 => hx (qd n i % 16) :: figs n i
theorem figs_len (n : Nat) : ∀ i, (figs n i).length = i
  | 0 => rfl
  | i + 1 => by rw [figs, List.length_cons, figs_len n i]
theorem qd_le (n : Nat) : ∀ i, qd n i ≤ n
  | 0 => Nat.le_refl _
  | i + 1 => Nat.le_trans (Nat.div_le_self _ _) (qd_le n i)
theorem hex_at (d : Nat) (h : d < 16) : atI hexS.cps.toList (d : Int) = some (hx d) := by
  refine atI_nat ?_
  have k : ∀ d, d < 16 → hexS.cps.toList[d]? = some (hx d) := by decide +kernel
  exact k d h
theorem whole_eq {rs : List Str} (h : Fit rs) : (⟨(List.replicate (4 - (F4.dg 10 rs.length).length) 48).toArray⟩ : Str) ++ (⟨(F4.dg 10 rs.length).toArray⟩ : Str) ++ ":" ++ (⟨(figs (chk (bodyL rs)) 4).toArray⟩ : Str) ++ "\n" ++ bodyS rs = Whole rs := by
  refine ext_tl ?_
  have e : figs (chk (bodyL rs)) 4 = F4.pad4 (F4.dg 16 (chk (bodyL rs))) := by
    rw [hex4 (by have := chk_lt (bodyL rs); omega)]
    rfl
  rw [tl_whole, e, tl_append, tl_append, tl_append, tl_append, tl_append, List.append_assoc, List.append_assoc, List.append_assoc, List.append_assoc]
  show List.replicate (4 - (F4.dg 10 rs.length).length) 48 ++ (F4.dg 10 rs.length ++ _) = _
  rw [← List.append_assoc]
  rfl
theorem str_nat (n : Nat) : ((toString ((n : Nat) : Int) : String) : Str) = ⟨(F4.dg 10 n).toArray⟩ := PyProof.Rows.text_ofNat n
def spLWhole (K : PySem.W.Frag) : Sp := fun vs H Q _ => ∃ (a : Addr) (rs : List Str), vs = [.ref a] ∧ SqL K H a (rs.map V.str) ∧ Fit rs ∧ ∀ H', Ex H H' → Q (.str (Whole rs)) H'
set_option maxHeartbeats 4000000 in
theorem ok_l_whole (T : TX K mg A FD TK) : FnOk P w K mg base CX0 2 (A 17) (FD 17) ["_law_rows"] (spLWhole K) := by
  have G_l_check := ok_l_check (P := P) (w := w) (base := base) T
  refine T.f_l_whole.ok (k := 1) sc_l_whole (fun vs H Q E h => ?_) (fun cdv A' outer s H vs Q E hr h => ?_)
  · obtain ⟨a, rs, rfl, _⟩ := h
    rfl
  · obtain ⟨a, rs, rfl, hS, hf, q⟩ := h
    have hm := hf.many
    have hs := hf.short
    have k0 := chk_lt (bodyL rs)
    refine ⟨_, (pss_cons (ps_set (i := 1) sc_l_whole.nd rfl (.inl rfl) (pe_call G_l_check hr (by rfl) T.g_l_check T.f_l_check.kp T.b_l_check .nil pass0 (pa_cons (pv 0) pa_nil)))
      (pss_cons (ps_set (i := 2) sc_l_whole.nd rfl (.inl rfl) pe_str)
      (pss_cons (ps_for PassesOwn.never rfl (pi_range1 (by rfl) T.m_range (pa_cons pe_int pa_nil)) (pg_name (i := 3) sc_l_whole.nd rfl (.inl rfl))
      (pss_cons (ps_set (i := 2) sc_l_whole.nd rfl (.inl rfl) (pe_op op_add_str (pe_ix ix_str pe_str (pe_op op_mod (pv 1) pe_int) (fun _ _ => rfl)) (pv 2)))
      (pss_one (ps_set (i := 1) sc_l_whole.nd rfl (.inl rfl) (pe_op op_fdiv (pv 1) pe_int)))))
      (pss_cons (ps_set (i := 4) sc_l_whole.nd rfl (.inl rfl) (pe_callTy call_str_int (by rfl) T.m_str (by decide +kernel) (pa_cons (pe_callB (lenK (K := K) rfl) (by rfl) T.m_len (by decide +kernel) (pa_cons (pv 0) pa_nil)) pa_nil)))
      (pss_one (ps_ret (pe_op op_add_str (pe_op op_add_str (pe_op op_add_str (pe_op op_add_str (pe_op op_add_str (pe_op op_rep0 pe_str (pe_op op_sub pe_int (pe_callB call_len_str (by rfl) T.m_len (by decide +kernel) (pa_cons (pv 4) pa_nil)))) (pv 4)) pe_str) (pv 2)) pe_str) (pe_join pe_str (pe_lc (own := [("_law_row_here", 5)])  rfl sc_l_whole.nd (piLK (K := K) rfl (pv 0)) (blkOk_by (own := [("_law_row_here", 5)]) (N := N_l_whole) (sc := defScope (topS 17)) (by decide +kernel)) (fun _ _ _ _ _ => (pg_name (i := 5) sc_l_whole.nd rfl (Or.inl rfl))) (fun _ _ _ _ _ => pts_nil) (fun _ _ _ _ _ => (pe_op op_add_str (pv 5) pe_str))))))))))), ?_⟩
    refine ⟨.ref a, rfl, a, rs, rfl, hS, hf, fun H1 e1 => ⟨4, rfl, by decide, by decide, ?_⟩⟩
    refine for_range (lo := 0) (n := 4) (fun i σ' H' => H' = H1 ∧ ∃ o : Option V, σ' = [some (.ref a), some (.int (qd (chk (bodyL rs)) i : Nat)), some (.str ⟨(figs (chk (bodyL rs)) i).toArray⟩), o, none, none]) ⟨rfl, none, rfl⟩ (fun i σ' H' hi pv => ?_) (fun σ' H' pv => ?_)
    · obtain ⟨rfl, o, rfl⟩ := pv
      have ql := qd_le (chk (bodyL rs)) i
      have fl := figs_len (chk (bodyL rs)) i
      have hm16 : qd (chk (bodyL rs)) i % 16 < 16 := Nat.mod_lt _ (by decide)
      have e16 : ((qd (chk (bodyL rs)) i : Nat) : Int) % 16 = ((qd (chk (bodyL rs)) i % 16 : Nat) : Int) := by omega
      have d16 : ((qd (chk (bodyL rs)) i : Nat) : Int) / 16 = ((qd (chk (bodyL rs)) (i + 1) : Nat) : Int) := by
        rw [qd]
        omega
      have hl : hexS.length = 16 := by decide +kernel
      refine ⟨.int (qd (chk (bodyL rs)) i : Nat), rfl, _, 16, rfl, rfl, (show (0 : Int) < 16 by decide), hexS, _, hx (qd (chk (bodyL rs)) i % 16), rfl, rfl, sz (by omega), ?_, .str _, rfl, _, _, rfl, rfl, ?_, .int (qd (chk (bodyL rs)) i : Nat), rfl, _, 16, rfl, rfl, ⟨by decide, by decide⟩, rfl, some (.int (0 + (i : Int))), ?_⟩
      · rw [e16]
        exact hex_at _ hm16
      · show 1 + (figs (chk (bodyL rs)) i).toArray.size ≤ sizeLine
        rw [List.size_toArray, fl]
        exact sz (by omega)
      · have ef : (⟨#[hx (qd (chk (bodyL rs)) i % 16)]⟩ : Str) ++ (⟨(figs (chk (bodyL rs)) i).toArray⟩ : Str) = ⟨(figs (chk (bodyL rs)) (i + 1)).toArray⟩ := by
          refine ext_tl ?_
          rw [tl_append]
          rfl
        rw [← d16, ← ef]
        rfl
    · obtain ⟨rfl, o, rfl⟩ := pv
      have sl : ∀ x y : Str, (x ++ y).length = x.length + y.length := fun x y => by
        rw [← tl_len, ← tl_len, ← tl_len, tl_append, List.length_append]
      have c1 : (":" : Str).length = 1 := by decide +kernel
      have c2 : ("\n" : Str).length = 1 := by decide +kernel
      have dl : (F4.dg 10 rs.length).length ≤ 4 := F4.dg_len (b := 10) (by omega)
      have dl1 : 1 ≤ (F4.dg 10 rs.length).length := by
        have := F4.dg_ne 10 rs.length
        cases e : F4.dg 10 rs.length with
        | nil => rw [e] at this; cases this
        | cons _ _ => simp
      refine ⟨.ref a, rfl, a, rs.map V.str, rfl, .inl (ex_l e1 hS), _, rfl, ?_, ?_⟩
      · rw [List.length_map]
        exact F4.logs (by omega)
      rw [List.length_map, str_nat]
      have z1 : (⟨(F4.dg 10 rs.length).toArray⟩ : Str).length = (F4.dg 10 rs.length).length := List.size_toArray
      have en : ((4 : Int) - (((⟨(F4.dg 10 rs.length).toArray⟩ : Str).length : Nat) : Int)).toNat = 4 - (F4.dg 10 rs.length).length := by
        rw [z1]
        omega
      have lr : (⟨(List.replicate (4 - (F4.dg 10 rs.length).length) 48).toArray⟩ : Str).length = 4 - (F4.dg 10 rs.length).length := by
        show (List.replicate (4 - (F4.dg 10 rs.length).length) 48).toArray.size = _
        rw [List.size_toArray, List.length_replicate]
      have lf : (⟨(figs (chk (bodyL rs)) 4).toArray⟩ : Str).length = 4 := rfl
      refine ⟨.str _, rfl, _, rfl, ?_, 4, _, rfl, rfl, _, rfl, rfl, ?_, ?_, .str _, rfl, _, _, rfl, rfl, ?_, ?_⟩
      · rw [z1]
        exact sz (by omega)
      · rw [z1]
        omega
      · rw [z1]
        omega
      · show _ + _ ≤ sizeLine
        rw [en, lr, z1]
        exact sz (by omega)
      rw [en]
      refine ⟨_, ":", rfl, rfl, ?_, .str _, rfl, _, _, rfl, rfl, ?_, _, "\n", rfl, rfl, ?_, ⟨_, rfl⟩, .ref a, rfl, a, rfl, ⟨_, ex_l e1 hS⟩, fun D hD => ?_⟩
      · rw [sl, lr, z1, c1]
        exact sz (by omega)
      · rw [sl, sl, lr, z1, c1, lf]
        exact sz (by omega)
      · rw [sl, sl, sl, lr, z1, c1, lf, c2]
        exact sz (by omega)
      refine lc_list (K := K) (xs := rs.map V.str) (fun i H2 => Ex H' H2 ∧ H2 D = some (.lst (((rs.take i).map nl).map V.str))) ⟨Ex.new hD, upd_same⟩ (fun i H2 _ p => ex_l p.1 (ex_l e1 hS)) (fun i x H1 hx p => ?_) (fun H1 p => ?_)
      · obtain ⟨p1, p2⟩ := p
        obtain ⟨z, rfl, gz, oz⟩ := row_at hf.ok hx
        have il : i < rs.length := (List.getElem?_eq_some_iff.mp gz).1
        refine ⟨rfl, .str z, rfl, z, "\n", rfl, rfl, ?_, _, p2, ?_, Ex.mut p1 hD, ?_⟩
        · have := okR_len oz
          exact sz (show z.length + 1 ≤ 100000 by omega)
        · rw [List.length_map, List.length_map, List.length_take]
          exact sz_lt (by omega)
        · rw [upd_same, snoc_map gz, List.map_append]
          rfl
      · obtain ⟨p1, p2⟩ := p
        rw [List.length_map, List.take_length] at p2
        refine ⟨"", D, rs.map nl, rfl, rfl, .inl (SqL.of p2), ?_, ?_⟩
        · rw [body_len]
          show (bodyL rs).length + (rs.map nl).length * 0 ≤ 16777216
          omega
        · rw [join_body]
          refine ⟨_, bodyS rs, rfl, rfl, ?_, ?_⟩
          · have bl : (bodyS rs).length = (bodyL rs).length := by
              rw [← tl_len]
              rfl
            rw [sl, sl, sl, sl, lr, z1, c1, lf, c2, bl]
            exact sz (by omega)
          · rw [whole_eq hf]
            exact q _ (e1.trans p1)

/-! ### law -/
theorem fx_new {p : Addr} {H H1 H2 : Hp} (n : H p = none) (e : Ex H H1) (f : Fx p H1 H2) : Ex H H2 := fun a o h => f a o (ne_of_none h n) (e a o h)
theorem maxmin316 (n : Nat) : 3 ≤ (if (if (16 : Int) < (n : Int) then 16 else (n : Int)) > 3 then (if (16 : Int) < (n : Int) then 16 else (n : Int)) else 3) ∧ (if (if (16 : Int) < (n : Int) then 16 else (n : Int)) > 3 then (if (16 : Int) < (n : Int) then 16 else (n : Int)) else 3) ≤ 16 := by
  constructor
  · split <;> split <;> omega
  · split <;> split <;> omega
theorem kb_rows_of (T : TX K mg A FD TK) : KBn K (FD 10) ["text", "name"] 1 ["name"] (fun us ws => us ++ ws) (fun vs zs => vs ++ zs) := by
  obtain ⟨oc, od, dV, kV, doc, pm, an, cdv, ct, osl, e, lk, hcd, hD, hK⟩ := T.f_rows_of.ex
  rcases hD with ⟨_, rfl⟩ | ⟨e', _⟩
  · rw [e]
    rcases hK with e' | ⟨D, rfl, _⟩
    · cases e'
    · exact ⟨fun s us ws _ l1 l2 => match us, ws, l1, l2 with | [_], [_], _, _ => .of_eq rfl, fun r1 r2 => r1.append r2⟩
  · exact absurd rfl e'
theorem bd_rows_of (T : TX K mg A FD TK) : ∃ ds, Vals [V.str ""] ds ∧ Binds K (FD 10) ["text", "name"] ds :=
  T.f_rows_of.binds0 1 (by simp) rfl fun D doc pm an cdv ct us ks l1 l2 => match us, ks, l1, l2 with
    | [_], [_], _, _ => ⟨_, _, _, _, _, _, rfl, rfl, rfl⟩
theorem okR_lay {z : Str} (h : okR z = true) : PyData.canLay0 (.str z) = true := by
  show z.cps.all (fun c => decide (c < 0x110000)) = true
  rw [← Array.all_toList, List.all_eq_true]
  intro c hc
  obtain ⟨i, g⟩ := List.getElem?_of_mem hc
  have := okR_at h (i := i) g
  exact decide_eq_true (by omega)
theorem dpR {K : PySem.W.Frag} {H : Hp} : ∀ zs : List Str, DpAll K H (zs.map V.str) (zs.map PyData.str)
  | [] => .nil
  | z :: r => .cons (.str z) (dpR r)
theorem shapeR {zs : List Str} (h : zs.all okR = true) : SeqAt.shaped (.list (zs.map PyData.str)) = true := by
  have h1 : ∀ zs : List Str, zs.all okR = true → PyData.canLayAll0 (zs.map PyData.str) = true := by
    intro zs
    induction zs with
    | nil => intro _; rfl
    | cons z r ih =>
      intro h
      rw [List.all_cons, Bool.and_eq_true] at h
      rw [List.map_cons, PyData.canLayAll0, okR_lay h.1, ih h.2]
      rfl
  have h2 : ∀ zs : List Str, PyData.depthAll (zs.map PyData.str) = 0 := by
    intro zs
    induction zs with
    | nil => rfl
    | cons z r ih =>
      rw [List.map_cons, PyData.depthAll, ih, PyData.depth]
      rfl
  unfold SeqAt.shaped
  rw [PyData.canLay0, PyData.depth, h1 zs h, h2 zs]
  rfl
theorem eqvR {zs : List Str} (h : zs.all okR = true) : PyData.eqv (.list (zs.map PyData.str)) (.list (zs.map PyData.str)) = true := by
  refine SeqAt.eqv_refl _ ?_
  have := shapeR h
  unfold SeqAt.shaped at this
  rw [Bool.and_eq_true] at this
  exact this.1
theorem body_le {n : Nat} : ∀ {rs : List Str}, (∀ z ∈ rs, z.length ≤ n) → (bodyL rs).length ≤ rs.length * (n + 1)
  | [], _ => Nat.zero_le _
  | z :: r, h => by
    have i := body_le (rs := r) fun y hy => h y (List.mem_cons_of_mem _ hy)
    have l := h z (List.mem_cons_self ..)
    rw [← tl_len] at l
    rw [bodyL, List.length_append, List.length_cons, List.length_cons, Nat.add_mul]
    omega
theorem three_at (d : Int) (h0 : 0 ≤ d) (h1 : d < 3) : ∃ z : Str, atI [V.str "", .str "", .str "~"] d = some (.str z) ∧ okR z = true ∧ z.length ≤ 1 := by
  have c : d = 0 ∨ d = 1 ∨ d = 2 := by omega
  rcases c with rfl | rfl | rfl
  · exact ⟨"", atI_nat (j := 0) rfl, by decide +kernel, by decide +kernel⟩
  · exact ⟨"", atI_nat (j := 1) rfl, by decide +kernel, by decide +kernel⟩
  · exact ⟨"~", atI_nat (j := 2) rfl, by decide +kernel, by decide +kernel⟩
theorem label_at (d : Int) (h0 : 0 ≤ d) (h1 : d < 3) : ∃ z : Str, atI [V.str "", .str "h1", .str "s1.0"] d = some (.str z) := by
  have c : d = 0 ∨ d = 1 ∨ d = 2 := by omega
  rcases c with rfl | rfl | rfl
  · exact ⟨"", atI_nat (j := 0) rfl⟩
  · exact ⟨"h1", atI_nat (j := 1) rfl⟩
  · exact ⟨"s1.0", atI_nat (j := 2) rfl⟩
theorem many_at (d : Int) (h0 : 0 ≤ d) (h1 : d < 2) : ∃ m : Int, atI [V.int 1990, .int 9989] d = some (.int m) ∧ 0 ≤ m ∧ m ≤ 9989 := by
  have c : d = 0 ∨ d = 1 := by omega
  rcases c with rfl | rfl
  · exact ⟨1990, atI_nat (j := 0) rfl, by decide, by decide⟩
  · exact ⟨9989, atI_nat (j := 1) rfl, by decide, by decide⟩
def spLaw (K : PySem.W.Frag) : Sp := fun vs H Q _ => ∃ (a : Addr) (ns : List Int), vs = [.ref a] ∧ SqL K H a (ns.map V.int) ∧ ns.length ≤ 63 ∧ ∀ H', Q (.bl true) H'
set_option maxHeartbeats 32000000 in
theorem ok_law (T : TX K mg A FD TK) : FnOk P w K mg base CX0 10 (A 18) (FD 18) ["_law_script"] (spLaw K) := by
  have G_l_purse := (ok_l_purse (P := P) (w := w) (base := base) T).mono (show 1 ≤ 9 by decide)
  have G_l_take := (ok_l_take (P := P) (w := w) (base := base) T).mono (show 1 ≤ 9 by decide)
  have G_l_row := (ok_l_row (P := P) (w := w) (base := base) T).mono (show 2 ≤ 9 by decide)
  have G_whole_text := (ok_whole_text (P := P) (w := w) (base := base) T).mono (show 2 ≤ 9 by decide)
  have G_l_whole := (ok_l_whole (P := P) (w := w) (base := base) T).mono (show 2 ≤ 9 by decide)
  have G_rows_of := (ok_rows_of (P := P) (w := w) (base := base) T).mono (show 3 ≤ 9 by decide)
  have KB_rows_of := kb_rows_of T
  obtain ⟨dsb, R_rows_of, B_rows_of⟩ := bd_rows_of T
  refine T.f_law.ok (k := 9) sc_law (fun vs H Q E h => ?_) (fun cdv A' outer s H vs Q E hr h => ?_)
  · obtain ⟨a, ns, rfl, _⟩ := h
    rfl
  · obtain ⟨a, ns, rfl, hS, hn, q⟩ := h
    refine ⟨_, (pss_cons (ps_for PassesOwn.never rfl (pi_range1 (by rfl) T.m_range (pa_cons (pe_callB (call_max2 rfl) (by rfl) T.m_max (by decide +kernel) (pa_cons pe_int (pa_cons (pe_callB (call_min2 rfl) (by rfl) T.m_min (by decide +kernel) (pa_cons (pe_callB (lenK (K := K) rfl) (by rfl) T.m_len (by decide +kernel) (pa_cons (pv 0) pa_nil)) (pa_cons pe_int pa_nil))) pa_nil))) pa_nil)) (pg_name (i := 1) sc_law.nd rfl (.inl rfl))
      (pss_cons (ps_set (i := 2) sc_law.nd rfl (.inr rfl) (pe_call G_l_purse hr (by rfl) T.g_l_purse T.f_l_purse.kp T.b_l_purse .nil pass0 (pa_cons (pv 0) (pa_cons (pv 1) pa_nil))))
      (pss_cons (ps_setLc (i := 3) (own := [("_law_turn", 7)])  rfl sc_law.nd rfl rfl (sw_true rfl rfl rfl (by decide +kernel)) (pi_range1 (by rfl) T.m_range (pa_cons (pe_call G_l_take hr (by rfl) T.g_l_take T.f_l_take.kp T.b_l_take .nil pass0 (pa_cons (pv 2) (pa_cons pe_int pa_nil))) pa_nil)) (blkOk_by (own := [("_law_turn", 7)]) (N := N_law) (sc := defScope (topS 18)) (by decide +kernel)) (fun _ _ _ _ _ => (pg_name (i := 7) sc_law.nd rfl (Or.inl rfl))) (fun _ _ _ _ _ => pts_nil) (fun _ _ _ _ _ => (pe_call G_l_row hr (by rfl) T.g_l_row T.f_l_row.kp T.b_l_row .nil pass0 (pa_cons (pv 2) (pa_cons pe_int pa_nil)))))
      (pss_cut (ps_if (PW.pt (pw_and (pt_cmpR op_eq (pv 1) pe_int (nomark _)) (pw_and1 (pt_cmpR op_eq (pe_call G_l_take hr (by rfl) T.g_l_take T.f_l_take.kp T.b_l_take .nil pass0 (pa_cons (pv 2) (pa_cons pe_int pa_nil))) pe_int (nomark _)))))
      (pss_one (ps_setLc (i := 3) (own := [("_law_at", 9)])  rfl sc_law.nd rfl rfl (sw_true rfl rfl rfl (by decide +kernel)) (pi_range1 (by rfl) T.m_range (pa_cons (pe_op op_add (pe_ix (ixLK (K := K) rfl) (pe_lst (pa_cons pe_int (pa_cons pe_int pa_nil))) (pe_call G_l_take hr (by rfl) T.g_l_take T.f_l_take.kp T.b_l_take .nil pass0 (pa_cons (pv 2) (pa_cons pe_int pa_nil))) (fun _ _ => rfl)) (pe_call G_l_take hr (by rfl) T.g_l_take T.f_l_take.kp T.b_l_take .nil pass0 (pa_cons (pv 2) (pa_cons pe_int pa_nil)))) pa_nil)) (blkOk_by (own := [("_law_at", 9)]) (N := N_law) (sc := defScope (topS 18)) (by decide +kernel)) (fun _ _ _ _ _ => (pg_name (i := 9) sc_law.nd rfl (Or.inl rfl))) (fun _ _ _ _ _ => pts_nil) (fun _ _ _ _ _ => (pe_ix (ixLK (K := K) rfl) (pe_lst (pa_cons pe_str (pa_cons pe_str (pa_cons pe_str pa_nil)))) (pe_op op_mod (pv 9) pe_int) (fun _ _ => rfl)))))
      pss_nil)
      (pss_cons (ps_set (i := 4) sc_law.nd rfl (.inl rfl) (pe_ix (ixLK (K := K) rfl) (pe_lst (pa_cons pe_str (pa_cons pe_str (pa_cons pe_str pa_nil)))) (pe_call G_l_take hr (by rfl) T.g_l_take T.f_l_take.kp T.b_l_take .nil pass0 (pa_cons (pv 2) (pa_cons pe_int pa_nil))) (fun _ _ => rfl)))
      (pss_cons (ps_set (i := 5) sc_law.nd rfl (.inl rfl) (pe_callTy (listK (K := K) rfl) (by rfl) T.m_list (by decide +kernel) (pa_cons (pv 3) pa_nil)))
      (pss_cons (ps_set (i := 6) sc_law.nd rfl (.inl rfl) (pe_call G_whole_text hr (by rfl) T.g_whole_text T.f_whole_text.kp T.b_whole_text .nil pass0 (pa_cons (pv 5) pa_nil)))
      (pss_cons (ps_if (PW.pt (pw_or (pt_not (pt_val (pe_callB (isiK (K := K) rfl) (by rfl) T.m_isinstance (by decide +kernel) (pa_cons (pv 6) (pa_cons (pe_bltn (v := .ty "str") (by rfl) T.m_str (by decide +kernel) rfl) pa_nil))))) (pw_or (pt_cmpR op_ne (pv 6) (pe_call G_l_whole hr (by rfl) T.g_l_whole T.f_l_whole.kp T.b_l_whole .nil pass0 (pa_cons (pv 3) pa_nil)) (nomark _)) (pw_or1 (pt_cmpR (neDK (K := K) rfl hr.units) (pv 5) (pv 3) (nomark _))))))
      (pss_one (ps_ret pe_bl))
      pss_nil)
      (pss_cons (ps_for PassesOwn.never rfl (pi_range1 (by rfl) T.m_range (pa_cons pe_int pa_nil)) (pg_name (i := 7) sc_law.nd rfl (.inl rfl))
      (pss_cons (ps_set (i := 8) sc_law.nd rfl (.inl rfl) (pe_callN G_rows_of hr (by rfl) T.g_rows_of T.f_rows_of.kp KB_rows_of pass0 (pa_cons (pv 6) pa_nil) (pk_cons (pv 4) pk_nil)))
      (pss_cons (ps_if (PW.pt (pw_or (pt_not (pt_val (pe_callB (isiK (K := K) rfl) (by rfl) T.m_isinstance (by decide +kernel) (pa_cons (pv 8) (pa_cons (pe_bltn (v := .ty "list") (by rfl) T.m_list (by decide +kernel) rfl) pa_nil))))) (pw_or (pt_cmpR (neDK (K := K) rfl hr.units) (pv 8) (pv 3) (nomark _)) (pw_or1 (pt_cmpR (neDK (K := K) rfl hr.units) (pe_call G_rows_of hr (by rfl) T.g_rows_of T.f_rows_of.kp B_rows_of R_rows_of pass0 (pa_cons (pv 6) pa_nil)) (pv 3) (nomark _))))))
      (pss_one (ps_ret pe_bl))
      pss_nil)
      (pss_cons (ps_expr (pe_bm PySem.F.plainAttrs_list PySem.F.slot_list_append PySem.F.type_list_append mt_append (pv 8) (pa_cons pe_str pa_nil)))
      (pss_one (ps_expr (pe_bm0 PySem.F.plainAttrs_list PySem.F.slot_list_reverse PySem.F.type_list_reverse mt_reverse (pv 8))))))))
      (pss_cons (ps_expr (pe_bm PySem.F.plainAttrs_list PySem.F.slot_list_append PySem.F.type_list_append mt_append (pv 5) (pa_cons pe_str pa_nil)))
      (pss_one (ps_if (pt_cmpR op_ne (pe_call G_whole_text hr (by rfl) T.g_whole_text T.f_whole_text.kp T.b_whole_text .nil pass0 (pa_cons (pv 3) pa_nil)) (pv 6) (nomark _))
      (pss_one (ps_ret pe_bl))
      pss_nil))))))))))))
      (pss_one (ps_ret pe_bl))), ?_⟩
    refine ⟨.ref a, rfl, a, _, rfl, .inl hS, _, 16, rfl, 3, _, rfl, _, rfl, ?_, ?_, ?_⟩
    · have := maxmin316 (ns.map V.int).length
      omega
    · have := maxmin316 (ns.map V.int).length
      omega
    have hmm := maxmin316 (ns.map V.int).length
    generalize (if (if (16 : Int) < ((ns.map V.int).length : Int) then 16 else ((ns.map V.int).length : Int)) > 3 then (if (16 : Int) < ((ns.map V.int).length : Int) then 16 else ((ns.map V.int).length : Int)) else 3) = nn at hmm ⊢
    refine for_range (lo := 0) (n := nn.toNat) (fun i σ' H' => ∃ y1 y2 y3 y4 y5 y6 y7 y8 y9 : Option V, σ' = [some (.ref a), y1, y2, y3, y4, y5, y6, y7, y8, y9] ∧ Ex H H') ⟨none, none, none, none, none, none, none, none, none, rfl, Ex.refl H⟩ (fun i σ' Hs hi pv => ?_) (fun σ' H' pv => q H')
    obtain ⟨y1, y2, y3, y4, y5, y6, y7, y8, y9, rfl, e0⟩ := pv
    refine ⟨.ref a, rfl, .int ((0 : Int) + i), rfl, a, ns, i, ?_, ex_l e0 hS, hn, by omega, fun p H1 np e1 hp1 => ?_⟩
    · show [V.ref a, V.int ((0 : Int) + i)] = [V.ref a, V.int (i : Int)]
      rw [Int.zero_add]
    -- the rows
    refine ⟨.ref p, rfl, p, 13, 0, rfl, hp1, by decide, by decide, by decide, fun e H2 e20 e21 hp2 f2 => ⟨e, rfl, by omega, by omega, fun D nD => ?_⟩⟩
    have nDp := pool_ne hp2 nD
    have x2 : Ex Hs H2 := fx_new np e1 f2
    refine lc_range (lo := 0) (n := e.toNat) (fun i H' => ∃ us : List Str, us.length = i ∧ us.all okR = true ∧ H' D = some (.lst (us.map V.str)) ∧ Pl H' p (1 + i * 32) ∧ Fx p H2 H') ⟨[], rfl, rfl, upd_same, (hp2.ex (Ex.new nD)).mono (by omega), Fx.ex (Ex.new nD)⟩ (fun i H3 hi pv => ?_) (fun H3 pv => ?_)
    · obtain ⟨us, ul, uw, hD, hp3, f3⟩ := pv
      refine ⟨rfl, .ref p, rfl, p, 1 + i * 32, rfl, hp3, by omega, fun z H4 hz hp4 f4 => ⟨_, f4 _ _ nDp hD, ?_, us ++ [z], ?_, ?_, ?_, pl_upd (hp4.mono (by omega)) nDp, fun b o nb hb => ?_⟩⟩
      · rw [List.length_map]
        exact sz_lt (by omega)
      · rw [List.length_append, ul]
        rfl
      · rw [List.all_append, uw]
        simp [hz]
      · rw [upd_same, List.map_append]
        rfl
      · rw [upd_ne (ne_of_none hb nD)]
        exact f4 _ _ nb (f3 _ _ nb hb)
    obtain ⟨us, ul, uw, hD, hp3, f3⟩ := pv
    have x3 : Ex Hs H3 := fx_new np e1 (f2.trans f3)
    have fu : Fit us := ⟨by omega, by
      have := body_le (n := 30) (rs := us) fun z hz => okR_len (List.all_eq_true.mp uw z hz)
      have : us.length * (30 + 1) ≤ 12 * 31 := Nat.mul_le_mul (by omega) (by decide)
      omega, uw⟩
    refine ⟨fun σ' H' => ∃ (l : Addr) (rs : List Str) (y4 y5 y6 y7 y8 y9 : Option V), σ' = [some (.ref a), some (.int ((0 : Int) + i)), some (.ref p), some (.ref l), y4, y5, y6, y7, y8, y9] ∧ Fit rs ∧ H' l = some (.lst (rs.map V.str)) ∧ l ≠ p ∧ Pl H' p 1000 ∧ Ex Hs H', ?_, ?_⟩
    · refine ⟨.int ((0 : Int) + i), rfl, rfl, _, rfl, ite2 (fun c1 => ?_) (fun c1 => ?_)⟩
      · refine ⟨.ref p, rfl, p, 8, _, rfl, hp3, by decide, by decide, by omega, fun d H4 d0 d1 hp4 f4 => ⟨rfl, _, rfl, ite2 (fun c2 => ?_) (fun c2 => ?_)⟩⟩
        · refine ⟨by show 2 ≤ sizeLine; decide, fun lm nlm => ?_⟩
          have nlmp := pool_ne hp4 nlm
          have e5 := Ex.new (o := .lst [.int 1990, .int 9989]) nlm
          have h5 := upd_same (H := H4) (a := lm) (o := .lst [.int 1990, .int 9989])
          generalize upd H4 lm (.lst [.int 1990, .int 9989]) = H5 at e5 h5 ⊢
          refine ⟨.ref p, rfl, p, 2, _, rfl, hp4.ex e5, by decide, by decide, by omega, fun d6 H6 d60 d61 hp6 f6 => ?_⟩
          obtain ⟨m, gm, m0, m1⟩ := many_at d6 d60 d61
          refine ⟨lm, _, _, .int m, rfl, rfl, SqL.of (f6 _ _ nlmp h5), gm, .ref p, rfl, p, 11, _, rfl, hp6, by decide, by decide, by omega, fun d7 H7 d70 d71 hp7 f7 => ⟨m, d7, rfl, rfl, m + d7, rfl, by omega, by omega, fun D2 nD2 => ?_⟩⟩
          have nD2p := pool_ne hp7 nD2
          have x7 : Ex Hs H7 := fx_new np e1 (((((f2.trans f3).trans f4).trans (Fx.ex e5)).trans f6).trans f7)
          refine lc_range (lo := 0) (n := (m + d7).toNat) (fun i H' => ∃ us : List Str, us.length = i ∧ us.all okR = true ∧ (∀ z ∈ us, z.length ≤ 1) ∧ H' D2 = some (.lst (us.map V.str)) ∧ Ex H7 H') ⟨[], rfl, rfl, (fun _ h => (by cases h)), upd_same, Ex.new nD2⟩ (fun i H8 hi pv => ?_) (fun H8 pv => ?_)
          · obtain ⟨vs, vl, vw, v1, hD8, x8⟩ := pv
            refine ⟨rfl, by show 3 ≤ sizeLine; decide, fun lt nlt => ?_⟩
            have g0 : 0 ≤ ((0 : Int) + i) % 3 := Int.emod_nonneg _ (by decide)
            have g1 : ((0 : Int) + i) % 3 < 3 := Int.emod_lt_of_pos _ (by decide)
            obtain ⟨z, gz, hz, lz⟩ := three_at _ g0 g1
            have e9 := Ex.new (o := .lst [.str "", .str "", .str "~"]) nlt
            have h9 := upd_same (H := H8) (a := lt) (o := .lst [.str "", .str "", .str "~"])
            generalize upd H8 lt (.lst [.str "", .str "", .str "~"]) = H9 at e9 h9 ⊢
            refine ⟨.int ((0 : Int) + i), rfl, _, 3, rfl, rfl, (show (0 : Int) < 3 by decide), lt, _, _, .str z, rfl, rfl, SqL.of h9, gz, _, e9 _ _ hD8, ?_, vs ++ [z], ?_, ?_, ?_, ?_, Ex.mut (x8.trans e9) nD2⟩
            · rw [List.length_map]
              exact sz_lt (by omega)
            · rw [List.length_append, vl]
              rfl
            · rw [List.all_append, vw]
              simp [hz]
            · intro y hy
              rcases List.mem_append.mp hy with k | k
              · exact v1 y k
              · rw [List.mem_singleton.mp k]
                exact lz
            · rw [upd_same, List.map_append]
              rfl
          · obtain ⟨vs, vl, vw, v1, hD8, x8⟩ := pv
            have fv : Fit vs := ⟨by omega, by
              have := body_le (n := 1) (rs := vs) v1
              omega, vw⟩
            exact ⟨D2, vs, _, _, _, _, _, _, rfl, fv, hD8, nD2p, (hp7.ex x8).mono (by omega), x7.trans x8⟩
        · exact ⟨D, us, _, _, _, _, _, _, rfl, fu, f4 _ _ nDp hD, nDp, hp4.mono (by omega), fx_new np e1 ((f2.trans f3).trans f4)⟩
      · exact ⟨D, us, _, _, _, _, _, _, rfl, fu, hD, nDp, hp3.mono (by omega), x3⟩
    · rintro σ' H' ⟨l, rs, y4, y5, y6, y7, y8, y9, rfl, hf, hl, nlp, hp4, x4⟩
      have hm := hf.many
      refine ⟨by show 3 ≤ sizeLine; decide, fun lb nlb => ?_⟩
      have nlbp := pool_ne hp4 nlb
      have e5 := Ex.new (o := .lst [.str "", .str "h1", .str "s1.0"]) nlb
      have h5 := upd_same (H := H') (a := lb) (o := .lst [.str "", .str "h1", .str "s1.0"])
      generalize upd H' lb (.lst [.str "", .str "h1", .str "s1.0"]) = H5 at e5 h5 ⊢
      refine ⟨.ref p, rfl, p, 3, 1000, rfl, hp4.ex e5, by decide, by decide, by decide, fun d H6 d0 d1 hp6 f6 => ?_⟩
      obtain ⟨nm, gn⟩ := label_at d d0 d1
      refine ⟨lb, _, _, .str nm, rfl, rfl, SqL.of (f6 _ _ nlbp h5), gn, ?_⟩
      have hl6 : H6 l = some (.lst (rs.map V.str)) := f6 _ _ nlp (e5 _ _ hl)
      have x6 : Ex Hs H6 := fun b o hb => f6 _ _ (ne_of_none hb np) (e5 _ _ (x4 _ _ hb))
      refine ⟨.ref l, rfl, l, _, rfl, .inl (SqL.of hl6), fun hd nhd => ?_⟩
      have x7 := x6.trans (Ex.new (o := .lst (rs.map V.str)) nhd)
      have e7 := Ex.new (o := .lst (rs.map V.str)) nhd
      have h7 := upd_same (H := H6) (a := hd) (o := .lst (rs.map V.str))
      have nhs : Hs hd = none := fresh_back x6 nhd
      generalize upd H6 hd (.lst (rs.map V.str)) = H7 at x7 e7 h7 ⊢
      have hl7 := e7 _ _ hl6
      have nhl : l ≠ hd := ne_of_none hl6 nhd
      refine ⟨.ref hd, rfl, hd, rs, rfl, SqL.of h7, hf, fun H8 e8 => ?_⟩
      refine ⟨.str (Whole rs), rfl, .str (Whole rs), .ty "str", .type "str", .type "str", true, rfl, .ty _, .base (.str _), kit_ty (by decide +kernel), _, rfl, ite2 (fun c => absurd c (by decide)) (fun _ => ?_)⟩
      refine ⟨.str (Whole rs), rfl, .ref l, rfl, l, rs, rfl, SqL.of (e8 _ _ hl7), hf, fun H9 e9 => ⟨rfl, _, rfl, ite2 (fun c => ?_) (fun _ => ?_)⟩⟩
      · simp at c
      have h9 := e9 _ _ (e8 _ _ h7)
      have hl9 := e9 _ _ (e8 _ _ hl7)
      refine ⟨.ref hd, rfl, .ref l, rfl, _, _, .lst (SqL.of h9) (dpR rs), .lst (SqL.of hl9) (dpR rs), shapeR hf.ok, shapeR hf.ok, _, rfl, ?_⟩
      rw [eqvR hf.ok]
      refine ite2 (fun c => absurd c (by decide)) (fun _ => ?_)
      have x9 : Ex Hs H9 := (x7.trans e8).trans e9
      refine ⟨2, rfl, by decide, by decide, ?_⟩
      refine for_range (lo := 0) (n := 2) (fun j σ2 Hj => ∃ y7 y8 y9 : Option V, σ2 = [some (.ref a), some (.int ((0 : Int) + i)), some (.ref p), some (.ref l), some (.str nm), some (.ref hd), some (.str (Whole rs)), y7, y8, y9] ∧ Ex H9 Hj) ⟨_, _, _, rfl, Ex.refl H9⟩ (fun j σ2 Hj hj pv => ?_) (fun σ2 Hj pv => ?_)
      · obtain ⟨y7, y8, y9, rfl, xj⟩ := pv
        refine ⟨.str (Whole rs), rfl, .str nm, rfl, rfl, rfl, rs, nm, rfl, hf, fun f Hf nf ef hff => ?_⟩
        refine ⟨.ref f, rfl, .ref f, .ty "list", .type "list", .type "list", true, rfl, .ty _, .base (.lst hff), kit_ty (by decide +kernel), _, rfl, ite2 (fun c => absurd c (by decide)) (fun _ => ?_)⟩
        have hlf := ef _ _ (xj _ _ hl9)
        refine ⟨.ref f, rfl, .ref l, rfl, _, _, .lst (SqL.of hff) (dpR rs), .lst (SqL.of hlf) (dpR rs), shapeR hf.ok, shapeR hf.ok, _, rfl, ?_⟩
        rw [eqvR hf.ok]
        refine ite2 (fun c => absurd c (by decide)) (fun _ => ?_)
        refine ⟨.str (Whole rs), rfl, rs, "", rfl, hf, fun g Hg ng eg hgg => ?_⟩
        refine ⟨.ref l, rfl, _, _, .lst (SqL.of hgg) (dpR rs), .lst (SqL.of (eg _ _ hlf)) (dpR rs), shapeR hf.ok, shapeR hf.ok, _, rfl, ?_⟩
        rw [eqvR hf.ok]
        refine ite2 (fun c => absurd c (by decide)) (fun _ => ?_)
        have hfg := eg _ _ hff
        refine ⟨.ref f, rfl, .inl ⟨rfl, _, SqL.of hfg⟩, f, _, _, rfl, rfl, hfg, ?_, ?_⟩
        · rw [List.length_map]
          exact sz_lt (by omega)
        have n9 : H9 f = none := fresh_back xj nf
        have xa : Ex H9 (upd Hg f (.lst (rs.map V.str ++ [.str "a"]))) := Ex.mut ((xj.trans ef).trans eg) n9
        have ha := upd_same (H := Hg) (a := f) (o := .lst (rs.map V.str ++ [.str "a"]))
        generalize upd Hg f (.lst (rs.map V.str ++ [.str "a"])) = Ha at xa ha ⊢
        refine ⟨.ref f, rfl, .inl ⟨rfl, _, SqL.of ha⟩, f, _, rfl, rfl, ha, _, _, _, rfl, Ex.mut xa n9⟩
      · obtain ⟨y7, y8, y9, rfl, xj⟩ := pv
        have hj := xj _ _ h9
        refine ⟨.ref hd, rfl, .inl ⟨rfl, _, SqL.of hj⟩, hd, _, _, rfl, rfl, hj, ?_, ?_⟩
        · rw [List.length_map]
          exact sz_lt (by omega)
        have xk : Ex Hs (upd Hj hd (.lst (rs.map V.str ++ [.str "a"]))) := Ex.mut (x9.trans xj) nhs
        have hlk : (upd Hj hd (.lst (rs.map V.str ++ [.str "a"]))) l = some (.lst (rs.map V.str)) := by
          rw [upd_ne nhl]
          exact xj _ _ hl9
        generalize upd Hj hd (.lst (rs.map V.str ++ [.str "a"])) = Hk at xk hlk ⊢
        refine ⟨.ref l, rfl, l, rs, rfl, SqL.of hlk, hf, fun Hz ez => ⟨.str (Whole rs), rfl, rfl, _, rfl, ite2 (fun c => ?_) (fun _ => ?_)⟩⟩
        · simp at c
        · exact ⟨_, _, _, _, _, _, _, _, _, rfl, e0.trans (xk.trans ez)⟩

end
set_option maxHeartbeats 8000000 in
theorem all_mk {l : PySem.W.OpenLaw} {w : World} {K : PySem.W.Frag} {h : Heap} {mg : Str → Option Value} {fa : Addr} (X : K.In h) (G : h.Ns mainGlobals mg) (hfa : mg "law" = some (.ref fa))
    {f8 : Addr} {od8 an8 : Option Addr} {sl8 : Array (Option Value)} {oc8 kV8 dc8 pm8 cd8 ct8 : Value}
    (a8 : PySem.W.nsIn K mainGlobals "whole_text" = some (some (.ref f8))) (l8 : K.lookup f8 = some ⟨oc8, od8, .func (PySem.W.fnOf "whole_text" "whole_text" (defArgs (topS 8)) (defBody (topS 8)) (defScope (topS 8)) .none kV8 dc8 pm8 an8 cd8 ct8), sl8⟩) (c8 : PySem.W.codeIn K cd8 "whole_text" = true) (k8 : PySem.W.keepIn K (.ref f8) = true)
    {f9 : Addr} {od9 an9 : Option Addr} {sl9 : Array (Option Value)} {oc9 kV9 dc9 pm9 cd9 ct9 : Value}
    (a9 : PySem.W.nsIn K mainGlobals "check_of" = some (some (.ref f9))) (l9 : K.lookup f9 = some ⟨oc9, od9, .func (PySem.W.fnOf "check_of" "check_of" (defArgs (topS 9)) (defBody (topS 9)) (defScope (topS 9)) .none kV9 dc9 pm9 an9 cd9 ct9), sl9⟩) (c9 : PySem.W.codeIn K cd9 "check_of" = true) (k9 : PySem.W.keepIn K (.ref f9) = true)
    {f10 : Addr} {od10 an10 : Option Addr} {sl10 : Array (Option Value)} {oc10 dc10 pm10 cd10 ct10 : Value} {D10 : Addr}
    (a10 : PySem.W.nsIn K mainGlobals "rows_of" = some (some (.ref f10))) (l10 : K.lookup f10 = some ⟨oc10, od10, .func (PySem.W.fnOf "rows_of" "rows_of" (defArgs (topS 10)) (defBody (topS 10)) (defScope (topS 10)) .none (.ref D10) dc10 pm10 an10 cd10 ct10), sl10⟩) (c10 : PySem.W.codeIn K cd10 "rows_of" = true) (k10 : PySem.W.keepIn K (.ref f10) = true)
    (d10_0 : PySem.W.nsIn K D10 "name" = some (some (.str "" tkw10_0)))
    {f11 : Addr} {od11 an11 : Option Addr} {sl11 : Array (Option Value)} {oc11 kV11 dc11 pm11 cd11 ct11 : Value}
    (a11 : PySem.W.nsIn K mainGlobals "is_row" = some (some (.ref f11))) (l11 : K.lookup f11 = some ⟨oc11, od11, .func (PySem.W.fnOf "is_row" "is_row" (defArgs (topS 11)) (defBody (topS 11)) (defScope (topS 11)) .none kV11 dc11 pm11 an11 cd11 ct11), sl11⟩) (c11 : PySem.W.codeIn K cd11 "is_row" = true) (k11 : PySem.W.keepIn K (.ref f11) = true)
    {f13 : Addr} {od13 an13 : Option Addr} {sl13 : Array (Option Value)} {oc13 kV13 dc13 pm13 cd13 ct13 : Value}
    (a13 : PySem.W.nsIn K mainGlobals "_law_purse" = some (some (.ref f13))) (l13 : K.lookup f13 = some ⟨oc13, od13, .func (PySem.W.fnOf "_law_purse" "_law_purse" (defArgs (topS 13)) (defBody (topS 13)) (defScope (topS 13)) .none kV13 dc13 pm13 an13 cd13 ct13), sl13⟩) (c13 : PySem.W.codeIn K cd13 "_law_purse" = true) (k13 : PySem.W.keepIn K (.ref f13) = true)
    {f14 : Addr} {od14 an14 : Option Addr} {sl14 : Array (Option Value)} {oc14 kV14 dc14 pm14 cd14 ct14 : Value}
    (a14 : PySem.W.nsIn K mainGlobals "_law_take" = some (some (.ref f14))) (l14 : K.lookup f14 = some ⟨oc14, od14, .func (PySem.W.fnOf "_law_take" "_law_take" (defArgs (topS 14)) (defBody (topS 14)) (defScope (topS 14)) .none kV14 dc14 pm14 an14 cd14 ct14), sl14⟩) (c14 : PySem.W.codeIn K cd14 "_law_take" = true) (k14 : PySem.W.keepIn K (.ref f14) = true)
    {f15 : Addr} {od15 an15 : Option Addr} {sl15 : Array (Option Value)} {oc15 kV15 dc15 pm15 cd15 ct15 : Value}
    (a15 : PySem.W.nsIn K mainGlobals "_law_row" = some (some (.ref f15))) (l15 : K.lookup f15 = some ⟨oc15, od15, .func (PySem.W.fnOf "_law_row" "_law_row" (defArgs (topS 15)) (defBody (topS 15)) (defScope (topS 15)) .none kV15 dc15 pm15 an15 cd15 ct15), sl15⟩) (c15 : PySem.W.codeIn K cd15 "_law_row" = true) (k15 : PySem.W.keepIn K (.ref f15) = true)
    {f16 : Addr} {od16 an16 : Option Addr} {sl16 : Array (Option Value)} {oc16 kV16 dc16 pm16 cd16 ct16 : Value}
    (a16 : PySem.W.nsIn K mainGlobals "_law_check" = some (some (.ref f16))) (l16 : K.lookup f16 = some ⟨oc16, od16, .func (PySem.W.fnOf "_law_check" "_law_check" (defArgs (topS 16)) (defBody (topS 16)) (defScope (topS 16)) .none kV16 dc16 pm16 an16 cd16 ct16), sl16⟩) (c16 : PySem.W.codeIn K cd16 "_law_check" = true) (k16 : PySem.W.keepIn K (.ref f16) = true)
    {f17 : Addr} {od17 an17 : Option Addr} {sl17 : Array (Option Value)} {oc17 kV17 dc17 pm17 cd17 ct17 : Value}
    (a17 : PySem.W.nsIn K mainGlobals "_law_whole" = some (some (.ref f17))) (l17 : K.lookup f17 = some ⟨oc17, od17, .func (PySem.W.fnOf "_law_whole" "_law_whole" (defArgs (topS 17)) (defBody (topS 17)) (defScope (topS 17)) .none kV17 dc17 pm17 an17 cd17 ct17), sl17⟩) (c17 : PySem.W.codeIn K cd17 "_law_whole" = true) (k17 : PySem.W.keepIn K (.ref f17) = true)
    {f18 : Addr} {od18 an18 : Option Addr} {sl18 : Array (Option Value)} {oc18 kV18 dc18 pm18 cd18 ct18 : Value}
    (a18 : PySem.W.nsIn K mainGlobals "law" = some (some (.ref f18))) (l18 : K.lookup f18 = some ⟨oc18, od18, .func (PySem.W.fnOf "law" "law" (defArgs (topS 18)) (defBody (topS 18)) (defScope (topS 18)) .none kV18 dc18 pm18 an18 cd18 ct18), sl18⟩) (c18 : PySem.W.codeIn K cd18 "law" = true) (k18 : PySem.W.keepIn K (.ref f18) = true)
    (z_abs : PySem.W.nsIn K mainGlobals "abs" = some none)
    (z_all : PySem.W.nsIn K mainGlobals "all" = some none)
    (z_int : PySem.W.nsIn K mainGlobals "int" = some none)
    (z_isinstance : PySem.W.nsIn K mainGlobals "isinstance" = some none)
    (z_len : PySem.W.nsIn K mainGlobals "len" = some none)
    (z_list : PySem.W.nsIn K mainGlobals "list" = some none)
    (z_max : PySem.W.nsIn K mainGlobals "max" = some none)
    (z_min : PySem.W.nsIn K mainGlobals "min" = some none)
    (z_ord : PySem.W.nsIn K mainGlobals "ord" = some none)
    (z_range : PySem.W.nsIn K mainGlobals "range" = some none)
    (z_str : PySem.W.nsIn K mainGlobals "str" = some none)
    {tk3 : Tok} (e3 : PySem.W.nsIn K mainGlobals "MOST_ROWS" = some (some (.int 9999 tk3)))
    {tk4 : Tok} (e4 : PySem.W.nsIn K mainGlobals "MOST_SIGNS" = some (some (.int 20000 tk4)))
    {tk5 : Tok} (e5 : PySem.W.nsIn K mainGlobals "FACTOR" = some (some (.int 31 tk5)))
    {tk6 : Tok} (e6 : PySem.W.nsIn K mainGlobals "DIVISOR" = some (some (.int 65521 tk6)))
    {tk7 : Tok} (e7 : PySem.W.nsIn K mainGlobals "HEAD_SIGNS" = some (some (.int 10 tk7)))
    {f1 : Addr} (a1 : PySem.W.nsIn K mainGlobals "Torn" = some (some (.ref f1)))
    : ∃ fd : FuncData, (∀ (s : Shared) (v : Value), BindsTo s fd ⟨[v], []⟩ [("_law_script", v)]) ∧ ∀ base : Heap, K.In base → base.Ns mainGlobals mg → FnOk l.prog w K mg base CX0 10 fa fd ["_law_script"] (spLaw K) := by
  have e := hfa.symm.trans (PySem.W.mg_of X G a18)
  cases e
  let A : Nat → Addr := fun i => ([0, f1, 0, 0, 0, 0, 0, 0, f8, f9, f10, f11, 0, f13, f14, f15, f16, f17, fa] : List Addr).getD i 0
  let FD : Nat → FuncData := fun i => ([PySem.W.fnOf "law" "law" (defArgs (topS 18)) (defBody (topS 18)) (defScope (topS 18)) .none kV18 dc18 pm18 an18 cd18 ct18, PySem.W.fnOf "law" "law" (defArgs (topS 18)) (defBody (topS 18)) (defScope (topS 18)) .none kV18 dc18 pm18 an18 cd18 ct18, PySem.W.fnOf "law" "law" (defArgs (topS 18)) (defBody (topS 18)) (defScope (topS 18)) .none kV18 dc18 pm18 an18 cd18 ct18, PySem.W.fnOf "law" "law" (defArgs (topS 18)) (defBody (topS 18)) (defScope (topS 18)) .none kV18 dc18 pm18 an18 cd18 ct18, PySem.W.fnOf "law" "law" (defArgs (topS 18)) (defBody (topS 18)) (defScope (topS 18)) .none kV18 dc18 pm18 an18 cd18 ct18, PySem.W.fnOf "law" "law" (defArgs (topS 18)) (defBody (topS 18)) (defScope (topS 18)) .none kV18 dc18 pm18 an18 cd18 ct18, PySem.W.fnOf "law" "law" (defArgs (topS 18)) (defBody (topS 18)) (defScope (topS 18)) .none kV18 dc18 pm18 an18 cd18 ct18, PySem.W.fnOf "law" "law" (defArgs (topS 18)) (defBody (topS 18)) (defScope (topS 18)) .none kV18 dc18 pm18 an18 cd18 ct18, PySem.W.fnOf "whole_text" "whole_text" (defArgs (topS 8)) (defBody (topS 8)) (defScope (topS 8)) .none kV8 dc8 pm8 an8 cd8 ct8, PySem.W.fnOf "check_of" "check_of" (defArgs (topS 9)) (defBody (topS 9)) (defScope (topS 9)) .none kV9 dc9 pm9 an9 cd9 ct9, PySem.W.fnOf "rows_of" "rows_of" (defArgs (topS 10)) (defBody (topS 10)) (defScope (topS 10)) .none (.ref D10) dc10 pm10 an10 cd10 ct10, PySem.W.fnOf "is_row" "is_row" (defArgs (topS 11)) (defBody (topS 11)) (defScope (topS 11)) .none kV11 dc11 pm11 an11 cd11 ct11, PySem.W.fnOf "law" "law" (defArgs (topS 18)) (defBody (topS 18)) (defScope (topS 18)) .none kV18 dc18 pm18 an18 cd18 ct18, PySem.W.fnOf "_law_purse" "_law_purse" (defArgs (topS 13)) (defBody (topS 13)) (defScope (topS 13)) .none kV13 dc13 pm13 an13 cd13 ct13, PySem.W.fnOf "_law_take" "_law_take" (defArgs (topS 14)) (defBody (topS 14)) (defScope (topS 14)) .none kV14 dc14 pm14 an14 cd14 ct14, PySem.W.fnOf "_law_row" "_law_row" (defArgs (topS 15)) (defBody (topS 15)) (defScope (topS 15)) .none kV15 dc15 pm15 an15 cd15 ct15, PySem.W.fnOf "_law_check" "_law_check" (defArgs (topS 16)) (defBody (topS 16)) (defScope (topS 16)) .none kV16 dc16 pm16 an16 cd16 ct16, PySem.W.fnOf "_law_whole" "_law_whole" (defArgs (topS 17)) (defBody (topS 17)) (defScope (topS 17)) .none kV17 dc17 pm17 an17 cd17 ct17, PySem.W.fnOf "law" "law" (defArgs (topS 18)) (defBody (topS 18)) (defScope (topS 18)) .none kV18 dc18 pm18 an18 cd18 ct18] : List FuncData).getD i (PySem.W.fnOf "law" "law" (defArgs (topS 18)) (defBody (topS 18)) (defScope (topS 18)) .none kV18 dc18 pm18 an18 cd18 ct18)
  let TK : Nat → Tok := fun i => ([0, 0, 0, tk3, tk4, tk5, tk6, tk7] : List Tok).getD i 0
  have T : TX K mg A FD TK := {
    f_whole_text := fun_mk (st := topS 8) l8 c8 k8
    b_whole_text := (fun_mk (st := topS 8) l8 c8 k8).binds (ps := ["rows"]) fun _ _ _ _ _ _ us hl => match us, hl with | [_], _ => rfl
    g_whole_text := PySem.W.mg_of X G a8
    f_check_of := fun_mk (st := topS 9) l9 c9 k9
    b_check_of := (fun_mk (st := topS 9) l9 c9 k9).binds (ps := ["body"]) fun _ _ _ _ _ _ us hl => match us, hl with | [_], _ => rfl
    g_check_of := PySem.W.mg_of X G a9
    f_rows_of := ⟨⟨oc10, od10, .none, .ref D10, dc10, pm10, an10, cd10, ct10, sl10, rfl, l10, c10, .inl ⟨rfl, rfl⟩, .inr ⟨D10, rfl, fun q hq => by
        simp only [List.mem_cons, List.not_mem_nil, or_false] at hq
        subst hq
        exact ⟨_, d10_0, ⟨_, rfl⟩⟩⟩⟩, k10⟩
    g_rows_of := PySem.W.mg_of X G a10
    f_is_row := fun_mk (st := topS 11) l11 c11 k11
    b_is_row := (fun_mk (st := topS 11) l11 c11 k11).binds (ps := ["row"]) fun _ _ _ _ _ _ us hl => match us, hl with | [_], _ => rfl
    g_is_row := PySem.W.mg_of X G a11
    f_l_purse := fun_mk (st := topS 13) l13 c13 k13
    b_l_purse := (fun_mk (st := topS 13) l13 c13 k13).binds (ps := ["_law_script", "_law_at"]) fun _ _ _ _ _ _ us hl => match us, hl with | [_, _], _ => rfl
    g_l_purse := PySem.W.mg_of X G a13
    f_l_take := fun_mk (st := topS 14) l14 c14 k14
    b_l_take := (fun_mk (st := topS 14) l14 c14 k14).binds (ps := ["_law_purse_here", "_law_many"]) fun _ _ _ _ _ _ us hl => match us, hl with | [_, _], _ => rfl
    g_l_take := PySem.W.mg_of X G a14
    f_l_row := fun_mk (st := topS 15) l15 c15 k15
    b_l_row := (fun_mk (st := topS 15) l15 c15 k15).binds (ps := ["_law_purse_here", "_law_most"]) fun _ _ _ _ _ _ us hl => match us, hl with | [_, _], _ => rfl
    g_l_row := PySem.W.mg_of X G a15
    f_l_check := fun_mk (st := topS 16) l16 c16 k16
    b_l_check := (fun_mk (st := topS 16) l16 c16 k16).binds (ps := ["_law_rows"]) fun _ _ _ _ _ _ us hl => match us, hl with | [_], _ => rfl
    g_l_check := PySem.W.mg_of X G a16
    f_l_whole := fun_mk (st := topS 17) l17 c17 k17
    b_l_whole := (fun_mk (st := topS 17) l17 c17 k17).binds (ps := ["_law_rows"]) fun _ _ _ _ _ _ us hl => match us, hl with | [_], _ => rfl
    g_l_whole := PySem.W.mg_of X G a17
    f_law := fun_mk (st := topS 18) l18 c18 k18
    b_law := (fun_mk (st := topS 18) l18 c18 k18).binds (ps := ["_law_script"]) fun _ _ _ _ _ _ us hl => match us, hl with | [_], _ => rfl
    g_law := PySem.W.mg_of X G a18
    m_abs := PySem.W.mg_none_of X G z_abs
    m_all := PySem.W.mg_none_of X G z_all
    m_int := PySem.W.mg_none_of X G z_int
    m_isinstance := PySem.W.mg_none_of X G z_isinstance
    m_len := PySem.W.mg_none_of X G z_len
    m_list := PySem.W.mg_none_of X G z_list
    m_max := PySem.W.mg_none_of X G z_max
    m_min := PySem.W.mg_none_of X G z_min
    m_ord := PySem.W.mg_none_of X G z_ord
    m_range := PySem.W.mg_none_of X G z_range
    m_str := PySem.W.mg_none_of X G z_str
    c_MOST_ROWS := PySem.W.mg_of X G e3
    c_MOST_SIGNS := PySem.W.mg_of X G e4
    c_FACTOR := PySem.W.mg_of X G e5
    c_DIVISOR := PySem.W.mg_of X G e6
    c_HEAD_SIGNS := PySem.W.mg_of X G e7
    k_Torn := PySem.W.mg_of X G a1 }
  exact ⟨FD 18, fun s v => .of_eq rfl, fun base _ _ => ok_law T⟩
end K64
open PySem PySem.W PyProof.Rows
set_option maxHeartbeats 0 in
theorem PySem.Challenge.cw_blocksearch_k64_whole_texts_told_holds : PySem.Challenge.rw_blocksearch_k64_whole_texts_told.Holds := by
  w_on; o_law; k_head; (case hw => w_witness2)
  k_fill
  refine L2.walk_of (l := PySem.Challenge.rw_blocksearch_k64_whole_texts_told) (n := 63) (k := 10) (x := "_law_script") (CX := fun _ => L2.CX0) (sp := fun w => K64.spLaw _) rfl (by decide) rfl ⟨rfl, by decide, by decide⟩ (fun w h Y => PySem.W.kIn_of Y) ?F (fun _ _ a ns hl _ hS => ⟨a, ns, rfl, hS, hl, fun _ => rfl⟩) (fun _ _ _ _ _ h => h)
  case F =>
    intro w mg fa h KX G hmg
    refine' K64.all_mk KX G hmg ?a8 ?l8 ?c8 ?k8 ?a9 ?l9 ?c9 ?k9 ?a10 ?l10 ?c10 ?k10 ?d10_0 ?a11 ?l11 ?c11 ?k11 ?a13 ?l13 ?c13 ?k13 ?a14 ?l14 ?c14 ?k14 ?a15 ?l15 ?c15 ?k15 ?a16 ?l16 ?c16 ?k16 ?a17 ?l17 ?c17 ?k17 ?a18 ?l18 ?c18 ?k18 ?z_abs ?z_all ?z_int ?z_isinstance ?z_len ?z_list ?z_max ?z_min ?z_ord ?z_range ?z_str ?e3 ?e4 ?e5 ?e6 ?e7 ?a1
    (case a8 => k_is)
    (case l8 => k_is)
    (case c8 => k_is)
    (case k8 => k_is)
    (case a9 => k_is)
    (case l9 => k_is)
    (case c9 => k_is)
    (case k9 => k_is)
    (case a10 => k_is)
    (case l10 => k_is)
    (case c10 => k_is)
    (case k10 => k_is)
    (case d10_0 => k_is)
    (case a11 => k_is)
    (case l11 => k_is)
    (case c11 => k_is)
    (case k11 => k_is)
    (case a13 => k_is)
    (case l13 => k_is)
    (case c13 => k_is)
    (case k13 => k_is)
    (case a14 => k_is)
    (case l14 => k_is)
    (case c14 => k_is)
    (case k14 => k_is)
    (case a15 => k_is)
    (case l15 => k_is)
    (case c15 => k_is)
    (case k15 => k_is)
    (case a16 => k_is)
    (case l16 => k_is)
    (case c16 => k_is)
    (case k16 => k_is)
    (case a17 => k_is)
    (case l17 => k_is)
    (case c17 => k_is)
    (case k17 => k_is)
    (case a18 => k_is)
    (case l18 => k_is)
    (case c18 => k_is)
    (case k18 => k_is)
    (case z_abs => k_is)
    (case z_all => k_is)
    (case z_int => k_is)
    (case z_isinstance => k_is)
    (case z_len => k_is)
    (case z_list => k_is)
    (case z_max => k_is)
    (case z_min => k_is)
    (case z_ord => k_is)
    (case z_range => k_is)
    (case z_str => k_is)
    (case e3 => k_is)
    (case e4 => k_is)
    (case e5 => k_is)
    (case e6 => k_is)
    (case e7 => k_is)
    (case a1 => k_is)

