import PyProof.Rows.All
import Wide.All
import OpenK.AllK
import Wide.FinOn
import HandS.ForMost
import HandS.Defaults
import HandS.IsInst
import HandS.Walk
import HandS.Evl
import HandS.More
import HandS.Wide
import HandS.MakeKw
import HandS.Codes
import PySem.Challenge.RW_blocksearch_k32_ratios_reckoned
set_option Elab.async false
set_option linter.all false
set_option maxRecDepth 100000
/-! words of my own: the drawn pool, heaps that grow beside it, small facts -/
namespace My
open PySem PySem.Spec PyProof.Rows L2 Evl

/-- the pool at p: three ints, at most c draws mixed so far -/
def Pl (H : Hp) (p : Addr) (c : Nat) : Prop := ∃ (g b : Int) (k : Nat), H p = some (.lst [.int g, .int b, .int (k : Int)]) ∧ 0 ≤ g ∧ 0 ≤ b ∧ b < 1237940039285380274899124224 ∧ k ≤ c
/-- all but p stays -/
def Fx (p : Addr) (H H' : Hp) : Prop := ∀ a o, a ≠ p → H a = some o → H' a = some o
theorem Fx.refl (p : Addr) (H : Hp) : Fx p H H := fun _ _ _ h => h
theorem Fx.trans {p : Addr} {H H1 H2 : Hp} (a : Fx p H H1) (b : Fx p H1 H2) : Fx p H H2 := fun x o n h => b x o n (a x o n h)
theorem Fx.ex {p : Addr} {H H' : Hp} (e : Ex H H') : Fx p H H' := fun a o _ h => e a o h
theorem Fx.upd {p : Addr} {H : Hp} {o : HO} : Fx p H (L2.upd H p o) := fun a u n h => by
  rw [upd_ne n]
  exact h
theorem Pl.mono {H : Hp} {p : Addr} {c c' : Nat} (h : Pl H p c) (l : c ≤ c') : Pl H p c' := by
  obtain ⟨g, b, k, h1, h2, h3, h4, h5⟩ := h
  exact ⟨g, b, k, h1, h2, h3, h4, Nat.le_trans h5 l⟩
theorem Pl.ex {H H' : Hp} {p : Addr} {c : Nat} (h : Pl H p c) (e : Ex H H') : Pl H' p c := by
  obtain ⟨g, b, k, h1, h2⟩ := h
  exact ⟨g, b, k, e _ _ h1, h2⟩
theorem Pl.some {H : Hp} {p : Addr} {c : Nat} (h : Pl H p c) : ∃ xs, H p = some (.lst xs) := by
  obtain ⟨g, b, k, h1, _⟩ := h
  exact ⟨_, h1⟩
/-- what is free behind was free ahead -/
theorem fx_free {p a : Addr} {H H' : Hp} {c : Nat} (f : Fx p H H') (h : Pl H' p c) (e : H' a = none) : H a = none := by
  cases q : H a with
  | none => rfl
  | some o =>
    have n : a ≠ p := fun z => by
      obtain ⟨xs, hx⟩ := h.some
      rw [z, hx] at e
      cases e
    rw [f a o n q] at e
    cases e
/-- a tuple is not the pool -/
theorem Fx.tup {p a : Addr} {H H' : Hp} {xs : List V} {c : Nat} (f : Fx p H H') (hp : Pl H p c) (h : H a = some (.tup xs)) : H' a = some (.tup xs) := by
  obtain ⟨ys, hy⟩ := hp.some
  exact f a _ (ne_of h hy (by intro z; cases z)) h
theorem Fx.sqt {K : PySem.W.Frag} {p a : Addr} {H H' : Hp} {xs : List V} {c : Nat} (f : Fx p H H') (hp : Pl H p c) (h : SqT K H a xs) : SqT K H' a xs := by
  obtain ⟨ys, hy⟩ := hp.some
  rcases h with (h | ⟨o, h⟩) | h
  · exact .inl (.inl (f a _ (ne_of h hy (by intro z; cases z)) h))
  · exact .inl (.inr ⟨o, f a _ (ne_of h hy (by intro z; cases z)) h⟩)
  · exact .inr h
theorem Fx.lst {p a : Addr} {H H' : Hp} {xs : List V} (f : Fx p H H') (n : a ≠ p) (h : H a = some (.lst xs)) : H' a = some (.lst xs) := f a _ n h
theorem ex_upd {H : Hp} {p : Addr} {o : HO} (h : H p = none) : Ex H (L2.upd H p o) := Ex.new h
theorem ret_v {v : V} {H : Hp} {Q : VK} (q : RetV v H Q) : Q v H := q H (Ex.refl H)
theorem sz {n : Nat} (h : n ≤ 100000) : n ≤ sizeLine := sz_of h
theorem natAbs_lt {z : Int} {n : Nat} (h0 : 0 ≤ z) (h : z < (n : Int)) : z.natAbs < n := by omega
/-- a * b ≤ A * B -/
theorem mul_le {a b A B : Int} (h0 : 0 ≤ a) (h1 : a ≤ A) (h2 : 0 ≤ b) (h3 : b ≤ B) : a * b ≤ A * B := Int.mul_le_mul h1 h3 h2 (Int.le_trans h0 h1)
theorem mul_nn {a b : Int} (h0 : 0 ≤ a) (h1 : 0 ≤ b) : 0 ≤ a * b := Int.mul_nonneg h0 h1
/-! the rules with the written part said, for blocks of comprehensions -/
section
variable {X : Cx} {K : PySem.W.Frag}
theorem lenK (h : X.K = K) : CallR X (.builtin "len") (rLenS K) := by subst h; exact call_len_seq
theorem listK (h : X.K = K) : CallR X (.type "list") (rListS K) := by subst h; exact call_list_of
def rTupS (K : PySem.W.Frag) : List V → Hp → VK → Prop := fun xs H Q => ∃ p ys, xs = [.ref p] ∧ ((SqL K H p ys ∧ ∀ l, H l = none → Q (.ref l) (L2.upd H l (.tup ys))) ∨ (SqT K H p ys ∧ Q (.ref p) H))
theorem tupK (h : X.K = K) : CallR X (.type "tuple") (rTupS K) := by subst h; exact call_tuple_of
theorem ixLK (h : X.K = K) : IxR X (rIxL K) := by subst h; exact ix_list
theorem ixTK (h : X.K = K) : IxR X (rIxT K) := by subst h; exact ix_tup
theorem slLK (h : X.K = K) : SlR X (rSlL K) := by subst h; exact sl_list
theorem slTK (h : X.K = K) : SlR X (rSlT K) := by subst h; exact sl_tup
theorem catTK (h : X.K = K) : OpR X (binaryOp .Add) (rCatT K) := by subst h; exact op_catT
theorem inK (h : X.K = K) : OpR X (compareOp .In) (rIn K false) := by subst h; exact op_in_seq
theorem notInK (h : X.K = K) : OpR X (compareOp .NotIn) (rIn K true) := by subst h; exact op_notIn_seq
theorem isiK (h : X.K = K) : CallR X (.builtin "isinstance") (rIsi K) := by subst h; exact call_isi
theorem isiTK (h : X.K = K) : CallR X (.builtin "isinstance") (rIsiT K) := by subst h; exact call_isiT
theorem allK (h : X.K = K) (hc : X.calm = true) : CallR X (.builtin "all") (rAll K) := by subst h; exact cr_all hc
theorem anyK (h : X.K = K) (hc : X.calm = true) : CallR X (.builtin "any") (rAny K) := by subst h; exact cr_any hc
theorem sumK (h : X.K = K) (hc : X.calm = true) : CallR X (.builtin "sum") (rSum K) := by subst h; exact cr_sum hc
theorem maxK (h : X.K = K) (hc : X.calm = true) : CallR X (.builtin "max") (rMax K) := by subst h; exact cr_max hc
theorem minK (h : X.K = K) (hc : X.calm = true) : CallR X (.builtin "min") (rMin K) := by subst h; exact cr_min hc
theorem fldK {e : Expr} {f : Str} {pos : Pos} {ta : TE} (h : X.K = K) (he : PE X e ta) (hb : attributeBase e f X.env (eval e X.env) = eval e X.env) : PE X (.Attribute e f pos) (tFld K ta f) := by subst h; exact pe_fld he hb
theorem tupGK {es : List Expr} {k : Nat} {t : TGs} {n : Nat} {pos : Pos} (h : X.K = K) (hc : X.calm = true) (hg : PGs X es t) (hn : (assignEach es X.env).length = n := by rfl) (hst : (assignEach es X.env).findIdx? (·.1) = none := by rfl) : PG X (.Tuple es k pos) (gTup K n t) := by subst h; exact pg_tup hc hg hn hst
theorem eqDK (h : X.K = K) (hu : X.A.units + 64 < cLine) : OpR X (compareOp .Eq) (rEqD K) := by subst h; exact op_eqD hu
theorem neDK (h : X.K = K) (hu : X.A.units + 64 < cLine) : OpR X (compareOp .NotEq) (rNeD K) := by subst h; exact op_neD hu
theorem indexK (h : X.K = K) : MtR X "list.index" (rIndex K) := by subst h; exact mt_index
theorem piOr {tg e : Expr} {w1 w2 : TI} (h1 : PI X tg e w1) (h2 : PI X tg e w2) : PI X tg e (fun σ H R => w1 σ H R ∨ w2 σ H R) := ⟨fun pins s σ H R I h => h.elim (fun h => h1.run pins s σ H R I h) (fun h => h2.run pins s σ H R I h)⟩
theorem piLK {tg l : Expr} {tl : TE} (h : X.K = K) (hl : PE X l tl) : PI X tg l (iList K tl) := by subst h; exact pi_list hl
theorem piTK {tg l : Expr} {tl : TE} (h : X.K = K) (hl : PE X l tl) : PI X tg l (iTup K tl) := by subst h; exact pi_tup hl
end
end My
namespace K32
open PySem PySem.Spec PyProof.Rows L2 Evl My
def topS (i : Nat) : Stmt := PySem.Challenge.pw_blocksearch_k32_ratios_reckoned.main.body.getD i (.Pass ⟨0, 0, 0, 0⟩)
abbrev N_is_whole : List Str := ["thing"]
theorem sc_is_whole : FnScope N_is_whole ["thing"] (defScope (topS 5)) := ⟨rfl, rfl, rfl, by decide +kernel, rfl, by decide +kernel, by decide +kernel⟩
abbrev N_ratio_of : List Str := ["top", "bottom", "ratio"]
theorem sc_ratio_of : FnScope N_ratio_of ["top", "bottom"] (defScope (topS 11)) := ⟨rfl, rfl, rfl, by decide +kernel, rfl, by decide +kernel, by decide +kernel⟩
abbrev N_lowest : List Str := ["top", "bottom", "divisor", "rest"]
theorem sc_lowest : FnScope N_lowest ["top", "bottom"] (defScope (topS 12)) := ⟨rfl, rfl, rfl, by decide +kernel, rfl, by decide +kernel, by decide +kernel⟩
abbrev N_check_figures : List Str := ["number"]
theorem sc_check_figures : FnScope N_check_figures ["number"] (defScope (topS 13)) := ⟨rfl, rfl, rfl, by decide +kernel, rfl, by decide +kernel, by decide +kernel⟩
abbrev N_l_purse : List Str := ["_law_script", "_law_at", "_law_cell", "_law_great"]
theorem sc_l_purse : FnScope N_l_purse ["_law_script", "_law_at"] (defScope (topS 16)) := ⟨rfl, rfl, rfl, by decide +kernel, rfl, by decide +kernel, by decide +kernel⟩
abbrev N_l_take : List Str := ["_law_purse_here", "_law_many", "_law_digit", "_law_one"]
theorem sc_l_take : FnScope N_l_take ["_law_purse_here", "_law_many"] (defScope (topS 17)) := ⟨rfl, rfl, rfl, by decide +kernel, rfl, by decide +kernel, by decide +kernel⟩
abbrev N_l_low : List Str := ["_law_upper", "_law_lower", "_law_one", "_law_other"]
theorem sc_l_low : FnScope N_l_low ["_law_upper", "_law_lower"] (defScope (topS 18)) := ⟨rfl, rfl, rfl, by decide +kernel, rfl, by decide +kernel, by decide +kernel⟩
abbrev N_l_plus : List Str := ["_law_one", "_law_other"]
theorem sc_l_plus : FnScope N_l_plus ["_law_one", "_law_other"] (defScope (topS 19)) := ⟨rfl, rfl, rfl, by decide +kernel, rfl, by decide +kernel, by decide +kernel⟩
abbrev N_l_less : List Str := ["_law_one", "_law_other"]
theorem sc_l_less : FnScope N_l_less ["_law_one", "_law_other"] (defScope (topS 20)) := ⟨rfl, rfl, rfl, by decide +kernel, rfl, by decide +kernel, by decide +kernel⟩
abbrev N_l_is_ratio : List Str := ["_law_told", "_law_due", "_law_number"]
theorem sc_l_is_ratio : FnScope N_l_is_ratio ["_law_told", "_law_due"] (defScope (topS 21)) := ⟨rfl, rfl, rfl, by decide +kernel, rfl, by decide +kernel, by decide +kernel⟩
abbrev N_l_drawn_ratio : List Str := ["_law_purse_here", "_law_top", "_law_bottom"]
theorem sc_l_drawn_ratio : FnScope N_l_drawn_ratio ["_law_purse_here"] (defScope (topS 22)) := ⟨rfl, rfl, rfl, by decide +kernel, rfl, by decide +kernel, by decide +kernel⟩
abbrev N_l_far : List Str := ["_law_purse_here", "_law_small", "_law_sign", "_law_got", "_law_nth"]
theorem sc_l_far : FnScope N_l_far ["_law_purse_here"] (defScope (topS 23)) := ⟨rfl, rfl, rfl, by decide +kernel, rfl, by decide +kernel, by decide +kernel⟩
abbrev N_l_is_truth : List Str := ["_law_told", "_law_due"]
theorem sc_l_is_truth : FnScope N_l_is_truth ["_law_told", "_law_due"] (defScope (topS 24)) := ⟨rfl, rfl, rfl, by decide +kernel, rfl, by decide +kernel, by decide +kernel⟩
abbrev N_l_right : List Str := ["_law_one", "_law_other", "_law_mine", "_law_yours", "_law_due", "_law_told", "_law_further"]
theorem sc_l_right : FnScope N_l_right ["_law_one", "_law_other"] (defScope (topS 25)) := ⟨rfl, rfl, rfl, by decide +kernel, rfl, by decide +kernel, by decide +kernel⟩
abbrev N_law : List Str := ["_law_script", "_law_at", "_law_purse_here", "_law_sort", "_law_one", "_law_other"]
theorem sc_law : FnScope N_law ["_law_script"] (defScope (topS 26)) := ⟨rfl, rfl, rfl, by decide +kernel, rfl, by decide +kernel, by decide +kernel⟩
abbrev N_Ratio_init : List Str := ["self", "top", "bottom"]
theorem sc_Ratio_init : FnScope N_Ratio_init ["self", "top", "bottom"] (defScope (inClass (topS 10) 0)) := ⟨rfl, rfl, rfl, by decide +kernel, rfl, by decide +kernel, by decide +kernel⟩
abbrev N_Ratio_plus : List Str := ["self", "other"]
theorem sc_Ratio_plus : FnScope N_Ratio_plus ["self", "other"] (defScope (inClass (topS 10) 4)) := ⟨rfl, rfl, rfl, by decide +kernel, rfl, by decide +kernel, by decide +kernel⟩
abbrev N_Ratio_times : List Str := ["self", "other"]
theorem sc_Ratio_times : FnScope N_Ratio_times ["self", "other"] (defScope (inClass (topS 10) 5)) := ⟨rfl, rfl, rfl, by decide +kernel, rfl, by decide +kernel, by decide +kernel⟩
abbrev N_Ratio_is_less : List Str := ["self", "other"]
theorem sc_Ratio_is_less : FnScope N_Ratio_is_less ["self", "other"] (defScope (inClass (topS 10) 6)) := ⟨rfl, rfl, rfl, by decide +kernel, rfl, by decide +kernel, by decide +kernel⟩
/-- what the top has left: A the defs' places, FD their data, TK the constants' tokens -/
structure TX (K : PySem.W.Frag) (mg : Str → Option Value) (A : Nat → Addr) (FD : Nat → FuncData) (TK : Nat → Tok) : Prop where
  f_is_whole : Fun K "is_whole" "is_whole" (topS 5) (A 5) (FD 5)
  b_is_whole : Binds K (FD 5) ["thing"] []
  g_is_whole : mg "is_whole" = some (.ref (A 5))
  f_ratio_of : Fun K "ratio_of" "ratio_of" (topS 11) (A 11) (FD 11)
  b_ratio_of : Binds K (FD 11) ["top", "bottom"] []
  g_ratio_of : mg "ratio_of" = some (.ref (A 11))
  f_lowest : Fun K "lowest" "lowest" (topS 12) (A 12) (FD 12)
  b_lowest : Binds K (FD 12) ["top", "bottom"] []
  g_lowest : mg "lowest" = some (.ref (A 12))
  f_check_figures : Fun K "check_figures" "check_figures" (topS 13) (A 13) (FD 13)
  b_check_figures : Binds K (FD 13) ["number"] []
  g_check_figures : mg "check_figures" = some (.ref (A 13))
  f_l_purse : Fun K "_law_purse" "_law_purse" (topS 16) (A 16) (FD 16)
  b_l_purse : Binds K (FD 16) ["_law_script", "_law_at"] []
  g_l_purse : mg "_law_purse" = some (.ref (A 16))
  f_l_take : Fun K "_law_take" "_law_take" (topS 17) (A 17) (FD 17)
  b_l_take : Binds K (FD 17) ["_law_purse_here", "_law_many"] []
  g_l_take : mg "_law_take" = some (.ref (A 17))
  f_l_low : Fun K "_law_low" "_law_low" (topS 18) (A 18) (FD 18)
  b_l_low : Binds K (FD 18) ["_law_upper", "_law_lower"] []
  g_l_low : mg "_law_low" = some (.ref (A 18))
  f_l_plus : Fun K "_law_plus" "_law_plus" (topS 19) (A 19) (FD 19)
  b_l_plus : Binds K (FD 19) ["_law_one", "_law_other"] []
  g_l_plus : mg "_law_plus" = some (.ref (A 19))
  f_l_less : Fun K "_law_less" "_law_less" (topS 20) (A 20) (FD 20)
  b_l_less : Binds K (FD 20) ["_law_one", "_law_other"] []
  g_l_less : mg "_law_less" = some (.ref (A 20))
  f_l_is_ratio : Fun K "_law_is_ratio" "_law_is_ratio" (topS 21) (A 21) (FD 21)
  b_l_is_ratio : Binds K (FD 21) ["_law_told", "_law_due"] []
  g_l_is_ratio : mg "_law_is_ratio" = some (.ref (A 21))
  f_l_drawn_ratio : Fun K "_law_drawn_ratio" "_law_drawn_ratio" (topS 22) (A 22) (FD 22)
  b_l_drawn_ratio : Binds K (FD 22) ["_law_purse_here"] []
  g_l_drawn_ratio : mg "_law_drawn_ratio" = some (.ref (A 22))
  f_l_far : Fun K "_law_far" "_law_far" (topS 23) (A 23) (FD 23)
  b_l_far : Binds K (FD 23) ["_law_purse_here"] []
  g_l_far : mg "_law_far" = some (.ref (A 23))
  f_l_is_truth : Fun K "_law_is_truth" "_law_is_truth" (topS 24) (A 24) (FD 24)
  b_l_is_truth : Binds K (FD 24) ["_law_told", "_law_due"] []
  g_l_is_truth : mg "_law_is_truth" = some (.ref (A 24))
  f_l_right : Fun K "_law_right" "_law_right" (topS 25) (A 25) (FD 25)
  b_l_right : Binds K (FD 25) ["_law_one", "_law_other"] []
  g_l_right : mg "_law_right" = some (.ref (A 25))
  f_law : Fun K "law" "law" (topS 26) (A 26) (FD 26)
  b_law : Binds K (FD 26) ["_law_script"] []
  g_law : mg "law" = some (.ref (A 26))
  m_abs : mg "abs" = none
  m_bool : mg "bool" = none
  m_int : mg "int" = none
  m_isinstance : mg "isinstance" = none
  m_len : mg "len" = none
  m_max : mg "max" = none
  m_min : mg "min" = none
  m_range : mg "range" = none
  c_TOO_GREAT : mg "TOO_GREAT" = some (.int 1000000000000000000000000000000000000000000000000000000000000000000000000000000000000000000000000000000000000000000000000000000000000000000000000000000000000000000000000000000000000000000000000000000000000000000000000000000000000000000000000000000000000000000000000000000000000000000000000000000000000 (TK 7))
  c_FIGURES_AT_ONCE : mg "FIGURES_AT_ONCE" = some (.int 60 (TK 8))
  c_ONE_BEYOND : mg "ONE_BEYOND" = some (.int 1000000000000000000000000000000000000000000000000000000000000 (TK 9))
  k_Wrong : mg "Wrong" = some (.ref (A 1))
  k_NoNumber : mg "NoNumber" = some (.ref (A 2))
  k_NoRatio : mg "NoRatio" = some (.ref (A 3))
  k_Ratio : mg "Ratio" = some (.ref (A 10))
  cl_Ratio : Cls K (A 10)
  n_Ratio_top : NoAttr K (A 10) "top"
  n_Ratio_bottom : NoAttr K (A 10) "bottom"
  f_Ratio_init : FunD K "__init__" "Ratio.__init__" (defArgs (inClass (topS 10) 0)) (defBody (inClass (topS 10) 0)) (defScope (inClass (topS 10) 0)) [.int 1] [] (A 27) (FD 27)
  M_Ratio : Mk K (A 10) (A 27)
  f_Ratio_plus : Fun K "plus" "Ratio.plus" (inClass (topS 10) 4) (A 28) (FD 28)
  b_Ratio_plus : Binds K (FD 28) ["self", "other"] []
  M_Ratio_plus : Meth K (A 10) "plus" (A 28)
  f_Ratio_times : Fun K "times" "Ratio.times" (inClass (topS 10) 5) (A 29) (FD 29)
  b_Ratio_times : Binds K (FD 29) ["self", "other"] []
  M_Ratio_times : Meth K (A 10) "times" (A 29)
  f_Ratio_is_less : Fun K "is_less" "Ratio.is_less" (inClass (topS 10) 6) (A 30) (FD 30)
  b_Ratio_is_less : Binds K (FD 30) ["self", "other"] []
  M_Ratio_is_less : Meth K (A 10) "is_less" (A 30)
section
variable {P : Program} {w : World} {K : PySem.W.Frag} {mg : Str → Option Value} {base : Heap} {A : Nat → Addr} {FD : Nat → FuncData} {TK : Nat → Tok}
/-! ### great numbers, fields as targets -/
theorem op_fdivWN {X : Cx} : OpR X (binaryOp .FloorDiv) (rI (fun _ j => j ≠ 0 ∧ j.natAbs.log2 < 9000) fun i j => .int (i.fdiv j)) := opI fun _ _ _ _ _ _ _ hc q => floordiv_int hc.1 q (.inl (PyProof.noPylong_of_log2 hc.2))
theorem op_powW {X : Cx} : OpR X (binaryOp .Pow) (rI (fun i j => 0 ≤ j ∧ j ≤ 1000 ∧ i.natAbs < 2 ^ 10000) fun i j => .int (i ^ j.toNat)) := opI fun i j _ _ _ _ _ hc q => by
  obtain ⟨h1, h2, h3⟩ := hc
  refine pow_int h1 ?_ q
  have hb := PyProof.Rows.intBits_le h3
  have e : (Builtin.Int.intBits i : Int) * j ≤ 10000 * 1000 := Int.mul_le_mul (by omega) h2 h1 (by decide)
  exact Int.le_trans e (by decide)
/-- o.f = .. as a target -/
def gFld (K : PySem.W.Frag) (ta : TE) (f : Str) : TG := fun v σ H Q => ta σ H fun x H2 => ∃ a C dx fs, x = .ref a ∧ H2 a = some (.ins C dx fs) ∧ Cls K C ∧ NoAttr K C f ∧ fs.length < 1000 ∧ Q σ (upd H2 a (.ins C dx (putF f v fs)))
theorem pg_fld {X : Cx} {o : Expr} {ta : TE} {f : Str} {pos : Pos} (ha : PE X o ta) : PG X (.Attribute o f pos) (gFld X.K ta f) := by
  refine ⟨fun pins s σ H v u Q I r h => ?_⟩
  rw [PySem.assign_Attribute]
  refine wpAny_bind (wpAny_holding (thn (ha.run pins s σ H _ I h) fun ov s1 ⟨x, H1, I1, rx, a, C, dx, fs, ex, ea, c, n, l, q⟩ => ?_))
  subst ex
  obtain rfl : ov = Value.ref a := rx
  refine wpAny_bind (wpAny_standAt (wpAny_bind (wpAny_holding (setattr_ok I1 ea c n l r fun s2 I2 => ?_))))
  exact wpAny_release ⟨σ, _, I2, q⟩
theorem lt2 {z : Int} {n m : Nat} (h : z.natAbs < 2 ^ n) (l : n ≤ m) : z.natAbs < 2 ^ m := Nat.lt_of_lt_of_le h (Nat.pow_le_pow_right (by decide) l)
theorem add2 {x y : Int} {n : Nat} (h : x.natAbs < 2 ^ n) (h' : y.natAbs < 2 ^ n) : (x + y).natAbs < 2 ^ (n + 1) := by
  rw [Nat.pow_succ]
  omega
theorem mul2 {x y : Int} {n m : Nat} (h : x.natAbs < 2 ^ n) (h' : y.natAbs < 2 ^ m) : (x * y).natAbs < 2 ^ (n + m) := wide_lt h h'
theorem log9 {z : Int} {n : Nat} (h : z.natAbs < 2 ^ n) (h0 : 0 < n) (l : n ≤ 9000) : z.natAbs.log2 < 9000 := Nat.lt_of_lt_of_le (PySem.Flt.log2_lt_of h0 h) l
theorem cmul2 {x y : Int} {n m : Nat} (h : x.natAbs < 2 ^ n) (h' : y.natAbs < 2 ^ m) (l : n + m ≤ 900000) : CMulW x y := wide_mul (lt2 h (Nat.le_succ n)) (lt2 h' (Nat.le_succ m)) (by omega) (by omega) (by omega)

/-! ### lowest terms -/
def gd (t b : Int) : Int := if b < 0 then -((Nat.gcd t.natAbs b.natAbs : Nat) : Int) else ((Nat.gcd t.natAbs b.natAbs : Nat) : Int)
def lwT (t b : Int) : Int := t.fdiv (gd t b)
def lwB (t b : Int) : Int := b.fdiv (gd t b)
/-- in lowest terms -/
def Nm (t b : Int) : Prop := 0 < b ∧ Nat.gcd t.natAbs b.natAbs = 1
theorem gcd_pos {t b : Int} (h : b ≠ 0) : 0 < Nat.gcd t.natAbs b.natAbs := Nat.gcd_pos_of_pos_right _ (by omega)
theorem gd_ne {t b : Int} (h : b ≠ 0) : gd t b ≠ 0 := by
  have := gcd_pos (t := t) h
  unfold gd
  split <;> omega
theorem gd_abs (t b : Int) : (gd t b).natAbs = Nat.gcd t.natAbs b.natAbs := by
  unfold gd
  split <;> omega
theorem gd_le {t b : Int} {n : Nat} (h : b ≠ 0) (hb : b.natAbs < 2 ^ n) : (gd t b).natAbs < 2 ^ n := by
  rw [gd_abs]
  exact Nat.lt_of_le_of_lt (Nat.gcd_le_right _ (by omega)) hb
theorem gd_dvd_t (t b : Int) : gd t b ∣ t := by
  rw [← Int.natAbs_dvd_natAbs, gd_abs]
  exact Nat.gcd_dvd_left ..
theorem gd_dvd_b (t b : Int) : gd t b ∣ b := by
  rw [← Int.natAbs_dvd_natAbs, gd_abs]
  exact Nat.gcd_dvd_right ..
theorem lw_mul_t {t b : Int} : lwT t b * gd t b = t := by
  unfold lwT
  exact Int.fdiv_mul_cancel (gd_dvd_t t b)
theorem lw_mul_b {t b : Int} : lwB t b * gd t b = b := by
  unfold lwB
  exact Int.fdiv_mul_cancel (gd_dvd_b t b)
theorem abs_le_of_mul {x g y : Int} (h : x * g = y) (hg : g ≠ 0) : x.natAbs ≤ y.natAbs := by
  rw [← h, Int.natAbs_mul]
  exact Nat.le_mul_of_pos_right _ (by omega)
theorem lwT_le {t b : Int} (h : b ≠ 0) : (lwT t b).natAbs ≤ t.natAbs := abs_le_of_mul lw_mul_t (gd_ne h)
theorem lwB_le {t b : Int} (h : b ≠ 0) : (lwB t b).natAbs ≤ b.natAbs := abs_le_of_mul lw_mul_b (gd_ne h)
theorem lw_nm {t b : Int} (h : b ≠ 0) : Nm (lwT t b) (lwB t b) := by
  have ht := lw_mul_t (t := t) (b := b)
  have hb := lw_mul_b (t := t) (b := b)
  have hg := gd_ne (t := t) h
  constructor
  · have p : (0 : Int) < ((Nat.gcd t.natAbs b.natAbs : Nat) : Int) := by have := gcd_pos (t := t) h; omega
    generalize lwB t b = y at hb
    unfold gd at hb
    generalize ((Nat.gcd t.natAbs b.natAbs : Nat) : Int) = g at hb p
    refine Int.lt_of_not_ge fun z => ?_
    have z1 : y * g ≤ 0 := Int.mul_nonpos_of_nonpos_of_nonneg z (Int.le_of_lt p)
    split at hb
    · have : y * -g = -(y * g) := Int.mul_neg ..
      omega
    · omega
  · have e : Nat.gcd t.natAbs b.natAbs = Nat.gcd (lwT t b).natAbs (lwB t b).natAbs * (gd t b).natAbs := by
      rw [← Nat.gcd_mul_right, ← Int.natAbs_mul, ← Int.natAbs_mul, ht, hb]
    rw [gd_abs] at e
    have p := gcd_pos (t := t) h
    exact Nat.eq_of_mul_eq_mul_right p (by rw [← e, Nat.one_mul])
theorem nm_gd {t b : Int} (h : Nm t b) : gd t b = 1 := by
  unfold gd
  rw [h.2, if_neg (by have := h.1; omega)]
  rfl
theorem nm_t {t b : Int} (h : Nm t b) : lwT t b = t := by
  unfold lwT
  rw [nm_gd h, Int.fdiv_one]
theorem nm_b {t b : Int} (h : Nm t b) : lwB t b = b := by
  unfold lwB
  rw [nm_gd h, Int.fdiv_one]
theorem nm_neg {t b : Int} (h : Nm t b) : Nm (0 - t) b := ⟨h.1, by rw [show (0 - t).natAbs = t.natAbs by omega]; exact h.2⟩

/-! ### _law_take of a purse -/
def spTake : Sp := fun vs H Q _ => ∃ (p : Addr) (m : Int) (c : Nat), vs = [.ref p, .int m] ∧ Pl H p c ∧ 0 < m ∧ m < 18446744073709551616 ∧ c < 1000000 ∧
  ∀ (d : Int) (H' : Hp), 0 ≤ d → d < m → Pl H' p (c + 1) → Fx p H H' → Q (.int d) H'
set_option maxHeartbeats 4000000 in
theorem ok_l_take (T : TX K mg A FD TK) : FnOk P w K mg base CX0 1 (A 17) (FD 17) ["_law_purse_here", "_law_many"] spTake := by
  refine T.f_l_take.ok sc_l_take (fun vs H Q E h => ?_) (fun cdv A' outer s H vs Q E hr h => ?_)
  · obtain ⟨p, m, c, rfl, _⟩ := h
    rfl
  · obtain ⟨p, m, c, rfl, ⟨g, b, k, hp, hg, hb, hb2, hk⟩, hm, hm2, hc, q⟩ := h
    refine ⟨_, (pss_cons (ps_if (pt_cmpR op_gt (pe_ix (ixLK (K := K) rfl) (pv 0) pe_int (fun _ _ => rfl)) pe_int (nomark _))
      (pss_cons (ps_set (i := 2) sc_l_take.nd rfl (.inl rfl) (pe_op op_mod (pe_ix (ixLK (K := K) rfl) (pv 0) pe_int (fun _ _ => rfl)) (pv 1)))
      (pss_cons (ps_asg (pe_op op_fdivW (pe_ix (ixLK (K := K) rfl) (pv 0) pe_int (fun _ _ => rfl)) (pv 1)) (pg_sub (pv 0) pe_int set_list))
      (pss_one (ps_ret (pv 2)))))
      pss_nil)
      (pss_cons (ps_asg (pe_op op_add (pe_ix (ixLK (K := K) rfl) (pv 0) pe_int (fun _ _ => rfl)) pe_int) (pg_sub (pv 0) pe_int set_list))
      (pss_cons (ps_set (i := 3) sc_l_take.nd rfl (.inl rfl) (pe_op op_mod (pe_op op_powW (pe_op op_add (pe_ix (ixLK (K := K) rfl) (pv 0) pe_int (fun _ _ => rfl)) (pe_op op_mulW (pe_op op_mulW pe_int (pe_ix (ixLK (K := K) rfl) (pv 0) pe_int (fun _ _ => rfl))) (pe_ix (ixLK (K := K) rfl) (pv 0) pe_int (fun _ _ => rfl)))) pe_int) pe_int))
      (pss_one (ps_ret (pe_op op_mod (pe_op op_fdivW (pe_op op_mod (pe_op op_add (pe_op op_mulW (pv 3) (pe_op op_add (pv 3) pe_int)) (pe_ix (ixLK (K := K) rfl) (pv 0) pe_int (fun _ _ => rfl))) pe_int) pe_int) (pv 1))))))), ?_⟩
    refine ⟨.ref p, rfl, p, _, 0, .int g, rfl, rfl, SqL.of hp, atI_nat (j := 0) rfl, g, 0, rfl, rfl, _, rfl, ite2 (fun e => ?_) (fun e => ?_)⟩
    · refine ⟨.ref p, rfl, p, _, 0, .int g, rfl, rfl, SqL.of hp, atI_nat (j := 0) rfl, .int m, rfl, g, m, rfl, rfl, hm, ?_⟩
      refine ⟨.ref p, rfl, p, _, 0, .int g, rfl, rfl, SqL.of hp, atI_nat (j := 0) rfl, .int m, rfl, g, m, rfl, rfl, wide_div (b := 64) hm (by omega) (by decide) (by decide), .ref p, rfl, p, _, 0, 0, rfl, rfl, hp, rfl, ?_⟩
      refine ⟨.int (g % m), rfl, ?_⟩
      exact q _ _ (Int.emod_nonneg _ (by omega)) (Int.emod_lt_of_pos _ hm) ⟨g / m, b, k, upd_same, Int.ediv_nonneg hg (by omega), hb, hb2, by omega⟩ Fx.upd
    · have hp1 : (upd H p (.lst [.int g, .int b, .int ((k : Int) + 1)])) p = some (.lst [.int g, .int b, .int ((k : Int) + 1)]) := upd_same
      refine ⟨.ref p, rfl, p, _, 2, .int k, rfl, rfl, SqL.of hp, atI_nat (j := 2) rfl, k, 1, rfl, rfl, .ref p, rfl, p, _, 2, 2, rfl, rfl, hp, rfl, ?_⟩
      have t0 : (0 : Int) ≤ (k : Int) + 1 := by omega
      have t1 : (k : Int) + 1 ≤ 1000000 := by omega
      have s1 : 0 ≤ 50021 * ((k : Int) + 1) ∧ 50021 * ((k : Int) + 1) ≤ 50021000000 := by omega
      have s2 : 0 ≤ 50021 * ((k : Int) + 1) * ((k : Int) + 1) := mul_nn s1.1 t0
      have s3 : 50021 * ((k : Int) + 1) * ((k : Int) + 1) ≤ 50021000000 * 1000000 := mul_le s1.1 s1.2 t0 t1
      have b1 : (b + 50021 * ((k : Int) + 1) * ((k : Int) + 1)).natAbs < 2 ^ 100 := natAbs_lt (by omega) (by omega)
      refine ⟨.ref p, rfl, p, _, 1, .int b, rfl, rfl, SqL.of hp1, atI_nat (j := 1) rfl, .ref p, rfl, p, _, 2, .int ((k : Int) + 1), rfl, rfl, SqL.of hp1, atI_nat (j := 2) rfl, 50021, (k : Int) + 1, rfl, rfl, cmul2 (n := 20) (m := 20) (by decide) (by omega) (by decide), .ref p, rfl, p, _, 2, .int ((k : Int) + 1), rfl, rfl, SqL.of hp1, atI_nat (j := 2) rfl, 50021 * ((k : Int) + 1), (k : Int) + 1, rfl, rfl, cmul2 (n := 40) (m := 20) (by omega) (by omega) (by decide),
        b, 50021 * ((k : Int) + 1) * ((k : Int) + 1), rfl, rfl, b + 50021 * ((k : Int) + 1) * ((k : Int) + 1), 2, rfl, rfl, ⟨by decide, by decide, lt2 b1 (by decide)⟩,
        _, 2305843009213693951, rfl, rfl, (show (0 : Int) < 2305843009213693951 by decide), ?_⟩
      have o0 : 0 ≤ (b + 50021 * ((k : Int) + 1) * ((k : Int) + 1)) ^ Int.toNat 2 % 2305843009213693951 := Int.emod_nonneg _ (by decide)
      have o1 : (b + 50021 * ((k : Int) + 1) * ((k : Int) + 1)) ^ Int.toNat 2 % 2305843009213693951 < 2305843009213693951 := Int.emod_lt_of_pos _ (by decide)
      dsimp only
      generalize (b + 50021 * ((k : Int) + 1) * ((k : Int) + 1)) ^ Int.toNat 2 % 2305843009213693951 = one at o0 o1 ⊢
      refine ⟨.int one, rfl, .int one, rfl, one, 3, rfl, rfl, one, one + 3, rfl, rfl, cmul2 (n := 64) (m := 64) (by omega) (by omega) (by decide), .ref p, rfl, p, _, 2, .int ((k : Int) + 1), rfl, rfl, SqL.of hp1, atI_nat (j := 2) rfl, _, _, rfl, rfl, _, 998244353, rfl, rfl, (show (0 : Int) < 998244353 by decide), _, 7, rfl, rfl, wide_div (b := 64) (by decide) (by decide) (by decide) (by decide), .int m, rfl, _, m, rfl, rfl, hm, ?_⟩
      exact q _ _ (Int.emod_nonneg _ (by omega)) (Int.emod_lt_of_pos _ hm) ⟨g, b, k + 1, upd_same, hg, hb, hb2, by omega⟩ Fx.upd

/-! ### _law_purse -/
def spPurse (K : PySem.W.Frag) : Sp := fun vs H Q _ => ∃ (a : Addr) (ns : List Int) (j : Nat), vs = [.ref a, .int (j : Int)] ∧ SqL K H a (ns.map V.int) ∧ ns.length ≤ 63 ∧ j ≤ 1000 ∧
  ∀ (p : Addr) (H' : Hp), H p = none → Ex H H' → Pl H' p 0 → Q (.ref p) H'
set_option maxHeartbeats 4000000 in
theorem ok_l_purse (T : TX K mg A FD TK) : FnOk P w K mg base CX0 1 (A 16) (FD 16) ["_law_script", "_law_at"] (spPurse K) := by
  refine T.f_l_purse.ok sc_l_purse (fun vs H Q E h => ?_) (fun cdv A' outer s H vs Q E hr h => ?_)
  · obtain ⟨a, ns, j, rfl, _⟩ := h
    rfl
  · obtain ⟨a, ns, j, rfl, hS, hn, hj, q⟩ := h
    refine ⟨_, (pss_cons (ps_set (i := 2) sc_l_purse.nd rfl (.inl rfl) pe_int)
      (pss_cut (ps_if (pt_cmpR op_lt (pv 1) (pe_callB (lenK (K := K) rfl) (by rfl) T.m_len (by decide +kernel) (pa_cons (pv 0) pa_nil)) (nomark _))
      (pss_one (ps_set (i := 2) sc_l_purse.nd rfl (.inl rfl) (pe_ix (ixLK (K := K) rfl) (pv 0) (pv 1) (fun _ _ => rfl))))
      pss_nil)
      (pss_cons (ps_set (i := 3) sc_l_purse.nd rfl (.inl rfl) (pe_op op_mul (pe_callB call_abs (by rfl) T.m_abs (by decide +kernel) (pa_cons (pv 2) pa_nil)) (pe_callTy call_int1 (by rfl) T.m_int (by decide +kernel) (pa_cons (pe_cmpR op_ge (pe_callB call_abs (by rfl) T.m_abs (by decide +kernel) (pa_cons (pv 2) pa_nil)) (pe_op op_pow pe_int pe_int) (nomark _)) pa_nil))))
      (pss_one (ps_ret (pe_lst (pa_cons (pv 3) (pa_cons (pe_op op_add (pe_op op_add (pe_op op_mul (pe_op op_mod (pv 2) (pe_op op_pow pe_int pe_int)) pe_int) (pe_op op_mul pe_int (pv 1))) pe_int) (pa_cons pe_int pa_nil))))))))), ?_⟩
    refine ⟨fun σ' H' => H' = H ∧ ∃ z : Int, σ' = [some (.ref a), some (.int (j : Int)), some (.int z), none], ?_, ?_⟩
    · refine ⟨.int (j : Int), rfl, .ref a, rfl, a, _, rfl, .inl hS, _, _, rfl, rfl, _, rfl, ite2 (fun e => ?_) (fun e => ?_)⟩
      · have e0 : (j : Int) < ((ns.map V.int).length : Int) := of_decide_eq_true e
        have e1 : j < ns.length := by
          rw [List.length_map] at e0
          omega
        refine ⟨.ref a, rfl, .int (j : Int), rfl, a, _, _, .int ns[j], rfl, rfl, hS, atI_nat (j := j) ?_, rfl, ns[j], rfl⟩
        rw [List.getElem?_map, List.getElem?_eq_getElem e1]
        rfl
      · exact ⟨rfl, 0, rfl⟩
    · rintro σ' H' ⟨rfl, z, rfl⟩
      have f0 : 0 ≤ (if z < 0 then -z else z) := by split <;> omega
      refine ⟨.int z, rfl, z, rfl, .int z, rfl, z, rfl, ?_⟩
      generalize (if z < 0 then -z else z) = far at f0 ⊢
      refine ⟨10, 18, rfl, rfl, ⟨by decide, by decide, by decide⟩, far, _, rfl, rfl, .inr ⟨_, rfl, ?_⟩⟩
      generalize hd : decide ((10 : Int) ^ Int.toNat 18 ≤ far) = big
      refine ⟨far, _, rfl, rfl, .inr ⟨?_, ?_⟩, ?_⟩
      · cases big <;> decide
      · cases big <;> decide
      have m0 : 0 ≤ z % (10 ^ Int.toNat 18) := Int.emod_nonneg _ (by decide)
      have m1 : z % (10 ^ Int.toNat 18) < (10 ^ Int.toNat 18) := Int.emod_lt_of_pos _ (by decide)
      refine ⟨.int (far * b2i big), rfl, .int z, rfl, 10, 18, rfl, rfl, ⟨by decide, by decide, by decide⟩, z, _, rfl, rfl, (show (0 : Int) < 10 ^ Int.toNat 18 by decide), ?_⟩
      dsimp only
      generalize z % (10 ^ Int.toNat 18) = y at m0 m1 ⊢
      have m2 : y < 1000000000000000000 := m1
      refine ⟨y, 1000003, rfl, rfl, .inl ⟨by omega, by omega⟩, .int (j : Int), rfl, 7919, (j : Int), rfl, rfl, .inl ⟨by decide, by decide⟩, _, _, rfl, rfl, _, 17, rfl, rfl, (by show 3 ≤ sizeLine; decide), fun p np => ?_⟩
      refine q p _ np (ex_upd np) ⟨_, _, 0, upd_same, ?_, ?_, ?_, Nat.le_refl _⟩
      · cases big
        · show (0 : Int) ≤ far * 0
          omega
        · show (0 : Int) ≤ far * 1
          omega
      · omega
      · omega

/-! ### lowest terms, the program's and the law's -/
def spLow : Sp := fun vs H Q _ => ∃ t b : Int, vs = [.int t, .int b] ∧ b ≠ 0 ∧ t.natAbs < 2 ^ 4000 ∧ b.natAbs < 2 ^ 4000 ∧ ∀ l, H l = none → Q (.ref l) (upd H l (.tup [.int (lwT t b), .int (lwB t b)]))
theorem absI (z : Int) : (if z < 0 then -z else z) = ((z.natAbs : Nat) : Int) := by split <;> omega
/-- the fourth name's number -/
def mu3 : L2.St → Hp → Nat := fun σ _ => match σ with
  | [_, _, _, some (.int r)] => r.toNat
  | _ => 0
theorem gcd_step (d r : Nat) (h : 0 < r) : Nat.gcd r (d % r) = Nat.gcd d r := by
  rw [Nat.gcd_comm d r, Nat.gcd_rec r d, Nat.gcd_comm]
set_option maxHeartbeats 4000000 in
theorem ok_lowest (T : TX K mg A FD TK) : FnOk P w K mg base CX0 1 (A 12) (FD 12) ["top", "bottom"] spLow := by
  refine T.f_lowest.ok sc_lowest (fun vs H Q E h => ?_) (fun cdv A' outer s H vs Q E hr h => ?_)
  · obtain ⟨t, b, rfl, _⟩ := h
    rfl
  · obtain ⟨t, b, rfl, hb, ht, hb2, q⟩ := h
    refine ⟨_, (pss_cons (ps_par (by rfl) sc_lowest.nd (i := 2) (j := 3) rfl rfl (by decide) rfl rfl (pa_cons (pe_callB call_abs (by rfl) T.m_abs (by decide +kernel) (pa_cons (pv 1) pa_nil)) (pa_cons (pe_callB call_abs (by rfl) T.m_abs (by decide +kernel) (pa_cons (pv 0) pa_nil)) pa_nil)) (by rfl))
      (pss_cons (ps_while PassesOwn.never (pt_cmpR op_gt (pv 3) pe_int (nomark _))
      (pss_one (ps_par (by rfl) sc_lowest.nd (i := 2) (j := 3) rfl rfl (by decide) rfl rfl (pa_cons (pv 3) (pa_cons (pe_op op_mod (pv 2) (pv 3)) pa_nil)) (by rfl))))
      (pss_cons (ps_if (pt_cmpR op_lt (pv 1) pe_int (nomark _))
      (pss_one (ps_set (i := 2) sc_lowest.nd rfl (.inl rfl) (pe_un un_neg (pv 2))))
      pss_nil)
      (pss_one (ps_ret (pe_tup (pa_cons (pe_op op_fdivWN (pv 0) (pv 2)) (pa_cons (pe_op op_fdivWN (pv 1) (pv 2)) pa_nil)))))))), ?_⟩
    refine ⟨.int b, rfl, b, rfl, .int t, rfl, t, rfl, _, _, rfl, ?_⟩
    rw [absI, absI]
    refine while_by (fun σ' H' => H' = H ∧ ∃ d r : Nat, σ' = [some (.int t), some (.int b), some (.int (d : Int)), some (.int (r : Int))] ∧ Nat.gcd d r = Nat.gcd t.natAbs b.natAbs) mu3 ⟨rfl, _, _, rfl, Nat.gcd_comm ..⟩ (fun σ' H' p => ?_) (fun σ' H' Q Q' m h => ?_)
    · obtain ⟨rfl, d, r, rfl, hg⟩ := p
      refine ⟨.int r, rfl, r, 0, rfl, rfl, _, rfl, ite2 (fun e => ?_) (fun e => ?_)⟩
      · have e0 : (0 : Int) < (r : Int) := of_decide_eq_true e
        refine ⟨.int r, rfl, .int d, rfl, .int r, rfl, d, r, rfl, rfl, e0, _, _, rfl, ⟨rfl, r, d % r, ?_, ?_⟩, ?_⟩
        · rw [Int.natCast_emod]; rfl
        · rw [gcd_step d r (by omega), hg]
        · show ((d : Int) % (r : Int)).toNat < (r : Int).toNat
          have := Int.emod_lt_of_pos (d : Int) e0
          omega
      · have e0 : ¬ (0 : Int) < (r : Int) := fun z => e (decide_eq_true z)
        have r0 : r = 0 := by omega
        subst r0
        rw [Nat.gcd_zero_right] at hg
        subst hg
        refine ⟨.int b, rfl, b, 0, rfl, rfl, _, rfl, ite2 (fun e => ?_) (fun e => ?_)⟩
        · have e1 : b < 0 := of_decide_eq_true e
          have eg : gd t b = -((Nat.gcd t.natAbs b.natAbs : Nat) : Int) := by unfold gd; rw [if_pos e1]
          refine ⟨.int _, rfl, _, rfl, .int t, rfl, .int _, rfl, t, _, rfl, rfl, ?_, .int b, rfl, .int _, rfl, b, _, rfl, rfl, ?_, by show 2 ≤ sizeLine; decide, fun l nl => ?_⟩
          · rw [← eg]; exact ⟨gd_ne hb, log9 (gd_le hb hb2) (by decide) (by decide)⟩
          · rw [← eg]; exact ⟨gd_ne hb, log9 (gd_le hb hb2) (by decide) (by decide)⟩
          · rw [← eg]; exact q l nl
        · have e1 : ¬ b < 0 := fun z => e (decide_eq_true z)
          have eg : gd t b = ((Nat.gcd t.natAbs b.natAbs : Nat) : Int) := by unfold gd; rw [if_neg e1]
          refine ⟨.int t, rfl, .int _, rfl, t, _, rfl, rfl, ?_, .int b, rfl, .int _, rfl, b, _, rfl, rfl, ?_, by show 2 ≤ sizeLine; decide, fun l nl => ?_⟩
          · rw [← eg]; exact ⟨gd_ne hb, log9 (gd_le hb hb2) (by decide) (by decide)⟩
          · rw [← eg]; exact ⟨gd_ne hb, log9 (gd_le hb hb2) (by decide) (by decide)⟩
          · rw [← eg]; exact q l nl
    · obtain ⟨v, hv, i, j, e1, e2, k, hk, hq⟩ := h
      exact ⟨v, hv, i, j, e1, e2, k, hk, m _ _ hq⟩
set_option maxHeartbeats 4000000 in
theorem ok_l_low (T : TX K mg A FD TK) : FnOk P w K mg base CX0 1 (A 18) (FD 18) ["_law_upper", "_law_lower"] spLow := by
  refine T.f_l_low.ok sc_l_low (fun vs H Q E h => ?_) (fun cdv A' outer s H vs Q E hr h => ?_)
  · obtain ⟨t, b, rfl, _⟩ := h
    rfl
  · obtain ⟨t, b, rfl, hb, ht, hb2, q⟩ := h
    refine ⟨_, (pss_cons (ps_par (by rfl) sc_l_low.nd (i := 2) (j := 3) rfl rfl (by decide) rfl rfl (pa_cons (pe_callB call_abs (by rfl) T.m_abs (by decide +kernel) (pa_cons (pv 0) pa_nil)) (pa_cons (pe_callB call_abs (by rfl) T.m_abs (by decide +kernel) (pa_cons (pv 1) pa_nil)) pa_nil)) (by rfl))
      (pss_cons (ps_while PassesOwn.never (pt_cmpR op_gt (pv 3) pe_int (nomark _))
      (pss_one (ps_par (by rfl) sc_l_low.nd (i := 2) (j := 3) rfl rfl (by decide) rfl rfl (pa_cons (pv 3) (pa_cons (pe_op op_mod (pv 2) (pv 3)) pa_nil)) (by rfl))))
      (pss_cons (ps_if (pt_cmpR op_lt (pv 1) pe_int (nomark _))
      (pss_one (ps_set (i := 2) sc_l_low.nd rfl (.inl rfl) (pe_op op_sub pe_int (pv 2))))
      pss_nil)
      (pss_one (ps_ret (pe_tup (pa_cons (pe_op op_fdivWN (pv 0) (pv 2)) (pa_cons (pe_op op_fdivWN (pv 1) (pv 2)) pa_nil)))))))), ?_⟩
    refine ⟨.int t, rfl, t, rfl, .int b, rfl, b, rfl, _, _, rfl, ?_⟩
    rw [absI, absI]
    refine while_by (fun σ' H' => H' = H ∧ ∃ d r : Nat, σ' = [some (.int t), some (.int b), some (.int (d : Int)), some (.int (r : Int))] ∧ Nat.gcd d r = Nat.gcd t.natAbs b.natAbs) mu3 ⟨rfl, _, _, rfl, rfl⟩ (fun σ' H' p => ?_) (fun σ' H' Q Q' m h => ?_)
    · obtain ⟨rfl, d, r, rfl, hg⟩ := p
      refine ⟨.int r, rfl, r, 0, rfl, rfl, _, rfl, ite2 (fun e => ?_) (fun e => ?_)⟩
      · have e0 : (0 : Int) < (r : Int) := of_decide_eq_true e
        refine ⟨.int r, rfl, .int d, rfl, .int r, rfl, d, r, rfl, rfl, e0, _, _, rfl, ⟨rfl, r, d % r, ?_, ?_⟩, ?_⟩
        · rw [Int.natCast_emod]; rfl
        · rw [gcd_step d r (by omega), hg]
        · show ((d : Int) % (r : Int)).toNat < (r : Int).toNat
          have := Int.emod_lt_of_pos (d : Int) e0
          omega
      · have e0 : ¬ (0 : Int) < (r : Int) := fun z => e (decide_eq_true z)
        have r0 : r = 0 := by omega
        subst r0
        rw [Nat.gcd_zero_right] at hg
        subst hg
        refine ⟨.int b, rfl, b, 0, rfl, rfl, _, rfl, ite2 (fun e => ?_) (fun e => ?_)⟩
        · have e1 : b < 0 := of_decide_eq_true e
          have eg : gd t b = 0 - ((Nat.gcd t.natAbs b.natAbs : Nat) : Int) := by unfold gd; rw [if_pos e1]; omega
          refine ⟨.int _, rfl, 0, _, rfl, rfl, .int t, rfl, .int _, rfl, t, _, rfl, rfl, ?_, .int b, rfl, .int _, rfl, b, _, rfl, rfl, ?_, by show 2 ≤ sizeLine; decide, fun l nl => ?_⟩
          · rw [← eg]; exact ⟨gd_ne hb, log9 (gd_le hb hb2) (by decide) (by decide)⟩
          · rw [← eg]; exact ⟨gd_ne hb, log9 (gd_le hb hb2) (by decide) (by decide)⟩
          · rw [← eg]; exact q l nl
        · have e1 : ¬ b < 0 := fun z => e (decide_eq_true z)
          have eg : gd t b = ((Nat.gcd t.natAbs b.natAbs : Nat) : Int) := by unfold gd; rw [if_neg e1]
          refine ⟨.int t, rfl, .int _, rfl, t, _, rfl, rfl, ?_, .int b, rfl, .int _, rfl, b, _, rfl, rfl, ?_, by show 2 ≤ sizeLine; decide, fun l nl => ?_⟩
          · rw [← eg]; exact ⟨gd_ne hb, log9 (gd_le hb hb2) (by decide) (by decide)⟩
          · rw [← eg]; exact ⟨gd_ne hb, log9 (gd_le hb hb2) (by decide) (by decide)⟩
          · rw [← eg]; exact q l nl
    · obtain ⟨v, hv, i, j, e1, e2, k, hk, hq⟩ := h
      exact ⟨v, hv, i, j, e1, e2, k, hk, m _ _ hq⟩

/-! ### Ratio -/
/-- a ratio at a: top and bottom -/
def Rt (C : Addr) (H : Hp) (a : Addr) (t b : Int) : Prop := ∃ dx, H a = some (.ins C dx [("top", .int t), ("bottom", .int b)])
theorem Rt.ex {C : Addr} {H H' : Hp} {a : Addr} {t b : Int} (h : Rt C H a t b) (e : Ex H H') : Rt C H' a t b := by
  obtain ⟨dx, h⟩ := h
  exact ⟨dx, e _ _ h⟩
theorem Rt.fx {C : Addr} {H H' : Hp} {a p : Addr} {t b : Int} {c : Nat} (h : Rt C H a t b) (hp : Pl H p c) (f : Fx p H H') : Rt C H' a t b := by
  obtain ⟨dx, h⟩ := h
  obtain ⟨xs, hx⟩ := hp.some
  exact ⟨dx, f _ _ (ne_of h hx (by intro z; cases z)) h⟩
/-- all but x stays -/
def ExI (x : Addr) (H H' : Hp) : Prop := ∀ b o, b ≠ x → H b = some o → H' b = some o
abbrev tooG : Int := 1000000000000000000000000000000000000000000000000000000000000000000000000000000000000000000000000000000000000000000000000000000000000000000000000000000000000000000000000000000000000000000000000000000000000000000000000000000000000000000000000000000000000000000000000000000000000000000000000000000000000
def spFigs : Sp := fun vs H Q _ => ∃ z : Int, vs = [.int z] ∧ z.natAbs < 2 ^ 990 ∧ Q .non H
theorem tooG_lt : 2 ^ 990 < tooG.natAbs := by decide +kernel
def spWholeI : Sp := fun vs H Q _ => ∃ z : Int, vs = [.int z] ∧ Q (.bl true) H
set_option maxHeartbeats 4000000 in
theorem ok_is_wholeI (T : TX K mg A FD TK) : FnOk P w K mg base CX0 1 (A 5) (FD 5) ["thing"] spWholeI := by
  refine T.f_is_whole.ok sc_is_whole (fun vs H Q E h => ?_) (fun cdv A' outer s H vs Q E hr h => ?_)
  · obtain ⟨z, rfl, _⟩ := h
    rfl
  · obtain ⟨i, rfl, q⟩ := h
    refine ⟨_, (pss_one (ps_ret (pe_and (pe_callB (isiK (K := K) rfl) (by rfl) T.m_isinstance (by decide +kernel) (pa_cons (pv 0) (pa_cons (pe_bltn (v := .ty "int") (by rfl) T.m_int (by decide +kernel) rfl) pa_nil))) (pe_one (pe_not (pe_callB (isiK (K := K) rfl) (by rfl) T.m_isinstance (by decide +kernel) (pa_cons (pv 0) (pa_cons (pe_bltn (v := .ty "bool") (by rfl) T.m_bool (by decide +kernel) rfl) pa_nil)))))))), ?_⟩
    refine ⟨.int i, rfl, .int i, .ty "int", .type "int", .type "int", true, rfl, .ty _, .base (.int i), kit_ty (by decide +kernel), true, rfl, ?_⟩
    exact ⟨.int i, rfl, .int i, .ty "bool", .type "int", .type "bool", false, rfl, .ty _, .base (.int i), kit_ty (by decide +kernel), false, rfl, q⟩
set_option maxHeartbeats 4000000 in
theorem ok_check_figures (T : TX K mg A FD TK) : FnOk P w K mg base CX0 2 (A 13) (FD 13) ["number"] spFigs := by
  have G_is_whole := ok_is_wholeI (P := P) (w := w) (base := base) T
  refine T.f_check_figures.ok (k := 1) sc_check_figures (fun vs H Q E h => ?_) (fun cdv A' outer s H vs Q E hr h => ?_)
  · obtain ⟨z, rfl, _⟩ := h
    rfl
  · obtain ⟨z, rfl, hz, q⟩ := h
    refine ⟨_, (pss_one (ps_if (PW.pt (pw_or (pt_not (pt_val (pe_call G_is_whole hr (by rfl) T.g_is_whole T.f_is_whole.kp T.b_is_whole .nil pass0 (pa_cons (pv 0) pa_nil)))) (pw_or1 (pt_cmpR op_ge (pe_callB call_abs (by rfl) T.m_abs (by decide +kernel) (pa_cons (pv 0) pa_nil)) (pe_glob (v := .int 1000000000000000000000000000000000000000000000000000000000000000000000000000000000000000000000000000000000000000000000000000000000000000000000000000000000000000000000000000000000000000000000000000000000000000000000000000000000000000000000000000000000000000000000000000000000000000000000000000000000000) (by rfl) T.c_TOO_GREAT ⟨_, rfl⟩) (nomark _)))))
      (pss_one ps_never)
      pss_nil)), ?_⟩
    refine ⟨.int z, rfl, z, rfl, true, rfl, .int z, rfl, z, rfl, ?_⟩
    have l := tooG_lt
    rw [absI]
    refine ⟨_, _, rfl, rfl, false, ?_, q⟩
    refine congrArg V.bl (decide_eq_false fun z => ?_)
    have : tooG ≤ _ := z
    omega
def spInit (C : Addr) : Sp := fun vs H Q _ => ∃ (x dx : Addr) (t b : Int), vs = [.ref x, .int t, .int b] ∧ H x = some (.ins C dx []) ∧ b ≠ 0 ∧ t.natAbs < 2 ^ 990 ∧ b.natAbs < 2 ^ 990 ∧
  ∀ H', ExI x H H' → Rt C H' x (lwT t b) (lwB t b) → Q .non H'
set_option maxHeartbeats 4000000 in
theorem ok_init (T : TX K mg A FD TK) : FnOk P w K mg base CX0 3 (A 27) (FD 27) ["self", "top", "bottom"] (spInit (A 10)) := by
  have G_check_figures := ok_check_figures (P := P) (w := w) (base := base) T
  have G_lowest := (ok_lowest (P := P) (w := w) (base := base) T).mono (show 1 ≤ 2 by decide)
  refine T.f_Ratio_init.ok (k := 2) sc_Ratio_init (fun vs H Q E h => ?_) (fun cdv A' outer s H vs Q E hr h => ?_)
  · obtain ⟨x, dx, t, b, rfl, _⟩ := h
    rfl
  · obtain ⟨x, dx, t, b, rfl, hx, hb, ht, hb2, q⟩ := h
    refine ⟨_, (pss_cons (ps_expr (pe_call G_check_figures hr (by rfl) T.g_check_figures T.f_check_figures.kp T.b_check_figures .nil pass0 (pa_cons (pv 1) pa_nil)))
      (pss_cons (ps_expr (pe_call G_check_figures hr (by rfl) T.g_check_figures T.f_check_figures.kp T.b_check_figures .nil pass0 (pa_cons (pv 2) pa_nil)))
      (pss_cons (ps_if (pt_cmpR op_eq (pv 2) pe_int (nomark _))
      (pss_one ps_never)
      pss_nil)
      (pss_one (ps_asg (pe_call G_lowest hr (by rfl) T.g_lowest T.f_lowest.kp T.b_lowest .nil pass0 (pa_cons (pv 1) (pa_cons (pv 2) pa_nil))) (pg_tup rfl (pgs_cons (pg_fld (pv 0)) (pgs_cons (pg_fld (pv 0)) pgs_nil)))))))), ?_⟩
    refine ⟨.int t, rfl, t, rfl, ht, .int b, rfl, b, rfl, hb2, .int b, rfl, rfl, _, rfl, ?_⟩
    rw [show decide (V.int b = V.int 0) = false from decide_eq_false fun z => hb (V.int.inj z)]
    refine ⟨.int t, rfl, .int b, rfl, t, b, rfl, hb, lt2 ht (by decide), lt2 hb2 (by decide), fun l nl => ?_⟩
    have nlx : x ≠ l := ne_of_none hx nl
    have hx1 : (upd H l (.tup [.int (lwT t b), .int (lwB t b)])) x = some (.ins (A 10) dx []) := by rw [upd_ne nlx]; exact hx
    refine ⟨l, _, rfl, SqT.of upd_same, rfl, _, _, rfl, .ref x, rfl, x, A 10, dx, [], rfl, hx1, T.cl_Ratio, T.n_Ratio_top, (by show 0 < 1000; decide), ?_⟩
    refine ⟨_, _, rfl, .ref x, rfl, x, A 10, dx, _, rfl, upd_same, T.cl_Ratio, T.n_Ratio_bottom, (by show 1 < 1000; decide), rfl, ?_⟩
    refine q _ (fun c o nc h => ?_) ⟨dx, upd_same⟩
    rw [upd_ne nc, upd_ne nc, upd_ne (ne_of_none h nl)]
    exact h
def RetR (C : Addr) (t b : Int) (H : Hp) (Q : VK) : Prop := ∀ (a : Addr) (H' : Hp), H a = none → Ex H H' → Rt C H' a t b → Q (.ref a) H'
/-- what comes of Ratio(t, b) -/
theorem mk_ratio {C : Addr} {H : Hp} {x dx : Addr} {t b : Int} {R : Hp → Prop} {E : XK} (nx : H x = none) (ndx : H dx = none) (hb : b ≠ 0) (ht : t.natAbs < 2 ^ 990) (hb2 : b.natAbs < 2 ^ 990) (q : ∀ H', Ex H H' → Rt C H' x (lwT t b) (lwB t b) → R H') :
    spInit C [.ref x, .int t, .int b] (upd (upd H dx (.own x)) x (.ins C dx [])) (fun v H2 => v = .non ∧ R H2) E := by
  refine ⟨x, dx, t, b, rfl, upd_same, hb, ht, hb2, fun H' i r => ⟨rfl, q H' (fun c o h => ?_) r⟩⟩
  refine i c o (ne_of_none h nx) ?_
  rw [upd_ne (ne_of_none h nx), upd_ne (ne_of_none h ndx)]
  exact h
def spRatioOf (C : Addr) : Sp := fun vs H Q _ => ∃ t b : Int, vs = [.int t, .int b] ∧ b ≠ 0 ∧ t.natAbs < 2 ^ 4000 ∧ b.natAbs < 2 ^ 4000 ∧ RetR C (lwT t b) (lwB t b) H Q
theorem bindsR (T : TX K mg A FD TK) : (∃ ds, Vals ([] : List V) ds ∧ Binds K (FD 27) ["self", "top", "bottom"] ds) ∧ (∃ ds, Vals [V.int 1] ds ∧ Binds K (FD 27) ["self", "top", "bottom"] ds) := by
  obtain ⟨ds2, R2, B2⟩ := T.f_Ratio_init.binds1 (ps := ["self", "top", "bottom"]) 3 1 (by simp) rfl (fun _ _ _ _ _ _ _ us its hl1 hl2 => match us, its, hl1, hl2 with | [_, _, _], [_], _, _ => ⟨_, rfl, rfl⟩)
  obtain ⟨ds1, R1, B1⟩ := T.f_Ratio_init.binds1 (ps := ["self", "top", "bottom"]) 2 0 (by simp) rfl (fun _ _ _ _ _ _ _ us its hl1 hl2 => match us, its, hl1, hl2 with | [_, _], [_], _, _ => ⟨_, rfl, rfl⟩)
  exact ⟨⟨ds2, R2, B2⟩, ⟨ds1, R1, B1⟩⟩
set_option maxHeartbeats 4000000 in
theorem ok_ratio_of (T : TX K mg A FD TK) : FnOk P w K mg base CX0 5 (A 11) (FD 11) ["top", "bottom"] (spRatioOf (A 10)) := by
  have G_Ratio := ok_init (P := P) (w := w) (base := base) T
  have G_lowest := (ok_lowest (P := P) (w := w) (base := base) T).mono (show 1 ≤ 4 by decide)
  obtain ⟨_, ds1, R1_Ratio, B1_Ratio⟩ := bindsR T
  refine T.f_ratio_of.ok (k := 4) sc_ratio_of (fun vs H Q E h => ?_) (fun cdv A' outer s H vs Q E hr h => ?_)
  · obtain ⟨t, b, rfl, _⟩ := h
    rfl
  · obtain ⟨t, b, rfl, hb, ht, hb2, q⟩ := h
    refine ⟨_, (pss_cons (ps_set (i := 2) sc_ratio_of.nd rfl (.inl rfl) (pe_make T.M_Ratio G_Ratio hr (by rfl) T.k_Ratio B1_Ratio R1_Ratio pass0 (pa_cons pe_int pa_nil)))
      (pss_cons (ps_asg (pe_call G_lowest hr (by rfl) T.g_lowest T.f_lowest.kp T.b_lowest .nil pass0 (pa_cons (pv 0) (pa_cons (pv 1) pa_nil))) (pg_tup rfl (pgs_cons (pg_fld (pv 2)) (pgs_cons (pg_fld (pv 2)) pgs_nil))))
      (pss_one (ps_ret (pv 2))))), ?_⟩
    refine fun a dx na ndx _ => mk_ratio (t := 0) (b := 1) na ndx (by decide) (by decide) (by decide) fun H1 e1 hr1 => ?_
    obtain ⟨da, ha⟩ := hr1
    refine ⟨.int t, rfl, .int b, rfl, t, b, rfl, hb, ht, hb2, fun l nl => ?_⟩
    have ha1 : (upd H1 l (.tup [.int (lwT t b), .int (lwB t b)])) a = some (.ins (A 10) da [("top", .int (lwT 0 1)), ("bottom", .int (lwB 0 1))]) := by rw [upd_ne (ne_of_none ha nl)]; exact ha
    refine ⟨l, _, rfl, SqT.of upd_same, rfl, _, _, rfl, .ref a, rfl, a, A 10, da, _, rfl, ha1, T.cl_Ratio, T.n_Ratio_top, (by show 2 < 1000; decide), ?_⟩
    refine ⟨_, _, rfl, .ref a, rfl, a, A 10, da, _, rfl, upd_same, T.cl_Ratio, T.n_Ratio_bottom, (by show 2 < 1000; decide), rfl, ?_⟩
    refine ⟨.ref a, rfl, q a _ na (fun c o h => ?_) ⟨da, upd_same⟩⟩
    have nc : c ≠ a := ne_of_none h na
    rw [upd_ne nc, upd_ne nc, upd_ne (ne_of_none (e1 _ _ h) nl)]
    exact e1 _ _ h
/-- two ratios of fair size -/
def spTwo (C : Addr) (g : Int → Int → Int → Int → Int) (g' : Int → Int → Int → Int → Int) : Sp := fun vs H Q _ => ∃ (a c : Addr) (t b u d : Int), vs = [.ref a, .ref c] ∧ Rt C H a t b ∧ Rt C H c u d ∧ 0 < b ∧ 0 < d ∧ t.natAbs < 2 ^ 1900 ∧ b.natAbs < 2 ^ 1900 ∧ u.natAbs < 2 ^ 1900 ∧ d.natAbs < 2 ^ 1900 ∧
  RetR C (lwT (g t b u d) (g' t b u d)) (lwB (g t b u d) (g' t b u d)) H Q
abbrev plT (t b u d : Int) : Int := t * d + u * b
abbrev plB (t b u d : Int) : Int := b * d
abbrev tmT (t b u d : Int) : Int := t * u
theorem mul_ne {b d : Int} (h : 0 < b) (h' : 0 < d) : b * d ≠ 0 := by
  have := Int.mul_pos h h'
  omega
set_option maxHeartbeats 4000000 in
theorem ok_plus (T : TX K mg A FD TK) : FnOk P w K mg base CX0 6 (A 28) (FD 28) ["self", "other"] (spTwo (A 10) plT plB) := by
  have G_ratio_of := ok_ratio_of (P := P) (w := w) (base := base) T
  refine T.f_Ratio_plus.ok (k := 5) sc_Ratio_plus (fun vs H Q E h => ?_) (fun cdv A' outer s H vs Q E hr h => ?_)
  · obtain ⟨a, c, t, b, u, d, rfl, _⟩ := h
    rfl
  · obtain ⟨a, c, t, b, u, d, rfl, ⟨da, ha⟩, ⟨dc, hc⟩, b0, d0, ht, hb, hu, hd, q⟩ := h
    refine ⟨_, (pss_one (ps_ret (pe_call G_ratio_of hr (by rfl) T.g_ratio_of T.f_ratio_of.kp T.b_ratio_of .nil pass0 (pa_cons (pe_op op_add (pe_op op_mulW (fldK (K := K) rfl (pv 0) rfl) (fldK (K := K) rfl (pv 1) rfl)) (pe_op op_mulW (fldK (K := K) rfl (pv 1) rfl) (fldK (K := K) rfl (pv 0) rfl))) (pa_cons (pe_op op_mulW (fldK (K := K) rfl (pv 0) rfl) (fldK (K := K) rfl (pv 1) rfl)) pa_nil))))), ?_⟩
    refine ⟨.ref a, rfl, a, _, da, _, _, rfl, ha, T.cl_Ratio, T.n_Ratio_top, rfl, .ref c, rfl, c, _, dc, _, _, rfl, hc, T.cl_Ratio, T.n_Ratio_bottom, rfl, t, d, rfl, rfl, cmul2 ht hd (by decide), ?_⟩
    refine ⟨.ref c, rfl, c, _, dc, _, _, rfl, hc, T.cl_Ratio, T.n_Ratio_top, rfl, .ref a, rfl, a, _, da, _, _, rfl, ha, T.cl_Ratio, T.n_Ratio_bottom, rfl, u, b, rfl, rfl, cmul2 hu hb (by decide), t * d, u * b, rfl, rfl, ?_⟩
    refine ⟨.ref a, rfl, a, _, da, _, _, rfl, ha, T.cl_Ratio, T.n_Ratio_bottom, rfl, .ref c, rfl, c, _, dc, _, _, rfl, hc, T.cl_Ratio, T.n_Ratio_bottom, rfl, b, d, rfl, rfl, cmul2 hb hd (by decide), ?_⟩
    exact ⟨_, _, rfl, mul_ne b0 d0, lt2 (add2 (mul2 ht hd) (mul2 hu hb)) (by decide), lt2 (mul2 hb hd) (by decide), q⟩
def spLess (C : Addr) : Sp := fun vs H Q _ => ∃ (a c : Addr) (t b u d : Int), vs = [.ref a, .ref c] ∧ Rt C H a t b ∧ Rt C H c u d ∧ t.natAbs < 2 ^ 1900 ∧ b.natAbs < 2 ^ 1900 ∧ u.natAbs < 2 ^ 1900 ∧ d.natAbs < 2 ^ 1900 ∧ Q (.bl (decide (t * d < u * b))) H
set_option maxHeartbeats 4000000 in
theorem ok_is_less (T : TX K mg A FD TK) : FnOk P w K mg base CX0 1 (A 30) (FD 30) ["self", "other"] (spLess (A 10)) := by
  refine T.f_Ratio_is_less.ok sc_Ratio_is_less (fun vs H Q E h => ?_) (fun cdv A' outer s H vs Q E hr h => ?_)
  · obtain ⟨a, c, t, b, u, d, rfl, _⟩ := h
    rfl
  · obtain ⟨a, c, t, b, u, d, rfl, ⟨da, ha⟩, ⟨dc, hc⟩, ht, hb, hu, hd, q⟩ := h
    refine ⟨_, (pss_one (ps_ret (pe_cmpR op_lt (pe_op op_mulW (fldK (K := K) rfl (pv 0) rfl) (fldK (K := K) rfl (pv 1) rfl)) (pe_op op_mulW (fldK (K := K) rfl (pv 1) rfl) (fldK (K := K) rfl (pv 0) rfl)) (nomark _)))), ?_⟩
    refine ⟨.ref a, rfl, a, _, da, _, _, rfl, ha, T.cl_Ratio, T.n_Ratio_top, rfl, .ref c, rfl, c, _, dc, _, _, rfl, hc, T.cl_Ratio, T.n_Ratio_bottom, rfl, t, d, rfl, rfl, cmul2 ht hd (by decide), ?_⟩
    exact ⟨.ref c, rfl, c, _, dc, _, _, rfl, hc, T.cl_Ratio, T.n_Ratio_top, rfl, .ref a, rfl, a, _, da, _, _, rfl, ha, T.cl_Ratio, T.n_Ratio_bottom, rfl, u, b, rfl, rfl, cmul2 hu hb (by decide), _, _, rfl, rfl, q⟩

set_option maxHeartbeats 4000000 in
theorem ok_times (T : TX K mg A FD TK) : FnOk P w K mg base CX0 6 (A 29) (FD 29) ["self", "other"] (spTwo (A 10) tmT plB) := by
  have G_ratio_of := ok_ratio_of (P := P) (w := w) (base := base) T
  refine T.f_Ratio_times.ok (k := 5) sc_Ratio_times (fun vs H Q E h => ?_) (fun cdv A' outer s H vs Q E hr h => ?_)
  · obtain ⟨a, c, t, b, u, d, rfl, _⟩ := h
    rfl
  · obtain ⟨a, c, t, b, u, d, rfl, ⟨da, ha⟩, ⟨dc, hc⟩, b0, d0, ht, hb, hu, hd, q⟩ := h
    refine ⟨_, (pss_one (ps_ret (pe_call G_ratio_of hr (by rfl) T.g_ratio_of T.f_ratio_of.kp T.b_ratio_of .nil pass0 (pa_cons (pe_op op_mulW (fldK (K := K) rfl (pv 0) rfl) (fldK (K := K) rfl (pv 1) rfl)) (pa_cons (pe_op op_mulW (fldK (K := K) rfl (pv 0) rfl) (fldK (K := K) rfl (pv 1) rfl)) pa_nil))))), ?_⟩
    refine ⟨.ref a, rfl, a, _, da, _, _, rfl, ha, T.cl_Ratio, T.n_Ratio_top, rfl, .ref c, rfl, c, _, dc, _, _, rfl, hc, T.cl_Ratio, T.n_Ratio_top, rfl, t, u, rfl, rfl, cmul2 ht hu (by decide), ?_⟩
    refine ⟨.ref a, rfl, a, _, da, _, _, rfl, ha, T.cl_Ratio, T.n_Ratio_bottom, rfl, .ref c, rfl, c, _, dc, _, _, rfl, hc, T.cl_Ratio, T.n_Ratio_bottom, rfl, b, d, rfl, rfl, cmul2 hb hd (by decide), ?_⟩
    exact ⟨_, _, rfl, mul_ne b0 d0, lt2 (mul2 ht hu) (by decide), lt2 (mul2 hb hd) (by decide), q⟩

/-! ### the law's reckoning -/
theorem pairS (t b : Int) : SeqAt.shaped (.tuple [.int t, .int b]) = true := by
  unfold SeqAt.shaped
  simp [PyData.canLay0, PyData.canLayAll0, PyData.depth, PyData.depthAll]
theorem pairE (t b : Int) : PyData.eqv (.tuple [.int t, .int b]) (.tuple [.int t, .int b]) = true := SeqAt.eqv_refl _ (SeqAt.canLay_of_shaped (pairS t b))
/-- two tuples of two numbers -/
def spTwoT (K : PySem.W.Frag) (B : Nat) (W : Int → Int → Int → Int → Hp → VK → Prop) : Sp := fun vs H Q _ => ∃ (a c : Addr) (t b u d : Int), vs = [.ref a, .ref c] ∧ SqT K H a [.int t, .int b] ∧ SqT K H c [.int u, .int d] ∧ t.natAbs < 2 ^ B ∧ b.natAbs < 2 ^ B ∧ u.natAbs < 2 ^ B ∧ d.natAbs < 2 ^ B ∧ W t b u d H Q
set_option maxHeartbeats 4000000 in
theorem ok_l_plus (T : TX K mg A FD TK) : FnOk P w K mg base CX0 2 (A 19) (FD 19) ["_law_one", "_law_other"] (spTwoT K 1900 fun t b u d H Q => 0 < b ∧ 0 < d ∧ ∀ l, H l = none → Q (.ref l) (upd H l (.tup [.int (lwT (plT t b u d) (plB t b u d)), .int (lwB (plT t b u d) (plB t b u d))]))) := by
  have G_l_low := ok_l_low (P := P) (w := w) (base := base) T
  refine T.f_l_plus.ok (k := 1) sc_l_plus (fun vs H Q E h => ?_) (fun cdv A' outer s H vs Q E hr h => ?_)
  · obtain ⟨a, c, t, b, u, d, rfl, _⟩ := h
    rfl
  · obtain ⟨a, c, t, b, u, d, rfl, ha, hc, ht, hb, hu, hd, b0, d0, q⟩ := h
    refine ⟨_, (pss_one (ps_ret (pe_call G_l_low hr (by rfl) T.g_l_low T.f_l_low.kp T.b_l_low .nil pass0 (pa_cons (pe_op op_add (pe_op op_mulW (pe_ix (ixTK (K := K) rfl) (pv 0) pe_int (fun _ _ => rfl)) (pe_ix (ixTK (K := K) rfl) (pv 1) pe_int (fun _ _ => rfl))) (pe_op op_mulW (pe_ix (ixTK (K := K) rfl) (pv 1) pe_int (fun _ _ => rfl)) (pe_ix (ixTK (K := K) rfl) (pv 0) pe_int (fun _ _ => rfl)))) (pa_cons (pe_op op_mulW (pe_ix (ixTK (K := K) rfl) (pv 0) pe_int (fun _ _ => rfl)) (pe_ix (ixTK (K := K) rfl) (pv 1) pe_int (fun _ _ => rfl))) pa_nil))))), ?_⟩
    refine ⟨.ref a, rfl, a, _, 0, _, rfl, rfl, ha, atI_nat (j := 0) rfl, .ref c, rfl, c, _, 1, _, rfl, rfl, hc, atI_nat (j := 1) rfl, t, d, rfl, rfl, cmul2 ht hd (by decide), ?_⟩
    refine ⟨.ref c, rfl, c, _, 0, _, rfl, rfl, hc, atI_nat (j := 0) rfl, .ref a, rfl, a, _, 1, _, rfl, rfl, ha, atI_nat (j := 1) rfl, u, b, rfl, rfl, cmul2 hu hb (by decide), t * d, u * b, rfl, rfl, ?_⟩
    refine ⟨.ref a, rfl, a, _, 1, _, rfl, rfl, ha, atI_nat (j := 1) rfl, .ref c, rfl, c, _, 1, _, rfl, rfl, hc, atI_nat (j := 1) rfl, b, d, rfl, rfl, cmul2 hb hd (by decide), ?_⟩
    exact ⟨_, _, rfl, mul_ne b0 d0, lt2 (add2 (mul2 ht hd) (mul2 hu hb)) (by decide), lt2 (mul2 hb hd) (by decide), q⟩
set_option maxHeartbeats 4000000 in
theorem ok_l_less (T : TX K mg A FD TK) : FnOk P w K mg base CX0 1 (A 20) (FD 20) ["_law_one", "_law_other"] (spTwoT K 1900 fun t b u d H Q => Q (.bl (decide (t * d < u * b))) H) := by
  refine T.f_l_less.ok sc_l_less (fun vs H Q E h => ?_) (fun cdv A' outer s H vs Q E hr h => ?_)
  · obtain ⟨a, c, t, b, u, d, rfl, _⟩ := h
    rfl
  · obtain ⟨a, c, t, b, u, d, rfl, ha, hc, ht, hb, hu, hd, q⟩ := h
    refine ⟨_, (pss_one (ps_ret (pe_cmpR op_lt (pe_op op_mulW (pe_ix (ixTK (K := K) rfl) (pv 0) pe_int (fun _ _ => rfl)) (pe_ix (ixTK (K := K) rfl) (pv 1) pe_int (fun _ _ => rfl))) (pe_op op_mulW (pe_ix (ixTK (K := K) rfl) (pv 1) pe_int (fun _ _ => rfl)) (pe_ix (ixTK (K := K) rfl) (pv 0) pe_int (fun _ _ => rfl))) (nomark _)))), ?_⟩
    refine ⟨.ref a, rfl, a, _, 0, _, rfl, rfl, ha, atI_nat (j := 0) rfl, .ref c, rfl, c, _, 1, _, rfl, rfl, hc, atI_nat (j := 1) rfl, t, d, rfl, rfl, cmul2 ht hd (by decide), ?_⟩
    exact ⟨.ref c, rfl, c, _, 0, _, rfl, rfl, hc, atI_nat (j := 0) rfl, .ref a, rfl, a, _, 1, _, rfl, rfl, ha, atI_nat (j := 1) rfl, u, b, rfl, rfl, cmul2 hu hb (by decide), _, _, rfl, rfl, q⟩
def spIsRatio (K : PySem.W.Frag) (C : Addr) : Sp := fun vs H Q _ => ∃ (a c : Addr) (t b : Int), vs = [.ref a, .ref c] ∧ Rt C H a t b ∧ SqT K H c [.int t, .int b] ∧ ∀ H', Ex H H' → Q (.bl true) H'
set_option maxHeartbeats 4000000 in
theorem ok_l_is_ratio (T : TX K mg A FD TK) : FnOk P w K mg base CX0 1 (A 21) (FD 21) ["_law_told", "_law_due"] (spIsRatio K (A 10)) := by
  refine T.f_l_is_ratio.ok sc_l_is_ratio (fun vs H Q E h => ?_) (fun cdv A' outer s H vs Q E hr h => ?_)
  · obtain ⟨a, c, t, b, rfl, _⟩ := h
    rfl
  · obtain ⟨a, c, t, b, rfl, ⟨da, ha⟩, hc, q⟩ := h
    refine ⟨_, (pss_cons (ps_for PassesOwn.never rfl (piTK (K := K) rfl (pe_tup (pa_cons (fldK (K := K) rfl (pv 0) rfl) (pa_cons (fldK (K := K) rfl (pv 0) rfl) pa_nil)))) (pg_name (i := 2) sc_l_is_ratio.nd rfl (.inl rfl))
      (pss_one (ps_if (PW.pt (pw_or (pt_not (pt_val (pe_callB (isiK (K := K) rfl) (by rfl) T.m_isinstance (by decide +kernel) (pa_cons (pv 2) (pa_cons (pe_bltn (v := .ty "int") (by rfl) T.m_int (by decide +kernel) rfl) pa_nil))))) (pw_or1 (pt_val (pe_callB (isiK (K := K) rfl) (by rfl) T.m_isinstance (by decide +kernel) (pa_cons (pv 2) (pa_cons (pe_bltn (v := .ty "bool") (by rfl) T.m_bool (by decide +kernel) rfl) pa_nil)))))))
      (pss_one (ps_ret pe_bl))
      pss_nil)))
      (pss_one (ps_ret (pe_cmpR (eqDK (K := K) rfl hr.units) (pe_tup (pa_cons (fldK (K := K) rfl (pv 0) rfl) (pa_cons (fldK (K := K) rfl (pv 0) rfl) pa_nil))) (pv 1) (nomark _))))), ?_⟩
    refine ⟨.ref a, rfl, a, _, da, _, _, rfl, ha, T.cl_Ratio, T.n_Ratio_top, rfl, .ref a, rfl, a, _, da, _, _, rfl, ha, T.cl_Ratio, T.n_Ratio_bottom, rfl, by show 2 ≤ sizeLine; decide, fun p np => ?_⟩
    refine ⟨p, rfl, ⟨_, SqT.of upd_same⟩, ?_⟩
    have e1 : Ex H (upd H p (.tup [.int t, .int b])) := Ex.new np
    refine for_tup (K := K) (xs := [.int t, .int b]) (fun i σ' H' => ∃ y : Option V, σ' = [some (.ref a), some (.ref c), y] ∧ Ex (upd H p (.tup [.int t, .int b])) H') ⟨none, rfl, Ex.refl _⟩ (fun i σ' H' _ pv => ?_) (fun i x σ' H' gx pv => ?_) (fun σ' H' pv => ?_)
    · obtain ⟨y, _, e2⟩ := pv
      exact SqT.of (e2 _ _ upd_same)
    · obtain ⟨y, rfl, e2⟩ := pv
      obtain ⟨z, rfl⟩ : ∃ z : Int, x = .int z := by
        have hx := List.mem_of_getElem? gx
        simp only [List.mem_cons, List.not_mem_nil, or_false] at hx
        rcases hx with rfl | rfl
        · exact ⟨_, rfl⟩
        · exact ⟨_, rfl⟩
      refine ⟨.int z, rfl, .int z, .ty "int", .type "int", .type "int", true, rfl, .ty _, .base (.int z), kit_ty (by decide +kernel), true, rfl, ?_⟩
      exact ⟨.int z, rfl, .int z, .ty "bool", .type "int", .type "bool", false, rfl, .ty _, .base (.int z), kit_ty (by decide +kernel), false, rfl, some (.int z), rfl, e2⟩
    · obtain ⟨y, rfl, e2⟩ := pv
      have e3 := e1.trans e2
      refine ⟨.ref a, rfl, a, _, da, _, _, rfl, e3 _ _ ha, T.cl_Ratio, T.n_Ratio_top, rfl, .ref a, rfl, a, _, da, _, _, rfl, e3 _ _ ha, T.cl_Ratio, T.n_Ratio_bottom, rfl, by show 2 ≤ sizeLine; decide, fun p2 np2 => ?_⟩
      have e4 := e3.trans (Ex.new (o := .tup [.int t, .int b]) np2)
      refine ⟨.ref c, rfl, _, _, .tup (SqT.of upd_same) (.cons (.int t) (.cons (.int b) .nil)), .tup (ex_t e4 hc) (.cons (.int t) (.cons (.int b) .nil)), pairS t b, pairS t b, ?_⟩
      rw [pairE]
      exact q _ e4

def spTruth : Sp := fun vs H Q _ => ∃ b : Bool, vs = [.bl b, .bl b] ∧ Q (.bl true) H
set_option maxHeartbeats 4000000 in
theorem ok_l_is_truth (T : TX K mg A FD TK) : FnOk P w K mg base CX0 1 (A 24) (FD 24) ["_law_told", "_law_due"] spTruth := by
  refine T.f_l_is_truth.ok sc_l_is_truth (fun vs H Q E h => ?_) (fun cdv A' outer s H vs Q E hr h => ?_)
  · obtain ⟨b, rfl, _⟩ := h
    rfl
  · obtain ⟨b, rfl, q⟩ := h
    refine ⟨_, (pss_one (ps_ret (pe_and (pe_callB (isiK (K := K) rfl) (by rfl) T.m_isinstance (by decide +kernel) (pa_cons (pv 0) (pa_cons (pe_bltn (v := .ty "bool") (by rfl) T.m_bool (by decide +kernel) rfl) pa_nil))) (pe_one (pe_cmpR op_eq (pv 0) (pv 1) (nomark _)))))), ?_⟩
    refine ⟨.bl b, rfl, .bl b, .ty "bool", .type "bool", .type "bool", true, rfl, .ty _, .base (.bl b), kit_ty (by decide +kernel), true, rfl, .bl b, rfl, .bl b, rfl, rfl, ?_⟩
    rw [show decide (V.bl b = V.bl b) = true from decide_eq_true rfl]
    exact q
/-! ### drawn numbers -/
theorem pow_step {g x : Int} {n : Nat} (h0 : 0 ≤ g) (h : g < 10 ^ n) (x0 : 0 ≤ x) (h2 : x < 100000000) : 0 ≤ g * 100000000 + x ∧ g * 100000000 + x < 10 ^ (n + 8) := by
  have e : (10 : Int) ^ (n + 8) = 10 ^ n * 100000000 := by rw [Int.pow_add]; rfl
  rw [e]
  generalize (10 : Int) ^ n = m at h
  omega
theorem ten_two {g : Int} {n : Nat} (h0 : 0 ≤ g) (h : g < 10 ^ n) (l : n ≤ 45) : g.natAbs < 2 ^ 150 := by
  have e : (10 : Int) ^ n ≤ 10 ^ 45 := by
    have := Nat.pow_le_pow_right (n := 10) (by decide) l
    exact_mod_cast this
  have : (10 : Int) ^ 45 < 2 ^ 150 := by decide
  omega
/-- a drawn number of a purse -/
def spFar : Sp := fun vs H Q _ => ∃ (p : Addr) (c : Nat), vs = [.ref p] ∧ Pl H p c ∧ c < 900000 ∧ ∀ (z : Int) (H' : Hp), z.natAbs < 2 ^ 150 → Pl H' p (c + 20) → Fx p H H' → Q (.int z) H'
set_option maxHeartbeats 4000000 in
theorem ok_l_far (T : TX K mg A FD TK) : FnOk P w K mg base CX0 2 (A 23) (FD 23) ["_law_purse_here"] spFar := by
  have G_l_take := ok_l_take (P := P) (w := w) (base := base) T
  refine T.f_l_far.ok (k := 1) sc_l_far (fun vs H Q E h => ?_) (fun cdv A' outer s H vs Q E hr h => ?_)
  · obtain ⟨p, c, rfl, _⟩ := h
    rfl
  · obtain ⟨p, c, rfl, hp, hc, q⟩ := h
    refine ⟨_, (pss_cons (ps_set (i := 1) sc_l_far.nd rfl (.inl rfl) (pe_cmpR op_eq (pe_call G_l_take hr (by rfl) T.g_l_take T.f_l_take.kp T.b_l_take .nil pass0 (pa_cons (pv 0) (pa_cons pe_int pa_nil))) pe_int (nomark _)))
      (pss_cons (ps_set (i := 2) sc_l_far.nd rfl (.inl rfl) (pe_op op_sub pe_int (pe_op op_mulW pe_int (pe_call G_l_take hr (by rfl) T.g_l_take T.f_l_take.kp T.b_l_take .nil pass0 (pa_cons (pv 0) (pa_cons pe_int pa_nil))))))
      (pss_cons (ps_if (pt_val (pv 1))
      (pss_one (ps_ret (pe_op op_mulW (pv 2) (pe_call G_l_take hr (by rfl) T.g_l_take T.f_l_take.kp T.b_l_take .nil pass0 (pa_cons (pv 0) (pa_cons pe_int pa_nil))))))
      pss_nil)
      (pss_cons (ps_set (i := 3) sc_l_far.nd rfl (.inl rfl) (pe_call G_l_take hr (by rfl) T.g_l_take T.f_l_take.kp T.b_l_take .nil pass0 (pa_cons (pv 0) (pa_cons (pe_op op_pow pe_int pe_int) pa_nil))))
      (pss_cons (ps_for PassesOwn.never rfl (pi_range1 (by rfl) T.m_range (pa_cons (pe_call G_l_take hr (by rfl) T.g_l_take T.f_l_take.kp T.b_l_take .nil pass0 (pa_cons (pv 0) (pa_cons pe_int pa_nil))) pa_nil)) (pg_name (i := 4) sc_l_far.nd rfl (.inl rfl))
      (pss_one (ps_set (i := 3) sc_l_far.nd rfl (.inl rfl) (pe_op op_add (pe_op op_mulW (pv 3) (pe_op op_pow pe_int pe_int)) (pe_call G_l_take hr (by rfl) T.g_l_take T.f_l_take.kp T.b_l_take .nil pass0 (pa_cons (pv 0) (pa_cons (pe_op op_pow pe_int pe_int) pa_nil)))))))
      (pss_one (ps_ret (pe_op op_mulW (pv 2) (pv 3))))))))), ?_⟩
    refine ⟨.ref p, rfl, p, 4, c, rfl, hp, by decide, by decide, by omega, fun d H1 _ _ hp1 f1 => ?_⟩
    refine ⟨rfl, .ref p, rfl, p, 2, c + 1, rfl, hp1, by decide, by decide, by omega, fun g H2 g0 g1 hp2 f2 => ?_⟩
    refine ⟨2, g, rfl, rfl, cmul2 (n := 2) (m := 2) (by decide) (by omega) (by decide), 1, 2 * g, rfl, rfl, ?_⟩
    have sg : (1 - 2 * g).natAbs < 2 ^ 1 := by omega
    have sg1 : (1 - 2 * g).natAbs ≤ 1 := by omega
    have fin : ∀ x : Int, ((1 - 2 * g) * x).natAbs ≤ x.natAbs := fun x => by
      rw [Int.natAbs_mul]
      calc _ ≤ 1 * x.natAbs := Nat.mul_le_mul_right _ sg1
        _ = x.natAbs := Nat.one_mul _
    refine ⟨_, rfl, _, rfl, ite2 (fun e => ?_) (fun e => ?_)⟩
    · refine ⟨.int (1 - 2 * g), rfl, .ref p, rfl, p, 12, c + 2, rfl, hp2, by decide, by decide, by omega, fun x H3 x0 x1 hp3 f3 => ?_⟩
      refine ⟨1 - 2 * g, x, rfl, rfl, cmul2 (n := 1) (m := 4) sg (by omega) (by decide), q _ _ ?_ (hp3.mono (by omega)) ((f1.trans f2).trans f3)⟩
      exact Nat.lt_of_le_of_lt (fin x) (lt2 (n := 4) (by omega) (by decide))
    · refine ⟨.ref p, rfl, 10, 5, rfl, rfl, ⟨by decide, by decide, by decide⟩, p, _, c + 2, rfl, hp2, by decide, by decide, by omega, fun x H3 x0 x1 hp3 f3 => ?_⟩
      refine ⟨.ref p, rfl, p, 6, c + 3, rfl, hp3, by decide, by decide, by omega, fun m H4 m0 m1 hp4 f4 => ?_⟩
      refine ⟨m, rfl, by omega, by omega, ?_⟩
      refine for_range (lo := 0) (n := m.toNat) (fun i σ' H' => ∃ (y : Option V) (got : Int), σ' = [some (.ref p), some (.bl (decide (V.int d = V.int 0))), some (.int (1 - 2 * g)), some (.int got), y] ∧ 0 ≤ got ∧ got < 10 ^ (5 + 8 * i) ∧ Pl H' p (c + 4 + i) ∧ Fx p H H') ⟨none, x, rfl, x0, x1, hp4, ((f1.trans f2).trans f3).trans f4⟩ (fun i σ' H' hi pv => ?_) (fun σ' H' pv => ?_)
      · obtain ⟨y, got, rfl, g0, gl, hp5, f5⟩ := pv
        refine ⟨.int got, rfl, 10, 8, rfl, rfl, ⟨by decide, by decide, by decide⟩, got, _, rfl, rfl, cmul2 (n := 150) (m := 40) (ten_two g0 gl (by omega)) (by decide) (by decide), ?_⟩
        refine ⟨.ref p, rfl, 10, 8, rfl, rfl, ⟨by decide, by decide, by decide⟩, p, _, c + 4 + i, rfl, hp5, by decide, by decide, by omega, fun z H6 z0 z1 hp6 f6 => ?_⟩
        have ps := pow_step g0 gl z0 z1
        exact ⟨_, _, rfl, rfl, some (.int ((0 : Int) + i)), _, rfl, ps.1, by rw [show 5 + 8 * (i + 1) = 5 + 8 * i + 8 by omega]; exact ps.2, hp6, f5.trans f6⟩
      · obtain ⟨y, got, rfl, g0, gl, hp5, f5⟩ := pv
        have tt := ten_two g0 gl (by omega)
        refine ⟨.int (1 - 2 * g), rfl, .int got, rfl, 1 - 2 * g, got, rfl, rfl, cmul2 sg tt (by decide), q _ _ (Nat.lt_of_le_of_lt (fin got) tt) (hp5.mono (by omega)) f5⟩
/-- a drawn ratio: a new tuple, in lowest terms -/
def spDrawn : Sp := fun vs H Q _ => ∃ (p : Addr) (c : Nat), vs = [.ref p] ∧ Pl H p c ∧ c < 800000 ∧ ∀ (l : Addr) (t b : Int) (H' : Hp), H l = none → H' l = some (.tup [.int t, .int b]) → Nm t b → t.natAbs < 2 ^ 150 → b.natAbs < 2 ^ 150 → Pl H' p (c + 40) → Fx p H H' → Q (.ref l) H'
set_option maxHeartbeats 4000000 in
theorem ok_l_drawn_ratio (T : TX K mg A FD TK) : FnOk P w K mg base CX0 3 (A 22) (FD 22) ["_law_purse_here"] spDrawn := by
  have G_l_far := ok_l_far (P := P) (w := w) (base := base) T
  have G_l_low := (ok_l_low (P := P) (w := w) (base := base) T).mono (show 1 ≤ 2 by decide)
  refine T.f_l_drawn_ratio.ok (k := 2) sc_l_drawn_ratio (fun vs H Q E h => ?_) (fun cdv A' outer s H vs Q E hr h => ?_)
  · obtain ⟨p, c, rfl, _⟩ := h
    rfl
  · obtain ⟨p, c, rfl, hp, hc, q⟩ := h
    refine ⟨_, (pss_cons (ps_par (by rfl) sc_l_drawn_ratio.nd (i := 1) (j := 2) rfl rfl (by decide) rfl rfl (pa_cons (pe_call G_l_far hr (by rfl) T.g_l_far T.f_l_far.kp T.b_l_far .nil pass0 (pa_cons (pv 0) pa_nil)) (pa_cons (pe_call G_l_far hr (by rfl) T.g_l_far T.f_l_far.kp T.b_l_far .nil pass0 (pa_cons (pv 0) pa_nil)) pa_nil)) (by rfl))
      (pss_cons (ps_if (pt_cmpR op_eq (pv 2) pe_int (nomark _))
      (pss_one (ps_set (i := 2) sc_l_drawn_ratio.nd rfl (.inl rfl) pe_int))
      pss_nil)
      (pss_one (ps_ret (pe_call G_l_low hr (by rfl) T.g_l_low T.f_l_low.kp T.b_l_low .nil pass0 (pa_cons (pv 1) (pa_cons (pv 2) pa_nil))))))), ?_⟩
    refine ⟨.ref p, rfl, p, c, rfl, hp, by omega, fun t H1 ht hp1 f1 => ?_⟩
    refine ⟨.ref p, rfl, p, c + 20, rfl, hp1, by omega, fun b H2 hb hp2 f2 => ?_⟩
    have fin : ∀ b : Int, b ≠ 0 → b.natAbs < 2 ^ 150 → ∀ l, H2 l = none → Q (.ref l) (upd H2 l (.tup [.int (lwT t b), .int (lwB t b)])) := fun b b0 hb l nl =>
      q l _ _ _ (fx_free (f1.trans f2) hp2 nl) upd_same (lw_nm b0) (Nat.lt_of_le_of_lt (lwT_le b0) ht) (Nat.lt_of_le_of_lt (lwB_le b0) hb) (hp2.ex (Ex.new nl)) ((f1.trans f2).trans (Fx.ex (Ex.new nl)))
    refine ⟨_, _, rfl, .int b, rfl, rfl, _, rfl, ite2 (fun e => ?_) (fun e => ?_)⟩
    · exact ⟨.int t, rfl, .int 7, rfl, t, 7, rfl, by decide, lt2 ht (by decide), lt2 (n := 3) (by decide) (by decide), fin 7 (by decide) (lt2 (n := 3) (by decide) (by decide))⟩
    · have b0 : b ≠ 0 := fun z => e (decide_eq_true (by rw [z]))
      exact ⟨.int t, rfl, .int b, rfl, t, b, rfl, b0, lt2 ht (by decide), lt2 hb (by decide), fin b b0 hb⟩

/-! ### one pair -/
def spRight (K : PySem.W.Frag) : Sp := fun vs H Q _ => ∃ (a c : Addr) (t b u d : Int), vs = [.ref a, .ref c] ∧ SqT K H a [.int t, .int b] ∧ SqT K H c [.int u, .int d] ∧ Nm t b ∧ Nm u d ∧ t.natAbs < 2 ^ 150 ∧ b.natAbs < 2 ^ 150 ∧ u.natAbs < 2 ^ 150 ∧ d.natAbs < 2 ^ 150 ∧ ∀ H', Ex H H' → Q (.bl true) H'
theorem lwT_lt {t b : Int} {n : Nat} (h : b ≠ 0) (l : t.natAbs < 2 ^ n) : (lwT t b).natAbs < 2 ^ n := Nat.lt_of_le_of_lt (lwT_le h) l
theorem lwB_lt {t b : Int} {n : Nat} (h : b ≠ 0) (l : b.natAbs < 2 ^ n) : (lwB t b).natAbs < 2 ^ n := Nat.lt_of_le_of_lt (lwB_le h) l
set_option maxHeartbeats 8000000 in
theorem ok_l_right (T : TX K mg A FD TK) : FnOk P w K mg base CX0 8 (A 25) (FD 25) ["_law_one", "_law_other"] (spRight K) := by
  have G_Ratio := (ok_init (P := P) (w := w) (base := base) T).mono (show 3 ≤ 6 by decide)
  have G_l_plus := (ok_l_plus (P := P) (w := w) (base := base) T).mono (show 2 ≤ 7 by decide)
  have G_l_low := (ok_l_low (P := P) (w := w) (base := base) T).mono (show 1 ≤ 7 by decide)
  have G_l_less := (ok_l_less (P := P) (w := w) (base := base) T).mono (show 1 ≤ 7 by decide)
  have G_l_is_ratio := (ok_l_is_ratio (P := P) (w := w) (base := base) T).mono (show 1 ≤ 7 by decide)
  have G_l_is_truth := (ok_l_is_truth (P := P) (w := w) (base := base) T).mono (show 1 ≤ 7 by decide)
  have G_Ratio_plus := (ok_plus (P := P) (w := w) (base := base) T).mono (show 6 ≤ 7 by decide)
  have G_Ratio_times := (ok_times (P := P) (w := w) (base := base) T).mono (show 6 ≤ 7 by decide)
  have G_Ratio_is_less := (ok_is_less (P := P) (w := w) (base := base) T).mono (show 1 ≤ 7 by decide)
  obtain ⟨⟨ds2, R2_Ratio, B2_Ratio⟩, _⟩ := bindsR T
  refine T.f_l_right.ok (k := 7) sc_l_right (fun vs H Q E h => ?_) (fun cdv A' outer s H vs Q E hr h => ?_)
  · obtain ⟨a, c, t, b, u, d, rfl, _⟩ := h
    rfl
  · obtain ⟨a, c, t, b, u, d, rfl, ha, hc, n1, n2, ht, hb, hu, hd, q⟩ := h
    refine ⟨_, (pss_cons (ps_par (by rfl) sc_l_right.nd (i := 2) (j := 3) rfl rfl (by decide) rfl rfl (pa_cons (pe_make T.M_Ratio G_Ratio hr (by rfl) T.k_Ratio B2_Ratio R2_Ratio pass0 (pa_cons (pe_ix (ixTK (K := K) rfl) (pv 0) pe_int (fun _ _ => rfl)) (pa_cons (pe_ix (ixTK (K := K) rfl) (pv 0) pe_int (fun _ _ => rfl)) pa_nil))) (pa_cons (pe_make T.M_Ratio G_Ratio hr (by rfl) T.k_Ratio B2_Ratio R2_Ratio pass0 (pa_cons (pe_ix (ixTK (K := K) rfl) (pv 1) pe_int (fun _ _ => rfl)) (pa_cons (pe_ix (ixTK (K := K) rfl) (pv 1) pe_int (fun _ _ => rfl)) pa_nil))) pa_nil)) (by rfl))
      (pss_cons (ps_set (i := 4) sc_l_right.nd rfl (.inl rfl) (pe_lst (pa_cons (pe_call G_l_plus hr (by rfl) T.g_l_plus T.f_l_plus.kp T.b_l_plus .nil pass0 (pa_cons (pv 0) (pa_cons (pv 1) pa_nil))) (pa_cons (pe_call G_l_low hr (by rfl) T.g_l_low T.f_l_low.kp T.b_l_low .nil pass0 (pa_cons (pe_op op_mulW (pe_ix (ixTK (K := K) rfl) (pv 0) pe_int (fun _ _ => rfl)) (pe_ix (ixTK (K := K) rfl) (pv 1) pe_int (fun _ _ => rfl))) (pa_cons (pe_op op_mulW (pe_ix (ixTK (K := K) rfl) (pv 0) pe_int (fun _ _ => rfl)) (pe_ix (ixTK (K := K) rfl) (pv 1) pe_int (fun _ _ => rfl))) pa_nil))) pa_nil))))
      (pss_cons (ps_set (i := 5) sc_l_right.nd rfl (.inl rfl) (pe_lst (pa_cons (pe_meth (pv 2) T.cl_Ratio T.M_Ratio_plus G_Ratio_plus hr T.b_Ratio_plus .nil pass0 (pa_cons (pv 3) pa_nil)) (pa_cons (pe_meth (pv 2) T.cl_Ratio T.M_Ratio_times G_Ratio_times hr T.b_Ratio_times .nil pass0 (pa_cons (pv 3) pa_nil)) pa_nil))))
      (pss_cons (ps_if (PW.pt (pw_or (pt_not (pt_val (pe_call G_l_is_ratio hr (by rfl) T.g_l_is_ratio T.f_l_is_ratio.kp T.b_l_is_ratio .nil pass0 (pa_cons (pe_ix (ixLK (K := K) rfl) (pv 5) pe_int (fun _ _ => rfl)) (pa_cons (pe_ix (ixLK (K := K) rfl) (pv 4) pe_int (fun _ _ => rfl)) pa_nil))))) (pw_or1 (pt_not (pt_val (pe_call G_l_is_ratio hr (by rfl) T.g_l_is_ratio T.f_l_is_ratio.kp T.b_l_is_ratio .nil pass0 (pa_cons (pe_ix (ixLK (K := K) rfl) (pv 5) pe_int (fun _ _ => rfl)) (pa_cons (pe_ix (ixLK (K := K) rfl) (pv 4) pe_int (fun _ _ => rfl)) pa_nil))))))))
      (pss_one (ps_ret pe_bl))
      pss_nil)
      (pss_cons (ps_if (pt_not (pt_val (pe_call G_l_is_truth hr (by rfl) T.g_l_is_truth T.f_l_is_truth.kp T.b_l_is_truth .nil pass0 (pa_cons (pe_meth (pv 2) T.cl_Ratio T.M_Ratio_is_less G_Ratio_is_less hr T.b_Ratio_is_less .nil pass0 (pa_cons (pv 3) pa_nil)) (pa_cons (pe_call G_l_less hr (by rfl) T.g_l_less T.f_l_less.kp T.b_l_less .nil pass0 (pa_cons (pv 0) (pa_cons (pv 1) pa_nil))) pa_nil)))))
      (pss_one (ps_ret pe_bl))
      pss_nil)
      (pss_cons (ps_if (PW.pt (pw_or (pt_not (pt_val (pe_call G_l_is_truth hr (by rfl) T.g_l_is_truth T.f_l_is_truth.kp T.b_l_is_truth .nil pass0 (pa_cons (pe_meth (pv 3) T.cl_Ratio T.M_Ratio_is_less G_Ratio_is_less hr T.b_Ratio_is_less .nil pass0 (pa_cons (pv 2) pa_nil)) (pa_cons (pe_call G_l_less hr (by rfl) T.g_l_less T.f_l_less.kp T.b_l_less .nil pass0 (pa_cons (pv 1) (pa_cons (pv 0) pa_nil))) pa_nil))))) (pw_or1 (pt_val (pe_meth (pv 2) T.cl_Ratio T.M_Ratio_is_less G_Ratio_is_less hr T.b_Ratio_is_less .nil pass0 (pa_cons (pv 2) pa_nil))))))
      (pss_one (ps_ret pe_bl))
      pss_nil)
      (pss_cons (ps_set (i := 6) sc_l_right.nd rfl (.inl rfl) (pe_meth (pe_meth (pe_ix (ixLK (K := K) rfl) (pv 5) pe_int (fun _ _ => rfl)) T.cl_Ratio T.M_Ratio_times G_Ratio_times hr T.b_Ratio_times .nil pass0 (pa_cons (pe_ix (ixLK (K := K) rfl) (pv 5) pe_int (fun _ _ => rfl)) pa_nil)) T.cl_Ratio T.M_Ratio_plus G_Ratio_plus hr T.b_Ratio_plus .nil pass0 (pa_cons (pv 2) pa_nil)))
      (pss_cons (ps_if (pt_not (pt_val (pe_call G_l_is_ratio hr (by rfl) T.g_l_is_ratio T.f_l_is_ratio.kp T.b_l_is_ratio .nil pass0 (pa_cons (pv 6) (pa_cons (pe_call G_l_plus hr (by rfl) T.g_l_plus T.f_l_plus.kp T.b_l_plus .nil pass0 (pa_cons (pe_call G_l_low hr (by rfl) T.g_l_low T.f_l_low.kp T.b_l_low .nil pass0 (pa_cons (pe_op op_mulW (pe_ix (ixTK (K := K) rfl) (pe_ix (ixLK (K := K) rfl) (pv 4) pe_int (fun _ _ => rfl)) pe_int (fun _ _ => rfl)) (pe_ix (ixTK (K := K) rfl) (pe_ix (ixLK (K := K) rfl) (pv 4) pe_int (fun _ _ => rfl)) pe_int (fun _ _ => rfl))) (pa_cons (pe_op op_mulW (pe_ix (ixTK (K := K) rfl) (pe_ix (ixLK (K := K) rfl) (pv 4) pe_int (fun _ _ => rfl)) pe_int (fun _ _ => rfl)) (pe_ix (ixTK (K := K) rfl) (pe_ix (ixLK (K := K) rfl) (pv 4) pe_int (fun _ _ => rfl)) pe_int (fun _ _ => rfl))) pa_nil))) (pa_cons (pv 0) pa_nil))) pa_nil)))))
      (pss_one (ps_ret pe_bl))
      pss_nil)
      (pss_cons (ps_if (pt_not (pt_val (pe_call G_l_is_truth hr (by rfl) T.g_l_is_truth T.f_l_is_truth.kp T.b_l_is_truth .nil pass0 (pa_cons (pe_meth (pv 6) T.cl_Ratio T.M_Ratio_is_less G_Ratio_is_less hr T.b_Ratio_is_less .nil pass0 (pa_cons (pe_ix (ixLK (K := K) rfl) (pv 5) pe_int (fun _ _ => rfl)) pa_nil)) (pa_cons (pe_call G_l_less hr (by rfl) T.g_l_less T.f_l_less.kp T.b_l_less .nil pass0 (pa_cons (pe_tup (pa_cons (fldK (K := K) rfl (pv 6) rfl) (pa_cons (fldK (K := K) rfl (pv 6) rfl) pa_nil))) (pa_cons (pe_ix (ixLK (K := K) rfl) (pv 4) pe_int (fun _ _ => rfl)) pa_nil))) pa_nil)))))
      (pss_one (ps_ret pe_bl))
      pss_nil)
      (pss_one (ps_ret (pe_and (pe_call G_l_is_ratio hr (by rfl) T.g_l_is_ratio T.f_l_is_ratio.kp T.b_l_is_ratio .nil pass0 (pa_cons (pv 2) (pa_cons (pv 0) pa_nil))) (pe_one (pe_call G_l_is_ratio hr (by rfl) T.g_l_is_ratio T.f_l_is_ratio.kp T.b_l_is_ratio .nil pass0 (pa_cons (pv 3) (pa_cons (pv 1) pa_nil)))))))))))))))), ?_⟩
    have b0 := n1.1
    have d0 := n2.1
    refine ⟨.ref a, rfl, a, _, 0, _, rfl, rfl, ha, atI_nat (j := 0) rfl, .ref a, rfl, a, _, 1, _, rfl, rfl, ha, atI_nat (j := 1) rfl, fun x dx nx ndx _ => mk_ratio (t := t) (b := b) nx ndx (by omega) (lt2 ht (by decide)) (lt2 hb (by decide)) fun H1 e1 r1 => ?_⟩
    rw [nm_t n1, nm_b n1] at r1
    refine ⟨.ref c, rfl, c, _, 0, _, rfl, rfl, ex_t e1 hc, atI_nat (j := 0) rfl, .ref c, rfl, c, _, 1, _, rfl, rfl, ex_t e1 hc, atI_nat (j := 1) rfl, fun y dy ny ndy _ => mk_ratio (t := u) (b := d) ny ndy (by omega) (lt2 hu (by decide)) (lt2 hd (by decide)) fun H2 e2 r2 => ?_⟩
    rw [nm_t n2, nm_b n2] at r2
    have r1' := r1.ex e2
    have f2 := e1.trans e2
    have ha2 := ex_t f2 ha
    have hc2 := ex_t f2 hc
    have tL : ∀ {z : Int}, z.natAbs < 2 ^ 150 → z.natAbs < 2 ^ 1900 := fun h => lt2 h (by decide)
    have s1 : (plT t b u d).natAbs < 2 ^ 301 := add2 (mul2 ht hd) (mul2 hu hb)
    have s2 : (plB t b u d).natAbs < 2 ^ 300 := mul2 hb hd
    have s3 : (tmT t b u d).natAbs < 2 ^ 300 := mul2 ht hu
    have z0 : plB t b u d ≠ 0 := mul_ne b0 d0
    refine ⟨_, _, rfl, .ref a, rfl, .ref c, rfl, a, c, t, b, u, d, rfl, ha2, hc2, tL ht, tL hb, tL hu, tL hd, b0, d0, fun l1 nl1 => ?_⟩
    have e3 := Ex.new (o := .tup [.int (lwT (plT t b u d) (plB t b u d)), .int (lwB (plT t b u d) (plB t b u d))]) nl1
    have k1 := upd_same (H := H2) (a := l1) (o := .tup [.int (lwT (plT t b u d) (plB t b u d)), .int (lwB (plT t b u d) (plB t b u d))])
    have ha3 := ex_t e3 ha2
    have hc3 := ex_t e3 hc2
    refine ⟨.ref a, rfl, a, _, 0, _, rfl, rfl, ha3, atI_nat (j := 0) rfl, .ref c, rfl, c, _, 0, _, rfl, rfl, hc3, atI_nat (j := 0) rfl, t, u, rfl, rfl, cmul2 ht hu (by decide), .ref a, rfl, a, _, 1, _, rfl, rfl, ha3, atI_nat (j := 1) rfl, .ref c, rfl, c, _, 1, _, rfl, rfl, hc3, atI_nat (j := 1) rfl, b, d, rfl, rfl, cmul2 hb hd (by decide), _, _, rfl, mul_ne b0 d0, lt2 s3 (by decide), lt2 s2 (by decide), fun l2 nl2 => ?_⟩
    have e4 := Ex.new (o := .tup [.int (lwT (tmT t b u d) (plB t b u d)), .int (lwB (tmT t b u d) (plB t b u d))]) nl2
    have k1' := e4 _ _ k1
    have k2 := upd_same (a := l2) (H := upd H2 l1 (.tup [.int (lwT (plT t b u d) (plB t b u d)), .int (lwB (plT t b u d) (plB t b u d))])) (o := .tup [.int (lwT (tmT t b u d) (plB t b u d)), .int (lwB (tmT t b u d) (plB t b u d))])
    have e34 := e3.trans e4
    refine ⟨by show 2 ≤ sizeLine; decide, fun l nl => ?_⟩
    have e5 := Ex.new (o := .lst [.ref l1, .ref l2]) nl
    have kl := upd_same (a := l) (H := upd (upd H2 l1 (.tup [.int (lwT (plT t b u d) (plB t b u d)), .int (lwB (plT t b u d) (plB t b u d))])) l2 (.tup [.int (lwT (tmT t b u d) (plB t b u d)), .int (lwB (tmT t b u d) (plB t b u d))])) (o := .lst [.ref l1, .ref l2])
    replace k1 := e5 _ _ k1'
    replace k2 := e5 _ _ k2
    have f5a := e34.trans e5
    have ha5 := ex_t f5a ha2
    have hc5 := ex_t f5a hc2
    replace r1 := r1'.ex f5a
    replace r2 := r2.ex f5a
    have f5 := f2.trans f5a
    generalize (upd (upd (upd H2 l1 (.tup [.int (lwT (plT t b u d) (plB t b u d)), .int (lwB (plT t b u d) (plB t b u d))])) l2 (.tup [.int (lwT (tmT t b u d) (plB t b u d)), .int (lwB (tmT t b u d) (plB t b u d))])) l (.lst [.ref l1, .ref l2])) = H5 at kl k1 k2 ha5 hc5 r1 r2 f5 ⊢
    have m1 := lwT_lt z0 s1
    have m2 := lwB_lt (t := plT t b u d) z0 s2
    have m3 := lwT_lt z0 s3
    have m4 := lwB_lt (t := tmT t b u d) z0 s2
    have p1 := (lw_nm (t := plT t b u d) z0).1
    have p2 := (lw_nm (t := tmT t b u d) z0).1
    -- what is told
    obtain ⟨dx5, rx⟩ := r1
    refine ⟨.ref x, rfl, x, dx5, _, rfl, rx, rfl, .ref y, rfl, x, y, t, b, u, d, rfl, ⟨dx5, rx⟩, r2, b0, d0, tL ht, tL hb, tL hu, tL hd, fun w1 H6 nw1 e6 w1r => ?_⟩
    refine ⟨.ref x, rfl, x, dx5, _, rfl, e6 _ _ rx, rfl, .ref y, rfl, x, y, t, b, u, d, rfl, ⟨dx5, e6 _ _ rx⟩, r2.ex e6, b0, d0, tL ht, tL hb, tL hu, tL hd, fun w2 H7 nw2 e7 w2r => ?_⟩
    refine ⟨by show 2 ≤ sizeLine; decide, fun v nv => ?_⟩
    have kv := upd_same (H := H7) (a := v) (o := .lst [.ref w1, .ref w2])
    have e8 := Ex.new (o := .lst [.ref w1, .ref w2]) nv
    have f8 := (e6.trans e7).trans e8
    replace w1r := (w1r.ex e7).ex e8
    replace w2r := w2r.ex e8
    replace k1 := f8 _ _ k1
    replace k2 := f8 _ _ k2
    replace kl := f8 _ _ kl
    have ha8 := ex_t f8 ha5
    have hc8 := ex_t f8 hc5
    replace rx := f8 _ _ rx
    replace r2 := r2.ex f8
    replace f8 := f5.trans f8
    generalize (upd H7 v (.lst [.ref w1, .ref w2])) = H8 at kv w1r w2r k1 k2 kl ha8 hc8 rx r2 f8 ⊢
    refine ⟨.ref v, rfl, v, _, 0, _, rfl, rfl, SqL.of kv, atI_nat (j := 0) rfl, .ref l, rfl, l, _, 0, _, rfl, rfl, SqL.of kl, atI_nat (j := 0) rfl, w1, l1, _, _, rfl, w1r, SqT.of k1, fun H9 e9 => ⟨true, rfl, ?_⟩⟩
    refine ⟨.ref v, rfl, v, _, 1, _, rfl, rfl, SqL.of (e9 _ _ kv), atI_nat (j := 1) rfl, .ref l, rfl, l, _, 1, _, rfl, rfl, SqL.of (e9 _ _ kl), atI_nat (j := 1) rfl, w2, l2, _, _, rfl, w2r.ex e9, SqT.of (e9 _ _ k2), fun H10 e10 => ⟨true, rfl, ?_⟩⟩
    have f10 := e9.trans e10
    replace w1r := w1r.ex f10
    replace w2r := w2r.ex f10
    replace k1 := f10 _ _ k1
    replace k2 := f10 _ _ k2
    replace kl := f10 _ _ kl
    replace kv := f10 _ _ kv
    have haA := ex_t f10 ha8
    have hcA := ex_t f10 hc8
    replace rx := f10 _ _ rx
    replace r2 := r2.ex f10
    replace f10 := f8.trans f10
    -- which is less
    refine ⟨.ref x, rfl, x, dx5, _, rfl, rx, rfl, .ref y, rfl, x, y, t, b, u, d, rfl, ⟨dx5, rx⟩, r2, tL ht, tL hb, tL hu, tL hd, .ref a, rfl, .ref c, rfl, a, c, t, b, u, d, rfl, haA, hcA, tL ht, tL hb, tL hu, tL hd, _, rfl, true, rfl, ?_⟩
    obtain ⟨dy5, ry⟩ := r2
    refine ⟨.ref y, rfl, y, dy5, _, rfl, ry, rfl, .ref x, rfl, y, x, u, d, t, b, rfl, ⟨dy5, ry⟩, ⟨dx5, rx⟩, tL hu, tL hd, tL ht, tL hb, .ref c, rfl, .ref a, rfl, c, a, u, d, t, b, rfl, hcA, haA, tL hu, tL hd, tL ht, tL hb, _, rfl, true, rfl, ?_⟩
    refine ⟨.ref x, rfl, x, dx5, _, rfl, rx, rfl, .ref x, rfl, x, x, t, b, t, b, rfl, ⟨dx5, rx⟩, ⟨dx5, rx⟩, tL ht, tL hb, tL ht, tL hb, false, ?_, ?_⟩
    · exact congrArg V.bl (decide_eq_false (Int.lt_irrefl _))
    -- handed on
    have tM : ∀ {z : Int} {n : Nat}, z.natAbs < 2 ^ n → n ≤ 1900 → z.natAbs < 2 ^ 1900 := fun h l => lt2 h l
    have q1 : (tmT (lwT (plT t b u d) (plB t b u d)) (lwB (plT t b u d) (plB t b u d)) (lwT (tmT t b u d) (plB t b u d)) (lwB (tmT t b u d) (plB t b u d))).natAbs < 2 ^ 601 := mul2 m1 m3
    have q2 : (plB (lwT (plT t b u d) (plB t b u d)) (lwB (plT t b u d) (plB t b u d)) (lwT (tmT t b u d) (plB t b u d)) (lwB (tmT t b u d) (plB t b u d))).natAbs < 2 ^ 600 := mul2 m2 m4
    generalize lwT (plT t b u d) (plB t b u d) = T0 at *
    generalize lwB (plT t b u d) (plB t b u d) = B0 at *
    generalize lwT (tmT t b u d) (plB t b u d) = T1 at *
    generalize lwB (tmT t b u d) (plB t b u d) = B1 at *
    have z1 : plB T0 B0 T1 B1 ≠ 0 := mul_ne p1 p2
    have q3 := lwT_lt z1 q1
    have q4 := lwB_lt (t := tmT T0 B0 T1 B1) z1 q2
    have p3 := (lw_nm (t := tmT T0 B0 T1 B1) z1).1
    obtain ⟨dw1, w1r⟩ := w1r
    refine ⟨.ref v, rfl, v, _, 0, _, rfl, rfl, SqL.of kv, atI_nat (j := 0) rfl, w1, dw1, _, rfl, w1r, rfl, .ref v, rfl, v, _, 1, _, rfl, rfl, SqL.of kv, atI_nat (j := 1) rfl, w1, w2, T0, B0, T1, B1, rfl, ⟨dw1, w1r⟩, w2r, p1, p2, tM m1 (by decide), tM m2 (by decide), tM m3 (by decide), tM m4 (by decide), fun g HB ng eB gr => ?_⟩
    obtain ⟨dg, gr⟩ := gr
    refine ⟨g, dg, _, rfl, gr, rfl, .ref x, rfl, g, x, _, _, t, b, rfl, ⟨dg, gr⟩, ⟨dx5, eB _ _ rx⟩, p3, b0, tM q3 (by decide), tM q4 (by decide), tL ht, tL hb, fun fu HC nfu eC fur => ?_⟩
    generalize hT2 : lwT (tmT T0 B0 T1 B1) (plB T0 B0 T1 B1) = T2 at *
    generalize hB2 : lwB (tmT T0 B0 T1 B1) (plB T0 B0 T1 B1) = B2 at *
    have hT3 : lwT (T0 * T1) (B0 * B1) = T2 := hT2
    have hB3 : lwB (T0 * T1) (B0 * B1) = B2 := hB2
    have fC := eB.trans eC
    replace k1 := fC _ _ k1
    replace k2 := fC _ _ k2
    replace kl := fC _ _ kl
    replace kv := fC _ _ kv
    replace haA := ex_t fC haA
    replace hcA := ex_t fC hcA
    replace rx := fC _ _ rx
    replace ry := fC _ _ ry
    replace w1r := fC _ _ w1r
    replace fC := f10.trans fC
    have j1 : (plT T2 B2 t b).natAbs < 2 ^ 752 := add2 (lt2 (mul2 q3 hb) (by decide)) (lt2 (mul2 ht q4) (by decide))
    have j2 : (plB T2 B2 t b).natAbs < 2 ^ 750 := mul2 q4 hb
    have z2 : plB T2 B2 t b ≠ 0 := mul_ne p3 b0
    have j3 := lwT_lt z2 j1
    have j4 := lwB_lt (t := plT T2 B2 t b) z2 j2
    -- due of what is handed on
    refine ⟨.ref fu, rfl, ?_⟩
    refine ⟨.ref l, rfl, l, _, 0, _, rfl, rfl, SqL.of kl, atI_nat (j := 0) rfl, l1, _, 0, _, rfl, rfl, SqT.of k1, atI_nat (j := 0) rfl, .ref l, rfl, l, _, 1, _, rfl, rfl, SqL.of kl, atI_nat (j := 1) rfl, l2, _, 0, _, rfl, rfl, SqT.of k2, atI_nat (j := 0) rfl, T0, T1, rfl, rfl, cmul2 m1 m3 (by decide), ?_⟩
    refine ⟨.ref l, rfl, l, _, 0, _, rfl, rfl, SqL.of kl, atI_nat (j := 0) rfl, l1, _, 1, _, rfl, rfl, SqT.of k1, atI_nat (j := 1) rfl, .ref l, rfl, l, _, 1, _, rfl, rfl, SqL.of kl, atI_nat (j := 1) rfl, l2, _, 1, _, rfl, rfl, SqT.of k2, atI_nat (j := 1) rfl, B0, B1, rfl, rfl, cmul2 m2 m4 (by decide), _, _, rfl, z1, lt2 q1 (by decide), lt2 q2 (by decide), fun l3 nl3 => ?_⟩
    rw [hT3, hB3]
    have e3a := Ex.new (o := .tup [.int T2, .int B2]) nl3
    have k3 := upd_same (H := HC) (a := l3) (o := .tup [.int T2, .int B2])
    replace fur := fur.ex e3a
    replace k1 := e3a _ _ k1
    replace kl := e3a _ _ kl
    replace kv := e3a _ _ kv
    replace haA := ex_t e3a haA
    replace hcA := ex_t e3a hcA
    replace rx := e3a _ _ rx
    replace ry := e3a _ _ ry
    replace w1r := e3a _ _ w1r
    replace fC := fC.trans e3a
    refine ⟨.ref a, rfl, l3, a, T2, B2, t, b, rfl, SqT.of k3, haA, tM q3 (by decide), tM q4 (by decide), tL ht, tL hb, p3, b0, fun l4 nl4 => ?_⟩
    have e4a := Ex.new (o := .tup [.int (lwT (plT T2 B2 t b) (plB T2 B2 t b)), .int (lwB (plT T2 B2 t b) (plB T2 B2 t b))]) nl4
    refine ⟨fu, l4, _, _, rfl, fur.ex e4a, SqT.of upd_same, fun HD eD => ⟨true, rfl, ?_⟩⟩
    replace eD := e4a.trans eD
    replace fur := fur.ex eD
    replace k1 := eD _ _ k1
    replace kl := eD _ _ kl
    replace kv := eD _ _ kv
    replace haA := ex_t eD haA
    replace hcA := ex_t eD hcA
    replace rx := eD _ _ rx
    replace ry := eD _ _ ry
    replace w1r := eD _ _ w1r
    replace fC := fC.trans eD
    obtain ⟨dfu, fur⟩ := fur
    refine ⟨.ref fu, rfl, fu, dfu, _, rfl, fur, rfl, .ref v, rfl, v, _, 0, _, rfl, rfl, SqL.of kv, atI_nat (j := 0) rfl, fu, w1, _, _, T0, B0, rfl, ⟨dfu, fur⟩, ⟨dw1, w1r⟩, tM j3 (by decide), tM j4 (by decide), tM m1 (by decide), tM m2 (by decide), ?_⟩
    refine ⟨.ref fu, rfl, fu, _, dfu, _, _, rfl, fur, T.cl_Ratio, T.n_Ratio_top, rfl, .ref fu, rfl, fu, _, dfu, _, _, rfl, fur, T.cl_Ratio, T.n_Ratio_bottom, rfl, by show 2 ≤ sizeLine; decide, fun l5 nl5 => ?_⟩
    have e5a := Ex.new (o := .tup [.int (lwT (plT T2 B2 t b) (plB T2 B2 t b)), .int (lwB (plT T2 B2 t b) (plB T2 B2 t b))]) nl5
    refine ⟨.ref l, rfl, l, _, 0, _, rfl, rfl, SqL.of (e5a _ _ kl), atI_nat (j := 0) rfl, l5, l1, _, _, T0, B0, rfl, SqT.of upd_same, SqT.of (e5a _ _ k1), tM j3 (by decide), tM j4 (by decide), tM m1 (by decide), tM m2 (by decide), _, rfl, true, rfl, ?_⟩
    refine ⟨.ref x, rfl, .ref a, rfl, x, a, t, b, rfl, ⟨dx5, e5a _ _ rx⟩, ex_t e5a haA, fun HE eE => ⟨true, rfl, ?_⟩⟩
    refine ⟨.ref y, rfl, .ref c, rfl, y, c, u, d, rfl, ⟨dy5, eE _ _ (e5a _ _ ry)⟩, ex_t (e5a.trans eE) hcA, fun HF eF => ?_⟩
    exact q HF (((fC.trans e5a).trans eE).trans eF)
/-! ### the law -/
def spLaw (K : PySem.W.Frag) : Sp := fun vs H Q _ => ∃ (a : Addr) (ns : List Int), vs = [.ref a] ∧ SqL K H a (ns.map V.int) ∧ ns.length ≤ 63 ∧ ∀ H', Q (.bl true) H'
theorem fx_new {p : Addr} {H H1 H2 : Hp} (n : H p = none) (e : Ex H H1) (f : Fx p H1 H2) : Ex H H2 := fun a o h => f a o (ne_of_none h n) (e a o h)
theorem maxmin (n : Nat) : 2 ≤ (if (if (12 : Int) < (n : Int) then 12 else (n : Int)) > 2 then (if (12 : Int) < (n : Int) then 12 else (n : Int)) else 2) ∧ (if (if (12 : Int) < (n : Int) then 12 else (n : Int)) > 2 then (if (12 : Int) < (n : Int) then 12 else (n : Int)) else 2) ≤ 12 := by
  constructor
  · split <;> split <;> omega
  · split <;> split <;> omega
set_option maxHeartbeats 16000000 in
theorem ok_law (T : TX K mg A FD TK) : FnOk P w K mg base CX0 10 (A 26) (FD 26) ["_law_script"] (spLaw K) := by
  have G_l_purse := (ok_l_purse (P := P) (w := w) (base := base) T).mono (show 1 ≤ 9 by decide)
  have G_l_take := (ok_l_take (P := P) (w := w) (base := base) T).mono (show 1 ≤ 9 by decide)
  have G_l_drawn_ratio := (ok_l_drawn_ratio (P := P) (w := w) (base := base) T).mono (show 3 ≤ 9 by decide)
  have G_l_right := (ok_l_right (P := P) (w := w) (base := base) T).mono (show 8 ≤ 9 by decide)
  refine T.f_law.ok (k := 9) sc_law (fun vs H Q E h => ?_) (fun cdv A' outer s H vs Q E hr h => ?_)
  · obtain ⟨a, ns, rfl, _⟩ := h
    rfl
  · obtain ⟨a, ns, rfl, hS, hn, q⟩ := h
    refine ⟨_, (pss_cons (ps_for PassesOwn.never rfl (pi_range1 (by rfl) T.m_range (pa_cons (pe_callB (call_max2 rfl) (by rfl) T.m_max (by decide +kernel) (pa_cons pe_int (pa_cons (pe_callB (call_min2 rfl) (by rfl) T.m_min (by decide +kernel) (pa_cons (pe_callB (lenK (K := K) rfl) (by rfl) T.m_len (by decide +kernel) (pa_cons (pv 0) pa_nil)) (pa_cons pe_int pa_nil))) pa_nil))) pa_nil)) (pg_name (i := 1) sc_law.nd rfl (.inl rfl))
      (pss_cons (ps_set (i := 2) sc_law.nd rfl (.inl rfl) (pe_call G_l_purse hr (by rfl) T.g_l_purse T.f_l_purse.kp T.b_l_purse .nil pass0 (pa_cons (pv 0) (pa_cons (pv 1) pa_nil))))
      (pss_cons (ps_set (i := 3) sc_law.nd rfl (.inl rfl) (pe_call G_l_take hr (by rfl) T.g_l_take T.f_l_take.kp T.b_l_take .nil pass0 (pa_cons (pv 2) (pa_cons pe_int pa_nil))))
      (pss_cons (ps_par (by rfl) sc_law.nd (i := 4) (j := 5) rfl rfl (by decide) rfl rfl (pa_cons (pe_call G_l_drawn_ratio hr (by rfl) T.g_l_drawn_ratio T.f_l_drawn_ratio.kp T.b_l_drawn_ratio .nil pass0 (pa_cons (pv 2) pa_nil)) (pa_cons (pe_call G_l_drawn_ratio hr (by rfl) T.g_l_drawn_ratio T.f_l_drawn_ratio.kp T.b_l_drawn_ratio .nil pass0 (pa_cons (pv 2) pa_nil)) pa_nil)) (by rfl))
      (pss_cut (ps_if (pt_cmpR op_eq (pv 3) pe_int (nomark _))
      (pss_one (ps_set (i := 5) sc_law.nd rfl (.inl rfl) (pv 4)))
      pss_nil)
      (pss_cut (ps_if (pt_cmpR op_eq (pv 3) pe_int (nomark _))
      (pss_one (ps_set (i := 5) sc_law.nd rfl (.inl rfl) (pe_tup (pa_cons (pe_op op_sub pe_int (pe_ix (ixTK (K := K) rfl) (pv 4) pe_int (fun _ _ => rfl))) (pa_cons (pe_ix (ixTK (K := K) rfl) (pv 4) pe_int (fun _ _ => rfl)) pa_nil)))))
      pss_nil)
      (pss_one (ps_if (PW.pt (pw_or (pt_not (pt_val (pe_call G_l_right hr (by rfl) T.g_l_right T.f_l_right.kp T.b_l_right .nil pass0 (pa_cons (pv 4) (pa_cons (pv 5) pa_nil))))) (pw_or1 (pt_not (pt_val (pe_call G_l_right hr (by rfl) T.g_l_right T.f_l_right.kp T.b_l_right .nil pass0 (pa_cons (pv 5) (pa_cons (pv 4) pa_nil))))))))
      (pss_one (ps_ret pe_bl))
      pss_nil))))))))
      (pss_one (ps_ret pe_bl))), ?_⟩
    refine ⟨.ref a, rfl, a, _, rfl, .inl hS, _, _, rfl, 2, _, rfl, (if (if (12 : Int) < ((ns.map V.int).length : Int) then 12 else ((ns.map V.int).length : Int)) > 2 then (if (12 : Int) < ((ns.map V.int).length : Int) then 12 else ((ns.map V.int).length : Int)) else 2), rfl, ?_, ?_, ?_⟩
    · have := maxmin (ns.map V.int).length
      omega
    · have := maxmin (ns.map V.int).length
      omega
    have hmm := maxmin (ns.map V.int).length
    generalize (if (if (12 : Int) < ((ns.map V.int).length : Int) then 12 else ((ns.map V.int).length : Int)) > 2 then (if (12 : Int) < ((ns.map V.int).length : Int) then 12 else ((ns.map V.int).length : Int)) else 2) = n at hmm ⊢
    refine for_range (lo := 0) (n := n.toNat) (fun i σ' H' => ∃ y1 y2 y3 y4 y5 : Option V, σ' = [some (.ref a), y1, y2, y3, y4, y5] ∧ Ex H H') ⟨none, none, none, none, none, rfl, Ex.refl H⟩ (fun i σ' H' hi pv => ?_) (fun σ' H' pv => ?_)
    · obtain ⟨y1, y2, y3, y4, y5, rfl, e0⟩ := pv
      refine ⟨.ref a, rfl, .int ((0 : Int) + i), rfl, a, ns, i, ?_, ex_l e0 hS, hn, by omega, fun p H1 np e1 hp1 => ?_⟩
      · show [V.ref a, V.int ((0 : Int) + i)] = [V.ref a, V.int (i : Int)]
        rw [Int.zero_add]
      refine ⟨.ref p, rfl, p, 8, 0, rfl, hp1, by decide, by decide, by decide, fun so H2 _ _ hp2 f2 => ?_⟩
      refine ⟨.ref p, rfl, p, 1, rfl, hp2, by decide, fun l t b H3 nl hl n1 ht hb hp3 f3 => ?_⟩
      refine ⟨.ref p, rfl, p, 41, rfl, hp3, by decide, fun l' u d H4 nl' hl' n2 hu hd hp4 f4 => ?_⟩
      have hl4 := f4.tup hp3 hl
      have x4 : Ex H' H4 := fx_new np e1 ((f2.trans f3).trans f4)
      have hl4 := f4.tup hp3 hl
      refine ⟨_, _, rfl, ?_⟩
      refine ⟨fun σ5 H5 => ∃ (o : Addr) (u d : Int), σ5 = [some (.ref a), some (.int ((0 : Int) + i)), some (.ref p), some (.int so), some (.ref l), some (.ref o)] ∧ Ex H4 H5 ∧ H5 o = some (.tup [.int u, .int d]) ∧ Nm u d ∧ u.natAbs < 2 ^ 150 ∧ d.natAbs < 2 ^ 150, ?_, ?_⟩
      · refine ⟨.int so, rfl, rfl, _, rfl, ite2 (fun e => ?_) (fun e => ?_)⟩
        · exact ⟨.ref l, rfl, l, t, b, rfl, Ex.refl _, hl4, n1, ht, hb⟩
        · exact ⟨l', u, d, rfl, Ex.refl _, hl', n2, hu, hd⟩
      rintro σ5 H5 ⟨o, u, d, rfl, e5, ho, n2, hu, hd⟩
      have hl5 := e5 _ _ hl4
      refine ⟨fun σ6 H6 => ∃ (o : Addr) (u d : Int), σ6 = [some (.ref a), some (.int ((0 : Int) + i)), some (.ref p), some (.int so), some (.ref l), some (.ref o)] ∧ Ex H5 H6 ∧ H6 o = some (.tup [.int u, .int d]) ∧ Nm u d ∧ u.natAbs < 2 ^ 150 ∧ d.natAbs < 2 ^ 150, ?_, ?_⟩
      · refine ⟨.int so, rfl, rfl, _, rfl, ite2 (fun e => ?_) (fun e => ?_)⟩
        · refine ⟨.ref l, rfl, l, _, 0, _, rfl, rfl, SqT.of hl5, atI_nat (j := 0) rfl, 0, t, rfl, rfl, .ref l, rfl, l, _, 1, _, rfl, rfl, SqT.of hl5, atI_nat (j := 1) rfl, by show 2 ≤ sizeLine; decide, fun w nw => ?_⟩
          exact ⟨w, 0 - t, b, rfl, Ex.new nw, upd_same, nm_neg n1, by rw [show (0 - t).natAbs = t.natAbs by omega]; exact ht, hb⟩
        · exact ⟨o, u, d, rfl, Ex.refl _, ho, n2, hu, hd⟩
      rintro σ6 H6 ⟨o, u, d, rfl, e6, ho, n2, hu, hd⟩
      have hl6 := e6 _ _ hl5
      refine ⟨.ref l, rfl, .ref o, rfl, l, o, t, b, u, d, rfl, SqT.of hl6, SqT.of ho, n1, n2, ht, hb, hu, hd, fun H7 e7 => ⟨true, rfl, ?_⟩⟩
      refine ⟨.ref o, rfl, .ref l, rfl, o, l, u, d, t, b, rfl, SqT.of (e7 _ _ ho), SqT.of (e7 _ _ hl6), n2, n1, hu, hd, ht, hb, fun H8 e8 => ⟨true, rfl, ?_⟩⟩
      exact ⟨_, _, _, _, _, rfl, ((((e0.trans x4).trans e5).trans e6).trans e7).trans e8⟩
    · exact q _

end
set_option maxHeartbeats 8000000 in
theorem all_mk {l : PySem.W.OpenLaw} {w : World} {K : PySem.W.Frag} {h : Heap} {mg : Str → Option Value} {fa : Addr} (X : K.In h) (G : h.Ns mainGlobals mg) (hfa : mg "law" = some (.ref fa))
    {f5 : Addr} {od5 an5 : Option Addr} {sl5 : Array (Option Value)} {oc5 kV5 dc5 pm5 cd5 ct5 : Value}
    (a5 : PySem.W.nsIn K mainGlobals "is_whole" = some (some (.ref f5))) (l5 : K.lookup f5 = some ⟨oc5, od5, .func (PySem.W.fnOf "is_whole" "is_whole" (defArgs (topS 5)) (defBody (topS 5)) (defScope (topS 5)) .none kV5 dc5 pm5 an5 cd5 ct5), sl5⟩) (c5 : PySem.W.codeIn K cd5 "is_whole" = true) (k5 : PySem.W.keepIn K (.ref f5) = true)
    {f11 : Addr} {od11 an11 : Option Addr} {sl11 : Array (Option Value)} {oc11 kV11 dc11 pm11 cd11 ct11 : Value}
    (a11 : PySem.W.nsIn K mainGlobals "ratio_of" = some (some (.ref f11))) (l11 : K.lookup f11 = some ⟨oc11, od11, .func (PySem.W.fnOf "ratio_of" "ratio_of" (defArgs (topS 11)) (defBody (topS 11)) (defScope (topS 11)) .none kV11 dc11 pm11 an11 cd11 ct11), sl11⟩) (c11 : PySem.W.codeIn K cd11 "ratio_of" = true) (k11 : PySem.W.keepIn K (.ref f11) = true)
    {f12 : Addr} {od12 an12 : Option Addr} {sl12 : Array (Option Value)} {oc12 kV12 dc12 pm12 cd12 ct12 : Value}
    (a12 : PySem.W.nsIn K mainGlobals "lowest" = some (some (.ref f12))) (l12 : K.lookup f12 = some ⟨oc12, od12, .func (PySem.W.fnOf "lowest" "lowest" (defArgs (topS 12)) (defBody (topS 12)) (defScope (topS 12)) .none kV12 dc12 pm12 an12 cd12 ct12), sl12⟩) (c12 : PySem.W.codeIn K cd12 "lowest" = true) (k12 : PySem.W.keepIn K (.ref f12) = true)
    {f13 : Addr} {od13 an13 : Option Addr} {sl13 : Array (Option Value)} {oc13 kV13 dc13 pm13 cd13 ct13 : Value}
    (a13 : PySem.W.nsIn K mainGlobals "check_figures" = some (some (.ref f13))) (l13 : K.lookup f13 = some ⟨oc13, od13, .func (PySem.W.fnOf "check_figures" "check_figures" (defArgs (topS 13)) (defBody (topS 13)) (defScope (topS 13)) .none kV13 dc13 pm13 an13 cd13 ct13), sl13⟩) (c13 : PySem.W.codeIn K cd13 "check_figures" = true) (k13 : PySem.W.keepIn K (.ref f13) = true)
    {f16 : Addr} {od16 an16 : Option Addr} {sl16 : Array (Option Value)} {oc16 kV16 dc16 pm16 cd16 ct16 : Value}
    (a16 : PySem.W.nsIn K mainGlobals "_law_purse" = some (some (.ref f16))) (l16 : K.lookup f16 = some ⟨oc16, od16, .func (PySem.W.fnOf "_law_purse" "_law_purse" (defArgs (topS 16)) (defBody (topS 16)) (defScope (topS 16)) .none kV16 dc16 pm16 an16 cd16 ct16), sl16⟩) (c16 : PySem.W.codeIn K cd16 "_law_purse" = true) (k16 : PySem.W.keepIn K (.ref f16) = true)
    {f17 : Addr} {od17 an17 : Option Addr} {sl17 : Array (Option Value)} {oc17 kV17 dc17 pm17 cd17 ct17 : Value}
    (a17 : PySem.W.nsIn K mainGlobals "_law_take" = some (some (.ref f17))) (l17 : K.lookup f17 = some ⟨oc17, od17, .func (PySem.W.fnOf "_law_take" "_law_take" (defArgs (topS 17)) (defBody (topS 17)) (defScope (topS 17)) .none kV17 dc17 pm17 an17 cd17 ct17), sl17⟩) (c17 : PySem.W.codeIn K cd17 "_law_take" = true) (k17 : PySem.W.keepIn K (.ref f17) = true)
    {f18 : Addr} {od18 an18 : Option Addr} {sl18 : Array (Option Value)} {oc18 kV18 dc18 pm18 cd18 ct18 : Value}
    (a18 : PySem.W.nsIn K mainGlobals "_law_low" = some (some (.ref f18))) (l18 : K.lookup f18 = some ⟨oc18, od18, .func (PySem.W.fnOf "_law_low" "_law_low" (defArgs (topS 18)) (defBody (topS 18)) (defScope (topS 18)) .none kV18 dc18 pm18 an18 cd18 ct18), sl18⟩) (c18 : PySem.W.codeIn K cd18 "_law_low" = true) (k18 : PySem.W.keepIn K (.ref f18) = true)
    {f19 : Addr} {od19 an19 : Option Addr} {sl19 : Array (Option Value)} {oc19 kV19 dc19 pm19 cd19 ct19 : Value}
    (a19 : PySem.W.nsIn K mainGlobals "_law_plus" = some (some (.ref f19))) (l19 : K.lookup f19 = some ⟨oc19, od19, .func (PySem.W.fnOf "_law_plus" "_law_plus" (defArgs (topS 19)) (defBody (topS 19)) (defScope (topS 19)) .none kV19 dc19 pm19 an19 cd19 ct19), sl19⟩) (c19 : PySem.W.codeIn K cd19 "_law_plus" = true) (k19 : PySem.W.keepIn K (.ref f19) = true)
    {f20 : Addr} {od20 an20 : Option Addr} {sl20 : Array (Option Value)} {oc20 kV20 dc20 pm20 cd20 ct20 : Value}
    (a20 : PySem.W.nsIn K mainGlobals "_law_less" = some (some (.ref f20))) (l20 : K.lookup f20 = some ⟨oc20, od20, .func (PySem.W.fnOf "_law_less" "_law_less" (defArgs (topS 20)) (defBody (topS 20)) (defScope (topS 20)) .none kV20 dc20 pm20 an20 cd20 ct20), sl20⟩) (c20 : PySem.W.codeIn K cd20 "_law_less" = true) (k20 : PySem.W.keepIn K (.ref f20) = true)
    {f21 : Addr} {od21 an21 : Option Addr} {sl21 : Array (Option Value)} {oc21 kV21 dc21 pm21 cd21 ct21 : Value}
    (a21 : PySem.W.nsIn K mainGlobals "_law_is_ratio" = some (some (.ref f21))) (l21 : K.lookup f21 = some ⟨oc21, od21, .func (PySem.W.fnOf "_law_is_ratio" "_law_is_ratio" (defArgs (topS 21)) (defBody (topS 21)) (defScope (topS 21)) .none kV21 dc21 pm21 an21 cd21 ct21), sl21⟩) (c21 : PySem.W.codeIn K cd21 "_law_is_ratio" = true) (k21 : PySem.W.keepIn K (.ref f21) = true)
    {f22 : Addr} {od22 an22 : Option Addr} {sl22 : Array (Option Value)} {oc22 kV22 dc22 pm22 cd22 ct22 : Value}
    (a22 : PySem.W.nsIn K mainGlobals "_law_drawn_ratio" = some (some (.ref f22))) (l22 : K.lookup f22 = some ⟨oc22, od22, .func (PySem.W.fnOf "_law_drawn_ratio" "_law_drawn_ratio" (defArgs (topS 22)) (defBody (topS 22)) (defScope (topS 22)) .none kV22 dc22 pm22 an22 cd22 ct22), sl22⟩) (c22 : PySem.W.codeIn K cd22 "_law_drawn_ratio" = true) (k22 : PySem.W.keepIn K (.ref f22) = true)
    {f23 : Addr} {od23 an23 : Option Addr} {sl23 : Array (Option Value)} {oc23 kV23 dc23 pm23 cd23 ct23 : Value}
    (a23 : PySem.W.nsIn K mainGlobals "_law_far" = some (some (.ref f23))) (l23 : K.lookup f23 = some ⟨oc23, od23, .func (PySem.W.fnOf "_law_far" "_law_far" (defArgs (topS 23)) (defBody (topS 23)) (defScope (topS 23)) .none kV23 dc23 pm23 an23 cd23 ct23), sl23⟩) (c23 : PySem.W.codeIn K cd23 "_law_far" = true) (k23 : PySem.W.keepIn K (.ref f23) = true)
    {f24 : Addr} {od24 an24 : Option Addr} {sl24 : Array (Option Value)} {oc24 kV24 dc24 pm24 cd24 ct24 : Value}
    (a24 : PySem.W.nsIn K mainGlobals "_law_is_truth" = some (some (.ref f24))) (l24 : K.lookup f24 = some ⟨oc24, od24, .func (PySem.W.fnOf "_law_is_truth" "_law_is_truth" (defArgs (topS 24)) (defBody (topS 24)) (defScope (topS 24)) .none kV24 dc24 pm24 an24 cd24 ct24), sl24⟩) (c24 : PySem.W.codeIn K cd24 "_law_is_truth" = true) (k24 : PySem.W.keepIn K (.ref f24) = true)
    {f25 : Addr} {od25 an25 : Option Addr} {sl25 : Array (Option Value)} {oc25 kV25 dc25 pm25 cd25 ct25 : Value}
    (a25 : PySem.W.nsIn K mainGlobals "_law_right" = some (some (.ref f25))) (l25 : K.lookup f25 = some ⟨oc25, od25, .func (PySem.W.fnOf "_law_right" "_law_right" (defArgs (topS 25)) (defBody (topS 25)) (defScope (topS 25)) .none kV25 dc25 pm25 an25 cd25 ct25), sl25⟩) (c25 : PySem.W.codeIn K cd25 "_law_right" = true) (k25 : PySem.W.keepIn K (.ref f25) = true)
    {f26 : Addr} {od26 an26 : Option Addr} {sl26 : Array (Option Value)} {oc26 kV26 dc26 pm26 cd26 ct26 : Value}
    (a26 : PySem.W.nsIn K mainGlobals "law" = some (some (.ref f26))) (l26 : K.lookup f26 = some ⟨oc26, od26, .func (PySem.W.fnOf "law" "law" (defArgs (topS 26)) (defBody (topS 26)) (defScope (topS 26)) .none kV26 dc26 pm26 an26 cd26 ct26), sl26⟩) (c26 : PySem.W.codeIn K cd26 "law" = true) (k26 : PySem.W.keepIn K (.ref f26) = true)
    (z_abs : PySem.W.nsIn K mainGlobals "abs" = some none)
    (z_bool : PySem.W.nsIn K mainGlobals "bool" = some none)
    (z_int : PySem.W.nsIn K mainGlobals "int" = some none)
    (z_isinstance : PySem.W.nsIn K mainGlobals "isinstance" = some none)
    (z_len : PySem.W.nsIn K mainGlobals "len" = some none)
    (z_max : PySem.W.nsIn K mainGlobals "max" = some none)
    (z_min : PySem.W.nsIn K mainGlobals "min" = some none)
    (z_range : PySem.W.nsIn K mainGlobals "range" = some none)
    {tk7 : Tok} (e7 : PySem.W.nsIn K mainGlobals "TOO_GREAT" = some (some (.int 1000000000000000000000000000000000000000000000000000000000000000000000000000000000000000000000000000000000000000000000000000000000000000000000000000000000000000000000000000000000000000000000000000000000000000000000000000000000000000000000000000000000000000000000000000000000000000000000000000000000000 tk7)))
    {tk8 : Tok} (e8 : PySem.W.nsIn K mainGlobals "FIGURES_AT_ONCE" = some (some (.int 60 tk8)))
    {tk9 : Tok} (e9 : PySem.W.nsIn K mainGlobals "ONE_BEYOND" = some (some (.int 1000000000000000000000000000000000000000000000000000000000000 tk9)))
    {f1 : Addr} (a1 : PySem.W.nsIn K mainGlobals "Wrong" = some (some (.ref f1)))
    {f2 : Addr} (a2 : PySem.W.nsIn K mainGlobals "NoNumber" = some (some (.ref f2)))
    {f3 : Addr} (a3 : PySem.W.nsIn K mainGlobals "NoRatio" = some (some (.ref f3)))
    {f10 : Addr} (a10 : PySem.W.nsIn K mainGlobals "Ratio" = some (some (.ref f10)))
    (pg10 : PySem.W.plainGet K f10 Str.empty = true) (hd10 : PySem.W.hasDictIn K f10 = true) (po10 : PySem.W.plainOver K f10 = true) (sa10 : PySem.W.findIn K (.ref f10) "__setattr__" = some (some (.builtin "object.__setattr__"))) (mk10 : PySem.W.makesIn K f10 = true) (kc10 : PySem.W.keepIn K (.ref f10) = true)
    (na10_top : PySem.W.findIn K (.ref f10) "top" = some none)
    (na10_bottom : PySem.W.findIn K (.ref f10) "bottom" = some none)
    {f27 : Addr} {od27 an27 : Option Addr} {sl27 : Array (Option Value)} {oc27 kV27 dc27 pm27 cd27 ct27 : Value}
    (a27 : PySem.W.findIn K (.ref f10) "__init__" = some (some (.ref f27))) (i27 : PySem.W.isFn K (.ref f27) = true)
    {DT27 nd27 : Nat} {ocd27 : Value} {odd27 : Option Addr} {sld27 : Array (Option Value)} {td27_0 : Tok}
    (l27 : K.lookup f27 = some ⟨oc27, od27, .func (PySem.W.fnOf "__init__" "Ratio.__init__" (defArgs (inClass (topS 10) 0)) (defBody (inClass (topS 10) 0)) (defScope (inClass (topS 10) 0)) (.ref DT27) kV27 dc27 pm27 an27 cd27 ct27), sl27⟩) (c27 : PySem.W.codeIn K cd27 "Ratio.__init__" = true) (k27 : PySem.W.keepIn K (.ref f27) = true)
    (dt27 : K.lookup DT27 = some ⟨ocd27, odd27, .seq #[.int 1 td27_0] nd27, sld27⟩)
    {f28 : Addr} {od28 an28 : Option Addr} {sl28 : Array (Option Value)} {oc28 kV28 dc28 pm28 cd28 ct28 : Value}
    (a28 : PySem.W.findIn K (.ref f10) "plus" = some (some (.ref f28))) (i28 : PySem.W.isFn K (.ref f28) = true)
    (l28 : K.lookup f28 = some ⟨oc28, od28, .func (PySem.W.fnOf "plus" "Ratio.plus" (defArgs (inClass (topS 10) 4)) (defBody (inClass (topS 10) 4)) (defScope (inClass (topS 10) 4)) .none kV28 dc28 pm28 an28 cd28 ct28), sl28⟩) (c28 : PySem.W.codeIn K cd28 "Ratio.plus" = true) (k28 : PySem.W.keepIn K (.ref f28) = true)
    {f29 : Addr} {od29 an29 : Option Addr} {sl29 : Array (Option Value)} {oc29 kV29 dc29 pm29 cd29 ct29 : Value}
    (a29 : PySem.W.findIn K (.ref f10) "times" = some (some (.ref f29))) (i29 : PySem.W.isFn K (.ref f29) = true)
    (l29 : K.lookup f29 = some ⟨oc29, od29, .func (PySem.W.fnOf "times" "Ratio.times" (defArgs (inClass (topS 10) 5)) (defBody (inClass (topS 10) 5)) (defScope (inClass (topS 10) 5)) .none kV29 dc29 pm29 an29 cd29 ct29), sl29⟩) (c29 : PySem.W.codeIn K cd29 "Ratio.times" = true) (k29 : PySem.W.keepIn K (.ref f29) = true)
    {f30 : Addr} {od30 an30 : Option Addr} {sl30 : Array (Option Value)} {oc30 kV30 dc30 pm30 cd30 ct30 : Value}
    (a30 : PySem.W.findIn K (.ref f10) "is_less" = some (some (.ref f30))) (i30 : PySem.W.isFn K (.ref f30) = true)
    (l30 : K.lookup f30 = some ⟨oc30, od30, .func (PySem.W.fnOf "is_less" "Ratio.is_less" (defArgs (inClass (topS 10) 6)) (defBody (inClass (topS 10) 6)) (defScope (inClass (topS 10) 6)) .none kV30 dc30 pm30 an30 cd30 ct30), sl30⟩) (c30 : PySem.W.codeIn K cd30 "Ratio.is_less" = true) (k30 : PySem.W.keepIn K (.ref f30) = true)
    : ∃ fd : FuncData, (∀ (s : Shared) (v : Value), BindsTo s fd ⟨[v], []⟩ [("_law_script", v)]) ∧ ∀ base : Heap, K.In base → base.Ns mainGlobals mg → FnOk l.prog w K mg base CX0 10 fa fd ["_law_script"] (spLaw K) := by
  have e := hfa.symm.trans (PySem.W.mg_of X G a26)
  cases e
  let A : Nat → Addr := fun i => ([0, f1, f2, f3, 0, f5, 0, 0, 0, 0, f10, f11, f12, f13, 0, 0, f16, f17, f18, f19, f20, f21, f22, f23, f24, f25, fa, f27, f28, f29, f30] : List Addr).getD i 0
  let FD : Nat → FuncData := fun i => ([PySem.W.fnOf "law" "law" (defArgs (topS 26)) (defBody (topS 26)) (defScope (topS 26)) .none kV26 dc26 pm26 an26 cd26 ct26, PySem.W.fnOf "law" "law" (defArgs (topS 26)) (defBody (topS 26)) (defScope (topS 26)) .none kV26 dc26 pm26 an26 cd26 ct26, PySem.W.fnOf "law" "law" (defArgs (topS 26)) (defBody (topS 26)) (defScope (topS 26)) .none kV26 dc26 pm26 an26 cd26 ct26, PySem.W.fnOf "law" "law" (defArgs (topS 26)) (defBody (topS 26)) (defScope (topS 26)) .none kV26 dc26 pm26 an26 cd26 ct26, PySem.W.fnOf "law" "law" (defArgs (topS 26)) (defBody (topS 26)) (defScope (topS 26)) .none kV26 dc26 pm26 an26 cd26 ct26, PySem.W.fnOf "is_whole" "is_whole" (defArgs (topS 5)) (defBody (topS 5)) (defScope (topS 5)) .none kV5 dc5 pm5 an5 cd5 ct5, PySem.W.fnOf "law" "law" (defArgs (topS 26)) (defBody (topS 26)) (defScope (topS 26)) .none kV26 dc26 pm26 an26 cd26 ct26, PySem.W.fnOf "law" "law" (defArgs (topS 26)) (defBody (topS 26)) (defScope (topS 26)) .none kV26 dc26 pm26 an26 cd26 ct26, PySem.W.fnOf "law" "law" (defArgs (topS 26)) (defBody (topS 26)) (defScope (topS 26)) .none kV26 dc26 pm26 an26 cd26 ct26, PySem.W.fnOf "law" "law" (defArgs (topS 26)) (defBody (topS 26)) (defScope (topS 26)) .none kV26 dc26 pm26 an26 cd26 ct26, PySem.W.fnOf "law" "law" (defArgs (topS 26)) (defBody (topS 26)) (defScope (topS 26)) .none kV26 dc26 pm26 an26 cd26 ct26, PySem.W.fnOf "ratio_of" "ratio_of" (defArgs (topS 11)) (defBody (topS 11)) (defScope (topS 11)) .none kV11 dc11 pm11 an11 cd11 ct11, PySem.W.fnOf "lowest" "lowest" (defArgs (topS 12)) (defBody (topS 12)) (defScope (topS 12)) .none kV12 dc12 pm12 an12 cd12 ct12, PySem.W.fnOf "check_figures" "check_figures" (defArgs (topS 13)) (defBody (topS 13)) (defScope (topS 13)) .none kV13 dc13 pm13 an13 cd13 ct13, PySem.W.fnOf "law" "law" (defArgs (topS 26)) (defBody (topS 26)) (defScope (topS 26)) .none kV26 dc26 pm26 an26 cd26 ct26, PySem.W.fnOf "law" "law" (defArgs (topS 26)) (defBody (topS 26)) (defScope (topS 26)) .none kV26 dc26 pm26 an26 cd26 ct26, PySem.W.fnOf "_law_purse" "_law_purse" (defArgs (topS 16)) (defBody (topS 16)) (defScope (topS 16)) .none kV16 dc16 pm16 an16 cd16 ct16, PySem.W.fnOf "_law_take" "_law_take" (defArgs (topS 17)) (defBody (topS 17)) (defScope (topS 17)) .none kV17 dc17 pm17 an17 cd17 ct17, PySem.W.fnOf "_law_low" "_law_low" (defArgs (topS 18)) (defBody (topS 18)) (defScope (topS 18)) .none kV18 dc18 pm18 an18 cd18 ct18, PySem.W.fnOf "_law_plus" "_law_plus" (defArgs (topS 19)) (defBody (topS 19)) (defScope (topS 19)) .none kV19 dc19 pm19 an19 cd19 ct19, PySem.W.fnOf "_law_less" "_law_less" (defArgs (topS 20)) (defBody (topS 20)) (defScope (topS 20)) .none kV20 dc20 pm20 an20 cd20 ct20, PySem.W.fnOf "_law_is_ratio" "_law_is_ratio" (defArgs (topS 21)) (defBody (topS 21)) (defScope (topS 21)) .none kV21 dc21 pm21 an21 cd21 ct21, PySem.W.fnOf "_law_drawn_ratio" "_law_drawn_ratio" (defArgs (topS 22)) (defBody (topS 22)) (defScope (topS 22)) .none kV22 dc22 pm22 an22 cd22 ct22, PySem.W.fnOf "_law_far" "_law_far" (defArgs (topS 23)) (defBody (topS 23)) (defScope (topS 23)) .none kV23 dc23 pm23 an23 cd23 ct23, PySem.W.fnOf "_law_is_truth" "_law_is_truth" (defArgs (topS 24)) (defBody (topS 24)) (defScope (topS 24)) .none kV24 dc24 pm24 an24 cd24 ct24, PySem.W.fnOf "_law_right" "_law_right" (defArgs (topS 25)) (defBody (topS 25)) (defScope (topS 25)) .none kV25 dc25 pm25 an25 cd25 ct25, PySem.W.fnOf "law" "law" (defArgs (topS 26)) (defBody (topS 26)) (defScope (topS 26)) .none kV26 dc26 pm26 an26 cd26 ct26, PySem.W.fnOf "__init__" "Ratio.__init__" (defArgs (inClass (topS 10) 0)) (defBody (inClass (topS 10) 0)) (defScope (inClass (topS 10) 0)) (.ref DT27) kV27 dc27 pm27 an27 cd27 ct27, PySem.W.fnOf "plus" "Ratio.plus" (defArgs (inClass (topS 10) 4)) (defBody (inClass (topS 10) 4)) (defScope (inClass (topS 10) 4)) .none kV28 dc28 pm28 an28 cd28 ct28, PySem.W.fnOf "times" "Ratio.times" (defArgs (inClass (topS 10) 5)) (defBody (inClass (topS 10) 5)) (defScope (inClass (topS 10) 5)) .none kV29 dc29 pm29 an29 cd29 ct29, PySem.W.fnOf "is_less" "Ratio.is_less" (defArgs (inClass (topS 10) 6)) (defBody (inClass (topS 10) 6)) (defScope (inClass (topS 10) 6)) .none kV30 dc30 pm30 an30 cd30 ct30] : List FuncData).getD i (PySem.W.fnOf "law" "law" (defArgs (topS 26)) (defBody (topS 26)) (defScope (topS 26)) .none kV26 dc26 pm26 an26 cd26 ct26)
  let TK : Nat → Tok := fun i => ([0, 0, 0, 0, 0, 0, 0, tk7, tk8, tk9] : List Tok).getD i 0
  have T : TX K mg A FD TK := {
    f_is_whole := fun_mk (st := topS 5) l5 c5 k5
    b_is_whole := (fun_mk (st := topS 5) l5 c5 k5).binds (ps := ["thing"]) fun _ _ _ _ _ _ us hl => match us, hl with | [_], _ => rfl
    g_is_whole := PySem.W.mg_of X G a5
    f_ratio_of := fun_mk (st := topS 11) l11 c11 k11
    b_ratio_of := (fun_mk (st := topS 11) l11 c11 k11).binds (ps := ["top", "bottom"]) fun _ _ _ _ _ _ us hl => match us, hl with | [_, _], _ => rfl
    g_ratio_of := PySem.W.mg_of X G a11
    f_lowest := fun_mk (st := topS 12) l12 c12 k12
    b_lowest := (fun_mk (st := topS 12) l12 c12 k12).binds (ps := ["top", "bottom"]) fun _ _ _ _ _ _ us hl => match us, hl with | [_, _], _ => rfl
    g_lowest := PySem.W.mg_of X G a12
    f_check_figures := fun_mk (st := topS 13) l13 c13 k13
    b_check_figures := (fun_mk (st := topS 13) l13 c13 k13).binds (ps := ["number"]) fun _ _ _ _ _ _ us hl => match us, hl with | [_], _ => rfl
    g_check_figures := PySem.W.mg_of X G a13
    f_l_purse := fun_mk (st := topS 16) l16 c16 k16
    b_l_purse := (fun_mk (st := topS 16) l16 c16 k16).binds (ps := ["_law_script", "_law_at"]) fun _ _ _ _ _ _ us hl => match us, hl with | [_, _], _ => rfl
    g_l_purse := PySem.W.mg_of X G a16
    f_l_take := fun_mk (st := topS 17) l17 c17 k17
    b_l_take := (fun_mk (st := topS 17) l17 c17 k17).binds (ps := ["_law_purse_here", "_law_many"]) fun _ _ _ _ _ _ us hl => match us, hl with | [_, _], _ => rfl
    g_l_take := PySem.W.mg_of X G a17
    f_l_low := fun_mk (st := topS 18) l18 c18 k18
    b_l_low := (fun_mk (st := topS 18) l18 c18 k18).binds (ps := ["_law_upper", "_law_lower"]) fun _ _ _ _ _ _ us hl => match us, hl with | [_, _], _ => rfl
    g_l_low := PySem.W.mg_of X G a18
    f_l_plus := fun_mk (st := topS 19) l19 c19 k19
    b_l_plus := (fun_mk (st := topS 19) l19 c19 k19).binds (ps := ["_law_one", "_law_other"]) fun _ _ _ _ _ _ us hl => match us, hl with | [_, _], _ => rfl
    g_l_plus := PySem.W.mg_of X G a19
    f_l_less := fun_mk (st := topS 20) l20 c20 k20
    b_l_less := (fun_mk (st := topS 20) l20 c20 k20).binds (ps := ["_law_one", "_law_other"]) fun _ _ _ _ _ _ us hl => match us, hl with | [_, _], _ => rfl
    g_l_less := PySem.W.mg_of X G a20
    f_l_is_ratio := fun_mk (st := topS 21) l21 c21 k21
    b_l_is_ratio := (fun_mk (st := topS 21) l21 c21 k21).binds (ps := ["_law_told", "_law_due"]) fun _ _ _ _ _ _ us hl => match us, hl with | [_, _], _ => rfl
    g_l_is_ratio := PySem.W.mg_of X G a21
    f_l_drawn_ratio := fun_mk (st := topS 22) l22 c22 k22
    b_l_drawn_ratio := (fun_mk (st := topS 22) l22 c22 k22).binds (ps := ["_law_purse_here"]) fun _ _ _ _ _ _ us hl => match us, hl with | [_], _ => rfl
    g_l_drawn_ratio := PySem.W.mg_of X G a22
    f_l_far := fun_mk (st := topS 23) l23 c23 k23
    b_l_far := (fun_mk (st := topS 23) l23 c23 k23).binds (ps := ["_law_purse_here"]) fun _ _ _ _ _ _ us hl => match us, hl with | [_], _ => rfl
    g_l_far := PySem.W.mg_of X G a23
    f_l_is_truth := fun_mk (st := topS 24) l24 c24 k24
    b_l_is_truth := (fun_mk (st := topS 24) l24 c24 k24).binds (ps := ["_law_told", "_law_due"]) fun _ _ _ _ _ _ us hl => match us, hl with | [_, _], _ => rfl
    g_l_is_truth := PySem.W.mg_of X G a24
    f_l_right := fun_mk (st := topS 25) l25 c25 k25
    b_l_right := (fun_mk (st := topS 25) l25 c25 k25).binds (ps := ["_law_one", "_law_other"]) fun _ _ _ _ _ _ us hl => match us, hl with | [_, _], _ => rfl
    g_l_right := PySem.W.mg_of X G a25
    f_law := fun_mk (st := topS 26) l26 c26 k26
    b_law := (fun_mk (st := topS 26) l26 c26 k26).binds (ps := ["_law_script"]) fun _ _ _ _ _ _ us hl => match us, hl with | [_], _ => rfl
    g_law := PySem.W.mg_of X G a26
    m_abs := PySem.W.mg_none_of X G z_abs
    m_bool := PySem.W.mg_none_of X G z_bool
    m_int := PySem.W.mg_none_of X G z_int
    m_isinstance := PySem.W.mg_none_of X G z_isinstance
    m_len := PySem.W.mg_none_of X G z_len
    m_max := PySem.W.mg_none_of X G z_max
    m_min := PySem.W.mg_none_of X G z_min
    m_range := PySem.W.mg_none_of X G z_range
    c_TOO_GREAT := PySem.W.mg_of X G e7
    c_FIGURES_AT_ONCE := PySem.W.mg_of X G e8
    c_ONE_BEYOND := PySem.W.mg_of X G e9
    k_Wrong := PySem.W.mg_of X G a1
    k_NoNumber := PySem.W.mg_of X G a2
    k_NoRatio := PySem.W.mg_of X G a3
    k_Ratio := PySem.W.mg_of X G a10
    cl_Ratio := ⟨pg10, hd10, po10, sa10⟩
    n_Ratio_top := na10_top
    n_Ratio_bottom := na10_bottom
    f_Ratio_init := ⟨⟨oc27, od27, .ref DT27, kV27, dc27, pm27, an27, cd27, ct27, sl27, rfl, l27, c27, .inr ⟨by simp, DT27, _, [_], nd27, rfl, dt27, rfl, (.cons ⟨_, rfl⟩ .nil)⟩, .inl rfl⟩, k27⟩
    M_Ratio := ⟨mk10, a27, i27, kc10⟩
    f_Ratio_plus := fun_mk (st := inClass (topS 10) 4) l28 c28 k28
    b_Ratio_plus := (fun_mk (st := inClass (topS 10) 4) l28 c28 k28).binds (ps := ["self", "other"]) fun _ _ _ _ _ _ us hl => match us, hl with | [_, _], _ => rfl
    M_Ratio_plus := ⟨a28, i28, k28⟩
    f_Ratio_times := fun_mk (st := inClass (topS 10) 5) l29 c29 k29
    b_Ratio_times := (fun_mk (st := inClass (topS 10) 5) l29 c29 k29).binds (ps := ["self", "other"]) fun _ _ _ _ _ _ us hl => match us, hl with | [_, _], _ => rfl
    M_Ratio_times := ⟨a29, i29, k29⟩
    f_Ratio_is_less := fun_mk (st := inClass (topS 10) 6) l30 c30 k30
    b_Ratio_is_less := (fun_mk (st := inClass (topS 10) 6) l30 c30 k30).binds (ps := ["self", "other"]) fun _ _ _ _ _ _ us hl => match us, hl with | [_, _], _ => rfl
    M_Ratio_is_less := ⟨a30, i30, k30⟩ }
  exact ⟨FD 26, fun s v => .of_eq rfl, fun base _ _ => ok_law T⟩
end K32
open PySem PySem.W PyProof.Rows
set_option maxHeartbeats 0 in
theorem PySem.Challenge.cw_blocksearch_k32_ratios_reckoned_holds : PySem.Challenge.rw_blocksearch_k32_ratios_reckoned.Holds := by
  w_on; o_law; k_head; (case hw => w_witness2)
  k_fill
  refine L2.walk_of (l := PySem.Challenge.rw_blocksearch_k32_ratios_reckoned) (n := 63) (k := 10) (x := "_law_script") (CX := fun _ => L2.CX0) (sp := fun w => K32.spLaw _) rfl (by decide) rfl ⟨rfl, by decide, by decide⟩ (fun w h Y => PySem.W.kIn_of Y) ?F (fun _ _ a ns hl _ hS => ⟨a, ns, rfl, hS, hl, fun _ => rfl⟩) (fun _ _ _ _ _ h => h)
  case F =>
    intro w mg fa h KX G hmg
    refine' K32.all_mk KX G hmg ?a5 ?l5 ?c5 ?k5 ?a11 ?l11 ?c11 ?k11 ?a12 ?l12 ?c12 ?k12 ?a13 ?l13 ?c13 ?k13 ?a16 ?l16 ?c16 ?k16 ?a17 ?l17 ?c17 ?k17 ?a18 ?l18 ?c18 ?k18 ?a19 ?l19 ?c19 ?k19 ?a20 ?l20 ?c20 ?k20 ?a21 ?l21 ?c21 ?k21 ?a22 ?l22 ?c22 ?k22 ?a23 ?l23 ?c23 ?k23 ?a24 ?l24 ?c24 ?k24 ?a25 ?l25 ?c25 ?k25 ?a26 ?l26 ?c26 ?k26 ?z_abs ?z_bool ?z_int ?z_isinstance ?z_len ?z_max ?z_min ?z_range ?e7 ?e8 ?e9 ?a1 ?a2 ?a3 ?a10 ?pg10 ?hd10 ?po10 ?sa10 ?mk10 ?kc10 ?na10_top ?na10_bottom ?a27 ?i27 ?l27 ?c27 ?k27 ?dt27 ?a28 ?i28 ?l28 ?c28 ?k28 ?a29 ?i29 ?l29 ?c29 ?k29 ?a30 ?i30 ?l30 ?c30 ?k30
    (case a5 => k_is)
    (case l5 => k_is)
    (case c5 => k_is)
    (case k5 => k_is)
    (case a11 => k_is)
    (case l11 => k_is)
    (case c11 => k_is)
    (case k11 => k_is)
    (case a12 => k_is)
    (case l12 => k_is)
    (case c12 => k_is)
    (case k12 => k_is)
    (case a13 => k_is)
    (case l13 => k_is)
    (case c13 => k_is)
    (case k13 => k_is)
    (case a16 => k_is)
    (case l16 => k_is)
    (case c16 => k_is)
    (case k16 => k_is)
    (case a17 => k_is)
    (case l17 => k_is)
    (case c17 => k_is)
    (case k17 => k_is)
    (case a18 => k_is)
    (case l18 => k_is)
    (case c18 => k_is)
    (case k18 => k_is)
    (case a19 => k_is)
    (case l19 => k_is)
    (case c19 => k_is)
    (case k19 => k_is)
    (case a20 => k_is)
    (case l20 => k_is)
    (case c20 => k_is)
    (case k20 => k_is)
    (case a21 => k_is)
    (case l21 => k_is)
    (case c21 => k_is)
    (case k21 => k_is)
    (case a22 => k_is)
    (case l22 => k_is)
    (case c22 => k_is)
    (case k22 => k_is)
    (case a23 => k_is)
    (case l23 => k_is)
    (case c23 => k_is)
    (case k23 => k_is)
    (case a24 => k_is)
    (case l24 => k_is)
    (case c24 => k_is)
    (case k24 => k_is)
    (case a25 => k_is)
    (case l25 => k_is)
    (case c25 => k_is)
    (case k25 => k_is)
    (case a26 => k_is)
    (case l26 => k_is)
    (case c26 => k_is)
    (case k26 => k_is)
    (case z_abs => k_is)
    (case z_bool => k_is)
    (case z_int => k_is)
    (case z_isinstance => k_is)
    (case z_len => k_is)
    (case z_max => k_is)
    (case z_min => k_is)
    (case z_range => k_is)
    (case e7 => k_is)
    (case e8 => k_is)
    (case e9 => k_is)
    (case a1 => k_is)
    (case a2 => k_is)
    (case a3 => k_is)
    (case a10 => k_is)
    (case pg10 => k_is)
    (case hd10 => k_is)
    (case po10 => k_is)
    (case sa10 => k_is)
    (case mk10 => k_is)
    (case kc10 => k_is)
    (case na10_top => k_is)
    (case na10_bottom => k_is)
    (case a27 => k_is)
    (case i27 => k_is)
    (case l27 => k_is)
    (case c27 => k_is)
    (case k27 => k_is)
    (case dt27 => k_is)
    (case a28 => k_is)
    (case i28 => k_is)
    (case l28 => k_is)
    (case c28 => k_is)
    (case k28 => k_is)
    (case a29 => k_is)
    (case i29 => k_is)
    (case l29 => k_is)
    (case c29 => k_is)
    (case k29 => k_is)
    (case a30 => k_is)
    (case i30 => k_is)
    (case l30 => k_is)
    (case c30 => k_is)
    (case k30 => k_is)

