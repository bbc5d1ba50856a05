import PyProof.Rows.All
import Wide.All
import OpenK.AllK
import Wide.FinOn
import HandS.ForMost
import HandS.Defaults
import HandS.IsInst
import HandS.Walk
import HandS.Evl
import HandS.More
import HandS.Wide
import HandS.MakeKw
import HandS.Codes
import HandS.Style
import HandS.OwnEq
import PySem.Challenge.RW_blocksearch_k33_sums_and_greatest
set_option Elab.async false
set_option linter.all false
set_option maxRecDepth 100000
/-! words of my own: the drawn pool, heaps that grow beside it, small facts -/
namespace My
open PySem PySem.Spec PyProof.Rows L2 Evl

/-- the pool at p: three ints, at most c draws mixed so far -/
def Pl (H : Hp) (p : Addr) (c : Nat) : Prop := ∃ (g b : Int) (k : Nat), H p = some (.lst [.int g, .int b, .int (k : Int)]) ∧ 0 ≤ g ∧ 0 ≤ b ∧ b < 1237940039285380274899124224 ∧ k ≤ c
/-- all but p stays -/
def Fx (p : Addr) (H H' : Hp) : Prop := ∀ a o, a ≠ p → H a = some o → H' a = some o
theorem Fx.refl (p : Addr) (H : Hp) : Fx p H H := fun _ _ _ h => h
theorem Fx.trans {p : Addr} {H H1 H2 : Hp} (a : Fx p H H1) (b : Fx p H1 H2) : Fx p H H2 := fun x o n h => b x o n (a x o n h)
theorem Fx.ex {p : Addr} {H H' : Hp} (e : Ex H H') : Fx p H H' := fun a o _ h => e a o h
theorem Fx.upd {p : Addr} {H : Hp} {o : HO} : Fx p H (L2.upd H p o) := fun a u n h => by
  rw [upd_ne n]
  exact h
theorem Pl.mono {H : Hp} {p : Addr} {c c' : Nat} (h : Pl H p c) (l : c ≤ c') : Pl H p c' := by
  obtain ⟨g, b, k, h1, h2, h3, h4, h5⟩ := h
  exact ⟨g, b, k, h1, h2, h3, h4, Nat.le_trans h5 l⟩
theorem Pl.ex {H H' : Hp} {p : Addr} {c : Nat} (h : Pl H p c) (e : Ex H H') : Pl H' p c := by
  obtain ⟨g, b, k, h1, h2⟩ := h
  exact ⟨g, b, k, e _ _ h1, h2⟩
theorem Pl.some {H : Hp} {p : Addr} {c : Nat} (h : Pl H p c) : ∃ xs, H p = some (.lst xs) := by
  obtain ⟨g, b, k, h1, _⟩ := h
  exact ⟨_, h1⟩
/-- what is free behind was free ahead -/
theorem fx_free {p a : Addr} {H H' : Hp} {c : Nat} (f : Fx p H H') (h : Pl H' p c) (e : H' a = none) : H a = none := by
  cases q : H a with
  | none => rfl
  | some o =>
    have n : a ≠ p := fun z => by
      obtain ⟨xs, hx⟩ := h.some
      rw [z, hx] at e
      cases e
    rw [f a o n q] at e
    cases e
/-- a tuple is not the pool -/
theorem Fx.tup {p a : Addr} {H H' : Hp} {xs : List V} {c : Nat} (f : Fx p H H') (hp : Pl H p c) (h : H a = some (.tup xs)) : H' a = some (.tup xs) := by
  obtain ⟨ys, hy⟩ := hp.some
  exact f a _ (ne_of h hy (by intro z; cases z)) h
theorem Fx.sqt {K : PySem.W.Frag} {p a : Addr} {H H' : Hp} {xs : List V} {c : Nat} (f : Fx p H H') (hp : Pl H p c) (h : SqT K H a xs) : SqT K H' a xs := by
  obtain ⟨ys, hy⟩ := hp.some
  rcases h with (h | ⟨o, h⟩) | h
  · exact .inl (.inl (f a _ (ne_of h hy (by intro z; cases z)) h))
  · exact .inl (.inr ⟨o, f a _ (ne_of h hy (by intro z; cases z)) h⟩)
  · exact .inr h
theorem Fx.lst {p a : Addr} {H H' : Hp} {xs : List V} (f : Fx p H H') (n : a ≠ p) (h : H a = some (.lst xs)) : H' a = some (.lst xs) := f a _ n h
theorem ex_upd {H : Hp} {p : Addr} {o : HO} (h : H p = none) : Ex H (L2.upd H p o) := Ex.new h
theorem ret_v {v : V} {H : Hp} {Q : VK} (q : RetV v H Q) : Q v H := q H (Ex.refl H)
theorem sz {n : Nat} (h : n ≤ 100000) : n ≤ sizeLine := sz_of h
theorem natAbs_lt {z : Int} {n : Nat} (h0 : 0 ≤ z) (h : z < (n : Int)) : z.natAbs < n := by omega
/-- a * b ≤ A * B -/
theorem mul_le {a b A B : Int} (h0 : 0 ≤ a) (h1 : a ≤ A) (h2 : 0 ≤ b) (h3 : b ≤ B) : a * b ≤ A * B := Int.mul_le_mul h1 h3 h2 (Int.le_trans h0 h1)
theorem mul_nn {a b : Int} (h0 : 0 ≤ a) (h1 : 0 ≤ b) : 0 ≤ a * b := Int.mul_nonneg h0 h1
/-! the rules with the written part said, for blocks of comprehensions -/
section
variable {X : Cx} {K : PySem.W.Frag}
theorem lenK (h : X.K = K) : CallR X (.builtin "len") (rLenS K) := by subst h; exact call_len_seq
theorem listK (h : X.K = K) : CallR X (.type "list") (rListS K) := by subst h; exact call_list_of
def rTupS (K : PySem.W.Frag) : List V → Hp → VK → Prop := fun xs H Q => ∃ p ys, xs = [.ref p] ∧ ((SqL K H p ys ∧ ∀ l, H l = none → Q (.ref l) (L2.upd H l (.tup ys))) ∨ (SqT K H p ys ∧ Q (.ref p) H))
theorem tupK (h : X.K = K) : CallR X (.type "tuple") (rTupS K) := by subst h; exact call_tuple_of
theorem ixLK (h : X.K = K) : IxR X (rIxL K) := by subst h; exact ix_list
theorem ixTK (h : X.K = K) : IxR X (rIxT K) := by subst h; exact ix_tup
theorem slLK (h : X.K = K) : SlR X (rSlL K) := by subst h; exact sl_list
theorem slTK (h : X.K = K) : SlR X (rSlT K) := by subst h; exact sl_tup
theorem catTK (h : X.K = K) : OpR X (binaryOp .Add) (rCatT K) := by subst h; exact op_catT
theorem inK (h : X.K = K) : OpR X (compareOp .In) (rIn K false) := by subst h; exact op_in_seq
theorem notInK (h : X.K = K) : OpR X (compareOp .NotIn) (rIn K true) := by subst h; exact op_notIn_seq
theorem isiK (h : X.K = K) : CallR X (.builtin "isinstance") (rIsi K) := by subst h; exact call_isi
theorem isiTK (h : X.K = K) : CallR X (.builtin "isinstance") (rIsiT K) := by subst h; exact call_isiT
theorem allK (h : X.K = K) (hc : X.calm = true) : CallR X (.builtin "all") (rAll K) := by subst h; exact cr_all hc
theorem anyK (h : X.K = K) (hc : X.calm = true) : CallR X (.builtin "any") (rAny K) := by subst h; exact cr_any hc
theorem sumK (h : X.K = K) (hc : X.calm = true) : CallR X (.builtin "sum") (rSum K) := by subst h; exact cr_sum hc
theorem maxK (h : X.K = K) (hc : X.calm = true) : CallR X (.builtin "max") (rMax K) := by subst h; exact cr_max hc
theorem minK (h : X.K = K) (hc : X.calm = true) : CallR X (.builtin "min") (rMin K) := by subst h; exact cr_min hc
theorem fldK {e : Expr} {f : Str} {pos : Pos} {ta : TE} (h : X.K = K) (he : PE X e ta) (hb : attributeBase e f X.env (eval e X.env) = eval e X.env) : PE X (.Attribute e f pos) (tFld K ta f) := by subst h; exact pe_fld he hb
theorem tupGK {es : List Expr} {k : Nat} {t : TGs} {n : Nat} {pos : Pos} (h : X.K = K) (hc : X.calm = true) (hg : PGs X es t) (hn : (assignEach es X.env).length = n := by rfl) (hst : (assignEach es X.env).findIdx? (·.1) = none := by rfl) : PG X (.Tuple es k pos) (gTup K n t) := by subst h; exact pg_tup hc hg hn hst
theorem eqDK (h : X.K = K) (hu : X.A.units + 64 < cLine) : OpR X (compareOp .Eq) (rEqD K) := by subst h; exact op_eqD hu
theorem neDK (h : X.K = K) (hu : X.A.units + 64 < cLine) : OpR X (compareOp .NotEq) (rNeD K) := by subst h; exact op_neD hu
theorem indexK (h : X.K = K) : MtR X "list.index" (rIndex K) := by subst h; exact mt_index
theorem piOr {tg e : Expr} {w1 w2 : TI} (h1 : PI X tg e w1) (h2 : PI X tg e w2) : PI X tg e (fun σ H R => w1 σ H R ∨ w2 σ H R) := ⟨fun pins s σ H R I h => h.elim (fun h => h1.run pins s σ H R I h) (fun h => h2.run pins s σ H R I h)⟩
theorem piLK {tg l : Expr} {tl : TE} (h : X.K = K) (hl : PE X l tl) : PI X tg l (iList K tl) := by subst h; exact pi_list hl
theorem piTK {tg l : Expr} {tl : TE} (h : X.K = K) (hl : PE X l tl) : PI X tg l (iTup K tl) := by subst h; exact pi_tup hl
end
end My
namespace K33
open PySem PySem.Spec PyProof.Rows L2 Evl My
def topS (i : Nat) : Stmt := PySem.Challenge.pw_blocksearch_k33_sums_and_greatest.main.body.getD i (.Pass ⟨0, 0, 0, 0⟩)
abbrev N_wall : List Str := ["k"]
theorem sc_wall : FnScope N_wall ["k"] (defScope (topS 0)) := ⟨rfl, rfl, rfl, by decide +kernel, rfl, by decide +kernel, by decide +kernel⟩
abbrev N_own_copy : List Str := ["thing", "one"]
theorem sc_own_copy : FnScope N_own_copy ["thing"] (defScope (topS 2)) := ⟨rfl, rfl, rfl, by decide +kernel, rfl, by decide +kernel, by decide +kernel⟩
abbrev N_is_whole : List Str := ["thing"]
theorem sc_is_whole : FnScope N_is_whole ["thing"] (defScope (topS 8)) := ⟨rfl, rfl, rfl, by decide +kernel, rfl, by decide +kernel, by decide +kernel⟩
abbrev N_total : List Str := ["ratios", "together", "ratio"]
theorem sc_total : FnScope N_total ["ratios"] (defScope (topS 14)) := ⟨rfl, rfl, rfl, by decide +kernel, rfl, by decide +kernel, by decide +kernel⟩
abbrev N_greatest : List Str := ["ratios", "default", "most", "ratio"]
theorem sc_greatest : FnScope N_greatest ["ratios", "default"] (defScope (topS 15)) := ⟨rfl, rfl, rfl, by decide +kernel, rfl, by decide +kernel, by decide +kernel⟩
abbrev N_ratio_of : List Str := ["top", "bottom", "ratio"]
theorem sc_ratio_of : FnScope N_ratio_of ["top", "bottom"] (defScope (topS 16)) := ⟨rfl, rfl, rfl, by decide +kernel, rfl, by decide +kernel, by decide +kernel⟩
abbrev N_lowest : List Str := ["top", "bottom", "divisor", "rest"]
theorem sc_lowest : FnScope N_lowest ["top", "bottom"] (defScope (topS 17)) := ⟨rfl, rfl, rfl, by decide +kernel, rfl, by decide +kernel, by decide +kernel⟩
abbrev N_check_figures : List Str := ["number"]
theorem sc_check_figures : FnScope N_check_figures ["number"] (defScope (topS 18)) := ⟨rfl, rfl, rfl, by decide +kernel, rfl, by decide +kernel, by decide +kernel⟩
abbrev N_l_purse : List Str := ["_law_script", "_law_at", "_law_cell", "_law_great"]
theorem sc_l_purse : FnScope N_l_purse ["_law_script", "_law_at"] (defScope (topS 21)) := ⟨rfl, rfl, rfl, by decide +kernel, rfl, by decide +kernel, by decide +kernel⟩
abbrev N_l_take : List Str := ["_law_purse_here", "_law_many", "_law_digit", "_law_one"]
theorem sc_l_take : FnScope N_l_take ["_law_purse_here", "_law_many"] (defScope (topS 22)) := ⟨rfl, rfl, rfl, by decide +kernel, rfl, by decide +kernel, by decide +kernel⟩
abbrev N_l_low : List Str := ["_law_upper", "_law_lower", "_law_one", "_law_other"]
theorem sc_l_low : FnScope N_l_low ["_law_upper", "_law_lower"] (defScope (topS 23)) := ⟨rfl, rfl, rfl, by decide +kernel, rfl, by decide +kernel, by decide +kernel⟩
abbrev N_l_plus : List Str := ["_law_one", "_law_other"]
theorem sc_l_plus : FnScope N_l_plus ["_law_one", "_law_other"] (defScope (topS 24)) := ⟨rfl, rfl, rfl, by decide +kernel, rfl, by decide +kernel, by decide +kernel⟩
abbrev N_l_less : List Str := ["_law_one", "_law_other"]
theorem sc_l_less : FnScope N_l_less ["_law_one", "_law_other"] (defScope (topS 25)) := ⟨rfl, rfl, rfl, by decide +kernel, rfl, by decide +kernel, by decide +kernel⟩
abbrev N_l_is_ratio : List Str := ["_law_told", "_law_due", "_law_number"]
theorem sc_l_is_ratio : FnScope N_l_is_ratio ["_law_told", "_law_due"] (defScope (topS 26)) := ⟨rfl, rfl, rfl, by decide +kernel, rfl, by decide +kernel, by decide +kernel⟩
abbrev N_l_small_ratio : List Str := ["_law_purse_here", "_law_most", "_law_sign"]
theorem sc_l_small_ratio : FnScope N_l_small_ratio ["_law_purse_here"] (defScope (topS 27)) := ⟨rfl, rfl, rfl, by decide +kernel, rfl, by decide +kernel, by decide +kernel⟩
abbrev N_l_right : List Str := ["_law_pairs", "_law_other", "_law_some", "_law_due", "_law_most", "_law_pair", "_law_top", "_law_bottom", "_law_one"]
theorem sc_l_right : FnScope N_l_right ["_law_pairs", "_law_other"] (defScope (topS 28)) := ⟨rfl, rfl, rfl, by decide +kernel, rfl, by decide +kernel, by decide +kernel⟩
abbrev N_law : List Str := ["_law_script", "_law_at", "_law_purse_here", "_law_many", "_law_other", "_law_pairs", "_law_turn", "_law_nth"]
theorem sc_law : FnScope N_law ["_law_script"] (defScope (topS 29)) := ⟨rfl, rfl, rfl, by decide +kernel, rfl, by decide +kernel, by decide +kernel⟩
abbrev N_Ratio_init : List Str := ["self", "top", "bottom"]
theorem sc_Ratio_init : FnScope N_Ratio_init ["self", "top", "bottom"] (defScope (inClass (topS 13) 0)) := ⟨rfl, rfl, rfl, by decide +kernel, rfl, by decide +kernel, by decide +kernel⟩
abbrev N_Ratio_eq : List Str := ["self", "other"]
theorem sc_Ratio_eq : FnScope N_Ratio_eq ["self", "other"] (defScope (inClass (topS 13) 1)) := ⟨rfl, rfl, rfl, by decide +kernel, rfl, by decide +kernel, by decide +kernel⟩
abbrev N_Ratio_plus : List Str := ["self", "other"]
theorem sc_Ratio_plus : FnScope N_Ratio_plus ["self", "other"] (defScope (inClass (topS 13) 4)) := ⟨rfl, rfl, rfl, by decide +kernel, rfl, by decide +kernel, by decide +kernel⟩
abbrev N_Ratio_is_less : List Str := ["self", "other"]
theorem sc_Ratio_is_less : FnScope N_Ratio_is_less ["self", "other"] (defScope (inClass (topS 13) 6)) := ⟨rfl, rfl, rfl, by decide +kernel, rfl, by decide +kernel, by decide +kernel⟩
/-- what the top has left: A the defs' places, FD their data, TK the constants' tokens -/
structure TX (K : PySem.W.Frag) (mg : Str → Option Value) (A : Nat → Addr) (FD : Nat → FuncData) (TK : Nat → Tok) : Prop where
  f_wall : Fun K "_wall" "_wall" (topS 0) (A 0) (FD 0)
  b_wall : Binds K (FD 0) ["k"] []
  g_wall : mg "_wall" = some (.ref (A 0))
  f_own_copy : Fun K "own_copy" "own_copy" (topS 2) (A 2) (FD 2)
  b_own_copy : Binds K (FD 2) ["thing"] []
  g_own_copy : mg "own_copy" = some (.ref (A 2))
  f_is_whole : Fun K "is_whole" "is_whole" (topS 8) (A 8) (FD 8)
  b_is_whole : Binds K (FD 8) ["thing"] []
  g_is_whole : mg "is_whole" = some (.ref (A 8))
  f_total : Fun K "total" "total" (topS 14) (A 14) (FD 14)
  b_total : Binds K (FD 14) ["ratios"] []
  g_total : mg "total" = some (.ref (A 14))
  f_greatest : FunD K "greatest" "greatest" (defArgs (topS 15)) (defBody (topS 15)) (defScope (topS 15)) [] [("default", .non)] (A 15) (FD 15)
  g_greatest : mg "greatest" = some (.ref (A 15))
  f_ratio_of : Fun K "ratio_of" "ratio_of" (topS 16) (A 16) (FD 16)
  b_ratio_of : Binds K (FD 16) ["top", "bottom"] []
  g_ratio_of : mg "ratio_of" = some (.ref (A 16))
  f_lowest : Fun K "lowest" "lowest" (topS 17) (A 17) (FD 17)
  b_lowest : Binds K (FD 17) ["top", "bottom"] []
  g_lowest : mg "lowest" = some (.ref (A 17))
  f_check_figures : Fun K "check_figures" "check_figures" (topS 18) (A 18) (FD 18)
  b_check_figures : Binds K (FD 18) ["number"] []
  g_check_figures : mg "check_figures" = some (.ref (A 18))
  f_l_purse : Fun K "_law_purse" "_law_purse" (topS 21) (A 21) (FD 21)
  b_l_purse : Binds K (FD 21) ["_law_script", "_law_at"] []
  g_l_purse : mg "_law_purse" = some (.ref (A 21))
  f_l_take : Fun K "_law_take" "_law_take" (topS 22) (A 22) (FD 22)
  b_l_take : Binds K (FD 22) ["_law_purse_here", "_law_many"] []
  g_l_take : mg "_law_take" = some (.ref (A 22))
  f_l_low : Fun K "_law_low" "_law_low" (topS 23) (A 23) (FD 23)
  b_l_low : Binds K (FD 23) ["_law_upper", "_law_lower"] []
  g_l_low : mg "_law_low" = some (.ref (A 23))
  f_l_plus : Fun K "_law_plus" "_law_plus" (topS 24) (A 24) (FD 24)
  b_l_plus : Binds K (FD 24) ["_law_one", "_law_other"] []
  g_l_plus : mg "_law_plus" = some (.ref (A 24))
  f_l_less : Fun K "_law_less" "_law_less" (topS 25) (A 25) (FD 25)
  b_l_less : Binds K (FD 25) ["_law_one", "_law_other"] []
  g_l_less : mg "_law_less" = some (.ref (A 25))
  f_l_is_ratio : Fun K "_law_is_ratio" "_law_is_ratio" (topS 26) (A 26) (FD 26)
  b_l_is_ratio : Binds K (FD 26) ["_law_told", "_law_due"] []
  g_l_is_ratio : mg "_law_is_ratio" = some (.ref (A 26))
  f_l_small_ratio : Fun K "_law_small_ratio" "_law_small_ratio" (topS 27) (A 27) (FD 27)
  b_l_small_ratio : Binds K (FD 27) ["_law_purse_here"] []
  g_l_small_ratio : mg "_law_small_ratio" = some (.ref (A 27))
  f_l_right : Fun K "_law_right" "_law_right" (topS 28) (A 28) (FD 28)
  b_l_right : Binds K (FD 28) ["_law_pairs", "_law_other"] []
  g_l_right : mg "_law_right" = some (.ref (A 28))
  f_law : Fun K "law" "law" (topS 29) (A 29) (FD 29)
  b_law : Binds K (FD 29) ["_law_script"] []
  g_law : mg "law" = some (.ref (A 29))
  m_abs : mg "abs" = none
  m_bool : mg "bool" = none
  m_int : mg "int" = none
  m_isinstance : mg "isinstance" = none
  m_len : mg "len" = none
  m_list : mg "list" = none
  m_max : mg "max" = none
  m_min : mg "min" = none
  m_range : mg "range" = none
  m_tuple : mg "tuple" = none
  c_TOO_GREAT : mg "TOO_GREAT" = some (.int 1000000000000000000000000000000000000000000000000000000000000000000000000000000000000000000000000000000000000000000000000000000000000000000000000000000000000000000000000000000000000000000000000000000000000000000000000000000000000000000000000000000000000000000000000000000000000000000000000000000000000 (TK 10))
  c_FIGURES_AT_ONCE : mg "FIGURES_AT_ONCE" = some (.int 60 (TK 11))
  c_ONE_BEYOND : mg "ONE_BEYOND" = some (.int 1000000000000000000000000000000000000000000000000000000000000 (TK 12))
  k_Wrong : mg "Wrong" = some (.ref (A 4))
  k_NoNumber : mg "NoNumber" = some (.ref (A 5))
  k_NoRatio : mg "NoRatio" = some (.ref (A 6))
  k_Ratio : mg "Ratio" = some (.ref (A 13))
  cl_Ratio : Cls K (A 13)
  n_Ratio_top : NoAttr K (A 13) "top"
  n_Ratio_bottom : NoAttr K (A 13) "bottom"
  f_Ratio_init : FunD K "__init__" "Ratio.__init__" (defArgs (inClass (topS 13) 0)) (defBody (inClass (topS 13) 0)) (defScope (inClass (topS 13) 0)) [.int 1] [] (A 30) (FD 30)
  M_Ratio : Mk K (A 13) (A 30)
  f_Ratio_eq : Fun K "__eq__" "Ratio.__eq__" (inClass (topS 13) 1) (A 31) (FD 31)
  b_Ratio_eq : Binds K (FD 31) ["self", "other"] []
  M_Ratio_eq : Meth K (A 13) "__eq__" (A 31)
  f_Ratio_plus : Fun K "plus" "Ratio.plus" (inClass (topS 13) 4) (A 32) (FD 32)
  b_Ratio_plus : Binds K (FD 32) ["self", "other"] []
  M_Ratio_plus : Meth K (A 13) "plus" (A 32)
  f_Ratio_is_less : Fun K "is_less" "Ratio.is_less" (inClass (topS 13) 6) (A 33) (FD 33)
  b_Ratio_is_less : Binds K (FD 33) ["self", "other"] []
  M_Ratio_is_less : Meth K (A 13) "is_less" (A 33)
  ci : PySem.W.findIn K (.ref (A 13)) "__class__" = some (some (.builtin "object.__class__"))
  cs : PySem.W.specialIn K (.builtin "object.__class__") "__get__" = some (some (.builtin "getset_descriptor.__get__"))
  ct : PySem.W.takesIn K (.builtin "object.__class__") = some true
  cm : PySem.W.mroIn K (A 13) (.type "object") = some true
  kr : PySem.W.kitOne K (.ref (A 13)) (.ref (A 13)) = some true
  kl : PySem.W.kitOne K (.ref (A 13)) (.type "list") = some false
  kt : PySem.W.kitOne K (.ref (A 13)) (.type "tuple") = some false
section
variable {P : Program} {w : World} {K : PySem.W.Frag} {mg : Str → Option Value} {base : Heap} {A : Nat → Addr} {FD : Nat → FuncData} {TK : Nat → Tok}
/-! ### great numbers, fields as targets -/
theorem op_fdivWN {X : Cx} : OpR X (binaryOp .FloorDiv) (rI (fun _ j => j ≠ 0 ∧ j.natAbs.log2 < 9000) fun i j => .int (i.fdiv j)) := opI fun _ _ _ _ _ _ _ hc q => floordiv_int hc.1 q (.inl (PyProof.noPylong_of_log2 hc.2))
theorem op_powW {X : Cx} : OpR X (binaryOp .Pow) (rI (fun i j => 0 ≤ j ∧ j ≤ 1000 ∧ i.natAbs < 2 ^ 10000) fun i j => .int (i ^ j.toNat)) := opI fun i j _ _ _ _ _ hc q => by
  obtain ⟨h1, h2, h3⟩ := hc
  refine pow_int h1 ?_ q
  have hb := PyProof.Rows.intBits_le h3
  have e : (Builtin.Int.intBits i : Int) * j ≤ 10000 * 1000 := Int.mul_le_mul (by omega) h2 h1 (by decide)
  exact Int.le_trans e (by decide)
/-- o.f = .. as a target -/
def gFld (K : PySem.W.Frag) (ta : TE) (f : Str) : TG := fun v σ H Q => ta σ H fun x H2 => ∃ a C dx fs, x = .ref a ∧ H2 a = some (.ins C dx fs) ∧ Cls K C ∧ NoAttr K C f ∧ fs.length < 1000 ∧ Q σ (upd H2 a (.ins C dx (putF f v fs)))
theorem pg_fld {X : Cx} {o : Expr} {ta : TE} {f : Str} {pos : Pos} (ha : PE X o ta) : PG X (.Attribute o f pos) (gFld X.K ta f) := by
  refine ⟨fun pins s σ H v u Q I r h => ?_⟩
  rw [PySem.assign_Attribute]
  refine wpAny_bind (wpAny_holding (thn (ha.run pins s σ H _ I h) fun ov s1 ⟨x, H1, I1, rx, a, C, dx, fs, ex, ea, c, n, l, q⟩ => ?_))
  subst ex
  obtain rfl : ov = Value.ref a := rx
  refine wpAny_bind (wpAny_standAt (wpAny_bind (wpAny_holding (setattr_ok I1 ea c n l r fun s2 I2 => ?_))))
  exact wpAny_release ⟨σ, _, I2, q⟩
theorem lt2 {z : Int} {n m : Nat} (h : z.natAbs < 2 ^ n) (l : n ≤ m) : z.natAbs < 2 ^ m := Nat.lt_of_lt_of_le h (Nat.pow_le_pow_right (by decide) l)
theorem add2 {x y : Int} {n : Nat} (h : x.natAbs < 2 ^ n) (h' : y.natAbs < 2 ^ n) : (x + y).natAbs < 2 ^ (n + 1) := by
  rw [Nat.pow_succ]
  omega
theorem mul2 {x y : Int} {n m : Nat} (h : x.natAbs < 2 ^ n) (h' : y.natAbs < 2 ^ m) : (x * y).natAbs < 2 ^ (n + m) := wide_lt h h'
theorem log9 {z : Int} {n : Nat} (h : z.natAbs < 2 ^ n) (h0 : 0 < n) (l : n ≤ 9000) : z.natAbs.log2 < 9000 := Nat.lt_of_lt_of_le (PySem.Flt.log2_lt_of h0 h) l
theorem cmul2 {x y : Int} {n m : Nat} (h : x.natAbs < 2 ^ n) (h' : y.natAbs < 2 ^ m) (l : n + m ≤ 900000) : CMulW x y := wide_mul (lt2 h (Nat.le_succ n)) (lt2 h' (Nat.le_succ m)) (by omega) (by omega) (by omega)

/-! ### lowest terms -/
def gd (t b : Int) : Int := if b < 0 then -((Nat.gcd t.natAbs b.natAbs : Nat) : Int) else ((Nat.gcd t.natAbs b.natAbs : Nat) : Int)
def lwT (t b : Int) : Int := t.fdiv (gd t b)
def lwB (t b : Int) : Int := b.fdiv (gd t b)
/-- in lowest terms -/
def Nm (t b : Int) : Prop := 0 < b ∧ Nat.gcd t.natAbs b.natAbs = 1
theorem gcd_pos {t b : Int} (h : b ≠ 0) : 0 < Nat.gcd t.natAbs b.natAbs := Nat.gcd_pos_of_pos_right _ (by omega)
theorem gd_ne {t b : Int} (h : b ≠ 0) : gd t b ≠ 0 := by
  have := gcd_pos (t := t) h
  unfold gd
  split <;> omega
theorem gd_abs (t b : Int) : (gd t b).natAbs = Nat.gcd t.natAbs b.natAbs := by
  unfold gd
  split <;> omega
theorem gd_le {t b : Int} {n : Nat} (h : b ≠ 0) (hb : b.natAbs < 2 ^ n) : (gd t b).natAbs < 2 ^ n := by
  rw [gd_abs]
  exact Nat.lt_of_le_of_lt (Nat.gcd_le_right _ (by omega)) hb
theorem gd_dvd_t (t b : Int) : gd t b ∣ t := by
  rw [← Int.natAbs_dvd_natAbs, gd_abs]
  exact Nat.gcd_dvd_left ..
theorem gd_dvd_b (t b : Int) : gd t b ∣ b := by
  rw [← Int.natAbs_dvd_natAbs, gd_abs]
  exact Nat.gcd_dvd_right ..
theorem lw_mul_t {t b : Int} : lwT t b * gd t b = t := by
  unfold lwT
  exact Int.fdiv_mul_cancel (gd_dvd_t t b)
theorem lw_mul_b {t b : Int} : lwB t b * gd t b = b := by
  unfold lwB
  exact Int.fdiv_mul_cancel (gd_dvd_b t b)
theorem abs_le_of_mul {x g y : Int} (h : x * g = y) (hg : g ≠ 0) : x.natAbs ≤ y.natAbs := by
  rw [← h, Int.natAbs_mul]
  exact Nat.le_mul_of_pos_right _ (by omega)
theorem lwT_le {t b : Int} (h : b ≠ 0) : (lwT t b).natAbs ≤ t.natAbs := abs_le_of_mul lw_mul_t (gd_ne h)
theorem lwB_le {t b : Int} (h : b ≠ 0) : (lwB t b).natAbs ≤ b.natAbs := abs_le_of_mul lw_mul_b (gd_ne h)
theorem lw_nm {t b : Int} (h : b ≠ 0) : Nm (lwT t b) (lwB t b) := by
  have ht := lw_mul_t (t := t) (b := b)
  have hb := lw_mul_b (t := t) (b := b)
  have hg := gd_ne (t := t) h
  constructor
  · have p : (0 : Int) < ((Nat.gcd t.natAbs b.natAbs : Nat) : Int) := by have := gcd_pos (t := t) h; omega
    generalize lwB t b = y at hb
    unfold gd at hb
    generalize ((Nat.gcd t.natAbs b.natAbs : Nat) : Int) = g at hb p
    refine Int.lt_of_not_ge fun z => ?_
    have z1 : y * g ≤ 0 := Int.mul_nonpos_of_nonpos_of_nonneg z (Int.le_of_lt p)
    split at hb
    · have : y * -g = -(y * g) := Int.mul_neg ..
      omega
    · omega
  · have e : Nat.gcd t.natAbs b.natAbs = Nat.gcd (lwT t b).natAbs (lwB t b).natAbs * (gd t b).natAbs := by
      rw [← Nat.gcd_mul_right, ← Int.natAbs_mul, ← Int.natAbs_mul, ht, hb]
    rw [gd_abs] at e
    have p := gcd_pos (t := t) h
    exact Nat.eq_of_mul_eq_mul_right p (by rw [← e, Nat.one_mul])
theorem nm_gd {t b : Int} (h : Nm t b) : gd t b = 1 := by
  unfold gd
  rw [h.2, if_neg (by have := h.1; omega)]
  rfl
theorem nm_t {t b : Int} (h : Nm t b) : lwT t b = t := by
  unfold lwT
  rw [nm_gd h, Int.fdiv_one]
theorem nm_b {t b : Int} (h : Nm t b) : lwB t b = b := by
  unfold lwB
  rw [nm_gd h, Int.fdiv_one]
theorem nm_neg {t b : Int} (h : Nm t b) : Nm (0 - t) b := ⟨h.1, by rw [show (0 - t).natAbs = t.natAbs by omega]; exact h.2⟩

/-! ### _law_take of a purse -/
def spTake : Sp := fun vs H Q _ => ∃ (p : Addr) (m : Int) (c : Nat), vs = [.ref p, .int m] ∧ Pl H p c ∧ 0 < m ∧ m < 18446744073709551616 ∧ c < 1000000 ∧
  ∀ (d : Int) (H' : Hp), 0 ≤ d → d < m → Pl H' p (c + 1) → Fx p H H' → Q (.int d) H'
set_option maxHeartbeats 4000000 in
theorem ok_l_take (T : TX K mg A FD TK) : FnOk P w K mg base CX0 1 (A 22) (FD 22) ["_law_purse_here", "_law_many"] spTake := by
  refine T.f_l_take.ok sc_l_take (fun vs H Q E h => ?_) (fun cdv A' outer s H vs Q E hr h => ?_)
  · obtain ⟨p, m, c, rfl, _⟩ := h
    rfl
  · obtain ⟨p, m, c, rfl, ⟨g, b, k, hp, hg, hb, hb2, hk⟩, hm, hm2, hc, q⟩ := h
    refine ⟨_, (pss_cons (ps_if (pt_cmpR op_gt (pe_ix (ixLK (K := K) rfl) (pv 0) pe_int (fun _ _ => rfl)) pe_int (nomark _))
      (pss_cons (ps_set (i := 2) sc_l_take.nd rfl (.inl rfl) (pe_op op_mod (pe_ix (ixLK (K := K) rfl) (pv 0) pe_int (fun _ _ => rfl)) (pv 1)))
      (pss_cons (ps_asg (pe_op op_fdivW (pe_ix (ixLK (K := K) rfl) (pv 0) pe_int (fun _ _ => rfl)) (pv 1)) (pg_sub (pv 0) pe_int set_list))
      (pss_one (ps_ret (pv 2)))))
      pss_nil)
      (pss_cons (ps_asg (pe_op op_add (pe_ix (ixLK (K := K) rfl) (pv 0) pe_int (fun _ _ => rfl)) pe_int) (pg_sub (pv 0) pe_int set_list))
      (pss_cons (ps_set (i := 3) sc_l_take.nd rfl (.inl rfl) (pe_op op_mod (pe_op op_powW (pe_op op_add (pe_ix (ixLK (K := K) rfl) (pv 0) pe_int (fun _ _ => rfl)) (pe_op op_mulW (pe_op op_mulW pe_int (pe_ix (ixLK (K := K) rfl) (pv 0) pe_int (fun _ _ => rfl))) (pe_ix (ixLK (K := K) rfl) (pv 0) pe_int (fun _ _ => rfl)))) pe_int) pe_int))
      (pss_one (ps_ret (pe_op op_mod (pe_op op_fdivW (pe_op op_mod (pe_op op_add (pe_op op_mulW (pv 3) (pe_op op_add (pv 3) pe_int)) (pe_ix (ixLK (K := K) rfl) (pv 0) pe_int (fun _ _ => rfl))) pe_int) pe_int) (pv 1))))))), ?_⟩
    refine ⟨.ref p, rfl, p, _, 0, .int g, rfl, rfl, SqL.of hp, atI_nat (j := 0) rfl, g, 0, rfl, rfl, _, rfl, ite2 (fun e => ?_) (fun e => ?_)⟩
    · refine ⟨.ref p, rfl, p, _, 0, .int g, rfl, rfl, SqL.of hp, atI_nat (j := 0) rfl, .int m, rfl, g, m, rfl, rfl, hm, ?_⟩
      refine ⟨.ref p, rfl, p, _, 0, .int g, rfl, rfl, SqL.of hp, atI_nat (j := 0) rfl, .int m, rfl, g, m, rfl, rfl, wide_div (b := 64) hm (by omega) (by decide) (by decide), .ref p, rfl, p, _, 0, 0, rfl, rfl, hp, rfl, ?_⟩
      refine ⟨.int (g % m), rfl, ?_⟩
      exact q _ _ (Int.emod_nonneg _ (by omega)) (Int.emod_lt_of_pos _ hm) ⟨g / m, b, k, upd_same, Int.ediv_nonneg hg (by omega), hb, hb2, by omega⟩ Fx.upd
    · have hp1 : (upd H p (.lst [.int g, .int b, .int ((k : Int) + 1)])) p = some (.lst [.int g, .int b, .int ((k : Int) + 1)]) := upd_same
      refine ⟨.ref p, rfl, p, _, 2, .int k, rfl, rfl, SqL.of hp, atI_nat (j := 2) rfl, k, 1, rfl, rfl, .ref p, rfl, p, _, 2, 2, rfl, rfl, hp, rfl, ?_⟩
      have t0 : (0 : Int) ≤ (k : Int) + 1 := by omega
      have t1 : (k : Int) + 1 ≤ 1000000 := by omega
      have s1 : 0 ≤ 50021 * ((k : Int) + 1) ∧ 50021 * ((k : Int) + 1) ≤ 50021000000 := by omega
      have s2 : 0 ≤ 50021 * ((k : Int) + 1) * ((k : Int) + 1) := mul_nn s1.1 t0
      have s3 : 50021 * ((k : Int) + 1) * ((k : Int) + 1) ≤ 50021000000 * 1000000 := mul_le s1.1 s1.2 t0 t1
      have b1 : (b + 50021 * ((k : Int) + 1) * ((k : Int) + 1)).natAbs < 2 ^ 100 := natAbs_lt (by omega) (by omega)
      refine ⟨.ref p, rfl, p, _, 1, .int b, rfl, rfl, SqL.of hp1, atI_nat (j := 1) rfl, .ref p, rfl, p, _, 2, .int ((k : Int) + 1), rfl, rfl, SqL.of hp1, atI_nat (j := 2) rfl, 50021, (k : Int) + 1, rfl, rfl, cmul2 (n := 20) (m := 20) (by decide) (by omega) (by decide), .ref p, rfl, p, _, 2, .int ((k : Int) + 1), rfl, rfl, SqL.of hp1, atI_nat (j := 2) rfl, 50021 * ((k : Int) + 1), (k : Int) + 1, rfl, rfl, cmul2 (n := 40) (m := 20) (by omega) (by omega) (by decide),
        b, 50021 * ((k : Int) + 1) * ((k : Int) + 1), rfl, rfl, b + 50021 * ((k : Int) + 1) * ((k : Int) + 1), 2, rfl, rfl, ⟨by decide, by decide, lt2 b1 (by decide)⟩,
        _, 2305843009213693951, rfl, rfl, (show (0 : Int) < 2305843009213693951 by decide), ?_⟩
      have o0 : 0 ≤ (b + 50021 * ((k : Int) + 1) * ((k : Int) + 1)) ^ Int.toNat 2 % 2305843009213693951 := Int.emod_nonneg _ (by decide)
      have o1 : (b + 50021 * ((k : Int) + 1) * ((k : Int) + 1)) ^ Int.toNat 2 % 2305843009213693951 < 2305843009213693951 := Int.emod_lt_of_pos _ (by decide)
      dsimp only
      generalize (b + 50021 * ((k : Int) + 1) * ((k : Int) + 1)) ^ Int.toNat 2 % 2305843009213693951 = one at o0 o1 ⊢
      refine ⟨.int one, rfl, .int one, rfl, one, 3, rfl, rfl, one, one + 3, rfl, rfl, cmul2 (n := 64) (m := 64) (by omega) (by omega) (by decide), .ref p, rfl, p, _, 2, .int ((k : Int) + 1), rfl, rfl, SqL.of hp1, atI_nat (j := 2) rfl, _, _, rfl, rfl, _, 998244353, rfl, rfl, (show (0 : Int) < 998244353 by decide), _, 7, rfl, rfl, wide_div (b := 64) (by decide) (by decide) (by decide) (by decide), .int m, rfl, _, m, rfl, rfl, hm, ?_⟩
      exact q _ _ (Int.emod_nonneg _ (by omega)) (Int.emod_lt_of_pos _ hm) ⟨g, b, k + 1, upd_same, hg, hb, hb2, by omega⟩ Fx.upd

/-! ### _law_purse -/
def spPurse (K : PySem.W.Frag) : Sp := fun vs H Q _ => ∃ (a : Addr) (ns : List Int) (j : Nat), vs = [.ref a, .int (j : Int)] ∧ SqL K H a (ns.map V.int) ∧ ns.length ≤ 63 ∧ j ≤ 1000 ∧
  ∀ (p : Addr) (H' : Hp), H p = none → Ex H H' → Pl H' p 0 → Q (.ref p) H'
set_option maxHeartbeats 4000000 in
theorem ok_l_purse (T : TX K mg A FD TK) : FnOk P w K mg base CX0 1 (A 21) (FD 21) ["_law_script", "_law_at"] (spPurse K) := by
  refine T.f_l_purse.ok sc_l_purse (fun vs H Q E h => ?_) (fun cdv A' outer s H vs Q E hr h => ?_)
  · obtain ⟨a, ns, j, rfl, _⟩ := h
    rfl
  · obtain ⟨a, ns, j, rfl, hS, hn, hj, q⟩ := h
    refine ⟨_, (pss_cons (ps_set (i := 2) sc_l_purse.nd rfl (.inl rfl) pe_int)
      (pss_cut (ps_if (pt_cmpR op_lt (pv 1) (pe_callB (lenK (K := K) rfl) (by rfl) T.m_len (by decide +kernel) (pa_cons (pv 0) pa_nil)) (nomark _))
      (pss_one (ps_set (i := 2) sc_l_purse.nd rfl (.inl rfl) (pe_ix (ixLK (K := K) rfl) (pv 0) (pv 1) (fun _ _ => rfl))))
      pss_nil)
      (pss_cons (ps_set (i := 3) sc_l_purse.nd rfl (.inl rfl) (pe_op op_mul (pe_callB call_abs (by rfl) T.m_abs (by decide +kernel) (pa_cons (pv 2) pa_nil)) (pe_callTy call_int1 (by rfl) T.m_int (by decide +kernel) (pa_cons (pe_cmpR op_ge (pe_callB call_abs (by rfl) T.m_abs (by decide +kernel) (pa_cons (pv 2) pa_nil)) (pe_op op_pow pe_int pe_int) (nomark _)) pa_nil))))
      (pss_one (ps_ret (pe_lst (pa_cons (pv 3) (pa_cons (pe_op op_add (pe_op op_add (pe_op op_mul (pe_op op_mod (pv 2) (pe_op op_pow pe_int pe_int)) pe_int) (pe_op op_mul pe_int (pv 1))) pe_int) (pa_cons pe_int pa_nil))))))))), ?_⟩
    refine ⟨fun σ' H' => H' = H ∧ ∃ z : Int, σ' = [some (.ref a), some (.int (j : Int)), some (.int z), none], ?_, ?_⟩
    · refine ⟨.int (j : Int), rfl, .ref a, rfl, a, _, rfl, .inl hS, _, _, rfl, rfl, _, rfl, ite2 (fun e => ?_) (fun e => ?_)⟩
      · have e0 : (j : Int) < ((ns.map V.int).length : Int) := of_decide_eq_true e
        have e1 : j < ns.length := by
          rw [List.length_map] at e0
          omega
        refine ⟨.ref a, rfl, .int (j : Int), rfl, a, _, _, .int ns[j], rfl, rfl, hS, atI_nat (j := j) ?_, rfl, ns[j], rfl⟩
        rw [List.getElem?_map, List.getElem?_eq_getElem e1]
        rfl
      · exact ⟨rfl, 0, rfl⟩
    · rintro σ' H' ⟨rfl, z, rfl⟩
      have f0 : 0 ≤ (if z < 0 then -z else z) := by split <;> omega
      refine ⟨.int z, rfl, z, rfl, .int z, rfl, z, rfl, ?_⟩
      generalize (if z < 0 then -z else z) = far at f0 ⊢
      refine ⟨10, 18, rfl, rfl, ⟨by decide, by decide, by decide⟩, far, _, rfl, rfl, .inr ⟨_, rfl, ?_⟩⟩
      generalize hd : decide ((10 : Int) ^ Int.toNat 18 ≤ far) = big
      refine ⟨far, _, rfl, rfl, .inr ⟨?_, ?_⟩, ?_⟩
      · cases big <;> decide
      · cases big <;> decide
      have m0 : 0 ≤ z % (10 ^ Int.toNat 18) := Int.emod_nonneg _ (by decide)
      have m1 : z % (10 ^ Int.toNat 18) < (10 ^ Int.toNat 18) := Int.emod_lt_of_pos _ (by decide)
      refine ⟨.int (far * b2i big), rfl, .int z, rfl, 10, 18, rfl, rfl, ⟨by decide, by decide, by decide⟩, z, _, rfl, rfl, (show (0 : Int) < 10 ^ Int.toNat 18 by decide), ?_⟩
      dsimp only
      generalize z % (10 ^ Int.toNat 18) = y at m0 m1 ⊢
      have m2 : y < 1000000000000000000 := m1
      refine ⟨y, 1000003, rfl, rfl, .inl ⟨by omega, by omega⟩, .int (j : Int), rfl, 7919, (j : Int), rfl, rfl, .inl ⟨by decide, by decide⟩, _, _, rfl, rfl, _, 17, rfl, rfl, (by show 3 ≤ sizeLine; decide), fun p np => ?_⟩
      refine q p _ np (ex_upd np) ⟨_, _, 0, upd_same, ?_, ?_, ?_, Nat.le_refl _⟩
      · cases big
        · show (0 : Int) ≤ far * 0
          omega
        · show (0 : Int) ≤ far * 1
          omega
      · omega
      · omega

/-! ### lowest terms, the program's and the law's -/
def spLow : Sp := fun vs H Q _ => ∃ t b : Int, vs = [.int t, .int b] ∧ b ≠ 0 ∧ t.natAbs < 2 ^ 4000 ∧ b.natAbs < 2 ^ 4000 ∧ ∀ l, H l = none → Q (.ref l) (upd H l (.tup [.int (lwT t b), .int (lwB t b)]))
theorem absI (z : Int) : (if z < 0 then -z else z) = ((z.natAbs : Nat) : Int) := by split <;> omega
/-- the fourth name's number -/
def mu3 : L2.St → Hp → Nat := fun σ _ => match σ with
  | [_, _, _, some (.int r)] => r.toNat
  | _ => 0
theorem gcd_step (d r : Nat) (h : 0 < r) : Nat.gcd r (d % r) = Nat.gcd d r := by
  rw [Nat.gcd_comm d r, Nat.gcd_rec r d, Nat.gcd_comm]
set_option maxHeartbeats 4000000 in
theorem ok_lowest (T : TX K mg A FD TK) : FnOk P w K mg base CX0 1 (A 17) (FD 17) ["top", "bottom"] spLow := by
  refine T.f_lowest.ok sc_lowest (fun vs H Q E h => ?_) (fun cdv A' outer s H vs Q E hr h => ?_)
  · obtain ⟨t, b, rfl, _⟩ := h
    rfl
  · obtain ⟨t, b, rfl, hb, ht, hb2, q⟩ := h
    refine ⟨_, (pss_cons (ps_par (by rfl) sc_lowest.nd (i := 2) (j := 3) rfl rfl (by decide) rfl rfl (pa_cons (pe_callB call_abs (by rfl) T.m_abs (by decide +kernel) (pa_cons (pv 1) pa_nil)) (pa_cons (pe_callB call_abs (by rfl) T.m_abs (by decide +kernel) (pa_cons (pv 0) pa_nil)) pa_nil)) (by rfl))
      (pss_cons (ps_while PassesOwn.never (pt_cmpR op_gt (pv 3) pe_int (nomark _))
      (pss_one (ps_par (by rfl) sc_lowest.nd (i := 2) (j := 3) rfl rfl (by decide) rfl rfl (pa_cons (pv 3) (pa_cons (pe_op op_mod (pv 2) (pv 3)) pa_nil)) (by rfl))))
      (pss_cons (ps_if (pt_cmpR op_lt (pv 1) pe_int (nomark _))
      (pss_one (ps_set (i := 2) sc_lowest.nd rfl (.inl rfl) (pe_un un_neg (pv 2))))
      pss_nil)
      (pss_one (ps_ret (pe_tup (pa_cons (pe_op op_fdivWN (pv 0) (pv 2)) (pa_cons (pe_op op_fdivWN (pv 1) (pv 2)) pa_nil)))))))), ?_⟩
    refine ⟨.int b, rfl, b, rfl, .int t, rfl, t, rfl, _, _, rfl, ?_⟩
    rw [absI, absI]
    refine while_by (fun σ' H' => H' = H ∧ ∃ d r : Nat, σ' = [some (.int t), some (.int b), some (.int (d : Int)), some (.int (r : Int))] ∧ Nat.gcd d r = Nat.gcd t.natAbs b.natAbs) mu3 ⟨rfl, _, _, rfl, Nat.gcd_comm ..⟩ (fun σ' H' p => ?_) (fun σ' H' Q Q' m h => ?_)
    · obtain ⟨rfl, d, r, rfl, hg⟩ := p
      refine ⟨.int r, rfl, r, 0, rfl, rfl, _, rfl, ite2 (fun e => ?_) (fun e => ?_)⟩
      · have e0 : (0 : Int) < (r : Int) := of_decide_eq_true e
        refine ⟨.int r, rfl, .int d, rfl, .int r, rfl, d, r, rfl, rfl, e0, _, _, rfl, ⟨rfl, r, d % r, ?_, ?_⟩, ?_⟩
        · rw [Int.natCast_emod]; rfl
        · rw [gcd_step d r (by omega), hg]
        · show ((d : Int) % (r : Int)).toNat < (r : Int).toNat
          have := Int.emod_lt_of_pos (d : Int) e0
          omega
      · have e0 : ¬ (0 : Int) < (r : Int) := fun z => e (decide_eq_true z)
        have r0 : r = 0 := by omega
        subst r0
        rw [Nat.gcd_zero_right] at hg
        subst hg
        refine ⟨.int b, rfl, b, 0, rfl, rfl, _, rfl, ite2 (fun e => ?_) (fun e => ?_)⟩
        · have e1 : b < 0 := of_decide_eq_true e
          have eg : gd t b = -((Nat.gcd t.natAbs b.natAbs : Nat) : Int) := by unfold gd; rw [if_pos e1]
          refine ⟨.int _, rfl, _, rfl, .int t, rfl, .int _, rfl, t, _, rfl, rfl, ?_, .int b, rfl, .int _, rfl, b, _, rfl, rfl, ?_, by show 2 ≤ sizeLine; decide, fun l nl => ?_⟩
          · rw [← eg]; exact ⟨gd_ne hb, log9 (gd_le hb hb2) (by decide) (by decide)⟩
          · rw [← eg]; exact ⟨gd_ne hb, log9 (gd_le hb hb2) (by decide) (by decide)⟩
          · rw [← eg]; exact q l nl
        · have e1 : ¬ b < 0 := fun z => e (decide_eq_true z)
          have eg : gd t b = ((Nat.gcd t.natAbs b.natAbs : Nat) : Int) := by unfold gd; rw [if_neg e1]
          refine ⟨.int t, rfl, .int _, rfl, t, _, rfl, rfl, ?_, .int b, rfl, .int _, rfl, b, _, rfl, rfl, ?_, by show 2 ≤ sizeLine; decide, fun l nl => ?_⟩
          · rw [← eg]; exact ⟨gd_ne hb, log9 (gd_le hb hb2) (by decide) (by decide)⟩
          · rw [← eg]; exact ⟨gd_ne hb, log9 (gd_le hb hb2) (by decide) (by decide)⟩
          · rw [← eg]; exact q l nl
    · obtain ⟨v, hv, i, j, e1, e2, k, hk, hq⟩ := h
      exact ⟨v, hv, i, j, e1, e2, k, hk, m _ _ hq⟩
set_option maxHeartbeats 4000000 in
theorem ok_l_low (T : TX K mg A FD TK) : FnOk P w K mg base CX0 1 (A 23) (FD 23) ["_law_upper", "_law_lower"] spLow := by
  refine T.f_l_low.ok sc_l_low (fun vs H Q E h => ?_) (fun cdv A' outer s H vs Q E hr h => ?_)
  · obtain ⟨t, b, rfl, _⟩ := h
    rfl
  · obtain ⟨t, b, rfl, hb, ht, hb2, q⟩ := h
    refine ⟨_, (pss_cons (ps_par (by rfl) sc_l_low.nd (i := 2) (j := 3) rfl rfl (by decide) rfl rfl (pa_cons (pe_callB call_abs (by rfl) T.m_abs (by decide +kernel) (pa_cons (pv 0) pa_nil)) (pa_cons (pe_callB call_abs (by rfl) T.m_abs (by decide +kernel) (pa_cons (pv 1) pa_nil)) pa_nil)) (by rfl))
      (pss_cons (ps_while PassesOwn.never (pt_cmpR op_gt (pv 3) pe_int (nomark _))
      (pss_one (ps_par (by rfl) sc_l_low.nd (i := 2) (j := 3) rfl rfl (by decide) rfl rfl (pa_cons (pv 3) (pa_cons (pe_op op_mod (pv 2) (pv 3)) pa_nil)) (by rfl))))
      (pss_cons (ps_if (pt_cmpR op_lt (pv 1) pe_int (nomark _))
      (pss_one (ps_set (i := 2) sc_l_low.nd rfl (.inl rfl) (pe_op op_sub pe_int (pv 2))))
      pss_nil)
      (pss_one (ps_ret (pe_tup (pa_cons (pe_op op_fdivWN (pv 0) (pv 2)) (pa_cons (pe_op op_fdivWN (pv 1) (pv 2)) pa_nil)))))))), ?_⟩
    refine ⟨.int t, rfl, t, rfl, .int b, rfl, b, rfl, _, _, rfl, ?_⟩
    rw [absI, absI]
    refine while_by (fun σ' H' => H' = H ∧ ∃ d r : Nat, σ' = [some (.int t), some (.int b), some (.int (d : Int)), some (.int (r : Int))] ∧ Nat.gcd d r = Nat.gcd t.natAbs b.natAbs) mu3 ⟨rfl, _, _, rfl, rfl⟩ (fun σ' H' p => ?_) (fun σ' H' Q Q' m h => ?_)
    · obtain ⟨rfl, d, r, rfl, hg⟩ := p
      refine ⟨.int r, rfl, r, 0, rfl, rfl, _, rfl, ite2 (fun e => ?_) (fun e => ?_)⟩
      · have e0 : (0 : Int) < (r : Int) := of_decide_eq_true e
        refine ⟨.int r, rfl, .int d, rfl, .int r, rfl, d, r, rfl, rfl, e0, _, _, rfl, ⟨rfl, r, d % r, ?_, ?_⟩, ?_⟩
        · rw [Int.natCast_emod]; rfl
        · rw [gcd_step d r (by omega), hg]
        · show ((d : Int) % (r : Int)).toNat < (r : Int).toNat
          have := Int.emod_lt_of_pos (d : Int) e0
          omega
      · have e0 : ¬ (0 : Int) < (r : Int) := fun z => e (decide_eq_true z)
        have r0 : r = 0 := by omega
        subst r0
        rw [Nat.gcd_zero_right] at hg
        subst hg
        refine ⟨.int b, rfl, b, 0, rfl, rfl, _, rfl, ite2 (fun e => ?_) (fun e => ?_)⟩
        · have e1 : b < 0 := of_decide_eq_true e
          have eg : gd t b = 0 - ((Nat.gcd t.natAbs b.natAbs : Nat) : Int) := by unfold gd; rw [if_pos e1]; omega
          refine ⟨.int _, rfl, 0, _, rfl, rfl, .int t, rfl, .int _, rfl, t, _, rfl, rfl, ?_, .int b, rfl, .int _, rfl, b, _, rfl, rfl, ?_, by show 2 ≤ sizeLine; decide, fun l nl => ?_⟩
          · rw [← eg]; exact ⟨gd_ne hb, log9 (gd_le hb hb2) (by decide) (by decide)⟩
          · rw [← eg]; exact ⟨gd_ne hb, log9 (gd_le hb hb2) (by decide) (by decide)⟩
          · rw [← eg]; exact q l nl
        · have e1 : ¬ b < 0 := fun z => e (decide_eq_true z)
          have eg : gd t b = ((Nat.gcd t.natAbs b.natAbs : Nat) : Int) := by unfold gd; rw [if_neg e1]
          refine ⟨.int t, rfl, .int _, rfl, t, _, rfl, rfl, ?_, .int b, rfl, .int _, rfl, b, _, rfl, rfl, ?_, by show 2 ≤ sizeLine; decide, fun l nl => ?_⟩
          · rw [← eg]; exact ⟨gd_ne hb, log9 (gd_le hb hb2) (by decide) (by decide)⟩
          · rw [← eg]; exact ⟨gd_ne hb, log9 (gd_le hb hb2) (by decide) (by decide)⟩
          · rw [← eg]; exact q l nl
    · obtain ⟨v, hv, i, j, e1, e2, k, hk, hq⟩ := h
      exact ⟨v, hv, i, j, e1, e2, k, hk, m _ _ hq⟩

/-! ### Ratio -/
/-- a ratio at a: top and bottom -/
def Rt (C : Addr) (H : Hp) (a : Addr) (t b : Int) : Prop := ∃ dx, H a = some (.ins C dx [("top", .int t), ("bottom", .int b)])
theorem Rt.ex {C : Addr} {H H' : Hp} {a : Addr} {t b : Int} (h : Rt C H a t b) (e : Ex H H') : Rt C H' a t b := by
  obtain ⟨dx, h⟩ := h
  exact ⟨dx, e _ _ h⟩
theorem Rt.fx {C : Addr} {H H' : Hp} {a p : Addr} {t b : Int} {c : Nat} (h : Rt C H a t b) (hp : Pl H p c) (f : Fx p H H') : Rt C H' a t b := by
  obtain ⟨dx, h⟩ := h
  obtain ⟨xs, hx⟩ := hp.some
  exact ⟨dx, f _ _ (ne_of h hx (by intro z; cases z)) h⟩
/-- all but x stays -/
def ExI (x : Addr) (H H' : Hp) : Prop := ∀ b o, b ≠ x → H b = some o → H' b = some o
abbrev tooG : Int := 1000000000000000000000000000000000000000000000000000000000000000000000000000000000000000000000000000000000000000000000000000000000000000000000000000000000000000000000000000000000000000000000000000000000000000000000000000000000000000000000000000000000000000000000000000000000000000000000000000000000000
def spFigs : Sp := fun vs H Q _ => ∃ z : Int, vs = [.int z] ∧ z.natAbs < 2 ^ 990 ∧ Q .non H
theorem tooG_lt : 2 ^ 990 < tooG.natAbs := by decide +kernel
def spWholeI : Sp := fun vs H Q _ => ∃ z : Int, vs = [.int z] ∧ Q (.bl true) H
set_option maxHeartbeats 4000000 in
theorem ok_is_wholeI (T : TX K mg A FD TK) : FnOk P w K mg base CX0 1 (A 8) (FD 8) ["thing"] spWholeI := by
  refine T.f_is_whole.ok sc_is_whole (fun vs H Q E h => ?_) (fun cdv A' outer s H vs Q E hr h => ?_)
  · obtain ⟨z, rfl, _⟩ := h
    rfl
  · obtain ⟨i, rfl, q⟩ := h
    refine ⟨_, (pss_one (ps_ret (pe_and (pe_callB (isiK (K := K) rfl) (by rfl) T.m_isinstance (by decide +kernel) (pa_cons (pv 0) (pa_cons (pe_bltn (v := .ty "int") (by rfl) T.m_int (by decide +kernel) rfl) pa_nil))) (pe_one (pe_not (pe_callB (isiK (K := K) rfl) (by rfl) T.m_isinstance (by decide +kernel) (pa_cons (pv 0) (pa_cons (pe_bltn (v := .ty "bool") (by rfl) T.m_bool (by decide +kernel) rfl) pa_nil)))))))), ?_⟩
    refine ⟨.int i, rfl, .int i, .ty "int", .type "int", .type "int", true, rfl, .ty _, .base (.int i), kit_ty (by decide +kernel), true, rfl, ?_⟩
    exact ⟨.int i, rfl, .int i, .ty "bool", .type "int", .type "bool", false, rfl, .ty _, .base (.int i), kit_ty (by decide +kernel), false, rfl, q⟩
set_option maxHeartbeats 4000000 in
theorem ok_check_figures (T : TX K mg A FD TK) : FnOk P w K mg base CX0 2 (A 18) (FD 18) ["number"] spFigs := by
  have G_is_whole := ok_is_wholeI (P := P) (w := w) (base := base) T
  refine T.f_check_figures.ok (k := 1) sc_check_figures (fun vs H Q E h => ?_) (fun cdv A' outer s H vs Q E hr h => ?_)
  · obtain ⟨z, rfl, _⟩ := h
    rfl
  · obtain ⟨z, rfl, hz, q⟩ := h
    refine ⟨_, (pss_one (ps_if (PW.pt (pw_or (pt_not (pt_val (pe_call G_is_whole hr (by rfl) T.g_is_whole T.f_is_whole.kp T.b_is_whole .nil pass0 (pa_cons (pv 0) pa_nil)))) (pw_or1 (pt_cmpR op_ge (pe_callB call_abs (by rfl) T.m_abs (by decide +kernel) (pa_cons (pv 0) pa_nil)) (pe_glob (v := .int 1000000000000000000000000000000000000000000000000000000000000000000000000000000000000000000000000000000000000000000000000000000000000000000000000000000000000000000000000000000000000000000000000000000000000000000000000000000000000000000000000000000000000000000000000000000000000000000000000000000000000) (by rfl) T.c_TOO_GREAT ⟨_, rfl⟩) (nomark _)))))
      (pss_one ps_never)
      pss_nil)), ?_⟩
    refine ⟨.int z, rfl, z, rfl, true, rfl, .int z, rfl, z, rfl, ?_⟩
    have l := tooG_lt
    rw [absI]
    refine ⟨_, _, rfl, rfl, false, ?_, q⟩
    refine congrArg V.bl (decide_eq_false fun z => ?_)
    have : tooG ≤ _ := z
    omega
def spInit (C : Addr) : Sp := fun vs H Q _ => ∃ (x dx : Addr) (t b : Int), vs = [.ref x, .int t, .int b] ∧ H x = some (.ins C dx []) ∧ b ≠ 0 ∧ t.natAbs < 2 ^ 990 ∧ b.natAbs < 2 ^ 990 ∧
  ∀ H', ExI x H H' → Rt C H' x (lwT t b) (lwB t b) → Q .non H'
set_option maxHeartbeats 4000000 in
theorem ok_init (T : TX K mg A FD TK) : FnOk P w K mg base CX0 3 (A 30) (FD 30) ["self", "top", "bottom"] (spInit (A 13)) := by
  have G_check_figures := ok_check_figures (P := P) (w := w) (base := base) T
  have G_lowest := (ok_lowest (P := P) (w := w) (base := base) T).mono (show 1 ≤ 2 by decide)
  refine T.f_Ratio_init.ok (k := 2) sc_Ratio_init (fun vs H Q E h => ?_) (fun cdv A' outer s H vs Q E hr h => ?_)
  · obtain ⟨x, dx, t, b, rfl, _⟩ := h
    rfl
  · obtain ⟨x, dx, t, b, rfl, hx, hb, ht, hb2, q⟩ := h
    refine ⟨_, (pss_cons (ps_expr (pe_call G_check_figures hr (by rfl) T.g_check_figures T.f_check_figures.kp T.b_check_figures .nil pass0 (pa_cons (pv 1) pa_nil)))
      (pss_cons (ps_expr (pe_call G_check_figures hr (by rfl) T.g_check_figures T.f_check_figures.kp T.b_check_figures .nil pass0 (pa_cons (pv 2) pa_nil)))
      (pss_cons (ps_if (pt_cmpR op_eq (pv 2) pe_int (nomark _))
      (pss_one ps_never)
      pss_nil)
      (pss_one (ps_asg (pe_call G_lowest hr (by rfl) T.g_lowest T.f_lowest.kp T.b_lowest .nil pass0 (pa_cons (pv 1) (pa_cons (pv 2) pa_nil))) (pg_tup rfl (pgs_cons (pg_fld (pv 0)) (pgs_cons (pg_fld (pv 0)) pgs_nil)))))))), ?_⟩
    refine ⟨.int t, rfl, t, rfl, ht, .int b, rfl, b, rfl, hb2, .int b, rfl, rfl, _, rfl, ?_⟩
    rw [show decide (V.int b = V.int 0) = false from decide_eq_false fun z => hb (V.int.inj z)]
    refine ⟨.int t, rfl, .int b, rfl, t, b, rfl, hb, lt2 ht (by decide), lt2 hb2 (by decide), fun l nl => ?_⟩
    have nlx : x ≠ l := ne_of_none hx nl
    have hx1 : (upd H l (.tup [.int (lwT t b), .int (lwB t b)])) x = some (.ins (A 13) dx []) := by rw [upd_ne nlx]; exact hx
    refine ⟨l, _, rfl, SqT.of upd_same, rfl, _, _, rfl, .ref x, rfl, x, A 13, dx, [], rfl, hx1, T.cl_Ratio, T.n_Ratio_top, (by show 0 < 1000; decide), ?_⟩
    refine ⟨_, _, rfl, .ref x, rfl, x, A 13, dx, _, rfl, upd_same, T.cl_Ratio, T.n_Ratio_bottom, (by show 1 < 1000; decide), rfl, ?_⟩
    refine q _ (fun c o nc h => ?_) ⟨dx, upd_same⟩
    rw [upd_ne nc, upd_ne nc, upd_ne (ne_of_none h nl)]
    exact h
def RetR (C : Addr) (t b : Int) (H : Hp) (Q : VK) : Prop := ∀ (a : Addr) (H' : Hp), H a = none → Ex H H' → Rt C H' a t b → Q (.ref a) H'
/-- what comes of Ratio(t, b) -/
theorem mk_ratio {C : Addr} {H : Hp} {x dx : Addr} {t b : Int} {R : Hp → Prop} {E : XK} (nx : H x = none) (ndx : H dx = none) (hb : b ≠ 0) (ht : t.natAbs < 2 ^ 990) (hb2 : b.natAbs < 2 ^ 990) (q : ∀ H', Ex H H' → Rt C H' x (lwT t b) (lwB t b) → R H') :
    spInit C [.ref x, .int t, .int b] (upd (upd H dx (.own x)) x (.ins C dx [])) (fun v H2 => v = .non ∧ R H2) E := by
  refine ⟨x, dx, t, b, rfl, upd_same, hb, ht, hb2, fun H' i r => ⟨rfl, q H' (fun c o h => ?_) r⟩⟩
  refine i c o (ne_of_none h nx) ?_
  rw [upd_ne (ne_of_none h nx), upd_ne (ne_of_none h ndx)]
  exact h
def spRatioOf (C : Addr) : Sp := fun vs H Q _ => ∃ t b : Int, vs = [.int t, .int b] ∧ b ≠ 0 ∧ t.natAbs < 2 ^ 4000 ∧ b.natAbs < 2 ^ 4000 ∧ RetR C (lwT t b) (lwB t b) H Q
theorem bindsR (T : TX K mg A FD TK) : (∃ ds, Vals ([] : List V) ds ∧ Binds K (FD 30) ["self", "top", "bottom"] ds) ∧ (∃ ds, Vals [V.int 1] ds ∧ Binds K (FD 30) ["self", "top", "bottom"] ds) := by
  obtain ⟨ds2, R2, B2⟩ := T.f_Ratio_init.binds1 (ps := ["self", "top", "bottom"]) 3 1 (by simp) rfl (fun _ _ _ _ _ _ _ us its hl1 hl2 => match us, its, hl1, hl2 with | [_, _, _], [_], _, _ => ⟨_, rfl, rfl⟩)
  obtain ⟨ds1, R1, B1⟩ := T.f_Ratio_init.binds1 (ps := ["self", "top", "bottom"]) 2 0 (by simp) rfl (fun _ _ _ _ _ _ _ us its hl1 hl2 => match us, its, hl1, hl2 with | [_, _], [_], _, _ => ⟨_, rfl, rfl⟩)
  exact ⟨⟨ds2, R2, B2⟩, ⟨ds1, R1, B1⟩⟩
set_option maxHeartbeats 4000000 in
theorem ok_ratio_of (T : TX K mg A FD TK) : FnOk P w K mg base CX0 5 (A 16) (FD 16) ["top", "bottom"] (spRatioOf (A 13)) := by
  have G_Ratio := ok_init (P := P) (w := w) (base := base) T
  have G_lowest := (ok_lowest (P := P) (w := w) (base := base) T).mono (show 1 ≤ 4 by decide)
  obtain ⟨_, ds1, R1_Ratio, B1_Ratio⟩ := bindsR T
  refine T.f_ratio_of.ok (k := 4) sc_ratio_of (fun vs H Q E h => ?_) (fun cdv A' outer s H vs Q E hr h => ?_)
  · obtain ⟨t, b, rfl, _⟩ := h
    rfl
  · obtain ⟨t, b, rfl, hb, ht, hb2, q⟩ := h
    refine ⟨_, (pss_cons (ps_set (i := 2) sc_ratio_of.nd rfl (.inl rfl) (pe_make T.M_Ratio G_Ratio hr (by rfl) T.k_Ratio B1_Ratio R1_Ratio pass0 (pa_cons pe_int pa_nil)))
      (pss_cons (ps_asg (pe_call G_lowest hr (by rfl) T.g_lowest T.f_lowest.kp T.b_lowest .nil pass0 (pa_cons (pv 0) (pa_cons (pv 1) pa_nil))) (pg_tup rfl (pgs_cons (pg_fld (pv 2)) (pgs_cons (pg_fld (pv 2)) pgs_nil))))
      (pss_one (ps_ret (pv 2))))), ?_⟩
    refine fun a dx na ndx _ => mk_ratio (t := 0) (b := 1) na ndx (by decide) (by decide) (by decide) fun H1 e1 hr1 => ?_
    obtain ⟨da, ha⟩ := hr1
    refine ⟨.int t, rfl, .int b, rfl, t, b, rfl, hb, ht, hb2, fun l nl => ?_⟩
    have ha1 : (upd H1 l (.tup [.int (lwT t b), .int (lwB t b)])) a = some (.ins (A 13) da [("top", .int (lwT 0 1)), ("bottom", .int (lwB 0 1))]) := by rw [upd_ne (ne_of_none ha nl)]; exact ha
    refine ⟨l, _, rfl, SqT.of upd_same, rfl, _, _, rfl, .ref a, rfl, a, A 13, da, _, rfl, ha1, T.cl_Ratio, T.n_Ratio_top, (by show 2 < 1000; decide), ?_⟩
    refine ⟨_, _, rfl, .ref a, rfl, a, A 13, da, _, rfl, upd_same, T.cl_Ratio, T.n_Ratio_bottom, (by show 2 < 1000; decide), rfl, ?_⟩
    refine ⟨.ref a, rfl, q a _ na (fun c o h => ?_) ⟨da, upd_same⟩⟩
    have nc : c ≠ a := ne_of_none h na
    rw [upd_ne nc, upd_ne nc, upd_ne (ne_of_none (e1 _ _ h) nl)]
    exact e1 _ _ h
/-- two ratios of fair size -/
def spTwo (C : Addr) (g : Int → Int → Int → Int → Int) (g' : Int → Int → Int → Int → Int) : Sp := fun vs H Q _ => ∃ (a c : Addr) (t b u d : Int), vs = [.ref a, .ref c] ∧ Rt C H a t b ∧ Rt C H c u d ∧ 0 < b ∧ 0 < d ∧ t.natAbs < 2 ^ 1900 ∧ b.natAbs < 2 ^ 1900 ∧ u.natAbs < 2 ^ 1900 ∧ d.natAbs < 2 ^ 1900 ∧
  RetR C (lwT (g t b u d) (g' t b u d)) (lwB (g t b u d) (g' t b u d)) H Q
abbrev plT (t b u d : Int) : Int := t * d + u * b
abbrev plB (t b u d : Int) : Int := b * d
abbrev tmT (t b u d : Int) : Int := t * u
theorem mul_ne {b d : Int} (h : 0 < b) (h' : 0 < d) : b * d ≠ 0 := by
  have := Int.mul_pos h h'
  omega
set_option maxHeartbeats 4000000 in
theorem ok_plus (T : TX K mg A FD TK) : FnOk P w K mg base CX0 6 (A 32) (FD 32) ["self", "other"] (spTwo (A 13) plT plB) := by
  have G_ratio_of := ok_ratio_of (P := P) (w := w) (base := base) T
  refine T.f_Ratio_plus.ok (k := 5) sc_Ratio_plus (fun vs H Q E h => ?_) (fun cdv A' outer s H vs Q E hr h => ?_)
  · obtain ⟨a, c, t, b, u, d, rfl, _⟩ := h
    rfl
  · obtain ⟨a, c, t, b, u, d, rfl, ⟨da, ha⟩, ⟨dc, hc⟩, b0, d0, ht, hb, hu, hd, q⟩ := h
    refine ⟨_, (pss_one (ps_ret (pe_call G_ratio_of hr (by rfl) T.g_ratio_of T.f_ratio_of.kp T.b_ratio_of .nil pass0 (pa_cons (pe_op op_add (pe_op op_mulW (fldK (K := K) rfl (pv 0) rfl) (fldK (K := K) rfl (pv 1) rfl)) (pe_op op_mulW (fldK (K := K) rfl (pv 1) rfl) (fldK (K := K) rfl (pv 0) rfl))) (pa_cons (pe_op op_mulW (fldK (K := K) rfl (pv 0) rfl) (fldK (K := K) rfl (pv 1) rfl)) pa_nil))))), ?_⟩
    refine ⟨.ref a, rfl, a, _, da, _, _, rfl, ha, T.cl_Ratio, T.n_Ratio_top, rfl, .ref c, rfl, c, _, dc, _, _, rfl, hc, T.cl_Ratio, T.n_Ratio_bottom, rfl, t, d, rfl, rfl, cmul2 ht hd (by decide), ?_⟩
    refine ⟨.ref c, rfl, c, _, dc, _, _, rfl, hc, T.cl_Ratio, T.n_Ratio_top, rfl, .ref a, rfl, a, _, da, _, _, rfl, ha, T.cl_Ratio, T.n_Ratio_bottom, rfl, u, b, rfl, rfl, cmul2 hu hb (by decide), t * d, u * b, rfl, rfl, ?_⟩
    refine ⟨.ref a, rfl, a, _, da, _, _, rfl, ha, T.cl_Ratio, T.n_Ratio_bottom, rfl, .ref c, rfl, c, _, dc, _, _, rfl, hc, T.cl_Ratio, T.n_Ratio_bottom, rfl, b, d, rfl, rfl, cmul2 hb hd (by decide), ?_⟩
    exact ⟨_, _, rfl, mul_ne b0 d0, lt2 (add2 (mul2 ht hd) (mul2 hu hb)) (by decide), lt2 (mul2 hb hd) (by decide), q⟩
def spLess (C : Addr) : Sp := fun vs H Q _ => ∃ (a c : Addr) (t b u d : Int), vs = [.ref a, .ref c] ∧ Rt C H a t b ∧ Rt C H c u d ∧ t.natAbs < 2 ^ 1900 ∧ b.natAbs < 2 ^ 1900 ∧ u.natAbs < 2 ^ 1900 ∧ d.natAbs < 2 ^ 1900 ∧ Q (.bl (decide (t * d < u * b))) H
set_option maxHeartbeats 4000000 in
theorem ok_is_less (T : TX K mg A FD TK) : FnOk P w K mg base CX0 1 (A 33) (FD 33) ["self", "other"] (spLess (A 13)) := by
  refine T.f_Ratio_is_less.ok sc_Ratio_is_less (fun vs H Q E h => ?_) (fun cdv A' outer s H vs Q E hr h => ?_)
  · obtain ⟨a, c, t, b, u, d, rfl, _⟩ := h
    rfl
  · obtain ⟨a, c, t, b, u, d, rfl, ⟨da, ha⟩, ⟨dc, hc⟩, ht, hb, hu, hd, q⟩ := h
    refine ⟨_, (pss_one (ps_ret (pe_cmpR op_lt (pe_op op_mulW (fldK (K := K) rfl (pv 0) rfl) (fldK (K := K) rfl (pv 1) rfl)) (pe_op op_mulW (fldK (K := K) rfl (pv 1) rfl) (fldK (K := K) rfl (pv 0) rfl)) (nomark _)))), ?_⟩
    refine ⟨.ref a, rfl, a, _, da, _, _, rfl, ha, T.cl_Ratio, T.n_Ratio_top, rfl, .ref c, rfl, c, _, dc, _, _, rfl, hc, T.cl_Ratio, T.n_Ratio_bottom, rfl, t, d, rfl, rfl, cmul2 ht hd (by decide), ?_⟩
    exact ⟨.ref c, rfl, c, _, dc, _, _, rfl, hc, T.cl_Ratio, T.n_Ratio_top, rfl, .ref a, rfl, a, _, da, _, _, rfl, ha, T.cl_Ratio, T.n_Ratio_bottom, rfl, u, b, rfl, rfl, cmul2 hu hb (by decide), _, _, rfl, rfl, q⟩

/-! ### the law's reckoning -/
theorem pairS (t b : Int) : SeqAt.shaped (.tuple [.int t, .int b]) = true := by
  unfold SeqAt.shaped
  simp [PyData.canLay0, PyData.canLayAll0, PyData.depth, PyData.depthAll]
theorem pairE (t b : Int) : PyData.eqv (.tuple [.int t, .int b]) (.tuple [.int t, .int b]) = true := SeqAt.eqv_refl _ (SeqAt.canLay_of_shaped (pairS t b))
/-- two tuples of two numbers -/
def spTwoT (K : PySem.W.Frag) (B : Nat) (W : Int → Int → Int → Int → Hp → VK → Prop) : Sp := fun vs H Q _ => ∃ (a c : Addr) (t b u d : Int), vs = [.ref a, .ref c] ∧ SqT K H a [.int t, .int b] ∧ SqT K H c [.int u, .int d] ∧ t.natAbs < 2 ^ B ∧ b.natAbs < 2 ^ B ∧ u.natAbs < 2 ^ B ∧ d.natAbs < 2 ^ B ∧ W t b u d H Q
set_option maxHeartbeats 4000000 in
theorem ok_l_plus (T : TX K mg A FD TK) : FnOk P w K mg base CX0 2 (A 24) (FD 24) ["_law_one", "_law_other"] (spTwoT K 1900 fun t b u d H Q => 0 < b ∧ 0 < d ∧ ∀ l, H l = none → Q (.ref l) (upd H l (.tup [.int (lwT (plT t b u d) (plB t b u d)), .int (lwB (plT t b u d) (plB t b u d))]))) := by
  have G_l_low := ok_l_low (P := P) (w := w) (base := base) T
  refine T.f_l_plus.ok (k := 1) sc_l_plus (fun vs H Q E h => ?_) (fun cdv A' outer s H vs Q E hr h => ?_)
  · obtain ⟨a, c, t, b, u, d, rfl, _⟩ := h
    rfl
  · obtain ⟨a, c, t, b, u, d, rfl, ha, hc, ht, hb, hu, hd, b0, d0, q⟩ := h
    refine ⟨_, (pss_one (ps_ret (pe_call G_l_low hr (by rfl) T.g_l_low T.f_l_low.kp T.b_l_low .nil pass0 (pa_cons (pe_op op_add (pe_op op_mulW (pe_ix (ixTK (K := K) rfl) (pv 0) pe_int (fun _ _ => rfl)) (pe_ix (ixTK (K := K) rfl) (pv 1) pe_int (fun _ _ => rfl))) (pe_op op_mulW (pe_ix (ixTK (K := K) rfl) (pv 1) pe_int (fun _ _ => rfl)) (pe_ix (ixTK (K := K) rfl) (pv 0) pe_int (fun _ _ => rfl)))) (pa_cons (pe_op op_mulW (pe_ix (ixTK (K := K) rfl) (pv 0) pe_int (fun _ _ => rfl)) (pe_ix (ixTK (K := K) rfl) (pv 1) pe_int (fun _ _ => rfl))) pa_nil))))), ?_⟩
    refine ⟨.ref a, rfl, a, _, 0, _, rfl, rfl, ha, atI_nat (j := 0) rfl, .ref c, rfl, c, _, 1, _, rfl, rfl, hc, atI_nat (j := 1) rfl, t, d, rfl, rfl, cmul2 ht hd (by decide), ?_⟩
    refine ⟨.ref c, rfl, c, _, 0, _, rfl, rfl, hc, atI_nat (j := 0) rfl, .ref a, rfl, a, _, 1, _, rfl, rfl, ha, atI_nat (j := 1) rfl, u, b, rfl, rfl, cmul2 hu hb (by decide), t * d, u * b, rfl, rfl, ?_⟩
    refine ⟨.ref a, rfl, a, _, 1, _, rfl, rfl, ha, atI_nat (j := 1) rfl, .ref c, rfl, c, _, 1, _, rfl, rfl, hc, atI_nat (j := 1) rfl, b, d, rfl, rfl, cmul2 hb hd (by decide), ?_⟩
    exact ⟨_, _, rfl, mul_ne b0 d0, lt2 (add2 (mul2 ht hd) (mul2 hu hb)) (by decide), lt2 (mul2 hb hd) (by decide), q⟩
set_option maxHeartbeats 4000000 in
theorem ok_l_less (T : TX K mg A FD TK) : FnOk P w K mg base CX0 1 (A 25) (FD 25) ["_law_one", "_law_other"] (spTwoT K 1900 fun t b u d H Q => Q (.bl (decide (t * d < u * b))) H) := by
  refine T.f_l_less.ok sc_l_less (fun vs H Q E h => ?_) (fun cdv A' outer s H vs Q E hr h => ?_)
  · obtain ⟨a, c, t, b, u, d, rfl, _⟩ := h
    rfl
  · obtain ⟨a, c, t, b, u, d, rfl, ha, hc, ht, hb, hu, hd, q⟩ := h
    refine ⟨_, (pss_one (ps_ret (pe_cmpR op_lt (pe_op op_mulW (pe_ix (ixTK (K := K) rfl) (pv 0) pe_int (fun _ _ => rfl)) (pe_ix (ixTK (K := K) rfl) (pv 1) pe_int (fun _ _ => rfl))) (pe_op op_mulW (pe_ix (ixTK (K := K) rfl) (pv 1) pe_int (fun _ _ => rfl)) (pe_ix (ixTK (K := K) rfl) (pv 0) pe_int (fun _ _ => rfl))) (nomark _)))), ?_⟩
    refine ⟨.ref a, rfl, a, _, 0, _, rfl, rfl, ha, atI_nat (j := 0) rfl, .ref c, rfl, c, _, 1, _, rfl, rfl, hc, atI_nat (j := 1) rfl, t, d, rfl, rfl, cmul2 ht hd (by decide), ?_⟩
    exact ⟨.ref c, rfl, c, _, 0, _, rfl, rfl, hc, atI_nat (j := 0) rfl, .ref a, rfl, a, _, 1, _, rfl, rfl, ha, atI_nat (j := 1) rfl, u, b, rfl, rfl, cmul2 hu hb (by decide), _, _, rfl, rfl, q⟩
def spIsRatio (K : PySem.W.Frag) (C : Addr) : Sp := fun vs H Q _ => ∃ (a c : Addr) (t b : Int), vs = [.ref a, .ref c] ∧ Rt C H a t b ∧ SqT K H c [.int t, .int b] ∧ ∀ H', Ex H H' → Q (.bl true) H'
set_option maxHeartbeats 4000000 in
theorem ok_l_is_ratio (T : TX K mg A FD TK) : FnOk P w K mg base CX0 1 (A 26) (FD 26) ["_law_told", "_law_due"] (spIsRatio K (A 13)) := by
  refine T.f_l_is_ratio.ok sc_l_is_ratio (fun vs H Q E h => ?_) (fun cdv A' outer s H vs Q E hr h => ?_)
  · obtain ⟨a, c, t, b, rfl, _⟩ := h
    rfl
  · obtain ⟨a, c, t, b, rfl, ⟨da, ha⟩, hc, q⟩ := h
    refine ⟨_, (pss_cons (ps_for PassesOwn.never rfl (piTK (K := K) rfl (pe_tup (pa_cons (fldK (K := K) rfl (pv 0) rfl) (pa_cons (fldK (K := K) rfl (pv 0) rfl) pa_nil)))) (pg_name (i := 2) sc_l_is_ratio.nd rfl (.inl rfl))
      (pss_one (ps_if (PW.pt (pw_or (pt_not (pt_val (pe_callB (isiK (K := K) rfl) (by rfl) T.m_isinstance (by decide +kernel) (pa_cons (pv 2) (pa_cons (pe_bltn (v := .ty "int") (by rfl) T.m_int (by decide +kernel) rfl) pa_nil))))) (pw_or1 (pt_val (pe_callB (isiK (K := K) rfl) (by rfl) T.m_isinstance (by decide +kernel) (pa_cons (pv 2) (pa_cons (pe_bltn (v := .ty "bool") (by rfl) T.m_bool (by decide +kernel) rfl) pa_nil)))))))
      (pss_one (ps_ret pe_bl))
      pss_nil)))
      (pss_one (ps_ret (pe_cmpR (eqDK (K := K) rfl hr.units) (pe_tup (pa_cons (fldK (K := K) rfl (pv 0) rfl) (pa_cons (fldK (K := K) rfl (pv 0) rfl) pa_nil))) (pv 1) (nomark _))))), ?_⟩
    refine ⟨.ref a, rfl, a, _, da, _, _, rfl, ha, T.cl_Ratio, T.n_Ratio_top, rfl, .ref a, rfl, a, _, da, _, _, rfl, ha, T.cl_Ratio, T.n_Ratio_bottom, rfl, by show 2 ≤ sizeLine; decide, fun p np => ?_⟩
    refine ⟨p, rfl, ⟨_, SqT.of upd_same⟩, ?_⟩
    have e1 : Ex H (upd H p (.tup [.int t, .int b])) := Ex.new np
    refine for_tup (K := K) (xs := [.int t, .int b]) (fun i σ' H' => ∃ y : Option V, σ' = [some (.ref a), some (.ref c), y] ∧ Ex (upd H p (.tup [.int t, .int b])) H') ⟨none, rfl, Ex.refl _⟩ (fun i σ' H' _ pv => ?_) (fun i x σ' H' gx pv => ?_) (fun σ' H' pv => ?_)
    · obtain ⟨y, _, e2⟩ := pv
      exact SqT.of (e2 _ _ upd_same)
    · obtain ⟨y, rfl, e2⟩ := pv
      obtain ⟨z, rfl⟩ : ∃ z : Int, x = .int z := by
        have hx := List.mem_of_getElem? gx
        simp only [List.mem_cons, List.not_mem_nil, or_false] at hx
        rcases hx with rfl | rfl
        · exact ⟨_, rfl⟩
        · exact ⟨_, rfl⟩
      refine ⟨.int z, rfl, .int z, .ty "int", .type "int", .type "int", true, rfl, .ty _, .base (.int z), kit_ty (by decide +kernel), true, rfl, ?_⟩
      exact ⟨.int z, rfl, .int z, .ty "bool", .type "int", .type "bool", false, rfl, .ty _, .base (.int z), kit_ty (by decide +kernel), false, rfl, some (.int z), rfl, e2⟩
    · obtain ⟨y, rfl, e2⟩ := pv
      have e3 := e1.trans e2
      refine ⟨.ref a, rfl, a, _, da, _, _, rfl, e3 _ _ ha, T.cl_Ratio, T.n_Ratio_top, rfl, .ref a, rfl, a, _, da, _, _, rfl, e3 _ _ ha, T.cl_Ratio, T.n_Ratio_bottom, rfl, by show 2 ≤ sizeLine; decide, fun p2 np2 => ?_⟩
      have e4 := e3.trans (Ex.new (o := .tup [.int t, .int b]) np2)
      refine ⟨.ref c, rfl, _, _, .tup (SqT.of upd_same) (.cons (.int t) (.cons (.int b) .nil)), .tup (ex_t e4 hc) (.cons (.int t) (.cons (.int b) .nil)), pairS t b, pairS t b, ?_⟩
      rw [pairE]
      exact q _ e4

/-! ### lists of pairs and of ratios -/
abbrev Pr := Int × Int
def Rs (C : Addr) (H : Hp) (xs : List V) (ps : List Pr) : Prop := xs.length = ps.length ∧ ∀ (i : Nat) (p : Pr), ps[i]? = some p → ∃ a, xs[i]? = some (.ref a) ∧ Rt C H a p.1 p.2
def Ps (K : PySem.W.Frag) (H : Hp) (xs : List V) (ps : List Pr) : Prop := xs.length = ps.length ∧ ∀ (i : Nat) (p : Pr), ps[i]? = some p → ∃ a, xs[i]? = some (.ref a) ∧ SqT K H a [.int p.1, .int p.2]
theorem Rs.ex {C : Addr} {H H' : Hp} {xs : List V} {ps : List Pr} (h : Rs C H xs ps) (e : Ex H H') : Rs C H' xs ps := ⟨h.1, fun i p g => let ⟨a, g1, g2⟩ := h.2 i p g; ⟨a, g1, g2.ex e⟩⟩
theorem Ps.ex {K : PySem.W.Frag} {H H' : Hp} {xs : List V} {ps : List Pr} (h : Ps K H xs ps) (e : Ex H H') : Ps K H' xs ps := ⟨h.1, fun i p g => let ⟨a, g1, g2⟩ := h.2 i p g; ⟨a, g1, ex_t e g2⟩⟩
theorem Ps.fx {K : PySem.W.Frag} {H H' : Hp} {xs : List V} {ps : List Pr} {p : Addr} {c : Nat} (h : Ps K H xs ps) (hp : Pl H p c) (f : Fx p H H') : Ps K H' xs ps := ⟨h.1, fun i p g => let ⟨a, g1, g2⟩ := h.2 i p g; ⟨a, g1, f.sqt hp g2⟩⟩
theorem Rs.at {C : Addr} {H : Hp} {xs : List V} {ps : List Pr} (h : Rs C H xs ps) {i : Nat} {x : V} (g : xs[i]? = some x) : ∃ p a, ps[i]? = some p ∧ x = .ref a ∧ Rt C H a p.1 p.2 := by
  have hi : i < ps.length := by rw [← h.1]; exact (List.getElem?_eq_some_iff.mp g).1
  obtain ⟨a, g1, g2⟩ := h.2 i ps[i] (List.getElem?_eq_getElem hi)
  rw [g] at g1
  exact ⟨ps[i], a, List.getElem?_eq_getElem hi, Option.some.inj g1, g2⟩
theorem Ps.at {K : PySem.W.Frag} {H : Hp} {xs : List V} {ps : List Pr} (h : Ps K H xs ps) {i : Nat} {x : V} (g : xs[i]? = some x) : ∃ p a, ps[i]? = some p ∧ x = .ref a ∧ SqT K H a [.int p.1, .int p.2] := by
  have hi : i < ps.length := by rw [← h.1]; exact (List.getElem?_eq_some_iff.mp g).1
  obtain ⟨a, g1, g2⟩ := h.2 i ps[i] (List.getElem?_eq_getElem hi)
  rw [g] at g1
  exact ⟨ps[i], a, List.getElem?_eq_getElem hi, Option.some.inj g1, g2⟩
theorem get_snoc {α : Type} {xs : List α} {x y : α} {i : Nat} (h : (xs ++ [x])[i]? = some y) : xs[i]? = some y ∨ (i = xs.length ∧ y = x) := by
  by_cases l : i < xs.length
  · rw [List.getElem?_append_left l] at h
    exact .inl h
  · rw [List.getElem?_append_right (by omega)] at h
    have : i - xs.length = 0 := by
      have := (List.getElem?_eq_some_iff.mp h).1
      simp at this
      omega
    rw [this] at h
    exact .inr ⟨by omega, (Option.some.inj h).symm⟩
theorem snoc_get {α : Type} {xs : List α} {x : α} : (xs ++ [x])[xs.length]? = some x := by simp
theorem snoc_old {α : Type} {xs : List α} {x y : α} {i : Nat} (h : xs[i]? = some y) : (xs ++ [x])[i]? = some y := by
  rw [List.getElem?_append_left (List.getElem?_eq_some_iff.mp h).1]
  exact h
theorem Rs.nil {C : Addr} {H : Hp} : Rs C H [] [] := ⟨rfl, fun i p h => by simp at h⟩
theorem Ps.nil {K : PySem.W.Frag} {H : Hp} : Ps K H [] [] := ⟨rfl, fun i p h => by simp at h⟩
theorem Rs.snoc {C : Addr} {H : Hp} {xs : List V} {ps : List Pr} {a : Addr} {p : Pr} (h : Rs C H xs ps) (r : Rt C H a p.1 p.2) : Rs C H (xs ++ [.ref a]) (ps ++ [p]) := by
  refine ⟨by simp [h.1], fun i q g => ?_⟩
  rcases get_snoc g with g | ⟨rfl, rfl⟩
  · obtain ⟨b, g1, g2⟩ := h.2 i q g
    exact ⟨b, snoc_old g1, g2⟩
  · exact ⟨a, by rw [← h.1]; exact snoc_get, r⟩
theorem Ps.snoc {K : PySem.W.Frag} {H : Hp} {xs : List V} {ps : List Pr} {a : Addr} {p : Pr} (h : Ps K H xs ps) (r : SqT K H a [.int p.1, .int p.2]) : Ps K H (xs ++ [.ref a]) (ps ++ [p]) := by
  refine ⟨by simp [h.1], fun i q g => ?_⟩
  rcases get_snoc g with g | ⟨rfl, rfl⟩
  · obtain ⟨b, g1, g2⟩ := h.2 i q g
    exact ⟨b, snoc_old g1, g2⟩
  · exact ⟨a, by rw [← h.1]; exact snoc_get, r⟩
theorem Ps.rev {K : PySem.W.Frag} {H : Hp} {xs : List V} {ps : List Pr} (h : Ps K H xs ps) : Ps K H xs.reverse ps.reverse := by
  refine ⟨by simp [h.1], fun i q g => ?_⟩
  have hi : i < ps.length := by
    have := (List.getElem?_eq_some_iff.mp g).1
    simpa using this
  rw [List.getElem?_reverse hi] at g
  obtain ⟨a, g1, g2⟩ := h.2 _ _ g
  refine ⟨a, ?_, g2⟩
  rw [List.getElem?_reverse (by rw [h.1]; exact hi), h.1]
  exact g1
theorem Ps.set {K : PySem.W.Frag} {H : Hp} {xs : List V} {ps : List Pr} {j : Nat} {a : Addr} {p : Pr} (h : Ps K H xs ps) (r : SqT K H a [.int p.1, .int p.2]) : Ps K H (xs.set j (.ref a)) (ps.set j p) := by
  refine ⟨by simp [h.1], fun i q g => ?_⟩
  by_cases e : j = i
  · subst e
    have hi : j < ps.length := by
      have := (List.getElem?_eq_some_iff.mp g).1
      simpa using this
    rw [List.getElem?_set_self hi] at g
    cases g
    exact ⟨a, List.getElem?_set_self (by rw [h.1]; exact hi), r⟩
  · rw [List.getElem?_set_ne e] at g
    obtain ⟨b, g1, g2⟩ := h.2 i q g
    exact ⟨b, by rw [List.getElem?_set_ne e]; exact g1, g2⟩
abbrev pd (p : Pr) : PyData := .tuple [.int p.1, .int p.2]
theorem Ps.tail {K : PySem.W.Frag} {H : Hp} {x : V} {xs : List V} {p : Pr} {ps : List Pr} (h : Ps K H (x :: xs) (p :: ps)) : Ps K H xs ps := ⟨by have := h.1; simpa using this, fun i q g => by
  obtain ⟨a, g1, g2⟩ := h.2 (i + 1) q (by simpa using g)
  exact ⟨a, by simpa using g1, g2⟩⟩
theorem Ps.dp {K : PySem.W.Frag} {H : Hp} : ∀ {xs : List V} {ps : List Pr}, Ps K H xs ps → DpAll K H xs (ps.map pd)
  | [], [], _ => .nil
  | x :: xs, p :: ps, h => by
    obtain ⟨a, g1, g2⟩ := h.2 0 p rfl
    cases (Option.some.inj g1 : x = .ref a)
    exact .cons (.tup g2 (.cons (.int _) (.cons (.int _) .nil))) (Ps.dp h.tail)
  | [], p :: ps, h => by have := h.1; simp at this
  | x :: xs, [], h => by have := h.1; simp at this
theorem pds_can : ∀ ps : List Pr, PyData.canLayAll0 (ps.map pd) = true
  | [] => rfl
  | p :: ps => by
    rw [List.map_cons, PyData.canLayAll0, pds_can ps]
    simp [PyData.canLay0, PyData.canLayAll0]
theorem pds_depth : ∀ ps : List Pr, PyData.depthAll (ps.map pd) ≤ 3
  | [] => by simp [PyData.depthAll]
  | p :: ps => by
    have := pds_depth ps
    rw [List.map_cons, PyData.depthAll]
    simp [PyData.depth, PyData.depthAll]
    omega
theorem pdsS (ps : List Pr) : SeqAt.shaped (.list (ps.map pd)) = true := by
  unfold SeqAt.shaped
  rw [Bool.and_eq_true]
  constructor
  · rw [PyData.canLay0]; exact pds_can ps
  · have := pds_depth ps
    rw [PyData.depth]
    exact decide_eq_true (by omega)
theorem pdsE (ps : List Pr) : PyData.eqv (.list (ps.map pd)) (.list (ps.map pd)) = true := SeqAt.eqv_refl _ (SeqAt.canLay_of_shaped (pdsS ps))
theorem pdsN (p : Pr) (ps : List Pr) : PyData.eqv (.list ((p :: ps).map pd)) (.list []) = false := by
  rw [PyData.eqv, List.map_cons]
  rfl
/-- fair pairs -/
def GoodP (ps : List Pr) : Prop := ∀ p ∈ ps, Nm p.1 p.2 ∧ p.1.natAbs < 2 ^ 40 ∧ p.2.natAbs < 2 ^ 40
/-- one more -/
def smS (s p : Pr) : Pr := (lwT (plT s.1 s.2 p.1 p.2) (plB s.1 s.2 p.1 p.2), lwB (plT s.1 s.2 p.1 p.2) (plB s.1 s.2 p.1 p.2))
def smA (ps : List Pr) : Pr := ps.foldl smS (0, 1)
def mxS (m p : Pr) : Pr := if m.1 * p.2 < p.1 * m.2 then p else m
def mxA (m : Pr) (ps : List Pr) : Pr := ps.foldl mxS m
theorem take_snoc {α : Type} {xs : List α} {i : Nat} {x : α} (h : xs[i]? = some x) : xs.take (i + 1) = xs.take i ++ [x] := by
  rw [List.take_succ, h]
  rfl
def SmOk (n : Nat) (s : Pr) : Prop := 0 < s.2 ∧ s.1.natAbs < 2 ^ n ∧ s.2.natAbs < 2 ^ n
theorem smS_ok {n : Nat} {s p : Pr} (h : SmOk n s) (g : Nm p.1 p.2 ∧ p.1.natAbs < 2 ^ 40 ∧ p.2.natAbs < 2 ^ 40) : SmOk (n + 41) (smS s p) := by
  obtain ⟨h0, h1, h2⟩ := h
  obtain ⟨g0, g1, g2⟩ := g
  have z : plB s.1 s.2 p.1 p.2 ≠ 0 := mul_ne h0 g0.1
  have a1 : (p.1 * s.2).natAbs < 2 ^ (n + 40) := by rw [Nat.add_comm]; exact mul2 g1 h2
  refine ⟨(lw_nm z).1, ?_, ?_⟩
  · exact Nat.lt_of_le_of_lt (lwT_le z) (add2 (mul2 h1 g2) a1)
  · exact Nat.lt_of_le_of_lt (lwB_le z) (lt2 (mul2 h2 g2) (by omega))
theorem smA_ok : ∀ (ps : List Pr) (s : Pr) (n : Nat), SmOk n s → GoodP ps → SmOk (n + 41 * ps.length) (ps.foldl smS s)
  | [], s, n, h, _ => h
  | p :: ps, s, n, h, g => by
    have := smA_ok ps (smS s p) (n + 41) (smS_ok h (g p (List.mem_cons_self ..))) (fun q hq => g q (List.mem_cons_of_mem _ hq))
    rw [List.foldl_cons, List.length_cons, show n + 41 * (ps.length + 1) = n + 41 + 41 * ps.length by omega]
    exact this
theorem GoodP.take {ps : List Pr} (h : GoodP ps) (i : Nat) : GoodP (ps.take i) := fun p hp => h p (List.mem_of_mem_take hp)
theorem sm_fit {ps : List Pr} (g : GoodP ps) (l : ps.length ≤ 20) (i : Nat) : SmOk 1000 (smA (ps.take i)) := by
  have h := smA_ok (ps.take i) (0, 1) 1 ⟨by decide, by decide, by decide⟩ (g.take i)
  have hl : (ps.take i).length ≤ 20 := by rw [List.length_take]; omega
  exact ⟨h.1, lt2 h.2.1 (by omega), lt2 h.2.2 (by omega)⟩
theorem mx_mem : ∀ (ps : List Pr) (m : Pr), mxA m ps = m ∨ mxA m ps ∈ ps
  | [], m => .inl rfl
  | p :: ps, m => by
    have h := mx_mem ps (mxS m p)
    show mxA (mxS m p) ps = m ∨ mxA (mxS m p) ps ∈ p :: ps
    rcases h with h | h
    · rw [h]
      unfold mxS
      split
      · exact .inr (List.mem_cons_self ..)
      · exact .inl rfl
    · exact .inr (List.mem_cons_of_mem _ h)
theorem mx_self (p : Pr) (ps : List Pr) : mxA p (p :: ps) = mxA p ps := by
  show mxA (mxS p p) ps = mxA p ps
  unfold mxS
  rw [if_neg (Int.lt_irrefl _)]
/-! ### total, greatest -/
def spTotal (K : PySem.W.Frag) (C : Addr) : Sp := fun vs H Q _ => ∃ (l : Addr) (xs : List V) (ps : List Pr), vs = [.ref l] ∧ SqL K H l xs ∧ Rs C H xs ps ∧ GoodP ps ∧ ps.length ≤ 20 ∧ RetR C (smA ps).1 (smA ps).2 H Q
set_option maxHeartbeats 4000000 in
theorem ok_total (T : TX K mg A FD TK) : FnOk P w K mg base CX0 7 (A 14) (FD 14) ["ratios"] (spTotal K (A 13)) := by
  have G_Ratio := (ok_init (P := P) (w := w) (base := base) T).mono (show 3 ≤ 5 by decide)
  have G_Ratio_plus := ok_plus (P := P) (w := w) (base := base) T
  obtain ⟨_, ds1, R1_Ratio, B1_Ratio⟩ := bindsR T
  refine T.f_total.ok (k := 6) sc_total (fun vs H Q E h => ?_) (fun cdv A' outer s H vs Q E hr h => ?_)
  · obtain ⟨l, xs, ps, rfl, _⟩ := h
    rfl
  · obtain ⟨l, xs, ps, rfl, hl, hR, hg, hn, q⟩ := h
    refine ⟨_, (pss_cons (ps_set (i := 1) sc_total.nd rfl (.inl rfl) (pe_make T.M_Ratio G_Ratio hr (by rfl) T.k_Ratio B1_Ratio R1_Ratio pass0 (pa_cons pe_int pa_nil)))
      (pss_cons (ps_for PassesOwn.never rfl (piLK (K := K) rfl (pv 0)) (pg_name (i := 2) sc_total.nd rfl (.inl rfl))
      (pss_one (ps_set (i := 1) sc_total.nd rfl (.inl rfl) (pe_meth (pv 1) T.cl_Ratio T.M_Ratio_plus G_Ratio_plus hr T.b_Ratio_plus .nil pass0 (pa_cons (pv 2) pa_nil)))))
      (pss_one (ps_ret (pv 1))))), ?_⟩
    refine fun x dx nx ndx _ => mk_ratio (t := 0) (b := 1) nx ndx (by decide) (by decide) (by decide) fun H1 e1 r1 => ?_
    refine ⟨.ref l, rfl, l, rfl, ⟨_, ex_l e1 hl⟩, ?_⟩
    refine for_list (K := K) (xs := xs) (fun i σ' H' => ∃ (y : Option V) (a : Addr), σ' = [some (.ref l), some (.ref a), y] ∧ Ex H H' ∧ H a = none ∧ Rt (A 13) H' a (smA (ps.take i)).1 (smA (ps.take i)).2) ⟨none, x, rfl, e1, nx, r1⟩ (fun i σ' H' _ pv => ?_) (fun i v σ' H' gx pv => ?_) (fun σ' H' pv => ?_)
    · obtain ⟨y, a, _, e2, _⟩ := pv
      exact ex_l e2 hl
    · obtain ⟨y, a, rfl, e2, na, ra⟩ := pv
      obtain ⟨p, b, gp, rfl, rb⟩ := hR.at gx
      have gg := hg p (List.mem_of_getElem? gp)
      have sf := sm_fit hg hn i
      obtain ⟨da, ra⟩ := ra
      refine ⟨.ref a, rfl, a, da, _, rfl, ra, rfl, .ref b, rfl, a, b, _, _, p.1, p.2, rfl, ⟨da, ra⟩, rb.ex e2, sf.1, gg.1.1, lt2 sf.2.1 (by decide), lt2 sf.2.2 (by decide), lt2 gg.2.1 (by decide), lt2 gg.2.2 (by decide), fun c H2 nc e3 rc => ?_⟩
      refine ⟨some (.ref b), c, rfl, e2.trans e3, fresh_back e2 nc, ?_⟩
      rw [show smA (ps.take (i + 1)) = smS (smA (ps.take i)) p by unfold smA; rw [take_snoc gp, List.foldl_append]; rfl]
      exact rc
    · obtain ⟨y, a, rfl, e2, na, ra⟩ := pv
      refine ⟨.ref a, rfl, q a H' na e2 ?_⟩
      rw [hR.1, List.take_length] at ra
      exact ra
/-- what own_copy tells of what is handed in as default -/
def OwnC (C : Addr) (H : Hp) (v : V) (Q : VK) : Prop :=
  ((∃ i, v = .int i) ∨ (∃ z, v = .str z) ∨ (∃ b, v = .bl b) ∨ v = .non ∨ ∃ a t b, v = .ref a ∧ Rt C H a t b) ∧ Q v H ∨ ∃ a, v = .ref a ∧ H a = some (.tup []) ∧ ∀ p H', Ex H H' → H' p = some (.tup []) → Q (.ref p) H'
def spOwn (C : Addr) : Sp := fun vs H Q _ => ∃ v, vs = [v] ∧ OwnC C H v Q
set_option maxHeartbeats 4000000 in
theorem ok_own_copy (T : TX K mg A FD TK) : FnOk P w K mg base CX0 2 (A 2) (FD 2) ["thing"] (spOwn (A 13)) := by
  have G_own_copy : FnOk P w K mg base CX0 1 (A 2) (FD 2) ["thing"] (fun _ _ _ _ => False) := T.f_own_copy.ok sc_own_copy (fun vs H Q E h => h.elim) (fun cdv A' outer s H vs Q E hr h => h.elim)
  refine T.f_own_copy.ok (k := 1) sc_own_copy (fun vs H Q E h => ?_) (fun cdv A' outer s H vs Q E hr h => ?_)
  · obtain ⟨v, rfl, _⟩ := h
    rfl
  · obtain ⟨v, rfl, h⟩ := h
    refine ⟨_, (pss_cons (ps_if (pt_val (pe_callB (isiK (K := K) rfl) (by rfl) T.m_isinstance (by decide +kernel) (pa_cons (pv 0) (pa_cons (pe_bltn (v := .ty "list") (by rfl) T.m_list (by decide +kernel) rfl) pa_nil))))
      (pss_one (ps_ret (pe_lc (own := [("one", 1)])  rfl sc_own_copy.nd (piTK (K := K) rfl (pv 0)) (blkOk_by (own := [("one", 1)]) (N := N_own_copy) (sc := defScope (topS 2)) (by decide +kernel)) (fun _ _ _ _ _ => (pg_name (i := 1) sc_own_copy.nd rfl (Or.inl rfl))) (fun _ _ _ _ _ => pts_nil) (fun _ _ _ _ _ => (pe_call G_own_copy hr (by rfl) T.g_own_copy T.f_own_copy.kp T.b_own_copy .nil pass0 (pa_cons (pv 1) pa_nil))))))
      pss_nil)
      (pss_cons (ps_if (pt_val (pe_callB (isiK (K := K) rfl) (by rfl) T.m_isinstance (by decide +kernel) (pa_cons (pv 0) (pa_cons (pe_bltn (v := .ty "tuple") (by rfl) T.m_tuple (by decide +kernel) rfl) pa_nil))))
      (pss_one (ps_ret (pe_callTy (tupK (K := K) rfl) (by rfl) T.m_tuple (by decide +kernel) (pa_cons (pe_lc (own := [("one", 1)])  rfl sc_own_copy.nd (piTK (K := K) rfl (pv 0)) (blkOk_by (own := [("one", 1)]) (N := N_own_copy) (sc := defScope (topS 2)) (by decide +kernel)) (fun _ _ _ _ _ => (pg_name (i := 1) sc_own_copy.nd rfl (Or.inl rfl))) (fun _ _ _ _ _ => pts_nil) (fun _ _ _ _ _ => (pe_call G_own_copy hr (by rfl) T.g_own_copy T.f_own_copy.kp T.b_own_copy .nil pass0 (pa_cons (pv 1) pa_nil)))) pa_nil))))
      pss_nil)
      (pss_one (ps_ret (pv 0))))), ?_⟩
    rcases h with ⟨h, q⟩ | ⟨a, rfl, ha, q⟩
    · rcases h with ⟨i, rfl⟩ | ⟨z, rfl⟩ | ⟨b, rfl⟩ | rfl | ⟨a, t, b, rfl, dx, hr⟩
      · exact ⟨.int i, rfl, .int i, .ty "list", _, .type "list", false, rfl, .ty _, .base (.int i), kit_ty (by decide +kernel), false, rfl, .int i, rfl, .int i, .ty "tuple", _, .type "tuple", false, rfl, .ty _, .base (.int i), kit_ty (by decide +kernel), false, rfl, .int i, rfl, q⟩
      · exact ⟨.str z, rfl, .str z, .ty "list", _, .type "list", false, rfl, .ty _, .base (.str z), kit_ty (by decide +kernel), false, rfl, .str z, rfl, .str z, .ty "tuple", _, .type "tuple", false, rfl, .ty _, .base (.str z), kit_ty (by decide +kernel), false, rfl, .str z, rfl, q⟩
      · exact ⟨.bl b, rfl, .bl b, .ty "list", _, .type "list", false, rfl, .ty _, .base (.bl b), kit_ty (by decide +kernel), false, rfl, .bl b, rfl, .bl b, .ty "tuple", _, .type "tuple", false, rfl, .ty _, .base (.bl b), kit_ty (by decide +kernel), false, rfl, .bl b, rfl, q⟩
      · exact ⟨.non, rfl, .non, .ty "list", _, .type "list", false, rfl, .ty _, .base .non, kit_ty (by decide +kernel), false, rfl, .non, rfl, .non, .ty "tuple", _, .type "tuple", false, rfl, .ty _, .base .non, kit_ty (by decide +kernel), false, rfl, .non, rfl, q⟩
      · exact ⟨.ref a, rfl, .ref a, .ty "list", _, .type "list", false, rfl, .ty _, .base (.ins hr T.cl_Ratio T.ci T.cs T.ct T.cm), T.kl, false, rfl, .ref a, rfl, .ref a, .ty "tuple", _, .type "tuple", false, rfl, .ty _, .base (.ins hr T.cl_Ratio T.ci T.cs T.ct T.cm), T.kt, false, rfl, .ref a, rfl, q⟩
    · refine ⟨.ref a, rfl, .ref a, .ty "list", _, .type "list", false, rfl, .ty _, .base (.tup ha), kit_ty (by decide +kernel), false, rfl, .ref a, rfl, .ref a, .ty "tuple", _, .type "tuple", true, rfl, .ty _, .base (.tup ha), kit_ty (by decide +kernel), true, rfl, ?_⟩
      refine ⟨.ref a, rfl, a, rfl, ⟨_, SqT.of ha⟩, fun D nD => ?_⟩
      refine lc_tup (K := K) (xs := []) (fun i H' => Ex H H' ∧ H' D = some (.lst [])) ⟨Ex.new nD, upd_same⟩ (fun i H' _ p => SqT.of (p.1 _ _ ha)) (fun i x H' gx _ => by simp at gx) (fun H' p => ?_)
      exact ⟨D, [], rfl, .inl ⟨SqL.of p.2, fun t nt => q t _ (p.1.trans (Ex.new nt)) upd_same⟩⟩
def spGreat (K : PySem.W.Frag) (C : Addr) : Sp := fun vs H Q _ => ∃ (l : Addr) (v : V) (xs : List V) (ps : List Pr), vs = [.ref l, v] ∧ SqL K H l xs ∧ Rs C H xs ps ∧ GoodP ps ∧ (ps = [] → OwnC C H v Q) ∧ ∀ p r, ps = p :: r → ∀ a, Rt C H a (mxA p r).1 (mxA p r).2 → Q (.ref a) H
set_option maxHeartbeats 4000000 in
theorem ok_greatest (T : TX K mg A FD TK) : FnOk P w K mg base CX0 3 (A 15) (FD 15) ["ratios", "default"] (spGreat K (A 13)) := by
  have G_own_copy := ok_own_copy (P := P) (w := w) (base := base) T
  have G_Ratio_is_less := (ok_is_less (P := P) (w := w) (base := base) T).mono (show 1 ≤ 2 by decide)
  refine T.f_greatest.ok (k := 2) sc_greatest (fun vs H Q E h => ?_) (fun cdv A' outer s H vs Q E hr h => ?_)
  · obtain ⟨l, v, xs, ps, rfl, _⟩ := h
    rfl
  · obtain ⟨l, v, xs, ps, rfl, hl, hR, hg, q1, q2⟩ := h
    refine ⟨_, PSs.nox (pss_cons (ps_if (pt_not (pt_truth (pv 0) (by intro _; rfl)))
      (pss_one (ps_ret (pe_call G_own_copy hr (by rfl) T.g_own_copy T.f_own_copy.kp T.b_own_copy .nil pass0 (pa_cons (pv 1) pa_nil))))
      pss_nil)
      (pss_cons (ps_set (i := 2) sc_greatest.nd rfl (.inl rfl) (pe_ix (ixLK (K := K) rfl) (pv 0) pe_int (fun _ _ => rfl)))
      (pss_cons (ps_for PassesOwn.never rfl (piLK (K := K) rfl (pv 0)) (pg_name (i := 3) sc_greatest.nd rfl (.inl rfl))
      (pss_one (ps_if (pt_val (pe_meth (pv 2) T.cl_Ratio T.M_Ratio_is_less G_Ratio_is_less hr T.b_Ratio_is_less .nil pass0 (pa_cons (pv 3) pa_nil)))
      (pss_one (ps_set (i := 2) sc_greatest.nd rfl (.inl rfl) (pv 3)))
      pss_nil)))
      (pss_one (ps_ret (pv 2)))))), ?_⟩
    refine ⟨.ref l, rfl, _, .inl ⟨xs, hl, rfl⟩, ?_⟩
    cases ps with
    | nil =>
      have ex : xs = [] := List.eq_nil_of_length_eq_zero hR.1
      subst ex
      exact ⟨v, rfl, v, rfl, q1 rfl⟩
    | cons p0 r =>
      obtain ⟨a0, g0, r0⟩ := hR.2 0 p0 rfl
      have ne : xs.isEmpty = false := by cases xs with | nil => simp at g0 | cons => rfl
      rw [ne]
      refine ⟨.ref l, rfl, l, _, 0, _, rfl, rfl, hl, atI_nat (j := 0) g0, ?_⟩
      refine ⟨.ref l, rfl, l, rfl, ⟨_, hl⟩, ?_⟩
      refine for_list (K := K) (xs := xs) (fun i σ' H' => ∃ (y : Option V) (a : Addr), σ' = [some (.ref l), some v, some (.ref a), y] ∧ H' = H ∧ Rt (A 13) H a (mxA p0 ((p0 :: r).take i)).1 (mxA p0 ((p0 :: r).take i)).2) ⟨none, a0, rfl, rfl, r0⟩ (fun i σ' H' _ pv => ?_) (fun i x σ' H' gx pv => ?_) (fun σ' H' pv => ?_)
      · obtain ⟨y, a, _, rfl, _⟩ := pv
        exact hl
      · obtain ⟨y, a, rfl, rfl, ra⟩ := pv
        obtain ⟨p, b, gp, rfl, rb⟩ := hR.at gx
        have gg := hg p (List.mem_of_getElem? gp)
        have gm : Nm (mxA p0 ((p0 :: r).take i)).1 (mxA p0 ((p0 :: r).take i)).2 ∧ (mxA p0 ((p0 :: r).take i)).1.natAbs < 2 ^ 40 ∧ (mxA p0 ((p0 :: r).take i)).2.natAbs < 2 ^ 40 := by
          rcases mx_mem ((p0 :: r).take i) p0 with e | e
          · rw [e]; exact hg p0 (List.mem_cons_self ..)
          · exact hg _ (List.mem_of_mem_take e)
        have e1 : mxA p0 ((p0 :: r).take (i + 1)) = mxS (mxA p0 ((p0 :: r).take i)) p := by unfold mxA; rw [take_snoc gp, List.foldl_append]; rfl
        generalize mxA p0 ((p0 :: r).take i) = m at ra gm e1
        obtain ⟨da, ra⟩ := ra
        refine ⟨.ref a, rfl, a, da, _, rfl, ra, rfl, .ref b, rfl, a, b, _, _, p.1, p.2, rfl, ⟨da, ra⟩, rb, lt2 gm.2.1 (by decide), lt2 gm.2.2 (by decide), lt2 gg.2.1 (by decide), lt2 gg.2.2 (by decide), _, rfl, ite2 (fun e => ?_) (fun e => ?_)⟩
        · refine ⟨.ref b, rfl, some (.ref b), b, rfl, rfl, ?_⟩
          rw [e1, show mxS m p = p by unfold mxS; rw [if_pos (of_decide_eq_true e)]]
          exact rb
        · refine ⟨some (.ref b), a, rfl, rfl, ?_⟩
          rw [e1, show mxS m p = m by unfold mxS; rw [if_neg fun z => e (decide_eq_true z)]]
          exact ⟨da, ra⟩
      · obtain ⟨y, a, rfl, rfl, ra⟩ := pv
        refine ⟨.ref a, rfl, q2 p0 r rfl a ?_⟩
        rw [hR.1, List.take_length, mx_self] at ra
        exact ra
/-! ### == of ratios that are alike -/
def EqR (C : Addr) (a b : Addr) (H : Hp) : Prop := ∃ t d, Rt C H a t d ∧ Rt C H b t d
set_option maxHeartbeats 4000000 in
theorem ok_eq (T : TX K mg A FD TK) : FnOk P w K mg base CX0 1 (A 31) (FD 31) ["self", "other"] (spEq (EqR (A 13))) := by
  refine T.f_Ratio_eq.ok sc_Ratio_eq (fun vs H Q E h => ?_) (fun cdv A' outer s H vs Q E hr h => ?_)
  · obtain ⟨a, b, rfl, _⟩ := h
    rfl
  · obtain ⟨a, b, rfl, ⟨t, d, ⟨da, ha⟩, ⟨db, hb⟩⟩, q⟩ := h
    refine ⟨_, (pss_one (ps_ret (pe_and (pe_callB (isiK (K := K) rfl) (by rfl) T.m_isinstance (by decide +kernel) (pa_cons (pv 1) (pa_cons (pe_glob (v := .ref (A 13)) (by rfl) T.k_Ratio rfl) pa_nil))) (pe_and (pe_cmpR op_eq (fldK (K := K) rfl (pv 0) rfl) (fldK (K := K) rfl (pv 1) rfl) (nomark _)) (pe_one (pe_cmpR op_eq (fldK (K := K) rfl (pv 0) rfl) (fldK (K := K) rfl (pv 1) rfl) (nomark _))))))), ?_⟩
    refine ⟨.ref b, rfl, .ref b, .ref (A 13), _, .ref (A 13), true, rfl, .own _, .base (.ins hb T.cl_Ratio T.ci T.cs T.ct T.cm), T.kr, true, rfl, ?_⟩
    refine ⟨.ref a, rfl, a, _, da, _, _, rfl, ha, T.cl_Ratio, T.n_Ratio_top, rfl, .ref b, rfl, b, _, db, _, _, rfl, hb, T.cl_Ratio, T.n_Ratio_top, rfl, rfl, true, congrArg V.bl (decide_eq_true rfl), ?_⟩
    refine ⟨.ref a, rfl, a, _, da, _, _, rfl, ha, T.cl_Ratio, T.n_Ratio_bottom, rfl, .ref b, rfl, b, _, db, _, _, rfl, hb, T.cl_Ratio, T.n_Ratio_bottom, rfl, rfl, ?_⟩
    rw [show decide (V.int d = V.int d) = true from decide_eq_true rfl]
    exact q H Ext.rfl'

/-! ### drawn -/
def spSmall : Sp := fun vs H Q _ => ∃ (p : Addr) (c : Nat), vs = [.ref p] ∧ Pl H p c ∧ c < 900000 ∧ ∀ (l : Addr) (t b : Int) (H' : Hp), H l = none → H' l = some (.tup [.int t, .int b]) → Nm t b ∧ t.natAbs < 2 ^ 40 ∧ b.natAbs < 2 ^ 40 → Pl H' p (c + 4) → Fx p H H' → Q (.ref l) H'
set_option maxHeartbeats 4000000 in
theorem ok_l_small_ratio (T : TX K mg A FD TK) : FnOk P w K mg base CX0 2 (A 27) (FD 27) ["_law_purse_here"] spSmall := by
  have G_l_take := ok_l_take (P := P) (w := w) (base := base) T
  have G_l_low := ok_l_low (P := P) (w := w) (base := base) T
  refine T.f_l_small_ratio.ok (k := 1) sc_l_small_ratio (fun vs H Q E h => ?_) (fun cdv A' outer s H vs Q E hr h => ?_)
  · obtain ⟨p, c, rfl, _⟩ := h
    rfl
  · obtain ⟨p, c, rfl, hp, hc, q⟩ := h
    refine ⟨_, (pss_cons (ps_set (i := 1) sc_l_small_ratio.nd rfl (.inl rfl) (pe_ix (ixLK (K := K) rfl) (pe_lst (pa_cons pe_int (pa_cons (pe_op op_pow pe_int pe_int) pa_nil))) (pe_call G_l_take hr (by rfl) T.g_l_take T.f_l_take.kp T.b_l_take .nil pass0 (pa_cons (pv 0) (pa_cons pe_int pa_nil))) (fun _ _ => rfl)))
      (pss_cons (ps_set (i := 2) sc_l_small_ratio.nd rfl (.inl rfl) (pe_op op_sub pe_int (pe_op op_mul pe_int (pe_call G_l_take hr (by rfl) T.g_l_take T.f_l_take.kp T.b_l_take .nil pass0 (pa_cons (pv 0) (pa_cons pe_int pa_nil))))))
      (pss_one (ps_ret (pe_call G_l_low hr (by rfl) T.g_l_low T.f_l_low.kp T.b_l_low .nil pass0 (pa_cons (pe_op op_mul (pv 2) (pe_call G_l_take hr (by rfl) T.g_l_take T.f_l_take.kp T.b_l_take .nil pass0 (pa_cons (pv 0) (pa_cons (pv 1) pa_nil)))) (pa_cons (pe_op op_add pe_int (pe_call G_l_take hr (by rfl) T.g_l_take T.f_l_take.kp T.b_l_take .nil pass0 (pa_cons (pv 0) (pa_cons (pv 1) pa_nil)))) pa_nil))))))), ?_⟩
    refine ⟨10, 10, rfl, rfl, ⟨by decide, by decide, by decide⟩, by show 2 ≤ sizeLine; decide, fun ll nll => ?_⟩
    have hp0 := hp.ex (Ex.new (o := .lst [.int 4, .int (10 ^ Int.toNat 10)]) nll)
    have nlp : ll ≠ p := by
      obtain ⟨xs, hx⟩ := hp.some
      exact (ne_of_none hx nll).symm
    have hll : (upd H ll (.lst [.int 4, .int (10 ^ Int.toNat 10)])) ll = some (.lst [.int 4, .int (10 ^ Int.toNat 10)]) := upd_same
    have e1 : Ex H (upd H ll (.lst [.int 4, .int (10 ^ Int.toNat 10)])) := Ex.new nll
    refine ⟨.ref p, rfl, p, 2, c, rfl, hp0, by decide, by decide, by omega, fun d H1 d0 d1 hp1 f1 => ?_⟩
    have hl1 := f1 _ _ nlp hll
    obtain ⟨m, hm, m0, m1⟩ : ∃ m : Int, ([V.int 4, V.int (10 ^ Int.toNat 10)])[d.toNat]? = some (.int m) ∧ 0 < m ∧ m ≤ 10000000000 := by
      have : d = 0 ∨ d = 1 := by omega
      rcases this with rfl | rfl
      · exact ⟨4, rfl, by decide, by decide⟩
      · exact ⟨10 ^ Int.toNat 10, rfl, by decide, by decide⟩
    obtain ⟨j, rfl⟩ := Int.eq_ofNat_of_zero_le d0
    refine ⟨ll, _, _, .int m, rfl, rfl, SqL.of hl1, atI_nat (j := j) hm, ?_⟩
    refine ⟨.ref p, rfl, p, 2, c + 1, rfl, hp1, by decide, by decide, by omega, fun g H2 g0 g1 hp2 f2 => ?_⟩
    refine ⟨2, g, rfl, rfl, .inl ⟨by decide, by decide⟩, 1, 2 * g, rfl, rfl, ?_⟩
    refine ⟨.int (1 - 2 * g), rfl, .ref p, rfl, .int m, rfl, p, m, c + 2, rfl, hp2, m0, by omega, by omega, fun x H3 x0 x1 hp3 f3 => ?_⟩
    refine ⟨1 - 2 * g, x, rfl, rfl, .inl ⟨by omega, by omega⟩, ?_⟩
    refine ⟨.ref p, rfl, .int m, rfl, p, m, c + 3, rfl, hp3, m0, by omega, by omega, fun y H4 y0 y1 hp4 f4 => ?_⟩
    have xb : ((1 - 2 * g) * x).natAbs < 2 ^ 40 := by
      have : g = 0 ∨ g = 1 := by omega
      rcases this with rfl | rfl
      · show (1 * x).natAbs < 2 ^ 40
        rw [Int.one_mul]
        omega
      · show (-1 * x).natAbs < 2 ^ 40
        rw [Int.neg_mul, Int.one_mul]
        omega
    refine ⟨1, y, rfl, rfl, _, _, rfl, by omega, lt2 xb (by decide), lt2 (n := 40) (by omega) (by decide), fun l nl => ?_⟩
    have ff := ((f1.trans f2).trans f3).trans f4
    have b0 : (1 + y) ≠ 0 := by omega
    exact q l _ _ _ (fresh_back e1 (fx_free ff hp4 nl)) upd_same ⟨lw_nm b0, Nat.lt_of_le_of_lt (lwT_le b0) xb, Nat.lt_of_le_of_lt (lwB_le b0) (by omega)⟩ (hp4.ex (Ex.new nl)) (((Fx.ex e1).trans ff).trans (Fx.ex (Ex.new nl)))
/-! ### one list -/
/-- what may be handed in as default -/
def OwnV (C : Addr) (H : Hp) (v : V) : Prop := ((∃ i, v = .int i) ∨ (∃ z, v = .str z ∧ flatV (.str z) = true) ∨ (∃ b, v = .bl b) ∨ ∃ a t b, v = .ref a ∧ Rt C H a t b) ∨ ∃ a, v = .ref a ∧ H a = some (.tup [])
theorem OwnV.ex {C : Addr} {H H' : Hp} {v : V} (h : OwnV C H v) (e : Ex H H') : OwnV C H' v := by
  rcases h with (h | h | h | ⟨a, t, b, h, r⟩) | ⟨a, h, g⟩
  · exact .inl (.inl h)
  · exact .inl (.inr (.inl h))
  · exact .inl (.inr (.inr (.inl h)))
  · exact .inl (.inr (.inr (.inr ⟨a, t, b, h, r.ex e⟩)))
  · exact .inr ⟨a, h, e _ _ g⟩
def spRight (K : PySem.W.Frag) (C : Addr) : Sp := fun vs H Q _ => ∃ (l : Addr) (v : V) (xs : List V) (ps : List Pr), vs = [.ref l, v] ∧ H l = some (.lst xs) ∧ Ps K H xs ps ∧ GoodP ps ∧ ps.length ≤ 12 ∧ OwnV C H v ∧ ∀ H', Ex H H' → Q (.bl true) H'
theorem kb_greatest (T : TX K mg A FD TK) : KBn K (FD 15) ["ratios", "default"] 1 ["default"] (fun us ws => us ++ ws) (fun vs zs => vs ++ zs) := by
  obtain ⟨oc, od, dV, kV, doc, pm, an, cdv, ct, osl, e, lk, hcd, hD, hK⟩ := T.f_greatest.ex
  rcases hD with ⟨_, rfl⟩ | ⟨e', _⟩
  · rw [e]
    rcases hK with e' | ⟨D, rfl, _⟩
    · cases e'
    · exact ⟨fun s us ws _ l1 l2 => match us, ws, l1, l2 with | [_], [_], _, _ => .of_eq rfl, fun r1 r2 => r1.append r2⟩
  · exact absurd rfl e'
theorem bd_greatest (T : TX K mg A FD TK) : ∃ ds, Vals [V.non] ds ∧ Binds K (FD 15) ["ratios", "default"] ds :=
  T.f_greatest.binds0 1 (by simp) rfl fun D doc pm an cdv ct us ks l1 l2 => match us, ks, l1, l2 with
    | [_], [_], _, _ => ⟨_, _, _, _, _, _, rfl, rfl, rfl⟩
/-- a tuple is not a list -/
theorem sqt_lst {K : PySem.W.Frag} {H : Hp} {D a : Addr} {ys : List V} {o : List V} {xs : List V} (hD : H D = some (.lst ys)) (h : SqT K H a xs) : SqT K (upd H D (.lst o)) a xs := by
  rcases h with (h | ⟨o', h⟩) | h
  · exact .inl (.inl (by rw [upd_ne (ne_of h hD (by intro z; cases z))]; exact h))
  · exact .inl (.inr ⟨o', by rw [upd_ne (ne_of h hD (by intro z; cases z))]; exact h⟩)
  · exact .inr h
theorem mxL_take (p0 : Pr) (r : List Pr) (i : Nat) : mxA p0 ((p0 :: r).take (i + 1)) = mxA p0 (r.take i) := by
  rw [List.take_succ_cons, mx_self]
set_option maxHeartbeats 16000000 in
theorem ok_l_right (T : TX K mg A FD TK) : FnOk P w K mg base CX0 8 (A 28) (FD 28) ["_law_pairs", "_law_other"] (spRight K (A 13)) := by
  have G_Ratio := (ok_init (P := P) (w := w) (base := base) T).mono (show 3 ≤ 6 by decide)
  have G_l_plus := (ok_l_plus (P := P) (w := w) (base := base) T).mono (show 2 ≤ 7 by decide)
  have G_l_less := (ok_l_less (P := P) (w := w) (base := base) T).mono (show 1 ≤ 7 by decide)
  have G_l_is_ratio := (ok_l_is_ratio (P := P) (w := w) (base := base) T).mono (show 1 ≤ 7 by decide)
  have G_total := ok_total (P := P) (w := w) (base := base) T
  have G_greatest := (ok_greatest (P := P) (w := w) (base := base) T).mono (show 3 ≤ 7 by decide)
  have G_Ratio_eq := (ok_eq (P := P) (w := w) (base := base) T).mono (show 1 ≤ 7 by decide)
  have KB_greatest := kb_greatest T
  obtain ⟨dsg, R_greatest, B_greatest⟩ := bd_greatest T
  obtain ⟨⟨ds2, R2_Ratio, B2_Ratio⟩, _⟩ := bindsR T
  refine T.f_l_right.ok (k := 7) sc_l_right (fun vs H Q E h => ?_) (fun cdv A' outer s H vs Q E hr h => ?_)
  · obtain ⟨l, v, xs, ps, rfl, _⟩ := h
    rfl
  · obtain ⟨l, v, xs, ps, rfl, hl, hP, hg, hn, hv, q⟩ := h
    refine ⟨_, (pss_cons (ps_setLc (i := 2) (own := [("_law_top", 6), ("_law_bottom", 7)])  rfl sc_l_right.nd rfl rfl (sw_true rfl rfl rfl (by decide +kernel)) (piLK (K := K) rfl (pv 0)) (blkOk_by (own := [("_law_top", 6), ("_law_bottom", 7)]) (N := N_l_right) (sc := defScope (topS 28)) (by decide +kernel)) (fun _ _ _ _ _ => (tupGK (K := K) (n := 2) rfl rfl (pgs_cons (pg_name (i := 6) sc_l_right.nd rfl (Or.inl rfl)) (pgs_cons (pg_name (i := 7) sc_l_right.nd rfl (Or.inl rfl)) pgs_nil)))) (fun _ _ _ _ _ => pts_nil) (fun _ _ _ _ _ => (pe_make T.M_Ratio G_Ratio hr (by rfl) T.k_Ratio B2_Ratio R2_Ratio pass0 (pa_cons (pv 6) (pa_cons (pv 7) pa_nil)))))
      (pss_cons (ps_asg (pe_tup (pa_cons (pe_tup (pa_cons pe_int (pa_cons pe_int pa_nil))) (pa_cons pe_non pa_nil))) (pg_tup rfl (pgs_cons (pg_name (i := 3) sc_l_right.nd rfl (.inl rfl)) (pgs_cons (pg_name (i := 4) sc_l_right.nd rfl (.inl rfl)) pgs_nil))))
      (pss_cons (ps_for PassesOwn.never rfl (piLK (K := K) rfl (pv 0)) (pg_name (i := 5) sc_l_right.nd rfl (.inl rfl))
      (pss_cons (ps_set (i := 3) sc_l_right.nd rfl (.inl rfl) (pe_call G_l_plus hr (by rfl) T.g_l_plus T.f_l_plus.kp T.b_l_plus .nil pass0 (pa_cons (pv 3) (pa_cons (pv 5) pa_nil))))
      (pss_one (ps_if (PW.pt (pw_or (pt_cmpR op_isN (pv 4) pe_non (nomark _)) (pw_or1 (pt_val (pe_call G_l_less hr (by rfl) T.g_l_less T.f_l_less.kp T.b_l_less .nil pass0 (pa_cons (pv 4) (pa_cons (pv 5) pa_nil)))))))
      (pss_one (ps_set (i := 4) sc_l_right.nd rfl (.inl rfl) (pv 5)))
      pss_nil))))
      (pss_cons (ps_if (PW.pt (pw_or (pt_not (pt_val (pe_call G_l_is_ratio hr (by rfl) T.g_l_is_ratio T.f_l_is_ratio.kp T.b_l_is_ratio .nil pass0 (pa_cons (pe_call G_total hr (by rfl) T.g_total T.f_total.kp T.b_total .nil pass0 (pa_cons (pv 2) pa_nil)) (pa_cons (pv 3) pa_nil))))) (pw_or1 (pt_cmpR (neDK (K := K) rfl hr.units) (pe_lc (own := [("_law_one", 8)])  rfl sc_l_right.nd (piLK (K := K) rfl (pv 2)) (blkOk_by (own := [("_law_one", 8)]) (N := N_l_right) (sc := defScope (topS 28)) (by decide +kernel)) (fun _ _ _ _ _ => (pg_name (i := 8) sc_l_right.nd rfl (Or.inl rfl))) (fun _ _ _ _ _ => pts_nil) (fun _ _ _ _ _ => (pe_tup (pa_cons (fldK (K := K) rfl (pv 8) rfl) (pa_cons (fldK (K := K) rfl (pv 8) rfl) pa_nil))))) (pv 0) (nomark _)))))
      (pss_one (ps_ret pe_bl))
      pss_nil)
      (pss_cons (ps_if (pt_cmpR (eqDK (K := K) rfl hr.units) (pv 0) (pe_lst pa_nil) (nomark _))
      (pss_one (ps_ret (pe_and (pe_cmpR op_isN (pe_call G_greatest hr (by rfl) T.g_greatest T.f_greatest.kp B_greatest R_greatest pass0 (pa_cons (pv 2) pa_nil)) pe_non (nomark _)) (pe_one (pe_cmpR (L2.OpR.or op_eq (L2.OpR.or (eqDK (K := K) rfl hr.units) (op_eqG (rcG_ins G_Ratio_eq T.M_Ratio_eq.at_ T.M_Ratio_eq.fn T.b_Ratio_eq pass0) hr))) (pe_callN G_greatest hr (by rfl) T.g_greatest T.f_greatest.kp KB_greatest pass0 (pa_cons (pv 2) pa_nil) (pk_cons (pv 1) pk_nil)) (pv 1) (nomark _))))))
      pss_nil)
      (pss_cons (ps_if (PW.pt (pw_or (pt_not (pt_val (pe_call G_l_is_ratio hr (by rfl) T.g_l_is_ratio T.f_l_is_ratio.kp T.b_l_is_ratio .nil pass0 (pa_cons (pe_call G_greatest hr (by rfl) T.g_greatest T.f_greatest.kp B_greatest R_greatest pass0 (pa_cons (pv 2) pa_nil)) (pa_cons (pv 4) pa_nil))))) (pw_or1 (pt_not (pt_val (pe_call G_l_is_ratio hr (by rfl) T.g_l_is_ratio T.f_l_is_ratio.kp T.b_l_is_ratio .nil pass0 (pa_cons (pe_callN G_greatest hr (by rfl) T.g_greatest T.f_greatest.kp KB_greatest pass0 (pa_cons (pv 2) pa_nil) (pk_cons (pv 1) pk_nil)) (pa_cons (pv 4) pa_nil))))))))
      (pss_one (ps_ret pe_bl))
      pss_nil)
      (pss_one (ps_ret (pe_cmpR (eqDK (K := K) rfl hr.units) (pe_lc (own := [("_law_one", 8)])  rfl sc_l_right.nd (piLK (K := K) rfl (pv 2)) (blkOk_by (own := [("_law_one", 8)]) (N := N_l_right) (sc := defScope (topS 28)) (by decide +kernel)) (fun _ _ _ _ _ => (pg_name (i := 8) sc_l_right.nd rfl (Or.inl rfl))) (fun _ _ _ _ _ => pts_nil) (fun _ _ _ _ _ => (pe_tup (pa_cons (fldK (K := K) rfl (pv 8) rfl) (pa_cons (fldK (K := K) rfl (pv 8) rfl) pa_nil))))) (pv 0) (nomark _)))))))))), ?_⟩
    refine ⟨.ref l, rfl, l, rfl, ⟨_, SqL.of hl⟩, fun D nD => ?_⟩
    refine lc_list (K := K) (xs := xs) (fun i H' => ∃ ys, Ex H H' ∧ H' D = some (.lst ys) ∧ Rs (A 13) H' ys (ps.take i)) ⟨[], Ex.new nD, upd_same, Rs.nil⟩ (fun i H' _ p => SqL.of (p.elim fun _ p => p.1 _ _ hl)) (fun i x H' gx p => ?_) (fun H1 p => ?_)
    · obtain ⟨ys, e1, hD, hR⟩ := p
      obtain ⟨p, a, gp, rfl, ha⟩ := hP.at gx
      obtain ⟨g0, g1, g2⟩ := hg p (List.mem_of_getElem? gp)
      refine ⟨a, _, rfl, ex_t e1 ha, rfl, _, _, rfl, _, _, rfl, rfl, rfl, .int p.1, rfl, .int p.2, rfl, fun x dx nx ndx _ => mk_ratio (t := p.1) (b := p.2) nx ndx (by have := g0.1; omega) (lt2 g1 (by decide)) (lt2 g2 (by decide)) fun H2 e2 r2 => ?_⟩
      rw [nm_t g0, nm_b g0] at r2
      have hD2 := e2 _ _ hD
      have hl2 : ys.length ≤ 12 := by rw [hR.1, List.length_take]; omega
      have e3 : Ex H (upd H2 D (.lst (ys ++ [.ref x]))) := Ex.mut (e1.trans e2) nD
      have e4 : ∀ c t d, Rt (A 13) H2 c t d → Rt (A 13) (upd H2 D (.lst (ys ++ [.ref x]))) c t d := fun c t d ⟨dc, hc⟩ => ⟨dc, by rw [upd_ne (ne_of hc hD2 (by intro z; cases z))]; exact hc⟩
      refine ⟨ys, hD2, sz_lt (by omega), ys ++ [.ref x], e3, upd_same, ?_⟩
      rw [take_snoc gp]
      have hR2 := (hR.ex e2).snoc r2
      exact ⟨hR2.1, fun j p' g => let ⟨c, g1, g2⟩ := hR2.2 j p' g; ⟨c, g1, e4 _ _ _ g2⟩⟩
    · obtain ⟨ys, e1, hD, hR⟩ := p
      rw [hP.1, List.take_length] at hR
      have hl1 := e1 _ _ hl
      have hP1 := hP.ex e1
      -- due, most
      refine ⟨by show 2 ≤ sizeLine; decide, fun u nu => ⟨by show 2 ≤ sizeLine; decide, fun uu nuu => ⟨uu, _, rfl, SqT.of upd_same, rfl, _, _, rfl, _, _, rfl, rfl, ?_⟩⟩⟩
      have e2 := (Ex.new (o := .tup [.int 0, .int 1]) nu).trans (Ex.new (o := .tup [.ref u, .non]) nuu)
      have hu0 := Ex.new (o := .tup [.ref u, .non]) nuu _ _ (upd_same (H := H1) (a := u) (o := .tup [.int 0, .int 1]))
      refine ⟨.ref l, rfl, l, rfl, ⟨_, SqL.of (e2 _ _ hl1)⟩, ?_⟩
      refine for_list (K := K) (xs := xs) (fun i σ' H' => ∃ (y5 : Option V) (u : Addr) (m : V), σ' = [some (.ref l), some v, some (.ref D), some (.ref u), some m, y5, none, none, none] ∧ Ex H1 H' ∧ H' u = some (.tup [.int (smA (ps.take i)).1, .int (smA (ps.take i)).2]) ∧ (i = 0 → m = .non) ∧ (0 < i → ∃ p0 r a, ps = p0 :: r ∧ m = .ref a ∧ SqT K H1 a [.int (mxA p0 (ps.take i)).1, .int (mxA p0 (ps.take i)).2])) ⟨none, u, .non, rfl, e2, hu0, fun _ => rfl, fun z => absurd z (by decide)⟩ (fun i σ' H' _ pv => ?_) (fun i x σ' H' gx pv => ?_) (fun σ' H' pv => ?_)
      · obtain ⟨y, u, m, _, e3, _⟩ := pv
        exact SqL.of (e3 _ _ hl1)
      · obtain ⟨y, u, m, rfl, e3, hu, m0, m1⟩ := pv
        obtain ⟨p, a, gp, rfl, ha⟩ := hP1.at gx
        have gg := hg p (List.mem_of_getElem? gp)
        have sf := sm_fit hg (by omega) i
        refine ⟨.ref u, rfl, .ref a, rfl, u, a, _, _, p.1, p.2, rfl, SqT.of hu, ex_t e3 ha, lt2 sf.2.1 (by decide), lt2 sf.2.2 (by decide), lt2 gg.2.1 (by decide), lt2 gg.2.2 (by decide), sf.1, gg.1.1, fun u2 nu2 => ?_⟩
        have es : smA (ps.take (i + 1)) = smS (smA (ps.take i)) p := by unfold smA; rw [take_snoc gp, List.foldl_append]; rfl
        have e4 := e3.trans (Ex.new (o := .tup [.int (smA (ps.take (i + 1))).1, .int (smA (ps.take (i + 1))).2]) nu2)
        have hu2 : (upd H' u2 (.tup [.int (smA (ps.take (i + 1))).1, .int (smA (ps.take (i + 1))).2])) u2 = some (.tup [.int (smA (ps.take (i + 1))).1, .int (smA (ps.take (i + 1))).2]) := upd_same
        rw [es] at hu2 e4
        refine ⟨m, rfl, rfl, _, rfl, ?_⟩
        cases i with
        | zero =>
          rw [m0 rfl]
          obtain ⟨r, er⟩ : ∃ r, ps = p :: r := by cases ps with
            | nil => simp at gp
            | cons p' r => simp at gp; exact ⟨r, by rw [gp]⟩
          refine ⟨.ref a, rfl, some (.ref a), u2, .ref a, rfl, e4, ?_, fun z => absurd z (by decide), fun _ => ⟨p, r, a, er, rfl, ?_⟩⟩
          · rw [es]; exact hu2
          · subst er
            rw [mxL_take]
            exact ha
        | succ i =>
          obtain ⟨p0, r, am, er, em, hm⟩ := m1 (by omega)
          subst em
          have em1 : mxA p0 (ps.take (i + 1 + 1)) = mxS (mxA p0 (ps.take (i + 1))) p := by unfold mxA; rw [take_snoc gp, List.foldl_append]; rfl
          have gm : Nm (mxA p0 (ps.take (i + 1))).1 (mxA p0 (ps.take (i + 1))).2 ∧ (mxA p0 (ps.take (i + 1))).1.natAbs < 2 ^ 40 ∧ (mxA p0 (ps.take (i + 1))).2.natAbs < 2 ^ 40 := by
            rcases mx_mem (ps.take (i + 1)) p0 with e | e
            · rw [e]; exact hg p0 (by rw [er]; exact List.mem_cons_self ..)
            · exact hg _ (List.mem_of_mem_take e)
          generalize mxA p0 (ps.take (i + 1)) = mm at hm gm em1
          rw [show decide (V.ref am = V.non) = false from decide_eq_false (fun z => by cases z)]
          refine ⟨.ref am, rfl, .ref a, rfl, am, a, mm.1, mm.2, p.1, p.2, rfl, ex_t e4 hm, ex_t e4 ha, lt2 gm.2.1 (by decide), lt2 gm.2.2 (by decide), lt2 gg.2.1 (by decide), lt2 gg.2.2 (by decide), _, rfl, ite2 (fun e => ?_) (fun e => ?_)⟩
          · refine ⟨.ref a, rfl, some (.ref a), u2, .ref a, rfl, e4, ?_, fun z => absurd z (by omega), fun _ => ⟨p0, r, a, er, rfl, ?_⟩⟩
            · rw [es]; exact hu2
            · rw [em1, show mxS mm p = p by unfold mxS; rw [if_pos (of_decide_eq_true e)]]
              exact ha
          · refine ⟨some (.ref a), u2, .ref am, rfl, e4, ?_, fun z => absurd z (by omega), fun _ => ⟨p0, r, am, er, rfl, ?_⟩⟩
            · rw [es]; exact hu2
            · rw [em1, show mxS mm p = mm by unfold mxS; rw [if_neg fun z => e (decide_eq_true z)]]
              exact hm
      · obtain ⟨y, u, m, rfl, e3, hu, m0, m1⟩ := pv
        rw [hP.1, List.take_length] at hu
        have hD3 := e3 _ _ hD
        refine ⟨.ref D, rfl, D, ys, ps, rfl, SqL.of hD3, hR.ex e3, hg, by omega, fun tt H4 ntt e4 rt => ?_⟩
        refine ⟨.ref u, rfl, tt, u, _, _, rfl, rt, SqT.of (e4 _ _ hu), fun H5 e5 => ⟨true, rfl, ?_⟩⟩
        have e15 := (e3.trans e4).trans e5
        -- the ratios' values, told as a list
        refine ⟨.ref D, rfl, D, rfl, ⟨_, SqL.of (e15 _ _ hD)⟩, fun D2 nD2 => ?_⟩
        refine lc_list (K := K) (xs := ys) (fun i H' => ∃ zs, Ex H5 H' ∧ H' D2 = some (.lst zs) ∧ Ps K H' zs (ps.take i)) ⟨[], Ex.new nD2, upd_same, Ps.nil⟩ (fun i H' _ p => SqL.of (p.elim fun _ p => p.1 _ _ (e15 _ _ hD))) (fun i x H' gx p => ?_) (fun H6 p => ?_)
        · obtain ⟨zs, e6, hD2, hZ⟩ := p
          obtain ⟨p, b, gp, rfl, ⟨db, rb⟩⟩ := hR.at gx
          have rb := e6 _ _ (e15 _ _ rb)
          refine ⟨rfl, .ref b, rfl, b, _, db, _, _, rfl, rb, T.cl_Ratio, T.n_Ratio_top, rfl, .ref b, rfl, b, _, db, _, _, rfl, rb, T.cl_Ratio, T.n_Ratio_bottom, rfl, by show 2 ≤ sizeLine; decide, fun w nw => ?_⟩
          have ew := Ex.new (o := .tup [.int p.1, .int p.2]) nw
          have hD2w := ew _ _ hD2
          have zl : zs.length ≤ 12 := by rw [hZ.1, List.length_take]; omega
          have e7 : Ex H5 (upd (upd H' w (.tup [.int p.1, .int p.2])) D2 (.lst (zs ++ [.ref w]))) := Ex.mut (e6.trans ew) nD2
          refine ⟨zs, hD2w, sz_lt (by omega), zs ++ [.ref w], e7, upd_same, ?_⟩
          rw [take_snoc gp]
          have hZ2 := (hZ.ex ew).snoc (p := p) (a := w) (SqT.of upd_same)
          refine ⟨hZ2.1, fun j p' g => ?_⟩
          obtain ⟨c, g1, g2⟩ := hZ2.2 j p' g
          exact ⟨c, g1, sqt_lst hD2w g2⟩
        · obtain ⟨zs, e6, hD2, hZ⟩ := p
          rw [hR.1, List.take_length] at hZ
          have e16 := e15.trans e6
          refine ⟨.ref l, rfl, _, _, .lst (SqL.of hD2) hZ.dp, .lst (SqL.of (e16 _ _ hl1)) (hP1.ex e16).dp, pdsS ps, pdsS ps, _, rfl, ?_⟩
          rw [pdsE]
          -- are there any
          refine ⟨.ref l, rfl, Nat.zero_le _, fun l0 nl0 => ?_⟩
          have e17 := e16.trans (Ex.new (o := .lst []) nl0)
          have hv17 : OwnV (A 13) (upd H6 l0 (.lst [])) v := hv.ex (e1.trans e17)
          refine ⟨_, _, .lst (SqL.of (e17 _ _ hl1)) (hP1.ex e17).dp, .lst (SqL.of upd_same) .nil, pdsS ps, pdsS [], _, rfl, ?_⟩
          cases ps with
          | nil =>
            rw [show PyData.eqv (.list (([] : List Pr).map pd)) (.list []) = true from pdsE []]
            refine ⟨.ref D, rfl, D, .non, ys, [], rfl, SqL.of (e17 _ _ hD), hR.ex e17, hg, fun _ => .inl ⟨.inr (.inr (.inr (.inl rfl))), ?_⟩, fun p r z => by cases z⟩
            refine ⟨rfl, true, congrArg V.bl (decide_eq_true rfl), ?_⟩
            refine ⟨.ref D, rfl, v, rfl, rfl, rfl, D, v, ys, [], rfl, SqL.of (e17 _ _ hD), hR.ex e17, hg, fun _ => ?_, fun p r z => by cases z⟩
            rcases hv17 with (⟨i, rfl⟩ | ⟨z, rfl, fz⟩ | ⟨b, rfl⟩ | ⟨a, t, b, rfl, ra⟩) | ⟨a, rfl, ha⟩
            · refine .inl ⟨.inl ⟨i, rfl⟩, .int i, rfl, .inl ⟨rfl, ?_⟩⟩
              rw [show decide (V.int i = V.int i) = true from decide_eq_true rfl]
              exact q _ (e1.trans e17)
            · refine .inl ⟨.inr (.inl ⟨z, rfl⟩), .str z, rfl, .inl ⟨rfl, ?_⟩⟩
              rw [show decide (V.str z = V.str z) = true from decide_eq_true rfl]
              exact q _ (e1.trans e17)
            · refine .inl ⟨.inr (.inr (.inl ⟨b, rfl⟩)), .bl b, rfl, .inl ⟨rfl, ?_⟩⟩
              rw [show decide (V.bl b = V.bl b) = true from decide_eq_true rfl]
              exact q _ (e1.trans e17)
            · obtain ⟨da, ra⟩ := ra
              refine .inl ⟨.inr (.inr (.inr (.inr ⟨a, t, b, rfl, da, ra⟩))), .ref a, rfl, .inr (.inr ⟨⟨a, a, da, da, _, _, rfl, rfl, ra, ra, t, b, ⟨da, ra⟩, ⟨da, ra⟩⟩, fun H8 e8 => ?_⟩)⟩
              exact q _ ((e1.trans e17).trans e8)
            · refine .inr ⟨a, rfl, ha, fun p H8 e8 hp => ⟨.ref a, rfl, .inr (.inl ⟨_, _, .tup (SqT.of hp) .nil, .tup (SqT.of (e8 _ _ ha)) .nil, rfl, rfl, ?_⟩)⟩⟩
              exact q _ ((e1.trans e17).trans e8)
          | cons p0 r =>
            rw [pdsN]
            obtain ⟨p0', r', am, er, em, hm⟩ := m1 (by rw [hP.1, List.length_cons]; omega)
            cases er
            subst em
            rw [hP.1, List.take_length, mx_self] at hm
            refine ⟨.ref D, rfl, D, .non, ys, p0 :: r, rfl, SqL.of (e17 _ _ hD), hR.ex e17, hg, fun z => (by cases z), fun p r' z a ra => ?_⟩
            cases z
            refine ⟨.ref am, rfl, a, am, _, _, rfl, ra, ex_t e17 hm, fun H8 e8 => ⟨true, rfl, ?_⟩⟩
            have e18 := e17.trans e8
            refine ⟨.ref D, rfl, v, rfl, rfl, rfl, D, v, ys, p0 :: r, rfl, SqL.of (e18 _ _ hD), hR.ex e18, hg, fun z => (by cases z), fun p r' z a ra => ?_⟩
            cases z
            refine ⟨.ref am, rfl, a, am, _, _, rfl, ra, ex_t e18 hm, fun H9 e9 => ⟨true, rfl, ?_⟩⟩
            have e19 := e18.trans e9
            refine ⟨.ref D, rfl, D, rfl, ⟨_, SqL.of (e19 _ _ hD)⟩, fun D3 nD3 => ?_⟩
            refine lc_list (K := K) (xs := ys) (fun i H' => ∃ zs, Ex H9 H' ∧ H' D3 = some (.lst zs) ∧ Ps K H' zs ((p0 :: r).take i)) ⟨[], Ex.new nD3, upd_same, Ps.nil⟩ (fun i H' _ p => SqL.of (p.elim fun _ p => p.1 _ _ (e19 _ _ hD))) (fun i x H' gx p => ?_) (fun H6 p => ?_)
            · obtain ⟨zs, e6, hD2, hZ⟩ := p
              obtain ⟨p, b, gp, rfl, ⟨db, rb⟩⟩ := hR.at gx
              have rb := e6 _ _ (e19 _ _ rb)
              refine ⟨rfl, .ref b, rfl, b, _, db, _, _, rfl, rb, T.cl_Ratio, T.n_Ratio_top, rfl, .ref b, rfl, b, _, db, _, _, rfl, rb, T.cl_Ratio, T.n_Ratio_bottom, rfl, by show 2 ≤ sizeLine; decide, fun w nw => ?_⟩
              have ew := Ex.new (o := .tup [.int p.1, .int p.2]) nw
              have hD2w := ew _ _ hD2
              have zl : zs.length ≤ 12 := by rw [hZ.1, List.length_take]; omega
              have e7 : Ex H9 (upd (upd H' w (.tup [.int p.1, .int p.2])) D3 (.lst (zs ++ [.ref w]))) := Ex.mut (e6.trans ew) nD3
              refine ⟨zs, hD2w, sz_lt (by omega), zs ++ [.ref w], e7, upd_same, ?_⟩
              rw [take_snoc gp]
              have hZ2 := (hZ.ex ew).snoc (p := p) (a := w) (SqT.of upd_same)
              refine ⟨hZ2.1, fun j p' g => ?_⟩
              obtain ⟨c, g1, g2⟩ := hZ2.2 j p' g
              exact ⟨c, g1, sqt_lst hD2w g2⟩
            · obtain ⟨zs, e6, hD2, hZ⟩ := p
              rw [hR.1, List.take_length] at hZ
              have e20 := e19.trans e6
              refine ⟨.ref l, rfl, _, _, .lst (SqL.of hD2) hZ.dp, .lst (SqL.of (e20 _ _ hl1)) (hP1.ex e20).dp, pdsS (p0 :: r), pdsS (p0 :: r), ?_⟩
              rw [pdsE]
              exact q _ (e1.trans e20)

/-! ### the law -/
def spLaw (K : PySem.W.Frag) : Sp := fun vs H Q _ => ∃ (a : Addr) (ns : List Int), vs = [.ref a] ∧ SqL K H a (ns.map V.int) ∧ ns.length ≤ 63 ∧ ∀ H', Q (.bl true) H'
theorem fx_new {p : Addr} {H H1 H2 : Hp} (n : H p = none) (e : Ex H H1) (f : Fx p H1 H2) : Ex H H2 := fun a o h => f a o (ne_of_none h n) (e a o h)
theorem maxmin (n : Nat) : 2 ≤ (if (if (8 : Int) < (n : Int) then 8 else (n : Int)) > 2 then (if (8 : Int) < (n : Int) then 8 else (n : Int)) else 2) ∧ (if (if (8 : Int) < (n : Int) then 8 else (n : Int)) > 2 then (if (8 : Int) < (n : Int) then 8 else (n : Int)) else 2) ≤ 8 := by
  constructor
  · split <;> split <;> omega
  · split <;> split <;> omega
theorem GoodP.snoc {ps : List Pr} {p : Pr} (h : GoodP ps) (g : Nm p.1 p.2 ∧ p.1.natAbs < 2 ^ 40 ∧ p.2.natAbs < 2 ^ 40) : GoodP (ps ++ [p]) := fun q hq => by
  rcases List.mem_append.mp hq with z | z
  · exact h q z
  · rw [List.mem_singleton.mp z]; exact g
theorem GoodP.set {ps : List Pr} {p : Pr} {j : Nat} (h : GoodP ps) (g : Nm p.1 p.2 ∧ p.1.natAbs < 2 ^ 40 ∧ p.2.natAbs < 2 ^ 40) : GoodP (ps.set j p) := fun q hq => by
  rcases List.mem_or_eq_of_mem_set hq with z | z
  · exact h q z
  · rw [z]; exact g
theorem OwnV.fx {C : Addr} {H H' : Hp} {v : V} {p : Addr} {c : Nat} (h : OwnV C H v) (hp : Pl H p c) (f : Fx p H H') : OwnV C H' v := by
  rcases h with (h | h | h | ⟨a, t, b, h, r⟩) | ⟨a, h, g⟩
  · exact .inl (.inl h)
  · exact .inl (.inr (.inl h))
  · exact .inl (.inr (.inr (.inl h)))
  · exact .inl (.inr (.inr (.inr ⟨a, t, b, h, r.fx hp f⟩)))
  · exact .inr ⟨a, h, f.tup hp g⟩
theorem pool_ne {H : Hp} {p a : Addr} {c : Nat} (hp : Pl H p c) (h : H a = none) : a ≠ p := by
  obtain ⟨xs, hx⟩ := hp.some
  exact (ne_of_none hx h).symm
/-- a list that is changed at its own place: what else stands, stands -/
theorem ps_upd {K : PySem.W.Frag} {H : Hp} {D : Addr} {ys zs : List V} {xs : List V} {ps : List Pr} (hD : H D = some (.lst ys)) (h : Ps K H xs ps) : Ps K (upd H D (.lst zs)) xs ps := ⟨h.1, fun i p g => let ⟨a, g1, g2⟩ := h.2 i p g; ⟨a, g1, sqt_lst hD g2⟩⟩
theorem nm53 : Nm (0 - 5) 3 ∧ (0 - 5 : Int).natAbs < 2 ^ 40 ∧ (3 : Int).natAbs < 2 ^ 40 := ⟨⟨by decide, by decide⟩, by decide, by decide⟩
theorem nm11 : Nm (10 ^ Int.toNat 11) 1 ∧ (10 ^ Int.toNat 11 : Int).natAbs < 2 ^ 40 ∧ (1 : Int).natAbs < 2 ^ 40 := ⟨⟨by decide, by decide⟩, by decide, by decide⟩
set_option maxHeartbeats 16000000 in
theorem ok_law (T : TX K mg A FD TK) : FnOk P w K mg base CX0 10 (A 29) (FD 29) ["_law_script"] (spLaw K) := by
  have G_l_purse := (ok_l_purse (P := P) (w := w) (base := base) T).mono (show 1 ≤ 9 by decide)
  have G_l_take := (ok_l_take (P := P) (w := w) (base := base) T).mono (show 1 ≤ 9 by decide)
  have G_l_small_ratio := (ok_l_small_ratio (P := P) (w := w) (base := base) T).mono (show 2 ≤ 9 by decide)
  have G_l_right := (ok_l_right (P := P) (w := w) (base := base) T).mono (show 8 ≤ 9 by decide)
  have G_l_is_ratio := (ok_l_is_ratio (P := P) (w := w) (base := base) T).mono (show 1 ≤ 9 by decide)
  have G_total := (ok_total (P := P) (w := w) (base := base) T).mono (show 7 ≤ 9 by decide)
  have G_Ratio := (ok_init (P := P) (w := w) (base := base) T).mono (show 3 ≤ 8 by decide)
  obtain ⟨⟨ds2, R2_Ratio, B2_Ratio⟩, ds1, R1_Ratio, B1_Ratio⟩ := bindsR T
  refine T.f_law.ok (k := 9) sc_law (fun vs H Q E h => ?_) (fun cdv A' outer s H vs Q E hr h => ?_)
  · obtain ⟨a, ns, rfl, _⟩ := h
    rfl
  · obtain ⟨a, ns, rfl, hS, hn, q⟩ := h
    refine ⟨_, (pss_cons (ps_for PassesOwn.never rfl (pi_range1 (by rfl) T.m_range (pa_cons (pe_callB (call_max2 rfl) (by rfl) T.m_max (by decide +kernel) (pa_cons pe_int (pa_cons (pe_callB (call_min2 rfl) (by rfl) T.m_min (by decide +kernel) (pa_cons (pe_callB (lenK (K := K) rfl) (by rfl) T.m_len (by decide +kernel) (pa_cons (pv 0) pa_nil)) (pa_cons pe_int pa_nil))) pa_nil))) pa_nil)) (pg_name (i := 1) sc_law.nd rfl (.inl rfl))
      (pss_cons (ps_set (i := 2) sc_law.nd rfl (.inr rfl) (pe_call G_l_purse hr (by rfl) T.g_l_purse T.f_l_purse.kp T.b_l_purse .nil pass0 (pa_cons (pv 0) (pa_cons (pv 1) pa_nil))))
      (pss_cons (ps_set (i := 3) sc_law.nd rfl (.inl rfl) (pe_call G_l_take hr (by rfl) T.g_l_take T.f_l_take.kp T.b_l_take .nil pass0 (pa_cons (pv 2) (pa_cons pe_int pa_nil))))
      (pss_cons (ps_set (i := 4) sc_law.nd rfl (.inl rfl) (pe_ix (ixLK (K := K) rfl) (pe_lst (pa_cons pe_int (pa_cons pe_str (pa_cons (pe_tup pa_nil) (pa_cons (pe_make T.M_Ratio G_Ratio hr (by rfl) T.k_Ratio B1_Ratio R1_Ratio pass0 (pa_cons (pe_op op_pow pe_int pe_int) pa_nil)) (pa_cons pe_bl (pa_cons (pe_make T.M_Ratio G_Ratio hr (by rfl) T.k_Ratio B2_Ratio R2_Ratio pass0 (pa_cons pe_int (pa_cons pe_int pa_nil))) pa_nil))))))) (pe_call G_l_take hr (by rfl) T.g_l_take T.f_l_take.kp T.b_l_take .nil pass0 (pa_cons (pv 2) (pa_cons pe_int pa_nil))) (fun _ _ => rfl)))
      (pss_cons (ps_setLc (i := 5) (own := [("_law_nth", 7)])  rfl sc_law.nd rfl rfl (sw_true rfl rfl rfl (by decide +kernel)) (pi_range1 (by rfl) T.m_range (pa_cons (pv 3) pa_nil)) (blkOk_by (own := [("_law_nth", 7)]) (N := N_law) (sc := defScope (topS 29)) (by decide +kernel)) (fun _ _ _ _ _ => (pg_name (i := 7) sc_law.nd rfl (Or.inl rfl))) (fun _ _ _ _ _ => pts_nil) (fun _ _ _ _ _ => (pe_call G_l_small_ratio hr (by rfl) T.g_l_small_ratio T.f_l_small_ratio.kp T.b_l_small_ratio .nil pass0 (pa_cons (pv 2) pa_nil))))
      (pss_cut (ps_if (PW.pt (pw_and (pt_cmpR op_gt (pv 3) pe_int (nomark _)) (pw_and1 (pt_cmpR op_eq (pe_call G_l_take hr (by rfl) T.g_l_take T.f_l_take.kp T.b_l_take .nil pass0 (pa_cons (pv 2) (pa_cons pe_int pa_nil))) pe_int (nomark _)))))
      (pss_one (ps_asg (pe_ix (ixLK (K := K) rfl) (pv 5) (pe_call G_l_take hr (by rfl) T.g_l_take T.f_l_take.kp T.b_l_take .nil pass0 (pa_cons (pv 2) (pa_cons (pv 3) pa_nil))) (fun _ _ => rfl)) (pg_sub (pv 5) (pe_un un_neg pe_int) set_list)))
      pss_nil)
      (pss_cons (ps_for PassesOwn.never rfl (pi_range1 (by rfl) T.m_range (pa_cons pe_int pa_nil)) (pg_name (i := 6) sc_law.nd rfl (.inl rfl))
      (pss_cons (ps_if (pt_not (pt_val (pe_call G_l_right hr (by rfl) T.g_l_right T.f_l_right.kp T.b_l_right .nil pass0 (pa_cons (pv 5) (pa_cons (pv 4) pa_nil)))))
      (pss_one (ps_ret pe_bl))
      pss_nil)
      (pss_one (ps_set (i := 5) sc_law.nd rfl (.inl rfl) (pe_op op_cat (pe_revL (pv 5)) (pe_op op_rep (pe_lst (pa_cons (pe_tup (pa_cons (pe_op op_sub pe_int pe_int) (pa_cons pe_int pa_nil))) pa_nil)) (pv 6)))))))
      (pss_one (ps_if (pt_not (pt_val (pe_call G_l_right hr (by rfl) T.g_l_right T.f_l_right.kp T.b_l_right .nil pass0 (pa_cons (pe_op op_cat (pv 5) (pe_lst (pa_cons (pe_tup (pa_cons (pe_op op_pow pe_int pe_int) (pa_cons pe_int pa_nil))) pa_nil))) (pa_cons (pv 4) pa_nil)))))
      (pss_one (ps_ret pe_bl))
      pss_nil)))))))))
      (pss_one (ps_ret (pe_call G_l_is_ratio hr (by rfl) T.g_l_is_ratio T.f_l_is_ratio.kp T.b_l_is_ratio .nil pass0 (pa_cons (pe_call G_total hr (by rfl) T.g_total T.f_total.kp T.b_total .nil pass0 (pa_cons (pe_lst pa_nil) pa_nil)) (pa_cons (pe_tup (pa_cons pe_int (pa_cons pe_int pa_nil))) pa_nil)))))), ?_⟩
    refine ⟨.ref a, rfl, a, _, rfl, .inl hS, _, _, rfl, 2, _, rfl, (if (if (8 : Int) < ((ns.map V.int).length : Int) then 8 else ((ns.map V.int).length : Int)) > 2 then (if (8 : Int) < ((ns.map V.int).length : Int) then 8 else ((ns.map V.int).length : Int)) else 2), rfl, ?_, ?_, ?_⟩
    · have := maxmin (ns.map V.int).length
      omega
    · have := maxmin (ns.map V.int).length
      omega
    have hmm := maxmin (ns.map V.int).length
    generalize (if (if (8 : Int) < ((ns.map V.int).length : Int) then 8 else ((ns.map V.int).length : Int)) > 2 then (if (8 : Int) < ((ns.map V.int).length : Int) then 8 else ((ns.map V.int).length : Int)) else 2) = n at hmm ⊢
    refine for_range (lo := 0) (n := n.toNat) (fun i σ' H' => ∃ y1 y2 y3 y4 y5 y6 y7 : Option V, σ' = [some (.ref a), y1, y2, y3, y4, y5, y6, y7] ∧ Ex H H') ⟨none, none, none, none, none, none, none, rfl, Ex.refl H⟩ (fun i σ' H' hi pv => ?_) (fun σ' H' pv => ?_)
    · obtain ⟨y1, y2, y3, y4, y5, y6, y7, rfl, e0⟩ := pv
      refine ⟨.ref a, rfl, .int ((0 : Int) + i), rfl, a, ns, i, ?_, ex_l e0 hS, hn, by omega, fun p H1 np e1 hp1 => ?_⟩
      · show [V.ref a, V.int ((0 : Int) + i)] = [V.ref a, V.int (i : Int)]
        rw [Int.zero_add]
      refine ⟨.ref p, rfl, p, 9, 0, rfl, hp1, by decide, by decide, by decide, fun many H2 ma0 ma1 hp2 f2 => ?_⟩
      -- what may be the default
      refine ⟨by show 0 ≤ sizeLine; decide, fun t0 nt0 => ?_⟩
      have x3 := Ex.new (o := .tup []) nt0
      refine ⟨10, 12, rfl, rfl, ⟨by decide, by decide, by decide⟩, fun r1 d1 nr1 nd1 _ => mk_ratio (t := 10 ^ Int.toNat 12) (b := 1) nr1 nd1 (by decide) (by decide) (by decide) fun H4 x4 hr1 => ?_⟩
      refine fun r2 d2 nr2 nd2 _ => mk_ratio (t := 1) (b := 3) nr2 nd2 (by decide) (by decide) (by decide) fun H5 x5 hr2 => ?_
      refine ⟨by show 6 ≤ sizeLine; decide, fun l6 nl6 => ?_⟩
      have x6 := Ex.new (o := .lst [.int 7, .str "none", .ref t0, .ref r1, .bl false, .ref r2]) nl6
      have x36 := ((x3.trans x4).trans x5).trans x6
      have hl6 := upd_same (H := H5) (a := l6) (o := .lst [.int 7, .str "none", .ref t0, .ref r1, .bl false, .ref r2])
      have ht0 := (x4.trans x5).trans x6 _ _ (upd_same (H := H2) (a := t0) (o := .tup []))
      have hr1 := hr1.ex (x5.trans x6)
      have hr2 := hr2.ex x6
      generalize (upd H5 l6 (.lst [.int 7, .str "none", .ref t0, .ref r1, .bl false, .ref r2])) = H6 at x36 hl6 ht0 hr1 hr2 ⊢
      have hp6 := hp2.ex x36
      refine ⟨.ref p, rfl, p, 6, 1, rfl, hp6, by decide, by decide, by decide, fun od H7 od0 od1 hp7 f7 => ?_⟩
      have nl6p : l6 ≠ p := by
        obtain ⟨g, b, k, hx, _⟩ := hp6
        exact ne_of hl6 hx (by intro z; cases z)
      obtain ⟨j, rfl⟩ := Int.eq_ofNat_of_zero_le od0
      obtain ⟨ov, gov, hov⟩ : ∃ ov, ([V.int 7, .str "none", .ref t0, .ref r1, .bl false, .ref r2])[j]? = some ov ∧ OwnV (A 13) H6 ov := by
        match j, od1 with
        | 0, _ => exact ⟨_, rfl, .inl (.inl ⟨_, rfl⟩)⟩
        | 1, _ => exact ⟨_, rfl, .inl (.inr (.inl ⟨_, rfl, by decide +kernel⟩))⟩
        | 2, _ => exact ⟨_, rfl, .inr ⟨_, rfl, ht0⟩⟩
        | 3, _ => exact ⟨_, rfl, .inl (.inr (.inr (.inr ⟨_, _, _, rfl, hr1⟩)))⟩
        | 4, _ => exact ⟨_, rfl, .inl (.inr (.inr (.inl ⟨_, rfl⟩)))⟩
        | 5, _ => exact ⟨_, rfl, .inl (.inr (.inr (.inr ⟨_, _, _, rfl, hr2⟩)))⟩
        | k + 6, z => exact absurd z (by omega)
      have hov := hov.fx hp6 f7
      refine ⟨l6, _, _, ov, rfl, rfl, SqL.of (f7 _ _ nl6p hl6), atI_nat (j := j) gov, ?_⟩
      have xb : Fx p H1 H7 := (f2.trans (Fx.ex x36)).trans f7
      -- the pairs
      refine ⟨.int many, rfl, many, rfl, by omega, by omega, fun D nD => ?_⟩
      have nDp := pool_ne hp7 nD
      refine lc_range (lo := 0) (n := many.toNat) (fun i H' => ∃ (xs : List V) (ps : List Pr), Fx p H7 H' ∧ Pl H' p (2 + 4 * i) ∧ H' D = some (.lst xs) ∧ Ps K H' xs ps ∧ GoodP ps ∧ ps.length = i ∧ OwnV (A 13) H' ov) ⟨[], [], Fx.ex (Ex.new nD), hp7.ex (Ex.new nD), upd_same, Ps.nil, fun q hq => (by cases hq), rfl, hov.ex (Ex.new nD)⟩ (fun i H' hi pv => ?_) (fun H8 pv => ?_)
      · obtain ⟨xs, ps, f8, hp8, hD, hP, hG, hl, ho⟩ := pv
        refine ⟨rfl, .ref p, rfl, p, 2 + 4 * i, rfl, hp8, by omega, fun l t b H9 nl hl9 gg hp9 f9 => ?_⟩
        have hD9 := f9 _ _ nDp hD
        have nDl : l ≠ D := (ne_of_none hD nl).symm
        have e9 : Fx p H7 (upd H9 D (.lst (xs ++ [.ref l]))) := fun c o nc h => by
          have nc' : c ≠ D := ne_of_none h nD
          rw [upd_ne nc']
          exact f9 _ _ nc (f8 _ _ nc h)
        refine ⟨xs, hD9, sz_lt (by rw [hP.1]; omega), xs ++ [.ref l], ps ++ [(t, b)], e9, ?_, upd_same, ?_, hG.snoc gg, by rw [List.length_append, hl]; rfl, ?_⟩
        · obtain ⟨g, b', k, hk, r⟩ := hp9
          exact ⟨g, b', k, by rw [upd_ne nDp.symm]; exact hk, r.1, r.2.1, r.2.2.1, by omega⟩
        · exact ps_upd hD9 ((hP.fx hp8 f9).snoc (p := (t, b)) (SqT.of hl9))
        · have ho9 := ho.fx hp8 f9
          rcases ho9 with (h | h | h | ⟨a, t, b, h, ⟨dr, r⟩⟩) | ⟨a, h, g⟩
          · exact .inl (.inl h)
          · exact .inl (.inr (.inl h))
          · exact .inl (.inr (.inr (.inl h)))
          · exact .inl (.inr (.inr (.inr ⟨a, t, b, h, dr, by rw [upd_ne (ne_of r hD9 (by intro z; cases z))]; exact r⟩)))
          · exact .inr ⟨a, h, by rw [upd_ne (ne_of g hD9 (by intro z; cases z))]; exact g⟩
      · obtain ⟨xs, ps, f8, hp8, hD, hP, hG, hl, ho⟩ := pv
        -- one of them twice
        refine ⟨fun σ9 H9 => ∃ (xs : List V) (ps : List Pr) (y7 : Option V), σ9 = [some (.ref a), some (.int ((0 : Int) + i)), some (.ref p), some (.int many), some ov, some (.ref D), y6, y7] ∧ Fx p H7 H9 ∧ Pl H9 p 100 ∧ H9 D = some (.lst xs) ∧ Ps K H9 xs ps ∧ GoodP ps ∧ ps.length ≤ 8 ∧ OwnV (A 13) H9 ov, ?_, ?_⟩
        · refine ⟨.int many, rfl, many, 2, rfl, rfl, _, rfl, ?_⟩
          by_cases m2 : many > 2
          · rw [show decide (many > 2) = true from decide_eq_true m2]
            refine ⟨.ref p, rfl, p, 2, _, rfl, hp8, by decide, by decide, by omega, fun z H9 z0 z1 hp9 f9 => ?_⟩
            have hD9 := f9 _ _ nDp hD
            have hP9 := hP.fx hp8 f9
            have ho9 := ho.fx hp8 f9
            refine ⟨rfl, _, rfl, ite2 (fun e => ?_) (fun e => ?_)⟩
            · refine ⟨.ref D, rfl, .ref p, rfl, .int many, rfl, p, many, _, rfl, hp9, by omega, by omega, by omega, fun y HA yy0 yy1 hpA fA => ?_⟩
              obtain ⟨k, rfl⟩ := Int.eq_ofNat_of_zero_le yy0
              have hDA := fA _ _ nDp hD9
              have hPA := hP9.fx hp9 fA
              have hoA := ho9.fx hp9 fA
              have kl : k < ps.length := by omega
              obtain ⟨ra, g1, g2⟩ := hPA.2 k ps[k] (List.getElem?_eq_getElem kl)
              refine ⟨D, xs, _, .ref ra, rfl, rfl, SqL.of hDA, atI_nat (j := k) g1, ?_⟩
              refine ⟨.ref D, rfl, 1, rfl, D, xs, -1, ps.length - 1, rfl, rfl, hDA, ?_, ?_⟩
              · unfold ixN
                rw [if_neg (by decide), if_pos (by rw [hP.1]; omega), hP.1]
                exact congrArg some (by omega)
              refine ⟨xs.set (ps.length - 1) (.ref ra), ps.set (ps.length - 1) ps[k], y7, rfl, ?_, ?_, upd_same, ps_upd hDA (hPA.set g2), hG.set (hG _ (List.getElem_mem kl)), by rw [List.length_set]; omega, ?_⟩
              · intro c o nc h
                rw [upd_ne (ne_of_none h nD)]
                exact fA _ _ nc (f9 _ _ nc (f8 _ _ nc h))
              · obtain ⟨g, b', k', hk, r⟩ := hpA
                exact ⟨g, b', k', by rw [upd_ne nDp.symm]; exact hk, r.1, r.2.1, r.2.2.1, by omega⟩
              · rcases hoA with (h | h | h | ⟨a, t, b, h, ⟨dr, r⟩⟩) | ⟨a, h, g⟩
                · exact .inl (.inl h)
                · exact .inl (.inr (.inl h))
                · exact .inl (.inr (.inr (.inl h)))
                · exact .inl (.inr (.inr (.inr ⟨a, t, b, h, dr, by rw [upd_ne (ne_of r hDA (by intro z; cases z))]; exact r⟩)))
                · exact .inr ⟨a, h, by rw [upd_ne (ne_of g hDA (by intro z; cases z))]; exact g⟩
            · exact ⟨xs, ps, y7, rfl, f8.trans f9, hp9.mono (by omega), hD9, hP9, hG, by omega, ho9⟩
          · rw [show decide (many > 2) = false from decide_eq_false m2]
            exact ⟨xs, ps, y7, rfl, f8, hp8.mono (by omega), hD, hP, hG, by omega, ho⟩
        rintro σ9 H9 ⟨xs, ps, y7, rfl, f9, hp9, hD, hP, hG, hl, ho⟩
        -- two turns
        refine ⟨2, rfl, by decide, by decide, ?_⟩
        refine for_range (lo := 0) (n := 2) (fun j σ' H' => ∃ (y6 : Option V) (D : Addr) (xs : List V) (ps : List Pr), σ' = [some (.ref a), some (.int ((0 : Int) + i)), some (.ref p), some (.int many), some ov, some (.ref D), y6, y7] ∧ Ex H9 H' ∧ H' D = some (.lst xs) ∧ Ps K H' xs ps ∧ GoodP ps ∧ ps.length ≤ 8 + j ∧ OwnV (A 13) H' ov) ⟨y6, D, xs, ps, rfl, Ex.refl _, hD, hP, hG, hl, ho⟩ (fun j σ' H' hj pv => ?_) (fun σ' H' pv => ?_)
        · obtain ⟨y6, D, xs, ps, rfl, eA, hD, hP, hG, hl, ho⟩ := pv
          refine ⟨.ref D, rfl, ov, rfl, D, ov, xs, ps, rfl, hD, hP, hG, by omega, ho, fun HB eB => ⟨true, rfl, ?_⟩⟩
          refine ⟨.ref D, rfl, D, xs, rfl, SqL.of (eB _ _ hD), fun R nR => ?_⟩
          have eR := Ex.new (o := .lst xs.reverse) nR
          refine ⟨0, 5, rfl, rfl, by show 2 ≤ sizeLine; decide, fun tt ntt => ?_⟩
          have eT := Ex.new (o := .tup [.int (0 - 5), .int 3]) ntt
          refine ⟨by show 1 ≤ sizeLine; decide, fun lt nlt => ?_⟩
          have eL := Ex.new (o := .lst [.ref tt]) nlt
          refine ⟨.int ((0 : Int) + j), rfl, lt, (0 : Int) + j, [.ref tt], rfl, rfl, upd_same, by omega, by omega, ?_, fun lm nlm => ?_⟩
          · show 1 * _ ≤ sizeLine
            exact sz (by omega)
          have eM := Ex.new (o := .lst (List.replicate ((0 : Int) + j).toNat [V.ref tt]).flatten) nlm
          have hR := eM _ _ (eL _ _ (eT _ _ (upd_same (H := HB) (a := R) (o := .lst xs.reverse))))
          refine ⟨R, lm, _, _, rfl, rfl, hR, upd_same, ?_, fun rr nrr => ?_⟩
          · have jl : ((List.replicate ((0 : Int) + j).toNat [V.ref tt]).flatten).length ≤ 2 := by
              have : j = 0 ∨ j = 1 := by omega
              rcases this with rfl | rfl
              · show 0 ≤ 2
                decide
              · show 1 ≤ 2
                decide
            rw [List.length_reverse, hP.1]
            exact sz (by omega)
          have eF := (((eB.trans eR).trans eT).trans eL).trans eM
          have eG := Ex.new (o := .lst (xs.reverse ++ (List.replicate ((0 : Int) + j).toNat [V.ref tt]).flatten)) nrr
          have htt := (eM.trans eG) _ _ (eL _ _ (upd_same (a := tt) (o := .tup [.int (0 - 5), .int 3])))
          have hPr := (hP.ex (eF.trans eG)).rev
          have : j = 0 ∨ j = 1 := by omega
          rcases this with rfl | rfl
          · refine ⟨_, rr, _, ps.reverse, rfl, (eA.trans eF).trans eG, upd_same, ?_, fun q hq => hG q (List.mem_reverse.mp hq), by rw [List.length_reverse]; omega, ho.ex (eF.trans eG)⟩
            rw [show (List.replicate ((0 : Int) + (0 : Nat)).toNat [V.ref tt]).flatten = [] from rfl, List.append_nil] at hPr ⊢
            exact hPr
          · refine ⟨_, rr, _, ps.reverse ++ [(0 - 5, 3)], rfl, (eA.trans eF).trans eG, upd_same, ?_, GoodP.snoc (fun q hq => hG q (List.mem_reverse.mp hq)) nm53, by rw [List.length_append, List.length_reverse]; simp; omega, ho.ex (eF.trans eG)⟩
            rw [show (List.replicate ((0 : Int) + (1 : Nat)).toNat [V.ref tt]).flatten = [V.ref tt] from rfl] at hPr htt ⊢
            exact hPr.snoc (p := (0 - 5, 3)) (SqT.of htt)
        · obtain ⟨y6, D, xs, ps, rfl, eA, hD, hP, hG, hl, ho⟩ := pv
          refine ⟨.ref D, rfl, 10, 11, rfl, rfl, ⟨by decide, by decide, by decide⟩, by show 2 ≤ sizeLine; decide, fun tt ntt => ?_⟩
          have eT := Ex.new (o := .tup [.int (10 ^ Int.toNat 11), .int 1]) ntt
          refine ⟨by show 1 ≤ sizeLine; decide, fun lt nlt => ?_⟩
          have eL := Ex.new (o := .lst [.ref tt]) nlt
          refine ⟨D, lt, xs, [.ref tt], rfl, rfl, eL _ _ (eT _ _ hD), upd_same, ?_, fun rr nrr => ?_⟩
          · rw [hP.1]
            exact sz (by show _ + 1 ≤ _; omega)
          have eG := Ex.new (o := .lst (xs ++ [.ref tt])) nrr
          have htt := (eL.trans eG) _ _ (upd_same (a := tt) (H := H') (o := .tup [.int (10 ^ Int.toNat 11), .int 1]))
          have eF := (eT.trans eL).trans eG
          refine ⟨ov, rfl, rr, ov, _, ps ++ [(10 ^ Int.toNat 11, 1)], rfl, upd_same, (hP.ex eF).snoc (p := (10 ^ Int.toNat 11, 1)) (SqT.of htt), hG.snoc nm11, by rw [List.length_append]; simp; omega, ho.ex eF, fun HB eB => ⟨true, rfl, ?_⟩⟩
          have xA : Ex H' HB := eF.trans eB
          refine ⟨_, _, _, _, _, _, _, rfl, ?_⟩
          exact e0.trans ((fx_new np e1 (xb.trans f9)).trans (eA.trans xA))
    · obtain ⟨y1, y2, y3, y4, y5, y6, y7, rfl, e0⟩ := pv
      refine ⟨Nat.zero_le _, fun l nl => ?_⟩
      refine ⟨l, [], [], rfl, SqL.of upd_same, Rs.nil, fun q hq => (by cases hq), by decide, fun t H2 nt e2 rt => ?_⟩
      refine ⟨by show 2 ≤ sizeLine; decide, fun u nu => ?_⟩
      exact ⟨t, u, 0, 1, rfl, rt.ex (Ex.new nu), SqT.of upd_same, fun H3 e3 => q _⟩

end
set_option maxHeartbeats 8000000 in
theorem all_mk {l : PySem.W.OpenLaw} {w : World} {K : PySem.W.Frag} {h : Heap} {mg : Str → Option Value} {fa : Addr} (X : K.In h) (G : h.Ns mainGlobals mg) (hfa : mg "law" = some (.ref fa))
    {f0 : Addr} {od0 an0 : Option Addr} {sl0 : Array (Option Value)} {oc0 kV0 dc0 pm0 cd0 ct0 : Value}
    (a0 : PySem.W.nsIn K mainGlobals "_wall" = some (some (.ref f0))) (l0 : K.lookup f0 = some ⟨oc0, od0, .func (PySem.W.fnOf "_wall" "_wall" (defArgs (topS 0)) (defBody (topS 0)) (defScope (topS 0)) .none kV0 dc0 pm0 an0 cd0 ct0), sl0⟩) (c0 : PySem.W.codeIn K cd0 "_wall" = true) (k0 : PySem.W.keepIn K (.ref f0) = true)
    {f2 : Addr} {od2 an2 : Option Addr} {sl2 : Array (Option Value)} {oc2 kV2 dc2 pm2 cd2 ct2 : Value}
    (a2 : PySem.W.nsIn K mainGlobals "own_copy" = some (some (.ref f2))) (l2 : K.lookup f2 = some ⟨oc2, od2, .func (PySem.W.fnOf "own_copy" "own_copy" (defArgs (topS 2)) (defBody (topS 2)) (defScope (topS 2)) .none kV2 dc2 pm2 an2 cd2 ct2), sl2⟩) (c2 : PySem.W.codeIn K cd2 "own_copy" = true) (k2 : PySem.W.keepIn K (.ref f2) = true)
    {f8 : Addr} {od8 an8 : Option Addr} {sl8 : Array (Option Value)} {oc8 kV8 dc8 pm8 cd8 ct8 : Value}
    (a8 : PySem.W.nsIn K mainGlobals "is_whole" = some (some (.ref f8))) (l8 : K.lookup f8 = some ⟨oc8, od8, .func (PySem.W.fnOf "is_whole" "is_whole" (defArgs (topS 8)) (defBody (topS 8)) (defScope (topS 8)) .none kV8 dc8 pm8 an8 cd8 ct8), sl8⟩) (c8 : PySem.W.codeIn K cd8 "is_whole" = true) (k8 : PySem.W.keepIn K (.ref f8) = true)
    {f14 : Addr} {od14 an14 : Option Addr} {sl14 : Array (Option Value)} {oc14 kV14 dc14 pm14 cd14 ct14 : Value}
    (a14 : PySem.W.nsIn K mainGlobals "total" = some (some (.ref f14))) (l14 : K.lookup f14 = some ⟨oc14, od14, .func (PySem.W.fnOf "total" "total" (defArgs (topS 14)) (defBody (topS 14)) (defScope (topS 14)) .none kV14 dc14 pm14 an14 cd14 ct14), sl14⟩) (c14 : PySem.W.codeIn K cd14 "total" = true) (k14 : PySem.W.keepIn K (.ref f14) = true)
    {f15 : Addr} {od15 an15 : Option Addr} {sl15 : Array (Option Value)} {oc15 dc15 pm15 cd15 ct15 : Value} {D15 : Addr}
    (a15 : PySem.W.nsIn K mainGlobals "greatest" = some (some (.ref f15))) (l15 : K.lookup f15 = some ⟨oc15, od15, .func (PySem.W.fnOf "greatest" "greatest" (defArgs (topS 15)) (defBody (topS 15)) (defScope (topS 15)) .none (.ref D15) dc15 pm15 an15 cd15 ct15), sl15⟩) (c15 : PySem.W.codeIn K cd15 "greatest" = true) (k15 : PySem.W.keepIn K (.ref f15) = true)
    (d15_0 : PySem.W.nsIn K D15 "default" = some (some (.none)))
    {f16 : Addr} {od16 an16 : Option Addr} {sl16 : Array (Option Value)} {oc16 kV16 dc16 pm16 cd16 ct16 : Value}
    (a16 : PySem.W.nsIn K mainGlobals "ratio_of" = some (some (.ref f16))) (l16 : K.lookup f16 = some ⟨oc16, od16, .func (PySem.W.fnOf "ratio_of" "ratio_of" (defArgs (topS 16)) (defBody (topS 16)) (defScope (topS 16)) .none kV16 dc16 pm16 an16 cd16 ct16), sl16⟩) (c16 : PySem.W.codeIn K cd16 "ratio_of" = true) (k16 : PySem.W.keepIn K (.ref f16) = true)
    {f17 : Addr} {od17 an17 : Option Addr} {sl17 : Array (Option Value)} {oc17 kV17 dc17 pm17 cd17 ct17 : Value}
    (a17 : PySem.W.nsIn K mainGlobals "lowest" = some (some (.ref f17))) (l17 : K.lookup f17 = some ⟨oc17, od17, .func (PySem.W.fnOf "lowest" "lowest" (defArgs (topS 17)) (defBody (topS 17)) (defScope (topS 17)) .none kV17 dc17 pm17 an17 cd17 ct17), sl17⟩) (c17 : PySem.W.codeIn K cd17 "lowest" = true) (k17 : PySem.W.keepIn K (.ref f17) = true)
    {f18 : Addr} {od18 an18 : Option Addr} {sl18 : Array (Option Value)} {oc18 kV18 dc18 pm18 cd18 ct18 : Value}
    (a18 : PySem.W.nsIn K mainGlobals "check_figures" = some (some (.ref f18))) (l18 : K.lookup f18 = some ⟨oc18, od18, .func (PySem.W.fnOf "check_figures" "check_figures" (defArgs (topS 18)) (defBody (topS 18)) (defScope (topS 18)) .none kV18 dc18 pm18 an18 cd18 ct18), sl18⟩) (c18 : PySem.W.codeIn K cd18 "check_figures" = true) (k18 : PySem.W.keepIn K (.ref f18) = true)
    {f21 : Addr} {od21 an21 : Option Addr} {sl21 : Array (Option Value)} {oc21 kV21 dc21 pm21 cd21 ct21 : Value}
    (a21 : PySem.W.nsIn K mainGlobals "_law_purse" = some (some (.ref f21))) (l21 : K.lookup f21 = some ⟨oc21, od21, .func (PySem.W.fnOf "_law_purse" "_law_purse" (defArgs (topS 21)) (defBody (topS 21)) (defScope (topS 21)) .none kV21 dc21 pm21 an21 cd21 ct21), sl21⟩) (c21 : PySem.W.codeIn K cd21 "_law_purse" = true) (k21 : PySem.W.keepIn K (.ref f21) = true)
    {f22 : Addr} {od22 an22 : Option Addr} {sl22 : Array (Option Value)} {oc22 kV22 dc22 pm22 cd22 ct22 : Value}
    (a22 : PySem.W.nsIn K mainGlobals "_law_take" = some (some (.ref f22))) (l22 : K.lookup f22 = some ⟨oc22, od22, .func (PySem.W.fnOf "_law_take" "_law_take" (defArgs (topS 22)) (defBody (topS 22)) (defScope (topS 22)) .none kV22 dc22 pm22 an22 cd22 ct22), sl22⟩) (c22 : PySem.W.codeIn K cd22 "_law_take" = true) (k22 : PySem.W.keepIn K (.ref f22) = true)
    {f23 : Addr} {od23 an23 : Option Addr} {sl23 : Array (Option Value)} {oc23 kV23 dc23 pm23 cd23 ct23 : Value}
    (a23 : PySem.W.nsIn K mainGlobals "_law_low" = some (some (.ref f23))) (l23 : K.lookup f23 = some ⟨oc23, od23, .func (PySem.W.fnOf "_law_low" "_law_low" (defArgs (topS 23)) (defBody (topS 23)) (defScope (topS 23)) .none kV23 dc23 pm23 an23 cd23 ct23), sl23⟩) (c23 : PySem.W.codeIn K cd23 "_law_low" = true) (k23 : PySem.W.keepIn K (.ref f23) = true)
    {f24 : Addr} {od24 an24 : Option Addr} {sl24 : Array (Option Value)} {oc24 kV24 dc24 pm24 cd24 ct24 : Value}
    (a24 : PySem.W.nsIn K mainGlobals "_law_plus" = some (some (.ref f24))) (l24 : K.lookup f24 = some ⟨oc24, od24, .func (PySem.W.fnOf "_law_plus" "_law_plus" (defArgs (topS 24)) (defBody (topS 24)) (defScope (topS 24)) .none kV24 dc24 pm24 an24 cd24 ct24), sl24⟩) (c24 : PySem.W.codeIn K cd24 "_law_plus" = true) (k24 : PySem.W.keepIn K (.ref f24) = true)
    {f25 : Addr} {od25 an25 : Option Addr} {sl25 : Array (Option Value)} {oc25 kV25 dc25 pm25 cd25 ct25 : Value}
    (a25 : PySem.W.nsIn K mainGlobals "_law_less" = some (some (.ref f25))) (l25 : K.lookup f25 = some ⟨oc25, od25, .func (PySem.W.fnOf "_law_less" "_law_less" (defArgs (topS 25)) (defBody (topS 25)) (defScope (topS 25)) .none kV25 dc25 pm25 an25 cd25 ct25), sl25⟩) (c25 : PySem.W.codeIn K cd25 "_law_less" = true) (k25 : PySem.W.keepIn K (.ref f25) = true)
    {f26 : Addr} {od26 an26 : Option Addr} {sl26 : Array (Option Value)} {oc26 kV26 dc26 pm26 cd26 ct26 : Value}
    (a26 : PySem.W.nsIn K mainGlobals "_law_is_ratio" = some (some (.ref f26))) (l26 : K.lookup f26 = some ⟨oc26, od26, .func (PySem.W.fnOf "_law_is_ratio" "_law_is_ratio" (defArgs (topS 26)) (defBody (topS 26)) (defScope (topS 26)) .none kV26 dc26 pm26 an26 cd26 ct26), sl26⟩) (c26 : PySem.W.codeIn K cd26 "_law_is_ratio" = true) (k26 : PySem.W.keepIn K (.ref f26) = true)
    {f27 : Addr} {od27 an27 : Option Addr} {sl27 : Array (Option Value)} {oc27 kV27 dc27 pm27 cd27 ct27 : Value}
    (a27 : PySem.W.nsIn K mainGlobals "_law_small_ratio" = some (some (.ref f27))) (l27 : K.lookup f27 = some ⟨oc27, od27, .func (PySem.W.fnOf "_law_small_ratio" "_law_small_ratio" (defArgs (topS 27)) (defBody (topS 27)) (defScope (topS 27)) .none kV27 dc27 pm27 an27 cd27 ct27), sl27⟩) (c27 : PySem.W.codeIn K cd27 "_law_small_ratio" = true) (k27 : PySem.W.keepIn K (.ref f27) = true)
    {f28 : Addr} {od28 an28 : Option Addr} {sl28 : Array (Option Value)} {oc28 kV28 dc28 pm28 cd28 ct28 : Value}
    (a28 : PySem.W.nsIn K mainGlobals "_law_right" = some (some (.ref f28))) (l28 : K.lookup f28 = some ⟨oc28, od28, .func (PySem.W.fnOf "_law_right" "_law_right" (defArgs (topS 28)) (defBody (topS 28)) (defScope (topS 28)) .none kV28 dc28 pm28 an28 cd28 ct28), sl28⟩) (c28 : PySem.W.codeIn K cd28 "_law_right" = true) (k28 : PySem.W.keepIn K (.ref f28) = true)
    {f29 : Addr} {od29 an29 : Option Addr} {sl29 : Array (Option Value)} {oc29 kV29 dc29 pm29 cd29 ct29 : Value}
    (a29 : PySem.W.nsIn K mainGlobals "law" = some (some (.ref f29))) (l29 : K.lookup f29 = some ⟨oc29, od29, .func (PySem.W.fnOf "law" "law" (defArgs (topS 29)) (defBody (topS 29)) (defScope (topS 29)) .none kV29 dc29 pm29 an29 cd29 ct29), sl29⟩) (c29 : PySem.W.codeIn K cd29 "law" = true) (k29 : PySem.W.keepIn K (.ref f29) = true)
    (z_abs : PySem.W.nsIn K mainGlobals "abs" = some none)
    (z_bool : PySem.W.nsIn K mainGlobals "bool" = some none)
    (z_int : PySem.W.nsIn K mainGlobals "int" = some none)
    (z_isinstance : PySem.W.nsIn K mainGlobals "isinstance" = some none)
    (z_len : PySem.W.nsIn K mainGlobals "len" = some none)
    (z_list : PySem.W.nsIn K mainGlobals "list" = some none)
    (z_max : PySem.W.nsIn K mainGlobals "max" = some none)
    (z_min : PySem.W.nsIn K mainGlobals "min" = some none)
    (z_range : PySem.W.nsIn K mainGlobals "range" = some none)
    (z_tuple : PySem.W.nsIn K mainGlobals "tuple" = some none)
    {tk10 : Tok} (e10 : PySem.W.nsIn K mainGlobals "TOO_GREAT" = some (some (.int 1000000000000000000000000000000000000000000000000000000000000000000000000000000000000000000000000000000000000000000000000000000000000000000000000000000000000000000000000000000000000000000000000000000000000000000000000000000000000000000000000000000000000000000000000000000000000000000000000000000000000 tk10)))
    {tk11 : Tok} (e11 : PySem.W.nsIn K mainGlobals "FIGURES_AT_ONCE" = some (some (.int 60 tk11)))
    {tk12 : Tok} (e12 : PySem.W.nsIn K mainGlobals "ONE_BEYOND" = some (some (.int 1000000000000000000000000000000000000000000000000000000000000 tk12)))
    {f4 : Addr} (a4 : PySem.W.nsIn K mainGlobals "Wrong" = some (some (.ref f4)))
    {f5 : Addr} (a5 : PySem.W.nsIn K mainGlobals "NoNumber" = some (some (.ref f5)))
    {f6 : Addr} (a6 : PySem.W.nsIn K mainGlobals "NoRatio" = some (some (.ref f6)))
    {f13 : Addr} (a13 : PySem.W.nsIn K mainGlobals "Ratio" = some (some (.ref f13)))
    (pg13 : PySem.W.plainGet K f13 Str.empty = true) (hd13 : PySem.W.hasDictIn K f13 = true) (po13 : PySem.W.plainOver K f13 = true) (sa13 : PySem.W.findIn K (.ref f13) "__setattr__" = some (some (.builtin "object.__setattr__"))) (mk13 : PySem.W.makesIn K f13 = true) (kc13 : PySem.W.keepIn K (.ref f13) = true)
    (na13_top : PySem.W.findIn K (.ref f13) "top" = some none)
    (na13_bottom : PySem.W.findIn K (.ref f13) "bottom" = some none)
    {f30 : Addr} {od30 an30 : Option Addr} {sl30 : Array (Option Value)} {oc30 kV30 dc30 pm30 cd30 ct30 : Value}
    (a30 : PySem.W.findIn K (.ref f13) "__init__" = some (some (.ref f30))) (i30 : PySem.W.isFn K (.ref f30) = true)
    {DT30 nd30 : Nat} {ocd30 : Value} {odd30 : Option Addr} {sld30 : Array (Option Value)} {td30_0 : Tok}
    (l30 : K.lookup f30 = some ⟨oc30, od30, .func (PySem.W.fnOf "__init__" "Ratio.__init__" (defArgs (inClass (topS 13) 0)) (defBody (inClass (topS 13) 0)) (defScope (inClass (topS 13) 0)) (.ref DT30) kV30 dc30 pm30 an30 cd30 ct30), sl30⟩) (c30 : PySem.W.codeIn K cd30 "Ratio.__init__" = true) (k30 : PySem.W.keepIn K (.ref f30) = true)
    (dt30 : K.lookup DT30 = some ⟨ocd30, odd30, .seq #[.int 1 td30_0] nd30, sld30⟩)
    {f31 : Addr} {od31 an31 : Option Addr} {sl31 : Array (Option Value)} {oc31 kV31 dc31 pm31 cd31 ct31 : Value}
    (a31 : PySem.W.findIn K (.ref f13) "__eq__" = some (some (.ref f31))) (i31 : PySem.W.isFn K (.ref f31) = true)
    (l31 : K.lookup f31 = some ⟨oc31, od31, .func (PySem.W.fnOf "__eq__" "Ratio.__eq__" (defArgs (inClass (topS 13) 1)) (defBody (inClass (topS 13) 1)) (defScope (inClass (topS 13) 1)) .none kV31 dc31 pm31 an31 cd31 ct31), sl31⟩) (c31 : PySem.W.codeIn K cd31 "Ratio.__eq__" = true) (k31 : PySem.W.keepIn K (.ref f31) = true)
    {f32 : Addr} {od32 an32 : Option Addr} {sl32 : Array (Option Value)} {oc32 kV32 dc32 pm32 cd32 ct32 : Value}
    (a32 : PySem.W.findIn K (.ref f13) "plus" = some (some (.ref f32))) (i32 : PySem.W.isFn K (.ref f32) = true)
    (l32 : K.lookup f32 = some ⟨oc32, od32, .func (PySem.W.fnOf "plus" "Ratio.plus" (defArgs (inClass (topS 13) 4)) (defBody (inClass (topS 13) 4)) (defScope (inClass (topS 13) 4)) .none kV32 dc32 pm32 an32 cd32 ct32), sl32⟩) (c32 : PySem.W.codeIn K cd32 "Ratio.plus" = true) (k32 : PySem.W.keepIn K (.ref f32) = true)
    {f33 : Addr} {od33 an33 : Option Addr} {sl33 : Array (Option Value)} {oc33 kV33 dc33 pm33 cd33 ct33 : Value}
    (a33 : PySem.W.findIn K (.ref f13) "is_less" = some (some (.ref f33))) (i33 : PySem.W.isFn K (.ref f33) = true)
    (l33 : K.lookup f33 = some ⟨oc33, od33, .func (PySem.W.fnOf "is_less" "Ratio.is_less" (defArgs (inClass (topS 13) 6)) (defBody (inClass (topS 13) 6)) (defScope (inClass (topS 13) 6)) .none kV33 dc33 pm33 an33 cd33 ct33), sl33⟩) (c33 : PySem.W.codeIn K cd33 "Ratio.is_less" = true) (k33 : PySem.W.keepIn K (.ref f33) = true)
    (ff_ci : PySem.W.findIn K (.ref f13) "__class__" = some (some (.builtin "object.__class__")))
    (ff_cs : PySem.W.specialIn K (.builtin "object.__class__") "__get__" = some (some (.builtin "getset_descriptor.__get__")))
    (ff_ct : PySem.W.takesIn K (.builtin "object.__class__") = some true)
    (ff_cm : PySem.W.mroIn K f13 (.type "object") = some true)
    (ff_kr : PySem.W.kitOne K (.ref f13) (.ref f13) = some true)
    (ff_kl : PySem.W.kitOne K (.ref f13) (.type "list") = some false)
    (ff_kt : PySem.W.kitOne K (.ref f13) (.type "tuple") = some false)
    : ∃ fd : FuncData, (∀ (s : Shared) (v : Value), BindsTo s fd ⟨[v], []⟩ [("_law_script", v)]) ∧ ∀ base : Heap, K.In base → base.Ns mainGlobals mg → FnOk l.prog w K mg base CX0 10 fa fd ["_law_script"] (spLaw K) := by
  have e := hfa.symm.trans (PySem.W.mg_of X G a29)
  cases e
  let A : Nat → Addr := fun i => ([f0, 0, f2, 0, f4, f5, f6, 0, f8, 0, 0, 0, 0, f13, f14, f15, f16, f17, f18, 0, 0, f21, f22, f23, f24, f25, f26, f27, f28, fa, f30, f31, f32, f33] : List Addr).getD i 0
  let FD : Nat → FuncData := fun i => ([PySem.W.fnOf "_wall" "_wall" (defArgs (topS 0)) (defBody (topS 0)) (defScope (topS 0)) .none kV0 dc0 pm0 an0 cd0 ct0, PySem.W.fnOf "law" "law" (defArgs (topS 29)) (defBody (topS 29)) (defScope (topS 29)) .none kV29 dc29 pm29 an29 cd29 ct29, PySem.W.fnOf "own_copy" "own_copy" (defArgs (topS 2)) (defBody (topS 2)) (defScope (topS 2)) .none kV2 dc2 pm2 an2 cd2 ct2, PySem.W.fnOf "law" "law" (defArgs (topS 29)) (defBody (topS 29)) (defScope (topS 29)) .none kV29 dc29 pm29 an29 cd29 ct29, PySem.W.fnOf "law" "law" (defArgs (topS 29)) (defBody (topS 29)) (defScope (topS 29)) .none kV29 dc29 pm29 an29 cd29 ct29, PySem.W.fnOf "law" "law" (defArgs (topS 29)) (defBody (topS 29)) (defScope (topS 29)) .none kV29 dc29 pm29 an29 cd29 ct29, PySem.W.fnOf "law" "law" (defArgs (topS 29)) (defBody (topS 29)) (defScope (topS 29)) .none kV29 dc29 pm29 an29 cd29 ct29, PySem.W.fnOf "law" "law" (defArgs (topS 29)) (defBody (topS 29)) (defScope (topS 29)) .none kV29 dc29 pm29 an29 cd29 ct29, PySem.W.fnOf "is_whole" "is_whole" (defArgs (topS 8)) (defBody (topS 8)) (defScope (topS 8)) .none kV8 dc8 pm8 an8 cd8 ct8, PySem.W.fnOf "law" "law" (defArgs (topS 29)) (defBody (topS 29)) (defScope (topS 29)) .none kV29 dc29 pm29 an29 cd29 ct29, PySem.W.fnOf "law" "law" (defArgs (topS 29)) (defBody (topS 29)) (defScope (topS 29)) .none kV29 dc29 pm29 an29 cd29 ct29, PySem.W.fnOf "law" "law" (defArgs (topS 29)) (defBody (topS 29)) (defScope (topS 29)) .none kV29 dc29 pm29 an29 cd29 ct29, PySem.W.fnOf "law" "law" (defArgs (topS 29)) (defBody (topS 29)) (defScope (topS 29)) .none kV29 dc29 pm29 an29 cd29 ct29, PySem.W.fnOf "law" "law" (defArgs (topS 29)) (defBody (topS 29)) (defScope (topS 29)) .none kV29 dc29 pm29 an29 cd29 ct29, PySem.W.fnOf "total" "total" (defArgs (topS 14)) (defBody (topS 14)) (defScope (topS 14)) .none kV14 dc14 pm14 an14 cd14 ct14, PySem.W.fnOf "greatest" "greatest" (defArgs (topS 15)) (defBody (topS 15)) (defScope (topS 15)) .none (.ref D15) dc15 pm15 an15 cd15 ct15, PySem.W.fnOf "ratio_of" "ratio_of" (defArgs (topS 16)) (defBody (topS 16)) (defScope (topS 16)) .none kV16 dc16 pm16 an16 cd16 ct16, PySem.W.fnOf "lowest" "lowest" (defArgs (topS 17)) (defBody (topS 17)) (defScope (topS 17)) .none kV17 dc17 pm17 an17 cd17 ct17, PySem.W.fnOf "check_figures" "check_figures" (defArgs (topS 18)) (defBody (topS 18)) (defScope (topS 18)) .none kV18 dc18 pm18 an18 cd18 ct18, PySem.W.fnOf "law" "law" (defArgs (topS 29)) (defBody (topS 29)) (defScope (topS 29)) .none kV29 dc29 pm29 an29 cd29 ct29, PySem.W.fnOf "law" "law" (defArgs (topS 29)) (defBody (topS 29)) (defScope (topS 29)) .none kV29 dc29 pm29 an29 cd29 ct29, PySem.W.fnOf "_law_purse" "_law_purse" (defArgs (topS 21)) (defBody (topS 21)) (defScope (topS 21)) .none kV21 dc21 pm21 an21 cd21 ct21, PySem.W.fnOf "_law_take" "_law_take" (defArgs (topS 22)) (defBody (topS 22)) (defScope (topS 22)) .none kV22 dc22 pm22 an22 cd22 ct22, PySem.W.fnOf "_law_low" "_law_low" (defArgs (topS 23)) (defBody (topS 23)) (defScope (topS 23)) .none kV23 dc23 pm23 an23 cd23 ct23, PySem.W.fnOf "_law_plus" "_law_plus" (defArgs (topS 24)) (defBody (topS 24)) (defScope (topS 24)) .none kV24 dc24 pm24 an24 cd24 ct24, PySem.W.fnOf "_law_less" "_law_less" (defArgs (topS 25)) (defBody (topS 25)) (defScope (topS 25)) .none kV25 dc25 pm25 an25 cd25 ct25, PySem.W.fnOf "_law_is_ratio" "_law_is_ratio" (defArgs (topS 26)) (defBody (topS 26)) (defScope (topS 26)) .none kV26 dc26 pm26 an26 cd26 ct26, PySem.W.fnOf "_law_small_ratio" "_law_small_ratio" (defArgs (topS 27)) (defBody (topS 27)) (defScope (topS 27)) .none kV27 dc27 pm27 an27 cd27 ct27, PySem.W.fnOf "_law_right" "_law_right" (defArgs (topS 28)) (defBody (topS 28)) (defScope (topS 28)) .none kV28 dc28 pm28 an28 cd28 ct28, PySem.W.fnOf "law" "law" (defArgs (topS 29)) (defBody (topS 29)) (defScope (topS 29)) .none kV29 dc29 pm29 an29 cd29 ct29, PySem.W.fnOf "__init__" "Ratio.__init__" (defArgs (inClass (topS 13) 0)) (defBody (inClass (topS 13) 0)) (defScope (inClass (topS 13) 0)) (.ref DT30) kV30 dc30 pm30 an30 cd30 ct30, PySem.W.fnOf "__eq__" "Ratio.__eq__" (defArgs (inClass (topS 13) 1)) (defBody (inClass (topS 13) 1)) (defScope (inClass (topS 13) 1)) .none kV31 dc31 pm31 an31 cd31 ct31, PySem.W.fnOf "plus" "Ratio.plus" (defArgs (inClass (topS 13) 4)) (defBody (inClass (topS 13) 4)) (defScope (inClass (topS 13) 4)) .none kV32 dc32 pm32 an32 cd32 ct32, PySem.W.fnOf "is_less" "Ratio.is_less" (defArgs (inClass (topS 13) 6)) (defBody (inClass (topS 13) 6)) (defScope (inClass (topS 13) 6)) .none kV33 dc33 pm33 an33 cd33 ct33] : List FuncData).getD i (PySem.W.fnOf "law" "law" (defArgs (topS 29)) (defBody (topS 29)) (defScope (topS 29)) .none kV29 dc29 pm29 an29 cd29 ct29)
  let TK : Nat → Tok := fun i => ([0, 0, 0, 0, 0, 0, 0, 0, 0, 0, tk10, tk11, tk12] : List Tok).getD i 0
  have T : TX K mg A FD TK := {
    f_wall := fun_mk (st := topS 0) l0 c0 k0
    b_wall := (fun_mk (st := topS 0) l0 c0 k0).binds (ps := ["k"]) fun _ _ _ _ _ _ us hl => match us, hl with | [_], _ => rfl
    g_wall := PySem.W.mg_of X G a0
    f_own_copy := fun_mk (st := topS 2) l2 c2 k2
    b_own_copy := (fun_mk (st := topS 2) l2 c2 k2).binds (ps := ["thing"]) fun _ _ _ _ _ _ us hl => match us, hl with | [_], _ => rfl
    g_own_copy := PySem.W.mg_of X G a2
    f_is_whole := fun_mk (st := topS 8) l8 c8 k8
    b_is_whole := (fun_mk (st := topS 8) l8 c8 k8).binds (ps := ["thing"]) fun _ _ _ _ _ _ us hl => match us, hl with | [_], _ => rfl
    g_is_whole := PySem.W.mg_of X G a8
    f_total := fun_mk (st := topS 14) l14 c14 k14
    b_total := (fun_mk (st := topS 14) l14 c14 k14).binds (ps := ["ratios"]) fun _ _ _ _ _ _ us hl => match us, hl with | [_], _ => rfl
    g_total := PySem.W.mg_of X G a14
    f_greatest := ⟨⟨oc15, od15, .none, .ref D15, dc15, pm15, an15, cd15, ct15, sl15, rfl, l15, c15, .inl ⟨rfl, rfl⟩, .inr ⟨D15, rfl, fun q hq => by
        simp only [List.mem_cons, List.not_mem_nil, or_false] at hq
        subst hq
        exact ⟨_, d15_0, rfl⟩⟩⟩, k15⟩
    g_greatest := PySem.W.mg_of X G a15
    f_ratio_of := fun_mk (st := topS 16) l16 c16 k16
    b_ratio_of := (fun_mk (st := topS 16) l16 c16 k16).binds (ps := ["top", "bottom"]) fun _ _ _ _ _ _ us hl => match us, hl with | [_, _], _ => rfl
    g_ratio_of := PySem.W.mg_of X G a16
    f_lowest := fun_mk (st := topS 17) l17 c17 k17
    b_lowest := (fun_mk (st := topS 17) l17 c17 k17).binds (ps := ["top", "bottom"]) fun _ _ _ _ _ _ us hl => match us, hl with | [_, _], _ => rfl
    g_lowest := PySem.W.mg_of X G a17
    f_check_figures := fun_mk (st := topS 18) l18 c18 k18
    b_check_figures := (fun_mk (st := topS 18) l18 c18 k18).binds (ps := ["number"]) fun _ _ _ _ _ _ us hl => match us, hl with | [_], _ => rfl
    g_check_figures := PySem.W.mg_of X G a18
    f_l_purse := fun_mk (st := topS 21) l21 c21 k21
    b_l_purse := (fun_mk (st := topS 21) l21 c21 k21).binds (ps := ["_law_script", "_law_at"]) fun _ _ _ _ _ _ us hl => match us, hl with | [_, _], _ => rfl
    g_l_purse := PySem.W.mg_of X G a21
    f_l_take := fun_mk (st := topS 22) l22 c22 k22
    b_l_take := (fun_mk (st := topS 22) l22 c22 k22).binds (ps := ["_law_purse_here", "_law_many"]) fun _ _ _ _ _ _ us hl => match us, hl with | [_, _], _ => rfl
    g_l_take := PySem.W.mg_of X G a22
    f_l_low := fun_mk (st := topS 23) l23 c23 k23
    b_l_low := (fun_mk (st := topS 23) l23 c23 k23).binds (ps := ["_law_upper", "_law_lower"]) fun _ _ _ _ _ _ us hl => match us, hl with | [_, _], _ => rfl
    g_l_low := PySem.W.mg_of X G a23
    f_l_plus := fun_mk (st := topS 24) l24 c24 k24
    b_l_plus := (fun_mk (st := topS 24) l24 c24 k24).binds (ps := ["_law_one", "_law_other"]) fun _ _ _ _ _ _ us hl => match us, hl with | [_, _], _ => rfl
    g_l_plus := PySem.W.mg_of X G a24
    f_l_less := fun_mk (st := topS 25) l25 c25 k25
    b_l_less := (fun_mk (st := topS 25) l25 c25 k25).binds (ps := ["_law_one", "_law_other"]) fun _ _ _ _ _ _ us hl => match us, hl with | [_, _], _ => rfl
    g_l_less := PySem.W.mg_of X G a25
    f_l_is_ratio := fun_mk (st := topS 26) l26 c26 k26
    b_l_is_ratio := (fun_mk (st := topS 26) l26 c26 k26).binds (ps := ["_law_told", "_law_due"]) fun _ _ _ _ _ _ us hl => match us, hl with | [_, _], _ => rfl
    g_l_is_ratio := PySem.W.mg_of X G a26
    f_l_small_ratio := fun_mk (st := topS 27) l27 c27 k27
    b_l_small_ratio := (fun_mk (st := topS 27) l27 c27 k27).binds (ps := ["_law_purse_here"]) fun _ _ _ _ _ _ us hl => match us, hl with | [_], _ => rfl
    g_l_small_ratio := PySem.W.mg_of X G a27
    f_l_right := fun_mk (st := topS 28) l28 c28 k28
    b_l_right := (fun_mk (st := topS 28) l28 c28 k28).binds (ps := ["_law_pairs", "_law_other"]) fun _ _ _ _ _ _ us hl => match us, hl with | [_, _], _ => rfl
    g_l_right := PySem.W.mg_of X G a28
    f_law := fun_mk (st := topS 29) l29 c29 k29
    b_law := (fun_mk (st := topS 29) l29 c29 k29).binds (ps := ["_law_script"]) fun _ _ _ _ _ _ us hl => match us, hl with | [_], _ => rfl
    g_law := PySem.W.mg_of X G a29
    m_abs := PySem.W.mg_none_of X G z_abs
    m_bool := PySem.W.mg_none_of X G z_bool
    m_int := PySem.W.mg_none_of X G z_int
    m_isinstance := PySem.W.mg_none_of X G z_isinstance
    m_len := PySem.W.mg_none_of X G z_len
    m_list := PySem.W.mg_none_of X G z_list
    m_max := PySem.W.mg_none_of X G z_max
    m_min := PySem.W.mg_none_of X G z_min
    m_range := PySem.W.mg_none_of X G z_range
    m_tuple := PySem.W.mg_none_of X G z_tuple
    c_TOO_GREAT := PySem.W.mg_of X G e10
    c_FIGURES_AT_ONCE := PySem.W.mg_of X G e11
    c_ONE_BEYOND := PySem.W.mg_of X G e12
    k_Wrong := PySem.W.mg_of X G a4
    k_NoNumber := PySem.W.mg_of X G a5
    k_NoRatio := PySem.W.mg_of X G a6
    k_Ratio := PySem.W.mg_of X G a13
    cl_Ratio := ⟨pg13, hd13, po13, sa13⟩
    n_Ratio_top := na13_top
    n_Ratio_bottom := na13_bottom
    f_Ratio_init := ⟨⟨oc30, od30, .ref DT30, kV30, dc30, pm30, an30, cd30, ct30, sl30, rfl, l30, c30, .inr ⟨by simp, DT30, _, [_], nd30, rfl, dt30, rfl, (.cons ⟨_, rfl⟩ .nil)⟩, .inl rfl⟩, k30⟩
    M_Ratio := ⟨mk13, a30, i30, kc13⟩
    f_Ratio_eq := fun_mk (st := inClass (topS 13) 1) l31 c31 k31
    b_Ratio_eq := (fun_mk (st := inClass (topS 13) 1) l31 c31 k31).binds (ps := ["self", "other"]) fun _ _ _ _ _ _ us hl => match us, hl with | [_, _], _ => rfl
    M_Ratio_eq := ⟨a31, i31, k31⟩
    f_Ratio_plus := fun_mk (st := inClass (topS 13) 4) l32 c32 k32
    b_Ratio_plus := (fun_mk (st := inClass (topS 13) 4) l32 c32 k32).binds (ps := ["self", "other"]) fun _ _ _ _ _ _ us hl => match us, hl with | [_, _], _ => rfl
    M_Ratio_plus := ⟨a32, i32, k32⟩
    f_Ratio_is_less := fun_mk (st := inClass (topS 13) 6) l33 c33 k33
    b_Ratio_is_less := (fun_mk (st := inClass (topS 13) 6) l33 c33 k33).binds (ps := ["self", "other"]) fun _ _ _ _ _ _ us hl => match us, hl with | [_, _], _ => rfl
    M_Ratio_is_less := ⟨a33, i33, k33⟩
    ci := ff_ci
    cs := ff_cs
    ct := ff_ct
    cm := ff_cm
    kr := ff_kr
    kl := ff_kl
    kt := ff_kt }
  exact ⟨FD 29, fun s v => .of_eq rfl, fun base _ _ => ok_law T⟩
end K33
open PySem PySem.W PyProof.Rows
set_option maxHeartbeats 0 in
theorem PySem.Challenge.cw_blocksearch_k33_sums_and_greatest_holds : PySem.Challenge.rw_blocksearch_k33_sums_and_greatest.Holds := by
  w_on; o_law; k_head; (case hw => w_witness2)
  k_fill
  refine L2.walk_of (l := PySem.Challenge.rw_blocksearch_k33_sums_and_greatest) (n := 63) (k := 10) (x := "_law_script") (CX := fun _ => L2.CX0) (sp := fun w => K33.spLaw _) rfl (by decide) rfl ⟨rfl, by decide, by decide⟩ (fun w h Y => PySem.W.kIn_of Y) ?F (fun _ _ a ns hl _ hS => ⟨a, ns, rfl, hS, hl, fun _ => rfl⟩) (fun _ _ _ _ _ h => h)
  case F =>
    intro w mg fa h KX G hmg
    refine' K33.all_mk KX G hmg ?a0 ?l0 ?c0 ?k0 ?a2 ?l2 ?c2 ?k2 ?a8 ?l8 ?c8 ?k8 ?a14 ?l14 ?c14 ?k14 ?a15 ?l15 ?c15 ?k15 ?d15_0 ?a16 ?l16 ?c16 ?k16 ?a17 ?l17 ?c17 ?k17 ?a18 ?l18 ?c18 ?k18 ?a21 ?l21 ?c21 ?k21 ?a22 ?l22 ?c22 ?k22 ?a23 ?l23 ?c23 ?k23 ?a24 ?l24 ?c24 ?k24 ?a25 ?l25 ?c25 ?k25 ?a26 ?l26 ?c26 ?k26 ?a27 ?l27 ?c27 ?k27 ?a28 ?l28 ?c28 ?k28 ?a29 ?l29 ?c29 ?k29 ?z_abs ?z_bool ?z_int ?z_isinstance ?z_len ?z_list ?z_max ?z_min ?z_range ?z_tuple ?e10 ?e11 ?e12 ?a4 ?a5 ?a6 ?a13 ?pg13 ?hd13 ?po13 ?sa13 ?mk13 ?kc13 ?na13_top ?na13_bottom ?a30 ?i30 ?l30 ?c30 ?k30 ?dt30 ?a31 ?i31 ?l31 ?c31 ?k31 ?a32 ?i32 ?l32 ?c32 ?k32 ?a33 ?i33 ?l33 ?c33 ?k33 ?ff_ci ?ff_cs ?ff_ct ?ff_cm ?ff_kr ?ff_kl ?ff_kt
    (case a0 => k_is)
    (case l0 => k_is)
    (case c0 => k_is)
    (case k0 => k_is)
    (case a2 => k_is)
    (case l2 => k_is)
    (case c2 => k_is)
    (case k2 => k_is)
    (case a8 => k_is)
    (case l8 => k_is)
    (case c8 => k_is)
    (case k8 => k_is)
    (case a14 => k_is)
    (case l14 => k_is)
    (case c14 => k_is)
    (case k14 => k_is)
    (case a15 => k_is)
    (case l15 => k_is)
    (case c15 => k_is)
    (case k15 => k_is)
    (case d15_0 => k_is)
    (case a16 => k_is)
    (case l16 => k_is)
    (case c16 => k_is)
    (case k16 => k_is)
    (case a17 => k_is)
    (case l17 => k_is)
    (case c17 => k_is)
    (case k17 => k_is)
    (case a18 => k_is)
    (case l18 => k_is)
    (case c18 => k_is)
    (case k18 => k_is)
    (case a21 => k_is)
    (case l21 => k_is)
    (case c21 => k_is)
    (case k21 => k_is)
    (case a22 => k_is)
    (case l22 => k_is)
    (case c22 => k_is)
    (case k22 => k_is)
    (case a23 => k_is)
    (case l23 => k_is)
    (case c23 => k_is)
    (case k23 => k_is)
    (case a24 => k_is)
    (case l24 => k_is)
    (case c24 => k_is)
    (case k24 => k_is)
    (case a25 => k_is)
    (case l25 => k_is)
    (case c25 => k_is)
    (case k25 => k_is)
    (case a26 => k_is)
    (case l26 => k_is)
    (case c26 => k_is)
    (case k26 => k_is)
    (case a27 => k_is)
    (case l27 => k_is)
    (case c27 => k_is)
    (case k27 => k_is)
    (case a28 => k_is)
    (case l28 => k_is)
    (case c28 => k_is)
    (case k28 => k_is)
    (case a29 => k_is)
    (case l29 => k_is)
    (case c29 => k_is)
    (case k29 => k_is)
    (case z_abs => k_is)
    (case z_bool => k_is)
    (case z_int => k_is)
    (case z_isinstance => k_is)
    (case z_len => k_is)
    (case z_list => k_is)
    (case z_max => k_is)
    (case z_min => k_is)
    (case z_range => k_is)
    (case z_tuple => k_is)
    (case e10 => k_is)
    (case e11 => k_is)
    (case e12 => k_is)
    (case a4 => k_is)
    (case a5 => k_is)
    (case a6 => k_is)
    (case a13 => k_is)
    (case pg13 => k_is)
    (case hd13 => k_is)
    (case po13 => k_is)
    (case sa13 => k_is)
    (case mk13 => k_is)
    (case kc13 => k_is)
    (case na13_top => k_is)
    (case na13_bottom => k_is)
    (case a30 => k_is)
    (case i30 => k_is)
    (case l30 => k_is)
    (case c30 => k_is)
    (case k30 => k_is)
    (case dt30 => k_is)
    (case a31 => k_is)
    (case i31 => k_is)
    (case l31 => k_is)
    (case c31 => k_is)
    (case k31 => k_is)
    (case a32 => k_is)
    (case i32 => k_is)
    (case l32 => k_is)
    (case c32 => k_is)
    (case k32 => k_is)
    (case a33 => k_is)
    (case i33 => k_is)
    (case l33 => k_is)
    (case c33 => k_is)
    (case k33 => k_is)
    (case ff_ci => k_is)
    (case ff_cs => k_is)
    (case ff_ct => k_is)
    (case ff_cm => k_is)
    (case ff_kr => kernel_rfl)
    (case ff_kl => kernel_rfl)
    (case ff_kt => kernel_rfl)

