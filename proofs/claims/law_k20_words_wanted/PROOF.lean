import PyProof.Rows.All
import Wide.All
import OpenK.AllK
import Wide.FinOn
import HandS.ForMost
import HandS.Defaults
import HandS.IsInst
import HandS.Walk
import HandS.Evl
import PySem.Challenge.RW_blocksearch_k20_words_wanted
set_option Elab.async false
set_option linter.all false
set_option maxRecDepth 100000
/-! words of my own: the drawn pool, heaps that grow beside it, small facts -/
namespace My
open PySem PySem.Spec PyProof.Rows L2 Evl

/-- the pool at p: three ints, at most c draws mixed so far -/
def Pl (H : Hp) (p : Addr) (c : Nat) : Prop := ∃ (g b : Int) (k : Nat), H p = some (.lst [.int g, .int b, .int (k : Int)]) ∧ 0 ≤ g ∧ 0 ≤ b ∧ b < 281474976710656 ∧ k ≤ c
/-- all but p stays -/
def Fx (p : Addr) (H H' : Hp) : Prop := ∀ a o, a ≠ p → H a = some o → H' a = some o
theorem Fx.refl (p : Addr) (H : Hp) : Fx p H H := fun _ _ _ h => h
theorem Fx.trans {p : Addr} {H H1 H2 : Hp} (a : Fx p H H1) (b : Fx p H1 H2) : Fx p H H2 := fun x o n h => b x o n (a x o n h)
theorem Fx.ex {p : Addr} {H H' : Hp} (e : Ex H H') : Fx p H H' := fun a o _ h => e a o h
theorem Fx.upd {p : Addr} {H : Hp} {o : HO} : Fx p H (L2.upd H p o) := fun a u n h => by
  rw [upd_ne n]
  exact h
theorem Pl.mono {H : Hp} {p : Addr} {c c' : Nat} (h : Pl H p c) (l : c ≤ c') : Pl H p c' := by
  obtain ⟨g, b, k, h1, h2, h3, h4, h5⟩ := h
  exact ⟨g, b, k, h1, h2, h3, h4, Nat.le_trans h5 l⟩
theorem Pl.ex {H H' : Hp} {p : Addr} {c : Nat} (h : Pl H p c) (e : Ex H H') : Pl H' p c := by
  obtain ⟨g, b, k, h1, h2⟩ := h
  exact ⟨g, b, k, e _ _ h1, h2⟩
theorem Pl.some {H : Hp} {p : Addr} {c : Nat} (h : Pl H p c) : ∃ xs, H p = some (.lst xs) := by
  obtain ⟨g, b, k, h1, _⟩ := h
  exact ⟨_, h1⟩
/-- what is free behind was free ahead -/
theorem fx_free {p a : Addr} {H H' : Hp} {c : Nat} (f : Fx p H H') (h : Pl H' p c) (e : H' a = none) : H a = none := by
  cases q : H a with
  | none => rfl
  | some o =>
    have n : a ≠ p := fun z => by
      obtain ⟨xs, hx⟩ := h.some
      rw [z, hx] at e
      cases e
    rw [f a o n q] at e
    cases e
/-- a tuple is not the pool -/
theorem Fx.tup {p a : Addr} {H H' : Hp} {xs : List V} {c : Nat} (f : Fx p H H') (hp : Pl H p c) (h : H a = some (.tup xs)) : H' a = some (.tup xs) := by
  obtain ⟨ys, hy⟩ := hp.some
  exact f a _ (ne_of h hy (by intro z; cases z)) h
theorem Fx.sqt {K : PySem.W.Frag} {p a : Addr} {H H' : Hp} {xs : List V} {c : Nat} (f : Fx p H H') (hp : Pl H p c) (h : SqT K H a xs) : SqT K H' a xs := by
  obtain ⟨ys, hy⟩ := hp.some
  rcases h with (h | ⟨o, h⟩) | h
  · exact .inl (.inl (f a _ (ne_of h hy (by intro z; cases z)) h))
  · exact .inl (.inr ⟨o, f a _ (ne_of h hy (by intro z; cases z)) h⟩)
  · exact .inr h
theorem Fx.lst {p a : Addr} {H H' : Hp} {xs : List V} (f : Fx p H H') (n : a ≠ p) (h : H a = some (.lst xs)) : H' a = some (.lst xs) := f a _ n h
theorem ex_upd {H : Hp} {p : Addr} {o : HO} (h : H p = none) : Ex H (L2.upd H p o) := Ex.new h
theorem ret_v {v : V} {H : Hp} {Q : VK} (q : RetV v H Q) : Q v H := q H (Ex.refl H)
theorem sz {n : Nat} (h : n ≤ 100000) : n ≤ sizeLine := sz_of h
theorem natAbs_lt {z : Int} {n : Nat} (h0 : 0 ≤ z) (h : z < (n : Int)) : z.natAbs < n := by omega
/-- a * b ≤ A * B -/
theorem mul_le {a b A B : Int} (h0 : 0 ≤ a) (h1 : a ≤ A) (h2 : 0 ≤ b) (h3 : b ≤ B) : a * b ≤ A * B := Int.mul_le_mul h1 h3 h2 (Int.le_trans h0 h1)
theorem mul_nn {a b : Int} (h0 : 0 ≤ a) (h1 : 0 ≤ b) : 0 ≤ a * b := Int.mul_nonneg h0 h1
/-! the rules with the written part said, for blocks of comprehensions -/
section
variable {X : Cx} {K : PySem.W.Frag}
theorem lenK (h : X.K = K) : CallR X (.builtin "len") (rLenS K) := by subst h; exact call_len_seq
theorem listK (h : X.K = K) : CallR X (.type "list") (rListS K) := by subst h; exact call_list_of
def rTupS (K : PySem.W.Frag) : List V → Hp → VK → Prop := fun xs H Q => ∃ p ys, xs = [.ref p] ∧ ((SqL K H p ys ∧ ∀ l, H l = none → Q (.ref l) (L2.upd H l (.tup ys))) ∨ (SqT K H p ys ∧ Q (.ref p) H))
theorem tupK (h : X.K = K) : CallR X (.type "tuple") (rTupS K) := by subst h; exact call_tuple_of
theorem ixLK (h : X.K = K) : IxR X (rIxL K) := by subst h; exact ix_list
theorem ixTK (h : X.K = K) : IxR X (rIxT K) := by subst h; exact ix_tup
theorem slLK (h : X.K = K) : SlR X (rSlL K) := by subst h; exact sl_list
theorem slTK (h : X.K = K) : SlR X (rSlT K) := by subst h; exact sl_tup
theorem catTK (h : X.K = K) : OpR X (binaryOp .Add) (rCatT K) := by subst h; exact op_catT
theorem inK (h : X.K = K) : OpR X (compareOp .In) (rIn K false) := by subst h; exact op_in_seq
theorem notInK (h : X.K = K) : OpR X (compareOp .NotIn) (rIn K true) := by subst h; exact op_notIn_seq
theorem isiK (h : X.K = K) : CallR X (.builtin "isinstance") (rIsi K) := by subst h; exact call_isi
theorem isiTK (h : X.K = K) : CallR X (.builtin "isinstance") (rIsiT K) := by subst h; exact call_isiT
theorem allK (h : X.K = K) (hc : X.calm = true) : CallR X (.builtin "all") (rAll K) := by subst h; exact cr_all hc
theorem anyK (h : X.K = K) (hc : X.calm = true) : CallR X (.builtin "any") (rAny K) := by subst h; exact cr_any hc
theorem sumK (h : X.K = K) (hc : X.calm = true) : CallR X (.builtin "sum") (rSum K) := by subst h; exact cr_sum hc
theorem maxK (h : X.K = K) (hc : X.calm = true) : CallR X (.builtin "max") (rMax K) := by subst h; exact cr_max hc
theorem minK (h : X.K = K) (hc : X.calm = true) : CallR X (.builtin "min") (rMin K) := by subst h; exact cr_min hc
theorem fldK {e : Expr} {f : Str} {pos : Pos} {ta : TE} (h : X.K = K) (he : PE X e ta) (hb : attributeBase e f X.env (eval e X.env) = eval e X.env) : PE X (.Attribute e f pos) (tFld K ta f) := by subst h; exact pe_fld he hb
theorem tupGK {es : List Expr} {k : Nat} {t : TGs} {n : Nat} {pos : Pos} (h : X.K = K) (hc : X.calm = true) (hg : PGs X es t) (hn : (assignEach es X.env).length = n := by rfl) (hst : (assignEach es X.env).findIdx? (·.1) = none := by rfl) : PG X (.Tuple es k pos) (gTup K n t) := by subst h; exact pg_tup hc hg hn hst
theorem eqDK (h : X.K = K) (hu : X.A.units + 64 < cLine) : OpR X (compareOp .Eq) (rEqD K) := by subst h; exact op_eqD hu
theorem neDK (h : X.K = K) (hu : X.A.units + 64 < cLine) : OpR X (compareOp .NotEq) (rNeD K) := by subst h; exact op_neD hu
theorem indexK (h : X.K = K) : MtR X "list.index" (rIndex K) := by subst h; exact mt_index
theorem piOr {tg e : Expr} {w1 w2 : TI} (h1 : PI X tg e w1) (h2 : PI X tg e w2) : PI X tg e (fun σ H R => w1 σ H R ∨ w2 σ H R) := ⟨fun pins s σ H R I h => h.elim (fun h => h1.run pins s σ H R I h) (fun h => h2.run pins s σ H R I h)⟩
theorem piLK {tg l : Expr} {tl : TE} (h : X.K = K) (hl : PE X l tl) : PI X tg l (iList K tl) := by subst h; exact pi_list hl
theorem piTK {tg l : Expr} {tl : TE} (h : X.K = K) (hl : PE X l tl) : PI X tg l (iTup K tl) := by subst h; exact pi_tup hl
end
end My
namespace K20
open PySem PySem.Spec PyProof.Rows L2 Evl My
def topS (i : Nat) : Stmt := PySem.Challenge.pw_blocksearch_k20_words_wanted.main.body.getD i (.Pass ⟨0, 0, 0, 0⟩)
abbrev N_is_whole : List Str := ["thing"]
theorem sc_is_whole : FnScope N_is_whole ["thing"] (defScope (topS 4)) := ⟨rfl, rfl, rfl, by decide +kernel, rfl, by decide +kernel, by decide +kernel⟩
abbrev N_is_within : List Str := ["thing", "least", "most"]
theorem sc_is_within : FnScope N_is_within ["thing", "least", "most"] (defScope (topS 5)) := ⟨rfl, rfl, rfl, by decide +kernel, rfl, by decide +kernel, by decide +kernel⟩
abbrev N_is_word : List Str := ["thing", "sign"]
theorem sc_is_word : FnScope N_is_word ["thing"] (defScope (topS 8)) := ⟨rfl, rfl, rfl, by decide +kernel, rfl, by decide +kernel, by decide +kernel⟩
abbrev N_are_words : List Str := ["things", "thing"]
theorem sc_are_words : FnScope N_are_words ["things"] (defScope (topS 9)) := ⟨rfl, rfl, rfl, by decide +kernel, rfl, by decide +kernel, by decide +kernel⟩
abbrev N_is_query : List Str := ["thing"]
theorem sc_is_query : FnScope N_is_query ["thing"] (defScope (topS 16)) := ⟨rfl, rfl, rfl, by decide +kernel, rfl, by decide +kernel, by decide +kernel⟩
abbrev N_check_query : List Str := ["query"]
theorem sc_check_query : FnScope N_check_query ["query"] (defScope (topS 17)) := ⟨rfl, rfl, rfl, by decide +kernel, rfl, by decide +kernel, by decide +kernel⟩
abbrev N_wanted : List Str := ["query"]
theorem sc_wanted : FnScope N_wanted ["query"] (defScope (topS 18)) := ⟨rfl, rfl, rfl, by decide +kernel, rfl, by decide +kernel, by decide +kernel⟩
abbrev N_is_built : List Str := ["thing", "deep", "kind", "parts"]
theorem sc_is_built : FnScope N_is_built ["thing", "deep"] (defScope (topS 19)) := ⟨rfl, rfl, rfl, by decide +kernel, rfl, by decide +kernel, by decide +kernel⟩
abbrev N_are_built : List Str := ["things", "deep", "thing"]
theorem sc_are_built : FnScope N_are_built ["things", "deep"] (defScope (topS 20)) := ⟨rfl, rfl, rfl, by decide +kernel, rfl, by decide +kernel, by decide +kernel⟩
abbrev N_words_in : List Str := ["query", "only_wanted", "kind", "parts", "part", "word"]
theorem sc_words_in : FnScope N_words_in ["query", "only_wanted"] (defScope (topS 21)) := ⟨rfl, rfl, rfl, by decide +kernel, rfl, by decide +kernel, by decide +kernel⟩
abbrev N_l_pool : List Str := ["_law_script", "_law_at", "_law_cell", "_law_far"]
theorem sc_l_pool : FnScope N_l_pool ["_law_script", "_law_at"] (defScope (topS 23)) := ⟨rfl, rfl, rfl, by decide +kernel, rfl, by decide +kernel, by decide +kernel⟩
abbrev N_l_take : List Str := ["_law_pool_here", "_law_many_here", "_law_digit", "_law_turn", "_law_one", "_law_other"]
theorem sc_l_take : FnScope N_l_take ["_law_pool_here", "_law_many_here"] (defScope (topS 24)) := ⟨rfl, rfl, rfl, by decide +kernel, rfl, by decide +kernel, by decide +kernel⟩
abbrev N_l_kinds : List Str := ["_law_pool_here", "_law_some", "_law_start"]
theorem sc_l_kinds : FnScope N_l_kinds ["_law_pool_here"] (defScope (topS 25)) := ⟨rfl, rfl, rfl, by decide +kernel, rfl, by decide +kernel, by decide +kernel⟩
abbrev N_l_query : List Str := ["_law_pool_here", "_law_kinds_here", "_law_deep", "_law_most", "_law_sort", "_law_words", "_law_many_here", "_law_kind", "_law_parts", "_law_k", "_law_room", "_law_part"]
theorem sc_l_query : FnScope N_l_query ["_law_pool_here", "_law_kinds_here", "_law_deep", "_law_most"] (defScope (topS 26)) := ⟨rfl, rfl, rfl, by decide +kernel, rfl, by decide +kernel, by decide +kernel⟩
abbrev N_l_many : List Str := ["_law_query_here", "_law_part"]
theorem sc_l_many : FnScope N_l_many ["_law_query_here"] (defScope (topS 27)) := ⟨rfl, rfl, rfl, by decide +kernel, rfl, by decide +kernel, by decide +kernel⟩
abbrev N_l_wanted : List Str := ["_law_query_here", "_law_told", "_law_part"]
theorem sc_l_wanted : FnScope N_l_wanted ["_law_query_here"] (defScope (topS 28)) := ⟨rfl, rfl, rfl, by decide +kernel, rfl, by decide +kernel, by decide +kernel⟩
abbrev N_law : List Str := ["_law_script", "_law_k", "_law_pool_here", "_law_kinds_here", "_law_some", "_law_query_here", "_law_due", "_law_turn", "_law_told"]
theorem sc_law : FnScope N_law ["_law_script"] (defScope (topS 29)) := ⟨rfl, rfl, rfl, by decide +kernel, rfl, by decide +kernel, by decide +kernel⟩
/-- what the top has left: A the defs' places, FD their data, TK the constants' tokens -/
structure TX (K : PySem.W.Frag) (mg : Str → Option Value) (A : Nat → Addr) (FD : Nat → FuncData) (TK : Nat → Tok) : Prop where
  f_is_whole : Fun K "is_whole" "is_whole" (topS 4) (A 4) (FD 4)
  b_is_whole : Binds K (FD 4) ["thing"] []
  g_is_whole : mg "is_whole" = some (.ref (A 4))
  f_is_within : Fun K "is_within" "is_within" (topS 5) (A 5) (FD 5)
  b_is_within : Binds K (FD 5) ["thing", "least", "most"] []
  g_is_within : mg "is_within" = some (.ref (A 5))
  f_is_word : Fun K "is_word" "is_word" (topS 8) (A 8) (FD 8)
  b_is_word : Binds K (FD 8) ["thing"] []
  g_is_word : mg "is_word" = some (.ref (A 8))
  f_are_words : Fun K "are_words" "are_words" (topS 9) (A 9) (FD 9)
  b_are_words : Binds K (FD 9) ["things"] []
  g_are_words : mg "are_words" = some (.ref (A 9))
  f_is_query : Fun K "is_query" "is_query" (topS 16) (A 16) (FD 16)
  b_is_query : Binds K (FD 16) ["thing"] []
  g_is_query : mg "is_query" = some (.ref (A 16))
  f_check_query : Fun K "check_query" "check_query" (topS 17) (A 17) (FD 17)
  b_check_query : Binds K (FD 17) ["query"] []
  g_check_query : mg "check_query" = some (.ref (A 17))
  f_wanted : Fun K "wanted" "wanted" (topS 18) (A 18) (FD 18)
  b_wanted : Binds K (FD 18) ["query"] []
  g_wanted : mg "wanted" = some (.ref (A 18))
  f_is_built : Fun K "is_built" "is_built" (topS 19) (A 19) (FD 19)
  b_is_built : Binds K (FD 19) ["thing", "deep"] []
  g_is_built : mg "is_built" = some (.ref (A 19))
  f_are_built : Fun K "are_built" "are_built" (topS 20) (A 20) (FD 20)
  b_are_built : Binds K (FD 20) ["things", "deep"] []
  g_are_built : mg "are_built" = some (.ref (A 20))
  f_words_in : FunD K "words_in" "words_in" (defArgs (topS 21)) (defBody (topS 21)) (defScope (topS 21)) [] [("only_wanted", .bl false)] (A 21) (FD 21)
  g_words_in : mg "words_in" = some (.ref (A 21))
  f_l_pool : Fun K "_law_pool" "_law_pool" (topS 23) (A 23) (FD 23)
  b_l_pool : Binds K (FD 23) ["_law_script", "_law_at"] []
  g_l_pool : mg "_law_pool" = some (.ref (A 23))
  f_l_take : Fun K "_law_take" "_law_take" (topS 24) (A 24) (FD 24)
  b_l_take : Binds K (FD 24) ["_law_pool_here", "_law_many_here"] []
  g_l_take : mg "_law_take" = some (.ref (A 24))
  f_l_kinds : Fun K "_law_kinds" "_law_kinds" (topS 25) (A 25) (FD 25)
  b_l_kinds : Binds K (FD 25) ["_law_pool_here"] []
  g_l_kinds : mg "_law_kinds" = some (.ref (A 25))
  f_l_query : Fun K "_law_query" "_law_query" (topS 26) (A 26) (FD 26)
  b_l_query : Binds K (FD 26) ["_law_pool_here", "_law_kinds_here", "_law_deep", "_law_most"] []
  g_l_query : mg "_law_query" = some (.ref (A 26))
  f_l_many : Fun K "_law_many" "_law_many" (topS 27) (A 27) (FD 27)
  b_l_many : Binds K (FD 27) ["_law_query_here"] []
  g_l_many : mg "_law_many" = some (.ref (A 27))
  f_l_wanted : Fun K "_law_wanted" "_law_wanted" (topS 28) (A 28) (FD 28)
  b_l_wanted : Binds K (FD 28) ["_law_query_here"] []
  g_l_wanted : mg "_law_wanted" = some (.ref (A 28))
  f_law : Fun K "law" "law" (topS 29) (A 29) (FD 29)
  b_law : Binds K (FD 29) ["_law_script"] []
  g_law : mg "law" = some (.ref (A 29))
  m_abs : mg "abs" = none
  m_all : mg "all" = none
  m_bool : mg "bool" = none
  m_int : mg "int" = none
  m_isinstance : mg "isinstance" = none
  m_len : mg "len" = none
  m_list : mg "list" = none
  m_max : mg "max" = none
  m_min : mg "min" = none
  m_range : mg "range" = none
  m_str : mg "str" = none
  m_sum : mg "sum" = none
  m_tuple : mg "tuple" = none
  c_MOST_LETTERS : mg "MOST_LETTERS" = some (.int 12 (TK 7))
  c_MOST_FAR : mg "MOST_FAR" = some (.int 20 (TK 11))
  c_MOST_DEEP : mg "MOST_DEEP" = some (.int 5 (TK 12))
  c_MOST_ASKED : mg "MOST_ASKED" = some (.int 12 (TK 13))
  c_MOST_PHRASED : mg "MOST_PHRASED" = some (.int 5 (TK 14))
  c_MOST_JOINED : mg "MOST_JOINED" = some (.int 4 (TK 15))
  k_Wrong : mg "Wrong" = some (.ref (A 1))
  k_NoQuery : mg "NoQuery" = some (.ref (A 2))
section
variable {P : Program} {w : World} {K : PySem.W.Frag} {mg : Str → Option Value} {base : Heap} {A : Nat → Addr} {FD : Nat → FuncData} {TK : Nat → Tok}
/-! ### _law_take -/
def spTake : Sp := fun vs H Q _ => ∃ (p : Addr) (m : Int) (c : Nat), vs = [.ref p, .int m] ∧ Pl H p c ∧ 0 < m ∧ m < 1073741824 ∧ c < 1000000 ∧
  ∀ (d : Int) (H' : Hp), 0 ≤ d → d < m → Pl H' p (c + 1) → Fx p H H' → Q (.int d) H'
set_option maxHeartbeats 4000000 in
theorem ok_l_take (T : TX K mg A FD TK) : FnOk P w K mg base CX0 1 (A 24) (FD 24) ["_law_pool_here", "_law_many_here"] spTake := by
  refine T.f_l_take.ok sc_l_take (fun vs H Q E h => ?_) (fun cdv A' outer s H vs Q E hr h => ?_)
  · obtain ⟨p, m, c, rfl, _⟩ := h
    rfl
  · obtain ⟨p, m, c, rfl, ⟨g, b, k, hp, hg, hb, hb2, hk⟩, hm, hm2, hc, q⟩ := h
    refine ⟨_, (pss_cons (ps_if (pt_cmpR op_gt (pe_ix (ixLK (K := K) rfl) (pv 0) pe_int (fun _ _ => rfl)) pe_int (nomark _))
      (pss_cons (ps_set (i := 2) sc_l_take.nd rfl (.inl rfl) (pe_op op_mod (pe_ix (ixLK (K := K) rfl) (pv 0) pe_int (fun _ _ => rfl)) (pv 1)))
      (pss_cons (ps_asg (pe_op op_fdiv (pe_ix (ixLK (K := K) rfl) (pv 0) pe_int (fun _ _ => rfl)) (pv 1)) (pg_sub (pv 0) pe_int set_list))
      (pss_one (ps_ret (pv 2)))))
      pss_nil)
      (pss_cons (ps_asg (pe_op op_add (pe_ix (ixLK (K := K) rfl) (pv 0) pe_int (fun _ _ => rfl)) pe_int) (pg_sub (pv 0) pe_int set_list))
      (pss_cons (ps_set (i := 3) sc_l_take.nd rfl (.inl rfl) (pe_ix (ixLK (K := K) rfl) (pv 0) pe_int (fun _ _ => rfl)))
      (pss_cons (ps_set (i := 4) sc_l_take.nd rfl (.inl rfl) (pe_op op_mod (pe_op op_pow (pe_op op_add (pe_op op_add (pe_ix (ixLK (K := K) rfl) (pv 0) pe_int (fun _ _ => rfl)) (pe_op op_mul (pe_op op_mul pe_int (pv 3)) (pv 3))) pe_int) pe_int) pe_int))
      (pss_cons (ps_set (i := 5) sc_l_take.nd rfl (.inl rfl) (pe_op op_mod (pe_op op_add (pe_op op_pow (pv 4) pe_int) (pe_op op_mul pe_int (pv 3))) pe_int))
      (pss_one (ps_ret (pe_op op_mod (pe_op op_fdiv (pe_op op_add (pe_op op_mul (pv 4) pe_int) (pe_op op_mul (pv 5) (pv 5))) pe_int) (pv 1))))))))), ?_⟩
    refine ⟨.ref p, rfl, p, _, 0, .int g, rfl, rfl, SqL.of hp, atI_nat (j := 0) rfl, g, 0, rfl, rfl, _, rfl, ite2 (fun e => ?_) (fun e => ?_)⟩
    · refine ⟨.ref p, rfl, p, _, 0, .int g, rfl, rfl, SqL.of hp, atI_nat (j := 0) rfl, .int m, rfl, g, m, rfl, rfl, hm, ?_⟩
      refine ⟨.ref p, rfl, p, _, 0, .int g, rfl, rfl, SqL.of hp, atI_nat (j := 0) rfl, .int m, rfl, g, m, rfl, rfl, ⟨hm, hm2⟩, .ref p, rfl, p, _, 0, 0, rfl, rfl, hp, rfl, ?_⟩
      refine ⟨.int (g % m), rfl, ?_⟩
      exact q _ _ (Int.emod_nonneg _ (by omega)) (Int.emod_lt_of_pos _ hm) ⟨g / m, b, k, upd_same, Int.ediv_nonneg hg (by omega), hb, hb2, by omega⟩ Fx.upd
    · have hp1 : (upd H p (.lst [.int g, .int b, .int ((k : Int) + 1)])) p = some (.lst [.int g, .int b, .int ((k : Int) + 1)]) := upd_same
      refine ⟨.ref p, rfl, p, _, 2, .int k, rfl, rfl, SqL.of hp, atI_nat (j := 2) rfl, k, 1, rfl, rfl, .ref p, rfl, p, _, 2, 2, rfl, rfl, hp, rfl, ?_⟩
      refine ⟨.ref p, rfl, p, _, 2, .int ((k : Int) + 1), rfl, rfl, SqL.of hp1, atI_nat (j := 2) rfl, ?_⟩
      have t0 : (0 : Int) ≤ (k : Int) + 1 := by omega
      have t1 : (k : Int) + 1 ≤ 1000000 := by omega
      have s1 : 0 ≤ 69621 * ((k : Int) + 1) ∧ 69621 * ((k : Int) + 1) ≤ 69621000000 := by omega
      have s2 : 0 ≤ 69621 * ((k : Int) + 1) * ((k : Int) + 1) := mul_nn s1.1 t0
      have s3 : 69621 * ((k : Int) + 1) * ((k : Int) + 1) ≤ 69621000000 * 1000000 := mul_le s1.1 s1.2 t0 t1
      refine ⟨.ref p, rfl, p, _, 1, .int b, rfl, rfl, SqL.of hp1, atI_nat (j := 1) rfl, .int ((k : Int) + 1), rfl, 69621, (k : Int) + 1, rfl, rfl, .inl ⟨by decide, by decide⟩, .int ((k : Int) + 1), rfl, 69621 * ((k : Int) + 1), (k : Int) + 1, rfl, rfl, .inl ⟨by omega, by omega⟩,
        b, 69621 * ((k : Int) + 1) * ((k : Int) + 1), rfl, rfl, b + 69621 * ((k : Int) + 1) * ((k : Int) + 1), 3, rfl, rfl, b + 69621 * ((k : Int) + 1) * ((k : Int) + 1) + 3, 3, rfl, rfl, ⟨by decide, by decide, natAbs_lt (by omega) (by omega)⟩,
        _, 2147483629, rfl, rfl, (show (0 : Int) < 2147483629 by decide), ?_⟩
      have o0 : 0 ≤ (b + 69621 * ((k : Int) + 1) * ((k : Int) + 1) + 3) ^ Int.toNat 3 % 2147483629 := Int.emod_nonneg _ (by decide)
      have o1 : (b + 69621 * ((k : Int) + 1) * ((k : Int) + 1) + 3) ^ Int.toNat 3 % 2147483629 < 2147483629 := Int.emod_lt_of_pos _ (by decide)
      dsimp only
      generalize (b + 69621 * ((k : Int) + 1) * ((k : Int) + 1) + 3) ^ Int.toNat 3 % 2147483629 = one at o0 o1 ⊢
      refine ⟨.int one, rfl, one, 3, rfl, rfl, ⟨by decide, by decide, natAbs_lt o0 (by omega)⟩, .int ((k : Int) + 1), rfl, 30011, (k : Int) + 1, rfl, rfl, .inl ⟨by decide, by decide⟩, _, _, rfl, rfl, _, 998244353, rfl, rfl, (show (0 : Int) < 998244353 by decide), ?_⟩
      have r0 : 0 ≤ (one ^ Int.toNat 3 + 30011 * ((k : Int) + 1)) % 998244353 := Int.emod_nonneg _ (by decide)
      have r1 : (one ^ Int.toNat 3 + 30011 * ((k : Int) + 1)) % 998244353 < 998244353 := Int.emod_lt_of_pos _ (by decide)
      dsimp only
      generalize (one ^ Int.toNat 3 + 30011 * ((k : Int) + 1)) % 998244353 = other at r0 r1 ⊢
      refine ⟨.int one, rfl, one, 998244353, rfl, rfl, .inl ⟨by omega, by omega⟩, .int other, rfl, .int other, rfl, other, other, rfl, rfl, .inl ⟨by omega, by omega⟩, _, _, rfl, rfl, _, 1013, rfl, rfl, (show (0 : Int) < 1013 ∧ (1013 : Int) < 1073741824 by decide), .int m, rfl, _, m, rfl, rfl, hm, ?_⟩
      exact q _ _ (Int.emod_nonneg _ (by omega)) (Int.emod_lt_of_pos _ hm) ⟨g, b, k + 1, upd_same, hg, hb, hb2, by omega⟩ Fx.upd

/-! ### _law_pool -/
def spPool (K : PySem.W.Frag) : Sp := fun vs H Q _ => ∃ (a : Addr) (ns : List Int) (j : Nat), vs = [.ref a, .int (j : Int)] ∧ SqL K H a (ns.map V.int) ∧ ns.length ≤ 63 ∧ j ≤ 1000 ∧
  ∀ (p : Addr) (H' : Hp), H p = none → Ex H H' → Pl H' p 0 → Q (.ref p) H'
set_option maxHeartbeats 4000000 in
theorem ok_l_pool (T : TX K mg A FD TK) : FnOk P w K mg base CX0 1 (A 23) (FD 23) ["_law_script", "_law_at"] (spPool K) := by
  refine T.f_l_pool.ok sc_l_pool (fun vs H Q E h => ?_) (fun cdv A' outer s H vs Q E hr h => ?_)
  · obtain ⟨a, ns, j, rfl, _⟩ := h
    rfl
  · obtain ⟨a, ns, j, rfl, hS, hn, hj, q⟩ := h
    refine ⟨_, (pss_cons (ps_set (i := 2) sc_l_pool.nd rfl (.inl rfl) pe_int)
      (pss_cut (ps_if (pt_cmpR op_lt (pv 1) (pe_callB (lenK (K := K) rfl) (by rfl) T.m_len (by decide +kernel) (pa_cons (pv 0) pa_nil)) (nomark _))
      (pss_one (ps_set (i := 2) sc_l_pool.nd rfl (.inl rfl) (pe_ix (ixLK (K := K) rfl) (pv 0) (pv 1) (fun _ _ => rfl))))
      pss_nil)
      (pss_cons (ps_set (i := 3) sc_l_pool.nd rfl (.inl rfl) (pe_callB call_abs (by rfl) T.m_abs (by decide +kernel) (pa_cons (pv 2) pa_nil)))
      (pss_one (ps_ret (pe_lst (pa_cons (pe_op op_mul (pv 3) (pe_callTy call_int1 (by rfl) T.m_int (by decide +kernel) (pa_cons (pe_cmpR op_ge (pv 3) (pe_op op_pow pe_int pe_int) (nomark _)) pa_nil))) (pa_cons (pe_op op_add (pe_op op_add (pe_op op_mul (pe_op op_mod (pv 2) pe_int) pe_int) (pe_op op_mul pe_int (pv 1))) pe_int) (pa_cons pe_int pa_nil))))))))), ?_⟩
    refine ⟨fun σ' H' => H' = H ∧ ∃ z : Int, σ' = [some (.ref a), some (.int (j : Int)), some (.int z), none], ?_, ?_⟩
    · refine ⟨.int (j : Int), rfl, .ref a, rfl, a, _, rfl, .inl hS, _, _, rfl, rfl, _, rfl, ite2 (fun e => ?_) (fun e => ?_)⟩
      · have e0 : (j : Int) < ((ns.map V.int).length : Int) := of_decide_eq_true e
        have e1 : j < ns.length := by
          rw [List.length_map] at e0
          omega
        refine ⟨.ref a, rfl, .int (j : Int), rfl, a, _, _, .int ns[j], rfl, rfl, hS, atI_nat (j := j) ?_, rfl, ns[j], rfl⟩
        rw [List.getElem?_map, List.getElem?_eq_getElem e1]
        rfl
      · exact ⟨rfl, 0, rfl⟩
    · rintro σ' H' ⟨rfl, z, rfl⟩
      refine ⟨.int z, rfl, z, rfl, ?_⟩
      have f0 : 0 ≤ (if z < 0 then -z else z) := by split <;> omega
      generalize (if z < 0 then -z else z) = far at f0 ⊢
      refine ⟨.int far, rfl, .int far, rfl, 10, 18, rfl, rfl, ⟨by decide, by decide, by decide⟩, far, _, rfl, rfl, .inr ⟨_, rfl, ?_⟩⟩
      generalize hd : decide ((10 : Int) ^ Int.toNat 18 ≤ far) = big
      have m0 : 0 ≤ z % 2147483647 := Int.emod_nonneg _ (by decide)
      have m1 : z % 2147483647 < 2147483647 := Int.emod_lt_of_pos _ (by decide)
      refine ⟨far, _, rfl, rfl, .inr ⟨?_, ?_⟩, ?_⟩
      · cases big <;> decide
      · cases big <;> decide
      refine ⟨.int z, rfl, z, 2147483647, rfl, rfl, (show (0 : Int) < 2147483647 by decide), ?_⟩
      dsimp only
      generalize z % 2147483647 = y at m0 m1 ⊢
      refine ⟨y, 48271, rfl, rfl, .inl ⟨by omega, by omega⟩, .int (j : Int), rfl, 7919, (j : Int), rfl, rfl, .inl ⟨by decide, by decide⟩, _, _, rfl, rfl, _, 31, rfl, rfl, (by show 3 ≤ sizeLine; decide), fun p np => ?_⟩
      refine q p _ np (ex_upd np) ⟨_, _, 0, upd_same, ?_, ?_, ?_, Nat.le_refl _⟩
      · cases big
        · show (0 : Int) ≤ far * 0
          omega
        · show (0 : Int) ≤ far * 1
          omega
      · omega
      · omega

/-! ### is_whole, is_within, is_word, are_words -/
/-- a word: one to twelve letters a to z -/
def isW (z : Str) : Bool := decide (1 ≤ z.cps.size) && decide (z.cps.size ≤ 12) && z.cps.toList.all fun c => decide (97 ≤ c) && decide (c ≤ 122)
def spWholeI : Sp := fun vs H Q _ => ∃ i : Int, vs = [.int i] ∧ RetV (.bl true) H Q
theorem ok_is_whole (T : TX K mg A FD TK) : FnOk P w K mg base CX0 1 (A 4) (FD 4) ["thing"] spWholeI := by
  refine T.f_is_whole.ok sc_is_whole (fun vs H Q E h => ?_) (fun cdv A' outer s H vs Q E hr h => ?_)
  · obtain ⟨i, rfl, _⟩ := h
    rfl
  · obtain ⟨i, rfl, q⟩ := h
    refine ⟨_, (pss_one (ps_ret (pe_and (pe_callB (isiK (K := K) rfl) (by rfl) T.m_isinstance (by decide +kernel) (pa_cons (pv 0) (pa_cons (pe_bltn (v := .ty "int") (by rfl) T.m_int (by decide +kernel) rfl) pa_nil))) (pe_one (pe_not (pe_callB (isiK (K := K) rfl) (by rfl) T.m_isinstance (by decide +kernel) (pa_cons (pv 0) (pa_cons (pe_bltn (v := .ty "bool") (by rfl) T.m_bool (by decide +kernel) rfl) pa_nil)))))))), ?_⟩
    refine ⟨.int i, rfl, .int i, .ty "int", .type "int", .type "int", true, rfl, .ty _, .base (.int i), kit_ty (by decide +kernel), true, rfl, iteT ?_⟩
    exact ⟨.int i, rfl, .int i, .ty "bool", .type "int", .type "bool", false, rfl, .ty _, .base (.int i), kit_ty (by decide +kernel), false, rfl, ret_v q⟩
def spWithinI : Sp := fun vs H Q _ => ∃ i lo hi : Int, vs = [.int i, .int lo, .int hi] ∧ RetV (.bl (decide (lo ≤ i) && decide (i ≤ hi))) H Q
theorem ok_is_within (T : TX K mg A FD TK) : FnOk P w K mg base CX0 2 (A 5) (FD 5) ["thing", "least", "most"] spWithinI := by
  have G_is_whole := ok_is_whole (P := P) (w := w) (base := base) T
  refine T.f_is_within.ok sc_is_within (fun vs H Q E h => ?_) (fun cdv A' outer s H vs Q E hr h => ?_)
  · obtain ⟨i, lo, hi, rfl, _⟩ := h
    rfl
  · obtain ⟨i, lo, hi, rfl, q⟩ := h
    refine ⟨_, (pss_one (ps_ret (pe_and (pe_call G_is_whole hr (by rfl) T.g_is_whole T.f_is_whole.kp T.b_is_whole .nil pass0 (pa_cons (pv 0) pa_nil)) (pe_one (pe_chain op_le op_le (pv 1) (pv 0) (pv 2)))))), ?_⟩
    refine ⟨.int i, rfl, i, rfl, fun H1 e1 => ⟨true, rfl, iteT ?_⟩⟩
    refine ⟨.int lo, rfl, .int i, rfl, lo, i, rfl, rfl, _, rfl, ite2 (fun c => ?_) (fun c => ?_)⟩
    · refine ⟨.int hi, rfl, i, hi, rfl, rfl, ?_⟩
      have z := q.go e1
      rw [c, Bool.true_and] at z
      exact z
    · have z := q.go e1
      rw [Bool.eq_false_iff.mpr c, Bool.false_and] at z
      exact z
theorem lt_one (a b : Nat) : decide (([a] : List Nat) < [b]) = decide (a < b) := by
  by_cases h : a < b
  · rw [decide_eq_true h]
    exact decide_eq_true (List.Lex.rel h)
  · rw [decide_eq_false h]
    refine decide_eq_false fun z => ?_
    cases z with
    | rel h' => exact h h'
    | cons h' => cases h'
def spWordS : Sp := fun vs H Q _ => ∃ z : Str, vs = [.str z] ∧ z.length ≤ 100000 ∧ RetV (.bl (isW z)) H Q
set_option maxHeartbeats 4000000 in
theorem ok_is_word (T : TX K mg A FD TK) : FnOk P w K mg base CX0 1 (A 8) (FD 8) ["thing"] spWordS := by
  refine T.f_is_word.ok sc_is_word (fun vs H Q E h => ?_) (fun cdv A' outer s H vs Q E hr h => ?_)
  · obtain ⟨z, rfl, _⟩ := h
    rfl
  · obtain ⟨z, rfl, hz, q⟩ := h
    refine ⟨_, (pss_cons (ps_if (PW.pt (pw_or (pt_not (pt_val (pe_callB (isiK (K := K) rfl) (by rfl) T.m_isinstance (by decide +kernel) (pa_cons (pv 0) (pa_cons (pe_bltn (v := .ty "str") (by rfl) T.m_str (by decide +kernel) rfl) pa_nil))))) (pw_or1 (pt_not (pt_chain op_le op_le pe_int (pe_callB call_len_str (by rfl) T.m_len (by decide +kernel) (pa_cons (pv 0) pa_nil)) (pe_glob (v := .int 12) (by rfl) T.c_MOST_LETTERS ⟨_, rfl⟩))))))
      (pss_one (ps_ret pe_bl))
      pss_nil)
      (pss_one (ps_ret (pe_callB (allK (K := K) rfl rfl) (by rfl) T.m_all (by decide +kernel) (pa_cons (pe_lc (own := [("sign", 1)])  rfl sc_is_word.nd (pi_str (pv 0)) (blkOk_by (own := [("sign", 1)]) (N := N_is_word) (sc := defScope (topS 8)) (by decide +kernel)) (fun _ _ _ _ _ => (pg_name (i := 1) sc_is_word.nd rfl (Or.inl rfl))) (fun _ _ _ _ _ => pts_nil) (fun _ _ _ _ _ => (pe_chain op_le_str op_le_str pe_str (pv 1) pe_str))) pa_nil))))), ?_⟩
    refine ⟨.str z, rfl, .str z, .ty "str", .type "str", .type "str", true, rfl, .ty _, .base (.str z), kit_ty (by decide +kernel), true, rfl, iteF ?_⟩
    have no : ¬ (decide ((1 : Int) ≤ (z.length : Int)) = true ∧ decide ((z.length : Int) ≤ 12) = true) → isW z = false := fun h => by
      unfold isW
      have e : z.length = z.cps.size := rfl
      by_cases h1 : 1 ≤ z.cps.size
      · by_cases h2 : z.cps.size ≤ 12
        · exact absurd ⟨decide_eq_true (by omega), decide_eq_true (by omega)⟩ h
        · rw [decide_eq_false h2, Bool.and_false, Bool.false_and]
      · rw [decide_eq_false h1, Bool.false_and, Bool.false_and]
    refine ⟨.str z, rfl, z, rfl, sz hz, 1, (z.length : Int), rfl, rfl, _, rfl, ite2 (fun c1 => ?_) (fun c1 => ?_)⟩
    · refine ⟨(z.length : Int), 12, rfl, rfl, _, rfl, ?_⟩
      by_cases c2 : (z.length : Int) ≤ 12
      · rw [decide_eq_true c2]
        refine iteF ?_
        have e : z.length = z.cps.size := rfl
        have c1' : (1 : Int) ≤ (z.length : Int) := of_decide_eq_true c1
        refine ⟨.str z, rfl, z, rfl, fun D hD => ?_⟩
        refine lc_it (walk_str (z := z)) (fun i H' => Ex H H' ∧ H' D = some (.lst ((z.cps.toList.take i).map fun c => .bl (decide (97 ≤ c) && decide (c ≤ 122))))) ⟨Ex.new hD, upd_same⟩ (fun _ _ _ _ => True.intro) (fun i x H1 H2 hi p y => ?_) (fun H1 p => ?_)
        · obtain ⟨p1, p2⟩ := p
          obtain ⟨rfl, c, hc, rfl⟩ := y
          have g : z.cps.toList[i]? = some c := by
            rw [Array.getElem?_toList]
            exact hc
          have stepE : (z.cps.toList.take (i + 1)).map (fun c => V.bl (decide (97 ≤ c) && decide (c ≤ 122))) = (z.cps.toList.take i).map (fun c => V.bl (decide (97 ≤ c) && decide (c ≤ 122))) ++ [V.bl (decide (97 ≤ c) && decide (c ≤ 122))] := by
            rw [List.take_add_one, g, List.map_append]
            rfl
          have lenE : ((z.cps.toList.take i).map (fun c => V.bl (decide (97 ≤ c) && decide (c ≤ 122)))).length < sizeLine := by
            rw [List.length_map, List.length_take]
            refine sz_lt ?_
            have : z.cps.toList.length = z.cps.size := by simp
            omega
          refine ⟨rfl, .str ⟨#[c]⟩, rfl, _, _, rfl, rfl, _, rfl, ?_⟩
          have e1 : (!decide (((⟨#[c]⟩ : Str).cps.toList) < (Str.ofString "a").cps.toList)) = decide (97 ≤ c) := by
            show (!decide ([c] < [97])) = _
            rw [lt_one]
            by_cases h : 97 ≤ c
            · rw [decide_eq_true h, decide_eq_false (by omega)]
              rfl
            · rw [decide_eq_false h, decide_eq_true (by omega)]
              rfl
          have e2 : (!decide ((Str.ofString "z").cps.toList < (⟨#[c]⟩ : Str).cps.toList)) = decide (c ≤ 122) := by
            show (!decide ([122] < [c])) = _
            rw [lt_one]
            by_cases h : c ≤ 122
            · rw [decide_eq_true h, decide_eq_false (by omega)]
              rfl
            · rw [decide_eq_false h, decide_eq_true (by omega)]
              rfl
          refine ite2 (fun b1 => ?_) (fun b1 => ?_)
          · refine ⟨_, _, rfl, rfl, _, p2, lenE, Ex.mut p1 hD, ?_⟩
            rw [upd_same, stepE, ← e1, ← e2, b1, Bool.true_and]
          · refine ⟨_, p2, lenE, Ex.mut p1 hD, ?_⟩
            rw [upd_same, stepE, ← e1, Bool.eq_false_iff.mpr b1, Bool.false_and]
        · obtain ⟨p1, p2⟩ := p
          refine ⟨D, (z.cps.toList.map fun c => (decide (97 ≤ c) && decide (c ≤ 122))), rfl, SqL.of ?_, ?_⟩
          · rw [p2, List.take_of_length_le (by simp), List.map_map]
            rfl
          · have v := q.go p1
            have ev : isW z = ((z.cps.toList.map fun c => (decide (97 ≤ c) && decide (c ≤ 122))).all id) := by
              unfold isW
              rw [decide_eq_true (by omega), decide_eq_true (by omega), List.all_map]
              rfl
            rw [ev] at v
            exact v
      · rw [decide_eq_false c2]
        refine iteT ?_
        have v := ret_v q
        rw [no (fun h => c2 (of_decide_eq_true h.2))] at v
        exact v
    · have v := ret_v q
      rw [no (fun h => c1 h.1)] at v
      exact ⟨false, rfl, v⟩
/-- a tuple of texts -/
def spWordsT (K : PySem.W.Frag) : Sp := fun vs H Q _ => ∃ (a : Addr) (zs : List Str), vs = [.ref a] ∧ SqT K H a (zs.map V.str) ∧ zs.length ≤ 1000 ∧ (∀ z ∈ zs, z.length ≤ 100000) ∧ RetV (.bl (zs.all isW)) H Q
set_option maxHeartbeats 4000000 in
theorem ok_are_words (T : TX K mg A FD TK) : FnOk P w K mg base CX0 2 (A 9) (FD 9) ["things"] (spWordsT K) := by
  have G_is_word := ok_is_word (P := P) (w := w) (base := base) T
  refine T.f_are_words.ok sc_are_words (fun vs H Q E h => ?_) (fun cdv A' outer s H vs Q E hr h => ?_)
  · obtain ⟨a, zs, rfl, _⟩ := h
    rfl
  · obtain ⟨a, zs, rfl, hS, hl, hz, q⟩ := h
    refine ⟨_, (pss_one (ps_ret (pe_callB (allK (K := K) rfl rfl) (by rfl) T.m_all (by decide +kernel) (pa_cons (pe_lc (own := [("thing", 1)])  rfl sc_are_words.nd (piTK (K := K) rfl (pv 0)) (blkOk_by (own := [("thing", 1)]) (N := N_are_words) (sc := defScope (topS 9)) (by decide +kernel)) (fun _ _ _ _ _ => (pg_name (i := 1) sc_are_words.nd rfl (Or.inl rfl))) (fun _ _ _ _ _ => pts_nil) (fun _ _ _ _ _ => (pe_call G_is_word hr (by rfl) T.g_is_word T.f_is_word.kp T.b_is_word .nil pass0 (pa_cons (pv 1) pa_nil)))) pa_nil)))), ?_⟩
    refine ⟨.ref a, rfl, a, rfl, ⟨_, hS⟩, fun D hD => ?_⟩
    refine lc_tup (xs := zs.map V.str) (fun i H' => Ex H H' ∧ H' D = some (.lst ((zs.take i).map fun z => .bl (isW z)))) ⟨Ex.new hD, upd_same⟩ (fun i H' _ p => ex_t p.1 hS) (fun i x H1 hx p => ?_) (fun H1 p => ?_)
    · obtain ⟨p1, p2⟩ := p
      rw [List.getElem?_map] at hx
      obtain ⟨z, g, rfl⟩ := Option.map_eq_some_iff.mp hx
      refine ⟨rfl, .str z, rfl, z, rfl, hz z (List.mem_of_getElem? g), fun H2 e2 => ?_⟩
      refine ⟨_, e2 _ _ p2, ?_, Ex.mut (p1.trans e2) hD, ?_⟩
      · rw [List.length_map, List.length_take]
        exact sz_lt (by omega)
      · rw [upd_same, List.take_add_one, g, List.map_append]
        rfl
    · obtain ⟨p1, p2⟩ := p
      refine ⟨D, zs.map isW, rfl, SqL.of ?_, ?_⟩
      · rw [p2, List.take_of_length_le (by simp), List.map_map]
        rfl
      · have v := q.go p1
        rw [show ((zs.map isW).all id) = zs.all isW by rw [List.all_map]; rfl]
        exact v

/-! ### queries on the heap: how deep, their words, the wanted ones -/
inductive All3 {α β γ : Type} (R : α → β → γ → Prop) : List α → List β → List γ → Prop
  | nil : All3 R [] [] []
  | cons {a : α} {b : β} {c : γ} {as : List α} {bs : List β} {cs : List γ} : R a b c → All3 R as bs cs → All3 R (a :: as) (b :: bs) (c :: cs)
theorem All3.imp {α β γ : Type} {R S : α → β → γ → Prop} (f : ∀ a b c, R a b c → S a b c) : ∀ {as : List α} {bs : List β} {cs : List γ}, All3 R as bs cs → All3 S as bs cs
  | _, _, _, .nil => .nil
  | _, _, _, .cons h t => .cons (f _ _ _ h) (All3.imp f t)
theorem All3.get {α β γ : Type} {R : α → β → γ → Prop} : ∀ {as : List α} {bs : List β} {cs : List γ} {i : Nat} {a : α}, All3 R as bs cs → as[i]? = some a → ∃ b c, bs[i]? = some b ∧ cs[i]? = some c ∧ R a b c
  | _, _, _, _, _, .nil, e => by simp at e
  | _, _, _, 0, _, .cons h _, e => by
    have e := Option.some.inj e
    subst e
    exact ⟨_, _, rfl, rfl, h⟩
  | _, _, _, i + 1, a, .cons _ t, e => All3.get (i := i) (a := a) t e
theorem All3.len {α β γ : Type} {R : α → β → γ → Prop} : ∀ {as : List α} {bs : List β} {cs : List γ}, All3 R as bs cs → bs.length = as.length ∧ cs.length = as.length
  | _, _, _, .nil => ⟨rfl, rfl⟩
  | _, _, _, .cons _ t => ⟨congrArg Nat.succ (All3.len t).1, congrArg Nat.succ (All3.len t).2⟩
theorem All3.snoc {α β γ : Type} {R : α → β → γ → Prop} {a : α} {b : β} {c : γ} (h : R a b c) : ∀ {as : List α} {bs : List β} {cs : List γ}, All3 R as bs cs → All3 R (as ++ [a]) (bs ++ [b]) (cs ++ [c])
  | _, _, _, .nil => .cons h .nil
  | _, _, _, .cons g t => .cons g (All3.snoc h t)
/-- a query at v, at most d deep; ws its words, ts the wanted ones -/
def QO (K : PySem.W.Frag) (H : Hp) : Nat → V → List Str → List Str → Prop
  | 0, _, _, _ => False
  | d + 1, v, ws, ts => ∃ a, v = .ref a ∧ (
      (∃ w : Str, SqT K H a [.str "word", .str w] ∧ isW w = true ∧ ws = [w] ∧ ts = [w]) ∨
      (SqT K H a (.str "phrase" :: ws.map V.str) ∧ 2 ≤ ws.length ∧ ws.length ≤ 5 ∧ ws.all isW = true ∧ ts = ws) ∨
      (∃ (f : Int) (w u : Str), SqT K H a [.str "near", .int f, .str w, .str u] ∧ 1 ≤ f ∧ f ≤ 20 ∧ isW w = true ∧ isW u = true ∧ ws = [w, u] ∧ ts = [w, u]) ∨
      (∃ (k : Str) (vs : List V) (wss tss : List (List Str)), (k = "and" ∨ k = "or") ∧ SqT K H a (.str k :: vs) ∧ 2 ≤ vs.length ∧ vs.length ≤ 4 ∧ All3 (QO K H d) vs wss tss ∧ ws = wss.flatten ∧ ts = tss.flatten) ∨
      (∃ x y wx tx wy ty, SqT K H a [.str "but", x, y] ∧ QO K H d x wx tx ∧ QO K H d y wy ty ∧ ws = wx ++ wy ∧ ts = tx))
theorem QO.mono {K : PySem.W.Frag} {H H' : Hp} (e : ∀ a xs, SqT K H a xs → SqT K H' a xs) : ∀ {d : Nat} {v : V} {ws ts : List Str}, QO K H d v ws ts → QO K H' d v ws ts
  | 0, _, _, _, h => h.elim
  | d + 1, v, ws, ts, h => by
    obtain ⟨a, rfl, h⟩ := h
    refine ⟨a, rfl, ?_⟩
    rcases h with ⟨w, h1, h2⟩ | ⟨h1, h2⟩ | ⟨f, w, u, h1, h2⟩ | ⟨k, vs, wss, tss, hk, h1, h2, h3, h4, h5⟩ | ⟨x, y, wx, tx, wy, ty, h1, h2, h3, h4⟩
    · exact .inl ⟨w, e _ _ h1, h2⟩
    · exact .inr (.inl ⟨e _ _ h1, h2⟩)
    · exact .inr (.inr (.inl ⟨f, w, u, e _ _ h1, h2⟩))
    · exact .inr (.inr (.inr (.inl ⟨k, vs, wss, tss, hk, e _ _ h1, h2, h3, h4.imp fun _ _ _ z => QO.mono e z, h5⟩)))
    · exact .inr (.inr (.inr (.inr ⟨x, y, wx, tx, wy, ty, e _ _ h1, QO.mono e h2, QO.mono e h3, h4⟩)))
theorem QO.ex {K : PySem.W.Frag} {H H' : Hp} {d : Nat} {v : V} {ws ts : List Str} (h : QO K H d v ws ts) (e : Ex H H') : QO K H' d v ws ts := h.mono fun _ _ z => ex_t e z
theorem QO.fx {K : PySem.W.Frag} {H H' : Hp} {p : Addr} {c d : Nat} {v : V} {ws ts : List Str} (h : QO K H d v ws ts) (f : Fx p H H') (hp : Pl H p c) : QO K H' d v ws ts := h.mono fun _ _ z => f.sqt hp z
theorem QO.up {K : PySem.W.Frag} {H : Hp} : ∀ {d : Nat} {v : V} {ws ts : List Str}, QO K H d v ws ts → QO K H (d + 1) v ws ts
  | 0, _, _, _, h => h.elim
  | d + 1, v, ws, ts, h => by
    obtain ⟨a, rfl, h⟩ := h
    refine ⟨a, rfl, ?_⟩
    rcases h with ⟨w, h1, h2⟩ | ⟨h1, h2⟩ | ⟨f, w, u, h1, h2⟩ | ⟨k, vs, wss, tss, hk, h1, h2, h3, h4, h5⟩ | ⟨x, y, wx, tx, wy, ty, h1, h2, h3, h4⟩
    · exact .inl ⟨w, h1, h2⟩
    · exact .inr (.inl ⟨h1, h2⟩)
    · exact .inr (.inr (.inl ⟨f, w, u, h1, h2⟩))
    · exact .inr (.inr (.inr (.inl ⟨k, vs, wss, tss, hk, h1, h2, h3, h4.imp fun _ _ _ z => QO.up z, h5⟩)))
    · exact .inr (.inr (.inr (.inr ⟨x, y, wx, tx, wy, ty, h1, QO.up h2, QO.up h3, h4⟩)))
theorem QO.le {K : PySem.W.Frag} {H : Hp} {d e : Nat} {v : V} {ws ts : List Str} (h : QO K H d v ws ts) (l : d ≤ e) : QO K H e v ws ts := by
  induction l with
  | refl => exact h
  | step _ ih => exact ih.up
theorem tyT {K : PySem.W.Frag} {H : Hp} {a : Addr} {xs : List V} (h : SqT K H a xs) : TyX K H (.ref a) (.type "tuple") := by
  rcases h with (h | ⟨o, h⟩) | ⟨o, its, n, h1, h2, _⟩
  · exact .base (.tup h)
  · exact .fTuple h
  · exact .kTuple h1 h2
/-- t[1:] -/
theorem cut_tail (x : V) (xs : List V) : cutV (x :: xs) (some 1) none = xs := by
  unfold cutV
  rw [show HT.sIx (x :: xs).length 0 (some 1) = min 1 (x :: xs).length from HT.sIx_nat _ 0 1, HT.sIx_none]
  rw [show min 1 (x :: xs).length = 1 by rw [List.length_cons]; omega]
  show (List.take ((x :: xs).length - 1) xs) = xs
  rw [List.length_cons, Nat.add_sub_cancel]
  exact List.take_length
theorem tail_part (n : Nat) (d : Nat) : ¬ (HT.sIx (n + 1) 0 (some 1) = 0 ∧ HT.sIx (n + 1) d none = d) := fun h => by
  have h1 := h.1
  rw [show HT.sIx (n + 1) 0 (some 1) = min 1 (n + 1) from HT.sIx_nat _ 0 1] at h1
  omega
theorem isW_len {z : Str} (h : isW z = true) : z.length ≤ 100000 := by
  unfold isW at h
  rw [Bool.and_eq_true, Bool.and_eq_true, decide_eq_true_eq, decide_eq_true_eq] at h
  have e : z.length = z.cps.size := rfl
  omega
theorem allW_len {zs : List Str} (h : zs.all isW = true) : ∀ z ∈ zs, z.length ≤ 100000 := fun z hz => isW_len (List.all_eq_true.mp h z hz)

/-! ### is_built, are_built -/
def spBuilt (K : PySem.W.Frag) (d : Nat) : Sp := fun vs H Q _ => ∃ (v : V) (ws ts : List Str), vs = [v, .int (d : Int)] ∧ QO K H d v ws ts ∧ RetV (.bl true) H Q
def spBuiltAll (K : PySem.W.Frag) (d : Nat) : Sp := fun vs H Q _ => ∃ (a : Addr) (xs : List V) (wss tss : List (List Str)), vs = [.ref a, .int (d : Int)] ∧ SqT K H a xs ∧ xs.length ≤ 1000 ∧ All3 (QO K H d) xs wss tss ∧ RetV (.bl true) H Q
set_option maxHeartbeats 4000000 in
theorem ok_are_built (T : TX K mg A FD TK) {d k : Nat} (G_is_built : FnOk P w K mg base CX0 k (A 19) (FD 19) ["thing", "deep"] (spBuilt K d)) :
    FnOk P w K mg base CX0 (k + 1) (A 20) (FD 20) ["things", "deep"] (spBuiltAll K d) := by
  refine T.f_are_built.ok sc_are_built (fun vs H Q E h => ?_) (fun cdv A' outer s H vs Q E hr h => ?_)
  · obtain ⟨a, xs, wss, tss, rfl, _⟩ := h
    rfl
  · obtain ⟨a, xs, wss, tss, rfl, hS, hl, hA, q⟩ := h
    refine ⟨_, (pss_one (ps_ret (pe_callB (allK (K := K) rfl rfl) (by rfl) T.m_all (by decide +kernel) (pa_cons (pe_lc (own := [("thing", 2)])  rfl sc_are_built.nd (piTK (K := K) rfl (pv 0)) (blkOk_by (own := [("thing", 2)]) (N := N_are_built) (sc := defScope (topS 20)) (by decide +kernel)) (fun _ _ _ _ _ => (pg_name (i := 2) sc_are_built.nd rfl (Or.inl rfl))) (fun _ _ _ _ _ => pts_nil) (fun _ _ _ _ _ => (pe_call G_is_built hr (by rfl) T.g_is_built T.f_is_built.kp T.b_is_built .nil pass0 (pa_cons (pv 2) (pa_cons (pv 1) pa_nil))))) pa_nil)))), ?_⟩
    refine ⟨.ref a, rfl, a, rfl, ⟨_, hS⟩, fun D hD => ?_⟩
    refine lc_tup (xs := xs) (fun i H' => Ex H H' ∧ H' D = some (.lst (List.replicate i (.bl true)))) ⟨Ex.new hD, upd_same⟩ (fun i H' _ p => ex_t p.1 hS) (fun i x H1 hx p => ?_) (fun H1 p => ?_)
    · obtain ⟨p1, p2⟩ := p
      obtain ⟨b, c, _, _, hq⟩ := hA.get hx
      have hi : i < xs.length := (List.getElem?_eq_some_iff.mp hx).1
      refine ⟨rfl, x, rfl, .int (d : Int), rfl, x, b, c, rfl, hq.ex p1, fun H2 e2 => ?_⟩
      refine ⟨_, e2 _ _ p2, ?_, Ex.mut (p1.trans e2) hD, ?_⟩
      · rw [List.length_replicate]
        exact sz_lt (by omega)
      · rw [upd_same, List.replicate_succ']
    · obtain ⟨p1, p2⟩ := p
      refine ⟨D, List.replicate xs.length true, rfl, SqL.of ?_, ?_⟩
      · rw [p2, List.map_replicate]
      · have v := q.go p1
        rw [show (List.replicate xs.length true).all id = true by
          rw [List.all_eq_true]
          intro x hx
          exact List.eq_of_mem_replicate hx]
        exact v
theorem no_str {x y : Str} {A B : Prop} (h : x ≠ y) (b : B) : if decide (V.str x = V.str y) = true then A else B := by
  rw [decide_eq_false fun z => h (V.str.inj z)]
  exact b
theorem yes_str {x : Str} {A B : Prop} (a : A) : if decide (V.str x = V.str x) = true then A else B := by
  rw [decide_eq_true rfl]
  exact a
theorem yes_int {i j : Int} {A B : Prop} (h : i = j) (a : A) : if decide (V.int i = V.int j) = true then A else B := by
  rw [h, decide_eq_true rfl]
  exact a
theorem no_int {i j : Int} {A B : Prop} (h : i ≠ j) (b : B) : if decide (V.int i = V.int j) = true then A else B := by
  rw [decide_eq_false fun z => h (V.int.inj z)]
  exact b
theorem yes_le {c A B : Prop} [Decidable c] (h : c) (a : A) : if decide c = true then A else B := by
  rw [decide_eq_true h]
  exact a
theorem no_le {c A B : Prop} [Decidable c] (h : ¬ c) (b : B) : if decide c = true then A else B := by
  rw [decide_eq_false h]
  exact b
theorem retT {b : Bool} {H H1 : Hp} {Q : VK} (h : b = true) (q : RetV (.bl true) H Q) (e : Ex H H1) : RetV (.bl b) H1 Q := by
  rw [h]
  exact fun H2 e2 => q H2 (e.trans e2)
set_option maxHeartbeats 8000000 in
theorem ok_is_built (T : TX K mg A FD TK) : ∀ d : Nat, FnOk P w K mg base CX0 (2 * d + 3) (A 19) (FD 19) ["thing", "deep"] (spBuilt K d)
  | 0 => by
    refine T.f_is_built.ok (k := 2) sc_is_built (fun vs H Q E h => ?_) (fun cdv A' outer s H vs Q E hr h => ?_)
    · obtain ⟨v, ws, ts, _, h, _⟩ := h
      exact h.elim
    · obtain ⟨v, ws, ts, _, h, _⟩ := h
      exact h.elim
  | d + 1 => by
    have G_are_built : FnOk P w K mg base CX0 (2 * d + 4) (A 20) (FD 20) ["things", "deep"] (spBuiltAll K d) := ok_are_built T (ok_is_built T d)
    have G_are_words := (ok_are_words (P := P) (w := w) (base := base) T).mono (show 2 ≤ 2 * d + 4 by omega)
    have G_is_within := (ok_is_within (P := P) (w := w) (base := base) T).mono (show 2 ≤ 2 * d + 4 by omega)
    refine T.f_is_built.ok (k := 2 * d + 4) sc_is_built (fun vs H Q E h => ?_) (fun cdv A' outer s H vs Q E hr h => ?_)
    · obtain ⟨v, ws, ts, rfl, _⟩ := h
      rfl
    · obtain ⟨v, ws, ts, rfl, ⟨a, rfl, h⟩, q⟩ := h
      refine ⟨_, (pss_cons (ps_if (PW.pt (pw_or (pt_cmpR op_eq (pv 1) pe_int (nomark _)) (pw_or (pt_not (pt_val (pe_callB (isiK (K := K) rfl) (by rfl) T.m_isinstance (by decide +kernel) (pa_cons (pv 0) (pa_cons (pe_bltn (v := .ty "tuple") (by rfl) T.m_tuple (by decide +kernel) rfl) pa_nil))))) (pw_or1 (pt_cmpR op_lt (pe_callB (lenK (K := K) rfl) (by rfl) T.m_len (by decide +kernel) (pa_cons (pv 0) pa_nil)) pe_int (nomark _))))))
      (pss_one (ps_ret pe_bl))
      pss_nil)
      (pss_cons (ps_set (i := 2) sc_is_built.nd rfl (.inl rfl) (pe_ix (ixTK (K := K) rfl) (pv 0) pe_int (fun _ _ => rfl)))
      (pss_cons (ps_set (i := 3) sc_is_built.nd rfl (.inl rfl) (pe_slice (slTK (K := K) rfl) (pv 0) (po_some pe_int) po_none))
      (pss_cons (ps_if (pt_cmpR op_eq (pv 2) pe_str (nomark _))
      (pss_one (ps_ret (pe_and (pe_cmpR op_eq (pe_callB (lenK (K := K) rfl) (by rfl) T.m_len (by decide +kernel) (pa_cons (pv 3) pa_nil)) pe_int (nomark _)) (pe_one (pe_call G_are_words hr (by rfl) T.g_are_words T.f_are_words.kp T.b_are_words .nil pass0 (pa_cons (pv 3) pa_nil))))))
      pss_nil)
      (pss_cons (ps_if (pt_cmpR op_eq (pv 2) pe_str (nomark _))
      (pss_one (ps_ret (pe_and (pe_chain op_le op_le pe_int (pe_callB (lenK (K := K) rfl) (by rfl) T.m_len (by decide +kernel) (pa_cons (pv 3) pa_nil)) (pe_glob (v := .int 5) (by rfl) T.c_MOST_PHRASED ⟨_, rfl⟩)) (pe_one (pe_call G_are_words hr (by rfl) T.g_are_words T.f_are_words.kp T.b_are_words .nil pass0 (pa_cons (pv 3) pa_nil))))))
      pss_nil)
      (pss_cons (ps_if (pt_cmpR op_eq (pv 2) pe_str (nomark _))
      (pss_one (ps_ret (pe_and (pe_cmpR op_eq (pe_callB (lenK (K := K) rfl) (by rfl) T.m_len (by decide +kernel) (pa_cons (pv 3) pa_nil)) pe_int (nomark _)) (pe_and (pe_call G_is_within hr (by rfl) T.g_is_within T.f_is_within.kp T.b_is_within .nil pass0 (pa_cons (pe_ix (ixTK (K := K) rfl) (pv 3) pe_int (fun _ _ => rfl)) (pa_cons pe_int (pa_cons (pe_glob (v := .int 20) (by rfl) T.c_MOST_FAR ⟨_, rfl⟩) pa_nil)))) (pe_one (pe_call G_are_words hr (by rfl) T.g_are_words T.f_are_words.kp T.b_are_words .nil pass0 (pa_cons (pe_slice (slTK (K := K) rfl) (pv 3) (po_some pe_int) po_none) pa_nil)))))))
      pss_nil)
      (pss_cons (ps_if (pt_cmpR (inK (K := K) rfl) (pv 2) (pe_tup (pa_cons pe_str (pa_cons pe_str pa_nil))) (by rfl))
      (pss_one (ps_ret (pe_and (pe_chain op_le op_le pe_int (pe_callB (lenK (K := K) rfl) (by rfl) T.m_len (by decide +kernel) (pa_cons (pv 3) pa_nil)) (pe_glob (v := .int 4) (by rfl) T.c_MOST_JOINED ⟨_, rfl⟩)) (pe_one (pe_call G_are_built hr (by rfl) T.g_are_built T.f_are_built.kp T.b_are_built .nil pass0 (pa_cons (pv 3) (pa_cons (pe_op op_sub (pv 1) pe_int) pa_nil)))))))
      pss_nil)
      (pss_one (ps_ret (pe_and (pe_cmpR op_eq (pv 2) pe_str (nomark _)) (pe_and (pe_cmpR op_eq (pe_callB (lenK (K := K) rfl) (by rfl) T.m_len (by decide +kernel) (pa_cons (pv 3) pa_nil)) pe_int (nomark _)) (pe_one (pe_call G_are_built hr (by rfl) T.g_are_built T.f_are_built.kp T.b_are_built .nil pass0 (pa_cons (pv 3) (pa_cons (pe_op op_sub (pv 1) pe_int) pa_nil))))))))))))))), ?_⟩
      obtain ⟨kd, parts, hS, h2, hl, hK⟩ : ∃ (kd : Str) (parts : List V), SqT K H a (.str kd :: parts) ∧ 1 ≤ parts.length ∧ parts.length ≤ 100 ∧
          ((kd = "word" ∧ ∃ w, parts = [.str w] ∧ isW w = true) ∨ (kd = "phrase" ∧ ∃ ws : List Str, parts = ws.map V.str ∧ 2 ≤ ws.length ∧ ws.length ≤ 5 ∧ ws.all isW = true) ∨
            (kd = "near" ∧ ∃ f w u, parts = [.int f, .str w, .str u] ∧ 1 ≤ f ∧ f ≤ 20 ∧ isW w = true ∧ isW u = true) ∨
            ((kd = "and" ∨ kd = "or") ∧ 2 ≤ parts.length ∧ parts.length ≤ 4 ∧ ∃ wss tss, All3 (QO K H d) parts wss tss) ∨
            (kd = "but" ∧ ∃ x y wx tx wy ty, parts = [x, y] ∧ QO K H d x wx tx ∧ QO K H d y wy ty)) := by
        rcases h with ⟨w, h1, h2, _⟩ | ⟨h1, h2, h3, h4, _⟩ | ⟨f, w, u, h1, h2, h3, h4, h5, _⟩ | ⟨k, vs, wss, tss, hk, h1, h2, h3, h4, h5⟩ | ⟨x, y, wx, tx, wy, ty, h1, h2, h3, h4⟩
        · exact ⟨_, _, h1, by simp, by simp, .inl ⟨rfl, w, rfl, h2⟩⟩
        · exact ⟨_, _, h1, by rw [List.length_map]; omega, by rw [List.length_map]; omega, .inr (.inl ⟨rfl, ws, rfl, h2, h3, h4⟩)⟩
        · exact ⟨_, _, h1, by simp, by simp, .inr (.inr (.inl ⟨rfl, f, w, u, rfl, h2, h3, h4, h5⟩))⟩
        · exact ⟨_, _, h1, by omega, by omega, .inr (.inr (.inr (.inl ⟨hk, h2, h3, wss, tss, h4⟩)))⟩
        · exact ⟨_, _, h1, by simp, by simp, .inr (.inr (.inr (.inr ⟨rfl, x, y, wx, tx, wy, ty, rfl, h2, h3⟩)))⟩
      -- if deep == 0 or not isinstance(thing, tuple) or len(thing) < 2
      refine ⟨.int ((d + 1 : Nat) : Int), rfl, rfl, _, rfl, no_int (by omega) ?_⟩
      refine ⟨.ref a, rfl, .ref a, .ty "tuple", .type "tuple", .type "tuple", true, rfl, .ty _, tyT hS, kit_ty (by decide +kernel), true, rfl, ?_⟩
      refine ⟨.ref a, rfl, a, _, rfl, .inr hS, _, 2, rfl, rfl, _, rfl, no_le (by rw [List.length_cons]; omega) ?_⟩
      -- kind, parts
      refine ⟨.ref a, rfl, a, _, 0, .str kd, rfl, rfl, hS, atI_nat (j := 0) rfl, ?_⟩
      refine ⟨.ref a, rfl, 1, rfl, a, _, rfl, hS, tail_part _ _, fun t nt => ?_⟩
      rw [cut_tail]
      have e1 : Ex H (upd H t (.tup parts)) := Ex.new nt
      have hT : (upd H t (.tup parts)) t = some (.tup parts) := upd_same
      refine ⟨.str kd, rfl, rfl, _, rfl, ?_⟩
      rcases hK with ⟨rfl, w, rfl, hw⟩ | ⟨rfl, zs, rfl, l2, l5, hw⟩ | ⟨rfl, f, w, u, rfl, f1, f2, hw, hu⟩ | ⟨hk, l2, l4, wss, tss, hA⟩ | ⟨rfl, x, y, wx, tx, wy, ty, rfl, hx, hy⟩
      · refine yes_str ?_
        refine ⟨.ref t, rfl, t, _, rfl, .inr (SqT.of hT), rfl, _, rfl, yes_int rfl ?_⟩
        exact ⟨.ref t, rfl, t, [w], rfl, SqT.of hT, by simp, allW_len (by simp [hw]), retT (by simp [hw]) q e1⟩
      · refine no_str (by decide +kernel) ?_
        refine ⟨.str "phrase", rfl, rfl, _, rfl, yes_str ?_⟩
        refine ⟨.ref t, rfl, t, _, rfl, .inr (SqT.of hT), 2, _, rfl, rfl, _, rfl, yes_le (by rw [List.length_map]; omega) ?_⟩
        refine ⟨_, 5, rfl, rfl, _, rfl, yes_le (by rw [List.length_map]; omega) ?_⟩
        exact ⟨.ref t, rfl, t, zs, rfl, SqT.of hT, by omega, allW_len hw, retT hw q e1⟩
      · refine no_str (by decide +kernel) ?_
        refine ⟨.str "near", rfl, rfl, _, rfl, no_str (by decide +kernel) ?_⟩
        refine ⟨.str "near", rfl, rfl, _, rfl, yes_str ?_⟩
        refine ⟨.ref t, rfl, t, _, rfl, .inr (SqT.of hT), rfl, _, rfl, yes_int rfl ?_⟩
        refine ⟨.ref t, rfl, t, _, 0, .int f, rfl, rfl, SqT.of hT, atI_nat (j := 0) rfl, f, 1, 20, rfl, fun H2 e2 => ⟨_, rfl, ?_⟩⟩
        rw [decide_eq_true f1, decide_eq_true f2]
        have hT2 := e2 _ _ hT
        refine ⟨.ref t, rfl, 1, rfl, t, _, rfl, SqT.of hT2, tail_part _ _, fun t2 nt2 => ?_⟩
        rw [cut_tail]
        exact ⟨t2, [w, u], rfl, SqT.of upd_same, by simp, allW_len (by simp [hw, hu]), retT (by simp [hw, hu]) q ((e1.trans e2).trans (Ex.new nt2))⟩
      · have n1 : kd ≠ "word" := by rcases hk with rfl | rfl <;> decide +kernel
        have n2 : kd ≠ "phrase" := by rcases hk with rfl | rfl <;> decide +kernel
        have n3 : kd ≠ "near" := by rcases hk with rfl | rfl <;> decide +kernel
        refine no_str n1 ⟨.str kd, rfl, rfl, _, rfl, no_str n2 ⟨.str kd, rfl, rfl, _, rfl, no_str n3 ?_⟩⟩
        refine ⟨.str kd, rfl, by show 2 ≤ sizeLine; decide, fun t2 nt2 => ?_⟩
        refine ⟨t2, _, rfl, .inr (SqT.of upd_same), rfl, rfl, _, rfl, ?_⟩
        have hin : inV (.str kd) [.str "and", .str "or"] = true := by rcases hk with rfl | rfl <;> decide +kernel
        show (if inV (.str kd) [.str "and", .str "or"] = true then _ else _)
        rw [hin]
        have e2 : Ex (upd H t (.tup parts)) (upd (upd H t (.tup parts)) t2 (.tup [.str "and", .str "or"])) := Ex.new nt2
        have hT2 := e2 _ _ hT
        refine ⟨.ref t, rfl, t, _, rfl, .inr (SqT.of hT2), 2, _, rfl, rfl, _, rfl, yes_le (by omega) ?_⟩
        refine ⟨_, 4, rfl, rfl, _, rfl, yes_le (by omega) ?_⟩
        refine ⟨.ref t, rfl, .int ((d + 1 : Nat) : Int), rfl, ((d + 1 : Nat) : Int), 1, rfl, rfl, t, parts, wss, tss, ?_, SqT.of hT2, by omega, hA.imp fun _ _ _ z => z.ex (e1.trans e2), retT rfl q (e1.trans e2)⟩
        show [V.ref t, V.int (((d + 1 : Nat) : Int) - 1)] = [V.ref t, V.int (d : Int)]
        rw [show ((d + 1 : Nat) : Int) - 1 = (d : Int) by omega]
      · refine no_str (by decide +kernel) ⟨.str "but", rfl, rfl, _, rfl, no_str (by decide +kernel) ⟨.str "but", rfl, rfl, _, rfl, no_str (by decide +kernel) ?_⟩⟩
        refine ⟨.str "but", rfl, by show 2 ≤ sizeLine; decide, fun t2 nt2 => ?_⟩
        refine ⟨t2, _, rfl, .inr (SqT.of upd_same), rfl, rfl, _, rfl, ?_⟩
        show (if inV (.str "but") [.str "and", .str "or"] = true then _ else _)
        rw [show inV (.str "but") [.str "and", .str "or"] = false by decide +kernel]
        have e2 : Ex (upd H t (.tup [x, y])) (upd (upd H t (.tup [x, y])) t2 (.tup [.str "and", .str "or"])) := Ex.new nt2
        have hT2 := e2 _ _ hT
        refine ⟨.str "but", rfl, rfl, _, rfl, yes_str ?_⟩
        refine ⟨.ref t, rfl, t, _, rfl, .inr (SqT.of hT2), rfl, _, rfl, yes_int rfl ?_⟩
        refine ⟨.ref t, rfl, .int ((d + 1 : Nat) : Int), rfl, ((d + 1 : Nat) : Int), 1, rfl, rfl, t, [x, y], [wx, wy], [tx, ty], ?_, SqT.of hT2, by simp, .cons (hx.ex (e1.trans e2)) (.cons (hy.ex (e1.trans e2)) .nil), retT rfl q (e1.trans e2)⟩
        show [V.ref t, V.int (((d + 1 : Nat) : Int) - 1)] = [V.ref t, V.int (d : Int)]
        rw [show ((d + 1 : Nat) : Int) - 1 = (d : Int) by omega]

/-! ### [y for x in t for y in f(x)]: t a tuple, f(x) a new list -/
theorem take_flat {α : Type} {yss : List (List α)} {i : Nat} {ys : List α} (h : yss[i]? = some ys) : (yss.take (i + 1)).flatten = (yss.take i).flatten ++ ys := by
  rw [List.take_add_one, h, List.flatten_append]
  show _ ++ [ys].flatten = _
  rw [List.flatten_cons, List.flatten_nil, List.append_nil]
theorem take_flat_len {α : Type} (yss : List (List α)) (i : Nat) : (yss.take i).flatten.length ≤ yss.flatten.length := by
  have h : yss.flatten = (yss.take i).flatten ++ (yss.drop i).flatten := by rw [← List.flatten_append, List.take_append_drop]
  rw [h, List.length_append]
  omega
set_option maxHeartbeats 4000000 in
theorem lc2_tl {K K' : PySem.W.Frag} {σ : L2.St} {H : Hp} {Q : VK} {te1 : TE} {j j1 : Nat} {vs vs1 : List Nat} {xs : List V} {yss : List (List V)} {a : Addr}
    (hx : SqT K H a xs) (hlen : xs.length = yss.length) (hsz : yss.flatten.length ≤ 50000)
    (h1 : ∀ (i : Nat) (x : V) (ys : List V) (H' : Hp), xs[i]? = some x → yss[i]? = some ys → Ex H H' → ∀ R : VK, (∀ p H2, H' p = none → Ex H' H2 → H2 p = some (.lst ys) → R (.ref p) H2) → te1 ((wipe σ vs).set j (some x)) H' R)
    (hw : ∀ x : V, wipe ((wipe σ vs).set j (some x)) vs = wipe σ vs)
    (hw1 : ∀ x y : V, wipe ((wipe ((wipe σ vs).set j (some x)) vs1).set j1 (some y)) vs1 = wipe ((wipe σ vs).set j (some x)) vs1)
    (hv : ∀ x y : V, ((wipe ((wipe σ vs).set j (some x)) vs1).set j1 (some y))[j1]? = some (some y))
    (q : RetL yss.flatten H Q) : tLc2 (fun _ H R => R (Itt K a) H) (gName j) tYes (iList K' te1) (gName j1) tYes (tVar j1) vs vs1 σ H Q := by
  intro D hD
  refine ⟨fun i m H' => m = xs.length - i ∧ i ≤ xs.length ∧ Ex H H' ∧ H' D = some (.lst (yss.take i).flatten), ⟨xs.length, by simp, Nat.zero_le _, Ex.new hD, upd_same⟩, ?_⟩
  rintro i m H1 ⟨rfl, hi, e1, d1⟩
  have hx1 := ex_t e1 hx
  by_cases hlt : i < xs.length
  · obtain ⟨ys, gy⟩ : ∃ ys, yss[i]? = some ys := ⟨_, List.getElem?_eq_getElem (by omega)⟩
    refine .inr ⟨⟨xs, xs[i], hx1, by simp [hlt]⟩, fun H' => Ex H H' ∧ H' D = some (.lst (yss.take (i + 1)).flatten), fun H' n => ⟨xs.length - (i + 1), by omega, rfl, hlt, n⟩, fun x H' y => ?_⟩
    obtain ⟨e, y⟩ := y
    subst e
    have gx := y xs hx1
    refine ⟨hw x, ?_⟩
    refine h1 i x ys _ gx gy e1 _ fun p H2 np e2 hp => ⟨p, rfl, ⟨_, SqL.of hp⟩, ?_⟩
    have nD : p ≠ D := (ne_of_none d1 np).symm
    have hsz2 := take_flat_len yss (i + 1)
    rw [take_flat gy, List.length_append] at hsz2
    refine ⟨fun jj k H3 => k = ys.length - jj ∧ jj ≤ ys.length ∧ Ex H H3 ∧ H3 p = some (.lst ys) ∧ H3 D = some (.lst ((yss.take i).flatten ++ ys.take jj)), ⟨ys.length, by simp, Nat.zero_le _, e1.trans e2, hp, by rw [e2 _ _ d1, List.take_zero, List.append_nil]⟩, ?_⟩
    rintro jj k H3 ⟨rfl, hj, e3, p3, d3⟩
    have sp3 : SqL K' H3 p ys := SqL.of p3
    by_cases hjl : jj < ys.length
    · refine .inr ⟨⟨ys, ys[jj], sp3, by simp [hjl]⟩, fun H4 => Ex H H4 ∧ H4 p = some (.lst ys) ∧ H4 D = some (.lst ((yss.take i).flatten ++ ys.take (jj + 1))), fun H4 n => ⟨ys.length - (jj + 1), by omega, rfl, hjl, n⟩, fun y' H4 yy => ?_⟩
      obtain ⟨e, yy⟩ := yy
      subst e
      have gj := yy ys sp3
      refine ⟨hw1 x y', y', hv x y', _, d3, ?_, Ex.mut e3 hD, ?_, ?_⟩
      · rw [List.length_append, List.length_take]
        exact sz_lt (by omega)
      · rw [upd_ne nD]
        exact p3
      · rw [upd_same, List.take_add_one, gj, List.append_assoc]
        rfl
    · have ej : jj = ys.length := by omega
      subst ej
      refine .inl ⟨⟨ys, sp3, Nat.le_refl _⟩, e3, ?_⟩
      rw [d3, take_flat gy, List.take_length]
  · have ei : i = xs.length := by omega
    subst ei
    refine .inl ⟨⟨xs, hx1, Nat.le_refl _⟩, q D _ hD e1 ?_⟩
    rw [d1, hlen, List.take_length]
theorem len_flat {α : Type} {yss : List (List α)} {ys : List α} {i : Nat} (h : yss[i]? = some ys) : ys.length ≤ yss.flatten.length := (List.sublist_flatten_of_mem (List.mem_of_getElem? h)).length_le

/-! ### words_in -/
def spWordsIn (K : PySem.W.Frag) (d : Nat) : Sp := fun vs H Q _ => ∃ (v : V) (b : Bool) (ws ts : List Str), vs = [v, .bl b] ∧ QO K H d v ws ts ∧ (if b then ts else ws).length ≤ 10000 ∧ RetL ((if b then ts else ws).map V.str) H Q
theorem kb_words_in (T : TX K mg A FD TK) : KBn K (FD 21) ["query", "only_wanted"] 1 ["only_wanted"] (fun us ws => us ++ ws) (fun vs zs => vs ++ zs) := by
  obtain ⟨oc, od, dV, kV, doc, pm, an, cdv, ct, osl, e, lk, hcd, hD, hK⟩ := T.f_words_in.ex
  rcases hD with ⟨_, rfl⟩ | ⟨e', _⟩
  · rw [e]
    rcases hK with e' | ⟨D, rfl, _⟩
    · cases e'
    · exact ⟨fun s us ws _ l1 l2 => match us, ws, l1, l2 with | [_], [_], _, _ => .of_eq rfl, fun r1 r2 => r1.append r2⟩
  · exact absurd rfl e'
theorem bd_words_in (T : TX K mg A FD TK) : ∃ ds, Vals [V.bl false] ds ∧ Binds K (FD 21) ["query", "only_wanted"] ds :=
  T.f_words_in.binds0 1 (by simp) rfl fun D doc pm an cdv ct us ks l1 l2 => match us, ks, l1, l2 with
    | [_], [_], _, _ => ⟨_, _, _, _, _, _, rfl, rfl, rfl⟩
set_option maxHeartbeats 8000000 in
theorem ok_words_in (T : TX K mg A FD TK) : ∀ d : Nat, FnOk P w K mg base CX0 (d + 1) (A 21) (FD 21) ["query", "only_wanted"] (spWordsIn K d)
  | 0 => by
    refine T.f_words_in.ok (k := 0) sc_words_in (fun vs H Q E h => ?_) (fun cdv A' outer s H vs Q E hr h => ?_)
    · obtain ⟨v, b, ws, ts, _, h, _⟩ := h
      exact h.elim
    · obtain ⟨v, b, ws, ts, _, h, _⟩ := h
      exact h.elim
  | d + 1 => by
    have G_words_in : FnOk P w K mg base CX0 (d + 1) (A 21) (FD 21) ["query", "only_wanted"] (spWordsIn K d) := ok_words_in T d
    have KB_words_in := kb_words_in T
    refine T.f_words_in.ok (k := d + 1) sc_words_in (fun vs H Q E h => ?_) (fun cdv A' outer s H vs Q E hr h => ?_)
    · obtain ⟨v, b, ws, ts, rfl, _⟩ := h
      rfl
    · obtain ⟨v, b, ws, ts, rfl, ⟨a, rfl, h⟩, hlen, q⟩ := h
      refine ⟨_, PSs.nox (pss_cons (ps_set (i := 2) sc_words_in.nd rfl (.inl rfl) (pe_ix (ixTK (K := K) rfl) (pv 0) pe_int (fun _ _ => rfl)))
      (pss_cons (ps_if (pt_cmpR (inK (K := K) rfl) (pv 2) (pe_tup (pa_cons pe_str (pa_cons pe_str pa_nil))) (by rfl))
      (pss_one (ps_ret (pe_callTy (listK (K := K) rfl) (by rfl) T.m_list (by decide +kernel) (pa_cons (pe_slice (slTK (K := K) rfl) (pv 0) (po_some pe_int) po_none) pa_nil))))
      pss_nil)
      (pss_cons (ps_if (pt_cmpR op_eq (pv 2) pe_str (nomark _))
      (pss_one (ps_ret (pe_callTy (listK (K := K) rfl) (by rfl) T.m_list (by decide +kernel) (pa_cons (pe_slice (slTK (K := K) rfl) (pv 0) (po_some pe_int) po_none) pa_nil))))
      pss_nil)
      (pss_cons (ps_set (i := 3) sc_words_in.nd rfl (.inl rfl) (pe_ifExp (PW.pt (pw_and (pt_cmpR op_eq (pv 2) pe_str (nomark _)) (pw_and1 (pt_val (pv 1))))) (pe_slice (slTK (K := K) rfl) (pv 0) (po_some pe_int) (po_some pe_int)) (pe_slice (slTK (K := K) rfl) (pv 0) (po_some pe_int) po_none)))
      (pss_one (ps_ret (pe_lc2 (own := [("part", 4), ("word", 5)]) (wi1 := iList K _)  (vs1 := [5]) rfl sc_words_in.nd (piTK (K := K) rfl (pv 3)) (blkOk_by (own := [("part", 4), ("word", 5)]) (N := N_words_in) (sc := defScope (topS 21)) (by decide +kernel)) (by decide) (fun _ _ _ _ _ => (pg_name (i := 4) sc_words_in.nd rfl (Or.inl rfl))) (fun _ _ _ _ _ => pts_nil) (fun _ _ _ _ _ => by exact (piLK (K := K) rfl (pe_callN G_words_in hr (by rfl) T.g_words_in T.f_words_in.kp KB_words_in pass0 (pa_cons (pv 4) pa_nil) (pk_cons (pv 1) pk_nil)))) (fun _ _ _ _ _ => (pg_name (i := 5) sc_words_in.nd rfl (Or.inl rfl))) (fun _ _ _ _ _ => pts_nil) (fun _ _ _ _ _ => (pv 5))))))))), ?_⟩
      rcases h with ⟨z, hS, hw, rfl, rfl⟩ | ⟨hS, l2, l5, hw, rfl⟩ | ⟨f, z, u, hS, f1, f2, hz, hu, rfl, rfl⟩ | ⟨kd, vs, wss, tss, hk, hS, l2, l4, hA, rfl, rfl⟩ | ⟨x, y, wx, tx, wy, ty, hS, hx, hy, rfl, rfl⟩
      · refine ⟨.ref a, rfl, a, _, 0, _, rfl, rfl, hS, atI_nat (j := 0) rfl, ?_⟩
        refine ⟨.str "word", rfl, by show 2 ≤ sizeLine; decide, fun t2 nt2 => ?_⟩
        refine ⟨t2, _, rfl, .inr (SqT.of upd_same), rfl, rfl, _, rfl, ?_⟩
        show (if inV (.str "word") [.str "word", .str "phrase"] = true then _ else _)
        rw [show inV (.str "word") [.str "word", .str "phrase"] = true by decide +kernel]
        have e2 : Ex H (upd H t2 (.tup [.str "word", .str "phrase"])) := Ex.new nt2
        refine ⟨.ref a, rfl, 1, rfl, a, _, rfl, ex_t e2 hS, tail_part _ _, fun t nt => ?_⟩
        rw [cut_tail]
        have e3 := e2.trans (Ex.new (o := .tup [.str z]) nt)
        refine ⟨t, _, rfl, .inr (SqT.of upd_same), fun l nl => ?_⟩
        refine q l _ (fresh_back e3 nl) (e3.trans (Ex.new nl)) ?_
        rw [upd_same]
        cases b <;> rfl
      · refine ⟨.ref a, rfl, a, _, 0, _, rfl, rfl, hS, atI_nat (j := 0) rfl, ?_⟩
        refine ⟨.str "phrase", rfl, by show 2 ≤ sizeLine; decide, fun t2 nt2 => ?_⟩
        refine ⟨t2, _, rfl, .inr (SqT.of upd_same), rfl, rfl, _, rfl, ?_⟩
        show (if inV (.str "phrase") [.str "word", .str "phrase"] = true then _ else _)
        rw [show inV (.str "phrase") [.str "word", .str "phrase"] = true by decide +kernel]
        have e2 : Ex H (upd H t2 (.tup [.str "word", .str "phrase"])) := Ex.new nt2
        refine ⟨.ref a, rfl, 1, rfl, a, _, rfl, ex_t e2 hS, tail_part _ _, fun t nt => ?_⟩
        rw [cut_tail]
        have e3 := e2.trans (Ex.new (o := .tup (ts.map V.str)) nt)
        refine ⟨t, _, rfl, .inr (SqT.of upd_same), fun l nl => ?_⟩
        refine q l _ (fresh_back e3 nl) (e3.trans (Ex.new nl)) ?_
        rw [upd_same]
        cases b <;> rfl
      · refine ⟨.ref a, rfl, a, _, 0, _, rfl, rfl, hS, atI_nat (j := 0) rfl, ?_⟩
        refine ⟨.str "near", rfl, by show 2 ≤ sizeLine; decide, fun t2 nt2 => ?_⟩
        refine ⟨t2, _, rfl, .inr (SqT.of upd_same), rfl, rfl, _, rfl, ?_⟩
        show (if inV (.str "near") [.str "word", .str "phrase"] = true then _ else _)
        rw [show inV (.str "near") [.str "word", .str "phrase"] = false by decide +kernel]
        have e2 : Ex H (upd H t2 (.tup [.str "word", .str "phrase"])) := Ex.new nt2
        refine ⟨.str "near", rfl, rfl, _, rfl, yes_str ?_⟩
        refine ⟨.ref a, rfl, 2, rfl, a, _, rfl, ex_t e2 hS, ?_, fun t nt => ?_⟩
        · show ¬ (HT.sIx 4 0 (some 2) = 0 ∧ _)
          exact fun h => absurd h.1 (by decide)
        rw [show cutV [V.str "near", .int f, .str z, .str u] (some 2) none = [.str z, .str u] from rfl]
        have e3 := e2.trans (Ex.new (o := .tup [.str z, .str u]) nt)
        refine ⟨t, _, rfl, .inr (SqT.of upd_same), fun l nl => ?_⟩
        refine q l _ (fresh_back e3 nl) (e3.trans (Ex.new nl)) ?_
        rw [upd_same]
        cases b <;> rfl
      · have n1 : inV (.str kd) [.str "word", .str "phrase"] = false := by rcases hk with rfl | rfl <;> decide +kernel
        have n3 : kd ≠ "near" := by rcases hk with rfl | rfl <;> decide +kernel
        have n4 : kd ≠ "but" := by rcases hk with rfl | rfl <;> decide +kernel
        refine ⟨.ref a, rfl, a, _, 0, _, rfl, rfl, hS, atI_nat (j := 0) rfl, ?_⟩
        refine ⟨.str kd, rfl, by show 2 ≤ sizeLine; decide, fun t2 nt2 => ?_⟩
        refine ⟨t2, _, rfl, .inr (SqT.of upd_same), rfl, rfl, _, rfl, ?_⟩
        show (if inV (.str kd) [.str "word", .str "phrase"] = true then _ else _)
        rw [n1]
        have e2 : Ex H (upd H t2 (.tup [.str "word", .str "phrase"])) := Ex.new nt2
        refine ⟨.str kd, rfl, rfl, _, rfl, no_str n3 ?_⟩
        refine ⟨.str kd, rfl, rfl, _, rfl, no_str n4 ?_⟩
        refine ⟨.ref a, rfl, 1, rfl, a, _, rfl, ex_t e2 hS, tail_part _ _, fun t nt => ?_⟩
        rw [cut_tail]
        have e3 := e2.trans (Ex.new (o := .tup vs) nt)
        refine ⟨.ref t, rfl, t, rfl, ⟨vs, SqT.of upd_same⟩, ?_⟩
        have hl := hA.len
        have key : (if b = true then tss.flatten else wss.flatten) = ((if b = true then tss else wss)).flatten := by cases b <;> rfl
        refine lc2_tl (K := K) (xs := vs) (yss := (if b then tss else wss).map (List.map V.str)) (SqT.of upd_same) ?_ ?_ (fun i x ys H' gx gy e4 R r => ?_) (fun _ => rfl) (fun _ _ => rfl) (fun _ _ => rfl) ?_
        · rw [List.length_map]
          cases b
          · exact hl.1.symm
          · exact hl.2.symm
        · rw [← List.map_flatten, List.length_map, ← key]
          omega
        · obtain ⟨wz, tz, g1, g2, hq⟩ := hA.get gx
          have gy' : (if b then tss else wss)[i]? = some (if b then tz else wz) := by cases b <;> assumption
          rw [List.getElem?_map, gy'] at gy
          have ey := Option.some.inj gy
          subst ey
          refine ⟨x, rfl, .bl b, rfl, rfl, rfl, x, b, wz, tz, rfl, hq.ex (e3.trans e4), ?_, r⟩
          have := len_flat gy'
          rw [← key] at this
          omega
        · rw [← List.map_flatten, ← key]
          exact fun p H2 np e4 hp => q p H2 (fresh_back e3 np) (e3.trans e4) hp
      · refine ⟨.ref a, rfl, a, _, 0, _, rfl, rfl, hS, atI_nat (j := 0) rfl, ?_⟩
        refine ⟨.str "but", rfl, by show 2 ≤ sizeLine; decide, fun t2 nt2 => ?_⟩
        refine ⟨t2, _, rfl, .inr (SqT.of upd_same), rfl, rfl, _, rfl, ?_⟩
        show (if inV (.str "but") [.str "word", .str "phrase"] = true then _ else _)
        rw [show inV (.str "but") [.str "word", .str "phrase"] = false by decide +kernel]
        have e2 : Ex H (upd H t2 (.tup [.str "word", .str "phrase"])) := Ex.new nt2
        refine ⟨.str "but", rfl, rfl, _, rfl, no_str (by decide +kernel) ?_⟩
        refine ⟨.str "but", rfl, rfl, _, rfl, yes_str ?_⟩
        refine ⟨.bl b, rfl, b, rfl, ?_⟩
        cases b
        · refine ⟨.ref a, rfl, 1, rfl, a, _, rfl, ex_t e2 hS, tail_part _ _, fun t nt => ?_⟩
          rw [cut_tail]
          have e3 := e2.trans (Ex.new (o := .tup [x, y]) nt)
          refine ⟨.ref t, rfl, t, rfl, ⟨[x, y], SqT.of upd_same⟩, ?_⟩
          have hlen' : wx.length + wy.length ≤ 10000 := by
            have z : (wx ++ wy).length ≤ 10000 := hlen
            rw [List.length_append] at z
            exact z
          refine lc2_tl (K := K) (xs := [x, y]) (yss := [wx.map V.str, wy.map V.str]) (SqT.of upd_same) rfl ?_ (fun i z ys H' gx gy e4 R r => ?_) (fun _ => rfl) (fun _ _ => rfl) (fun _ _ => rfl) ?_
          · simp
            omega
          · match i, gx, gy with
            | 0, gx, gy =>
              cases gx
              cases gy
              exact ⟨_, rfl, .bl false, rfl, rfl, rfl, _, false, wx, ts, rfl, hx.ex (e3.trans e4), (by show wx.length ≤ 10000; omega), r⟩
            | 1, gx, gy =>
              cases gx
              cases gy
              exact ⟨_, rfl, .bl false, rfl, rfl, rfl, _, false, wy, ty, rfl, hy.ex (e3.trans e4), (by show wy.length ≤ 10000; omega), r⟩
            | i + 2, gx, gy => simp at gx
          · refine fun p H2 np e4 hp => q p H2 (fresh_back e3 np) (e3.trans e4) ?_
            rw [hp]
            simp
        · refine ⟨.ref a, rfl, 1, rfl, 2, rfl, a, _, rfl, ex_t e2 hS, ?_, fun t nt => ?_⟩
          · show ¬ (HT.sIx 3 0 (some 1) = 0 ∧ _)
            exact fun h => absurd h.1 (by decide)
          rw [show cutV [V.str "but", x, y] (some 1) (some 2) = [x] from rfl]
          have e3 := e2.trans (Ex.new (o := .tup [x]) nt)
          refine ⟨.ref t, rfl, t, rfl, ⟨[x], SqT.of upd_same⟩, ?_⟩
          have hlen' : ts.length ≤ 10000 := hlen
          refine lc2_tl (K := K) (xs := [x]) (yss := [ts.map V.str]) (SqT.of upd_same) rfl ?_ (fun i z ys H' gx gy e4 R r => ?_) (fun _ => rfl) (fun _ _ => rfl) (fun _ _ => rfl) ?_
          · simp
            omega
          · match i, gx, gy with
            | 0, gx, gy =>
              cases gx
              cases gy
              exact ⟨_, rfl, .bl true, rfl, rfl, rfl, _, true, wx, ts, rfl, hx.ex (e3.trans e4), hlen', r⟩
            | i + 1, gx, gy => simp at gx
          · refine fun p H2 np e4 hp => q p H2 (fresh_back e3 np) (e3.trans e4) ?_
            rw [hp]
            simp

/-! ### is_query, wanted -/
theorem QO.pos {K : PySem.W.Frag} {H : Hp} {d : Nat} {v : V} {ws ts : List Str} (h : QO K H d v ws ts) : 0 < d := by
  cases d with
  | zero => exact h.elim
  | succ d => omega
def spIsQuery (K : PySem.W.Frag) : Sp := fun vs H Q _ => ∃ (v : V) (ws ts : List Str), vs = [v] ∧ QO K H 5 v ws ts ∧ ws.length ≤ 12 ∧ RetV (.bl true) H Q
set_option maxHeartbeats 4000000 in
theorem ok_is_query (T : TX K mg A FD TK) : FnOk P w K mg base CX0 14 (A 16) (FD 16) ["thing"] (spIsQuery K) := by
  have G_is_built : FnOk P w K mg base CX0 13 (A 19) (FD 19) ["thing", "deep"] (spBuilt K 5) := ok_is_built T 5
  have G_words_in : FnOk P w K mg base CX0 13 (A 21) (FD 21) ["query", "only_wanted"] (spWordsIn K 5) := (ok_words_in T 5).mono (by decide)
  obtain ⟨ds, R_words_in, B_words_in⟩ := bd_words_in T
  refine T.f_is_query.ok (k := 13) sc_is_query (fun vs H Q E h => ?_) (fun cdv A' outer s H vs Q E hr h => ?_)
  · obtain ⟨v, ws, ts, rfl, _⟩ := h
    rfl
  · obtain ⟨v, ws, ts, rfl, hq, hl, q⟩ := h
    refine ⟨_, (pss_one (ps_ret (pe_and (pe_call G_is_built hr (by rfl) T.g_is_built T.f_is_built.kp T.b_is_built .nil pass0 (pa_cons (pv 0) (pa_cons (pe_glob (v := .int 5) (by rfl) T.c_MOST_DEEP ⟨_, rfl⟩) pa_nil))) (pe_one (pe_cmpR op_le (pe_callB (lenK (K := K) rfl) (by rfl) T.m_len (by decide +kernel) (pa_cons (pe_call G_words_in hr (by rfl) T.g_words_in T.f_words_in.kp B_words_in R_words_in pass0 (pa_cons (pv 0) pa_nil)) pa_nil)) (pe_glob (v := .int 12) (by rfl) T.c_MOST_ASKED ⟨_, rfl⟩) (nomark _)))))), ?_⟩
    refine ⟨v, rfl, v, ws, ts, rfl, hq, fun H1 e1 => ⟨true, rfl, ?_⟩⟩
    refine ⟨v, rfl, v, false, ws, ts, rfl, hq.ex e1, (by show ws.length ≤ 10000; omega), fun p H2 np e2 hp => ?_⟩
    refine ⟨p, _, rfl, .inl (SqL.of hp), _, 12, rfl, rfl, ?_⟩
    have v := q.go (e1.trans e2)
    show Q (.bl (decide (((List.map V.str ws).length : Int) ≤ 12))) H2
    rw [show decide (((List.map V.str ws).length : Int) ≤ 12) = true by rw [List.length_map]; exact decide_eq_true (by omega)]
    exact v
def spWanted (K : PySem.W.Frag) : Sp := fun vs H Q _ => ∃ (v : V) (ws ts : List Str), vs = [v] ∧ QO K H 5 v ws ts ∧ ws.length ≤ 12 ∧ ts.length ≤ 10000 ∧ RetL (ts.map V.str) H Q
def spCheckQ (K : PySem.W.Frag) : Sp := fun vs H Q _ => ∃ (v : V) (ws ts : List Str), vs = [v] ∧ QO K H 5 v ws ts ∧ ws.length ≤ 12 ∧ RetV .non H Q
set_option maxHeartbeats 4000000 in
theorem ok_check_query (T : TX K mg A FD TK) : FnOk P w K mg base CX0 15 (A 17) (FD 17) ["query"] (spCheckQ K) := by
  have G_is_query := ok_is_query (P := P) (w := w) (base := base) T
  refine T.f_check_query.ok (k := 14) sc_check_query (fun vs H Q E h => ?_) (fun cdv A' outer s H vs Q E hr h => ?_)
  · obtain ⟨v, ws, ts, rfl, _⟩ := h
    rfl
  · obtain ⟨v, ws, ts, rfl, hq, hl, q⟩ := h
    refine ⟨_, (pss_one (ps_if (pt_not (pt_val (pe_call G_is_query hr (by rfl) T.g_is_query T.f_is_query.kp T.b_is_query .nil pass0 (pa_cons (pv 0) pa_nil))))
      (pss_one ps_never)
      pss_nil)), ?_⟩
    exact ⟨v, rfl, v, ws, ts, rfl, hq, hl, fun H1 e1 => ⟨true, rfl, q.go e1⟩⟩
set_option maxHeartbeats 4000000 in
theorem ok_wanted (T : TX K mg A FD TK) : FnOk P w K mg base CX0 16 (A 18) (FD 18) ["query"] (spWanted K) := by
  have G_check_query := ok_check_query (P := P) (w := w) (base := base) T
  have G_words_in : FnOk P w K mg base CX0 15 (A 21) (FD 21) ["query", "only_wanted"] (spWordsIn K 5) := (ok_words_in T 5).mono (by decide)
  have KB_words_in := kb_words_in T
  refine T.f_wanted.ok (k := 15) sc_wanted (fun vs H Q E h => ?_) (fun cdv A' outer s H vs Q E hr h => ?_)
  · obtain ⟨v, ws, ts, rfl, _⟩ := h
    rfl
  · obtain ⟨v, ws, ts, rfl, hq, hl, hl2, q⟩ := h
    refine ⟨_, (pss_cons (ps_expr (pe_call G_check_query hr (by rfl) T.g_check_query T.f_check_query.kp T.b_check_query .nil pass0 (pa_cons (pv 0) pa_nil)))
      (pss_one (ps_ret (pe_callN G_words_in hr (by rfl) T.g_words_in T.f_words_in.kp KB_words_in pass0 (pa_cons (pv 0) pa_nil) (pk_cons pe_bl pk_nil))))), ?_⟩
    refine ⟨v, rfl, v, ws, ts, rfl, hq, hl, fun H1 e1 => ?_⟩
    refine ⟨v, rfl, rfl, rfl, v, true, ws, ts, rfl, hq.ex e1, hl2, fun p H2 np e2 hp => ?_⟩
    exact q.go e1 np e2 hp
/-! ### the law's own many, wanted -/
def spMany (K : PySem.W.Frag) (d : Nat) : Sp := fun vs H Q _ => ∃ (v : V) (ws ts : List Str), vs = [v] ∧ QO K H d v ws ts ∧ RetV (.int (ws.length : Int)) H Q
theorem sum_lens : ∀ wss : List (List Str), (wss.map fun ws => (ws.length : Int)).sum = (wss.flatten.length : Int)
  | [] => rfl
  | ws :: r => by
    rw [List.map_cons, List.sum_cons, sum_lens r, List.flatten_cons, List.length_append]
    omega
set_option maxHeartbeats 8000000 in
theorem ok_l_many (T : TX K mg A FD TK) : ∀ d : Nat, FnOk P w K mg base CX0 (d + 1) (A 27) (FD 27) ["_law_query_here"] (spMany K d)
  | 0 => by
    refine T.f_l_many.ok (k := 0) sc_l_many (fun vs H Q E h => ?_) (fun cdv A' outer s H vs Q E hr h => ?_)
    · obtain ⟨v, ws, ts, _, h, _⟩ := h
      exact h.elim
    · obtain ⟨v, ws, ts, _, h, _⟩ := h
      exact h.elim
  | d + 1 => by
    have G_l_many : FnOk P w K mg base CX0 (d + 1) (A 27) (FD 27) ["_law_query_here"] (spMany K d) := ok_l_many T d
    refine T.f_l_many.ok (k := d + 1) sc_l_many (fun vs H Q E h => ?_) (fun cdv A' outer s H vs Q E hr h => ?_)
    · obtain ⟨v, ws, ts, rfl, _⟩ := h
      rfl
    · obtain ⟨v, ws, ts, rfl, ⟨a, rfl, h⟩, q⟩ := h
      refine ⟨_, (pss_cons (ps_if (pt_cmpR op_eq (pe_ix (ixTK (K := K) rfl) (pv 0) pe_int (fun _ _ => rfl)) pe_str (nomark _))
      (pss_one (ps_ret pe_int))
      pss_nil)
      (pss_cons (ps_if (pt_cmpR op_eq (pe_ix (ixTK (K := K) rfl) (pv 0) pe_int (fun _ _ => rfl)) pe_str (nomark _))
      (pss_one (ps_ret (pe_op op_sub (pe_callB (lenK (K := K) rfl) (by rfl) T.m_len (by decide +kernel) (pa_cons (pv 0) pa_nil)) pe_int)))
      pss_nil)
      (pss_cons (ps_if (pt_cmpR op_eq (pe_ix (ixTK (K := K) rfl) (pv 0) pe_int (fun _ _ => rfl)) pe_str (nomark _))
      (pss_one (ps_ret pe_int))
      pss_nil)
      (pss_one (ps_ret (pe_callB (sumK (K := K) rfl rfl) (by rfl) T.m_sum (by decide +kernel) (pa_cons (pe_lc (own := [("_law_part", 1)])  rfl sc_l_many.nd (piTK (K := K) rfl (pe_slice (slTK (K := K) rfl) (pv 0) (po_some pe_int) po_none)) (blkOk_by (own := [("_law_part", 1)]) (N := N_l_many) (sc := defScope (topS 27)) (by decide +kernel)) (fun _ _ _ _ _ => (pg_name (i := 1) sc_l_many.nd rfl (Or.inl rfl))) (fun _ _ _ _ _ => pts_nil) (fun _ _ _ _ _ => (pe_call G_l_many hr (by rfl) T.g_l_many T.f_l_many.kp T.b_l_many .nil pass0 (pa_cons (pv 1) pa_nil)))) pa_nil))))))), ?_⟩
      rcases h with ⟨z, hS, hw, rfl, rfl⟩ | ⟨hS, l2, l5, hw, rfl⟩ | ⟨f, z, u, hS, f1, f2, hz, hu, rfl, rfl⟩ | h
      · refine ⟨.ref a, rfl, a, _, 0, _, rfl, rfl, hS, atI_nat (j := 0) rfl, rfl, _, rfl, yes_str ?_⟩
        exact ret_v q
      · refine ⟨.ref a, rfl, a, _, 0, _, rfl, rfl, hS, atI_nat (j := 0) rfl, rfl, _, rfl, no_str (by decide +kernel) ?_⟩
        refine ⟨.ref a, rfl, a, _, 0, _, rfl, rfl, hS, atI_nat (j := 0) rfl, rfl, _, rfl, yes_str ?_⟩
        refine ⟨.ref a, rfl, a, _, rfl, .inr hS, _, 1, rfl, rfl, ?_⟩
        have v := ret_v q
        show Q (.int ((((V.str "phrase" :: ts.map V.str).length : Nat) : Int) - 1)) H
        rw [show (((V.str "phrase" :: ts.map V.str).length : Nat) : Int) - 1 = (ts.length : Int) by rw [List.length_cons, List.length_map]; omega]
        exact v
      · refine ⟨.ref a, rfl, a, _, 0, _, rfl, rfl, hS, atI_nat (j := 0) rfl, rfl, _, rfl, no_str (by decide +kernel) ?_⟩
        refine ⟨.ref a, rfl, a, _, 0, _, rfl, rfl, hS, atI_nat (j := 0) rfl, rfl, _, rfl, no_str (by decide +kernel) ?_⟩
        refine ⟨.ref a, rfl, a, _, 0, _, rfl, rfl, hS, atI_nat (j := 0) rfl, rfl, _, rfl, yes_str ?_⟩
        exact ret_v q
      · obtain ⟨kd, xs, wss, tss, hS, hl, n1, n2, n3, hA, hw⟩ : ∃ (kd : Str) (xs : List V) (wss tss : List (List Str)), SqT K H a (.str kd :: xs) ∧ xs.length ≤ 4 ∧ kd ≠ "word" ∧ kd ≠ "phrase" ∧ kd ≠ "near" ∧ All3 (QO K H d) xs wss tss ∧ ws = wss.flatten := by
          rcases h with ⟨kd, vs, wss, tss, hk, hS, l2, l4, hA, rfl, rfl⟩ | ⟨x, y, wx, tx, wy, ty, hS, hx, hy, rfl, rfl⟩
          · refine ⟨kd, vs, wss, tss, hS, l4, ?_, ?_, ?_, hA, rfl⟩ <;> (rcases hk with rfl | rfl <;> decide +kernel)
          · exact ⟨"but", [x, y], [wx, wy], [ts, ty], hS, by simp, by decide +kernel, by decide +kernel, by decide +kernel, .cons hx (.cons hy .nil), by simp⟩
        subst hw
        refine ⟨.ref a, rfl, a, _, 0, _, rfl, rfl, hS, atI_nat (j := 0) rfl, rfl, _, rfl, no_str n1 ?_⟩
        refine ⟨.ref a, rfl, a, _, 0, _, rfl, rfl, hS, atI_nat (j := 0) rfl, rfl, _, rfl, no_str n2 ?_⟩
        refine ⟨.ref a, rfl, a, _, 0, _, rfl, rfl, hS, atI_nat (j := 0) rfl, rfl, _, rfl, no_str n3 ?_⟩
        refine ⟨.ref a, rfl, 1, rfl, a, _, rfl, hS, tail_part _ _, fun t nt => ?_⟩
        rw [cut_tail]
        have e1 : Ex H (upd H t (.tup xs)) := Ex.new nt
        have hT : SqT K (upd H t (.tup xs)) t xs := SqT.of upd_same
        refine ⟨t, rfl, ⟨_, hT⟩, fun D hD => ?_⟩
        refine lc_tup (xs := xs) (fun i H' => Ex (upd H t (.tup xs)) H' ∧ H' D = some (.lst ((wss.take i).map fun ws => .int (ws.length : Int)))) ⟨Ex.new hD, upd_same⟩ (fun i H' _ p => ex_t p.1 hT) (fun i x H1 hx p => ?_) (fun H1 p => ?_)
        · obtain ⟨p1, p2⟩ := p
          obtain ⟨b, c, gb, _, hq⟩ := hA.get hx
          have hi : i < xs.length := (List.getElem?_eq_some_iff.mp hx).1
          refine ⟨rfl, x, rfl, x, b, c, rfl, hq.ex (e1.trans p1), fun H2 e2 => ?_⟩
          refine ⟨_, e2 _ _ p2, ?_, Ex.mut (p1.trans e2) hD, ?_⟩
          · rw [List.length_map, List.length_take]
            exact sz_lt (by omega)
          · rw [upd_same, List.take_add_one, gb, List.map_append]
            rfl
        · obtain ⟨p1, p2⟩ := p
          refine ⟨D, wss.map fun ws => (ws.length : Int), rfl, SqL.of ?_, ?_⟩
          · rw [p2, ← hA.len.1, List.take_length, List.map_map]
            rfl
          · have v := q.go (e1.trans p1)
            rw [sum_lens]
            exact v

/-! ### the law's own wanted -/
def spLWanted (K : PySem.W.Frag) (d : Nat) : Sp := fun vs H Q _ => ∃ (v : V) (ws ts : List Str), vs = [v] ∧ QO K H d v ws ts ∧ ts.length ≤ 10000 ∧ RetL (ts.map V.str) H Q
/-- t[3:] of a tuple of at most three -/
theorem cut3 (k : V) (xs : List V) (h : xs.length ≤ 4) (h2 : 2 ≤ xs.length) : cutV (k :: xs) (some 3) none = xs.drop 2 := by
  unfold cutV
  rw [show HT.sIx (k :: xs).length 0 (some 3) = min 3 (k :: xs).length from HT.sIx_nat _ 0 3, HT.sIx_none, List.length_cons]
  rw [show min 3 (xs.length + 1) = 3 by omega]
  show List.take (xs.length + 1 - 3) (xs.drop 2) = xs.drop 2
  exact List.take_of_length_le (by rw [List.length_drop]; omega)
theorem cut13 (k : V) (xs : List V) (h2 : 2 ≤ xs.length) : cutV (k :: xs) (some 1) (some 3) = xs.take 2 := by
  unfold cutV
  rw [show HT.sIx (k :: xs).length 0 (some 1) = min 1 (k :: xs).length from HT.sIx_nat _ 0 1, show HT.sIx (k :: xs).length (k :: xs).length (some 3) = min 3 (k :: xs).length from HT.sIx_nat _ _ 3, List.length_cons]
  rw [show min 1 (xs.length + 1) = 1 by omega, show min 3 (xs.length + 1) = 3 by omega]
  rfl
theorem not_whole (n d lo : Nat) (h : 0 < lo) (o : Option Int) : ¬ (HT.sIx (n + 1) 0 (some (lo : Int)) = 0 ∧ HT.sIx (n + 1) d o = d) := fun z => by
  have h1 := z.1
  rw [HT.sIx_nat] at h1
  omega
set_option maxHeartbeats 8000000 in
theorem ok_l_wanted (T : TX K mg A FD TK) : ∀ d : Nat, FnOk P w K mg base CX0 (d + 1) (A 28) (FD 28) ["_law_query_here"] (spLWanted K d)
  | 0 => by
    refine T.f_l_wanted.ok (k := 0) sc_l_wanted (fun vs H Q E h => ?_) (fun cdv A' outer s H vs Q E hr h => ?_)
    · obtain ⟨v, ws, ts, _, h, _⟩ := h
      exact h.elim
    · obtain ⟨v, ws, ts, _, h, _⟩ := h
      exact h.elim
  | d + 1 => by
    have G_l_wanted : FnOk P w K mg base CX0 (d + 1) (A 28) (FD 28) ["_law_query_here"] (spLWanted K d) := ok_l_wanted T d
    refine T.f_l_wanted.ok (k := d + 1) sc_l_wanted (fun vs H Q E h => ?_) (fun cdv A' outer s H vs Q E hr h => ?_)
    · obtain ⟨v, ws, ts, rfl, _⟩ := h
      rfl
    · obtain ⟨v, ws, ts, rfl, ⟨a, rfl, h⟩, hlen, q⟩ := h
      refine ⟨_, (pss_cons (ps_if (pt_cmpR (inK (K := K) rfl) (pe_ix (ixTK (K := K) rfl) (pv 0) pe_int (fun _ _ => rfl)) (pe_tup (pa_cons pe_str (pa_cons pe_str pa_nil))) (by rfl))
      (pss_one (ps_ret (pe_callTy (listK (K := K) rfl) (by rfl) T.m_list (by decide +kernel) (pa_cons (pe_slice (slTK (K := K) rfl) (pv 0) (po_some pe_int) po_none) pa_nil))))
      pss_nil)
      (pss_cons (ps_if (pt_cmpR op_eq (pe_ix (ixTK (K := K) rfl) (pv 0) pe_int (fun _ _ => rfl)) pe_str (nomark _))
      (pss_one (ps_ret (pe_callTy (listK (K := K) rfl) (by rfl) T.m_list (by decide +kernel) (pa_cons (pe_slice (slTK (K := K) rfl) (pv 0) (po_some pe_int) po_none) pa_nil))))
      pss_nil)
      (pss_cons (ps_set (i := 1) sc_l_wanted.nd rfl (.inl rfl) (pe_lst pa_nil))
      (pss_cons (ps_for PassesOwn.never rfl (piTK (K := K) rfl (pe_op (catTK (K := K) rfl) (pe_slice (slTK (K := K) rfl) (pv 0) (po_some pe_int) (po_some (pe_op op_sub pe_int (pe_callTy call_int1 (by rfl) T.m_int (by decide +kernel) (pa_cons (pe_cmpR op_eq (pe_ix (ixTK (K := K) rfl) (pv 0) pe_int (fun _ _ => rfl)) pe_str (nomark _)) pa_nil))))) (pe_slice (slTK (K := K) rfl) (pv 0) (po_some pe_int) po_none))) (pg_name (i := 2) sc_l_wanted.nd rfl (.inl rfl))
      (pss_one (ps_set (i := 1) sc_l_wanted.nd rfl (.inl rfl) (pe_op op_cat (pv 1) (pe_call G_l_wanted hr (by rfl) T.g_l_wanted T.f_l_wanted.kp T.b_l_wanted .nil pass0 (pa_cons (pv 2) pa_nil))))))
      (pss_one (ps_ret (pv 1))))))), ?_⟩
      -- the loop over the parts, told once
      have loop : ∀ (H0 : Hp) (u l : Addr) (xs : List V) (wss tss : List (List Str)), Ex H H0 → H l = none → H0 l = some (.lst []) → SqT K H0 u xs → xs.length ≤ 4 → All3 (QO K H d) xs wss tss → ts = tss.flatten →
          tFor (fun _ H R => R (Itt K u) H) (gName 2) (tAsg (tOp rCat (tVar 1) (tCall (spLWanted K d) [] E0 (tCons (tVar 2) tNil))) (gName 1)) { nx := tRet (tVar 1) { nx := fun _ H' => Q .non H', rt := Q }, rt := Q } [some (.ref a), some (.ref l), none] H0 := by
        intro H0 u l xs wss tss e0 nl hl0 hu hl hA et
        refine for_tup (K := K) (a := u) (xs := xs) (fun i σ' H' => ∃ (l : Addr) (y : Option V), σ' = [some (.ref a), some (.ref l), y] ∧ Ex H H' ∧ SqT K H' u xs ∧ H l = none ∧ H' l = some (.lst ((tss.take i).flatten.map V.str))) ⟨l, none, rfl, e0, hu, nl, hl0⟩ (fun i σ' H' _ p => ?_) (fun i x σ' H' hx p => ?_) (fun σ' H' p => ?_)
        · obtain ⟨l, y, _, _, e2, _⟩ := p
          exact e2
        · obtain ⟨l, y, rfl, e2, hu2, nl, hl2⟩ := p
          obtain ⟨wz, tz, _, gt, hq⟩ := hA.get hx
          have s1 := take_flat_len tss (i + 1)
          rw [take_flat gt, List.length_append, ← et] at s1
          refine ⟨.ref l, rfl, x, rfl, x, wz, tz, rfl, hq.ex e2, by omega, fun p H2 np e3 hp => ?_⟩
          have nlp : l ≠ p := ne_of_none hl2 np
          refine ⟨l, p, _, _, rfl, rfl, e3 _ _ hl2, hp, ?_, fun r nr => ?_⟩
          · rw [List.length_map, List.length_map]
            exact sz (by omega)
          · refine ⟨r, some x, rfl, (e2.trans e3).trans (Ex.new nr), ex_t (e3.trans (Ex.new nr)) hu2, fresh_back (e2.trans e3) nr, ?_⟩
            rw [upd_same, take_flat gt, List.map_append]
        · obtain ⟨l, y, rfl, e2, hu2, nl, hl2⟩ := p
          refine ⟨.ref l, rfl, ?_⟩
          refine q l H' nl e2 ?_
          rw [hl2, ← hA.len.2, List.take_length, et]
      rcases h with ⟨z, hS, hw, rfl, rfl⟩ | ⟨hS, l2, l5, hw, rfl⟩ | ⟨f, z, u, hS, f1, f2, hz, hu, rfl, rfl⟩ | ⟨kd, vs, wss, tss, hk, hS, l2, l4, hA, rfl, et⟩ | ⟨x, y, wx, tx, wy, ty, hS, hx, hy, rfl, rfl⟩
      · refine ⟨.ref a, rfl, a, _, 0, _, rfl, rfl, hS, atI_nat (j := 0) rfl, by show 2 ≤ sizeLine; decide, fun t2 nt2 => ?_⟩
        refine ⟨t2, _, rfl, .inr (SqT.of upd_same), rfl, rfl, _, rfl, ?_⟩
        show (if inV (.str "word") [.str "word", .str "phrase"] = true then _ else _)
        rw [show inV (.str "word") [.str "word", .str "phrase"] = true by decide +kernel]
        have e2 : Ex H (upd H t2 (.tup [.str "word", .str "phrase"])) := Ex.new nt2
        refine ⟨.ref a, rfl, 1, rfl, a, _, rfl, ex_t e2 hS, tail_part _ _, fun t nt => ?_⟩
        rw [cut_tail]
        have e3 := e2.trans (Ex.new (o := .tup [.str z]) nt)
        refine ⟨t, _, rfl, .inr (SqT.of upd_same), fun l nl => ?_⟩
        exact q l _ (fresh_back e3 nl) (e3.trans (Ex.new nl)) upd_same
      · refine ⟨.ref a, rfl, a, _, 0, _, rfl, rfl, hS, atI_nat (j := 0) rfl, by show 2 ≤ sizeLine; decide, fun t2 nt2 => ?_⟩
        refine ⟨t2, _, rfl, .inr (SqT.of upd_same), rfl, rfl, _, rfl, ?_⟩
        show (if inV (.str "phrase") [.str "word", .str "phrase"] = true then _ else _)
        rw [show inV (.str "phrase") [.str "word", .str "phrase"] = true by decide +kernel]
        have e2 : Ex H (upd H t2 (.tup [.str "word", .str "phrase"])) := Ex.new nt2
        refine ⟨.ref a, rfl, 1, rfl, a, _, rfl, ex_t e2 hS, tail_part _ _, fun t nt => ?_⟩
        rw [cut_tail]
        have e3 := e2.trans (Ex.new (o := .tup (ts.map V.str)) nt)
        refine ⟨t, _, rfl, .inr (SqT.of upd_same), fun l nl => ?_⟩
        exact q l _ (fresh_back e3 nl) (e3.trans (Ex.new nl)) upd_same
      · refine ⟨.ref a, rfl, a, _, 0, _, rfl, rfl, hS, atI_nat (j := 0) rfl, by show 2 ≤ sizeLine; decide, fun t2 nt2 => ?_⟩
        refine ⟨t2, _, rfl, .inr (SqT.of upd_same), rfl, rfl, _, rfl, ?_⟩
        show (if inV (.str "near") [.str "word", .str "phrase"] = true then _ else _)
        rw [show inV (.str "near") [.str "word", .str "phrase"] = false by decide +kernel]
        have e2 : Ex H (upd H t2 (.tup [.str "word", .str "phrase"])) := Ex.new nt2
        refine ⟨.ref a, rfl, a, _, 0, _, rfl, rfl, ex_t e2 hS, atI_nat (j := 0) rfl, rfl, _, rfl, yes_str ?_⟩
        refine ⟨.ref a, rfl, 2, rfl, a, _, rfl, ex_t e2 hS, not_whole _ _ 2 (by decide) _, fun t nt => ?_⟩
        rw [show cutV [V.str "near", .int f, .str z, .str u] (some 2) none = [.str z, .str u] from rfl]
        have e3 := e2.trans (Ex.new (o := .tup [.str z, .str u]) nt)
        refine ⟨t, _, rfl, .inr (SqT.of upd_same), fun l nl => ?_⟩
        exact q l _ (fresh_back e3 nl) (e3.trans (Ex.new nl)) upd_same
      · have n1 : inV (.str kd) [.str "word", .str "phrase"] = false := by rcases hk with rfl | rfl <;> decide +kernel
        have n3 : kd ≠ "near" := by rcases hk with rfl | rfl <;> decide +kernel
        have n4 : kd ≠ "but" := by rcases hk with rfl | rfl <;> decide +kernel
        refine ⟨.ref a, rfl, a, _, 0, _, rfl, rfl, hS, atI_nat (j := 0) rfl, by show 2 ≤ sizeLine; decide, fun t2 nt2 => ?_⟩
        refine ⟨t2, _, rfl, .inr (SqT.of upd_same), rfl, rfl, _, rfl, ?_⟩
        show (if inV (.str kd) [.str "word", .str "phrase"] = true then _ else _)
        rw [n1]
        have e2 : Ex H (upd H t2 (.tup [.str "word", .str "phrase"])) := Ex.new nt2
        refine ⟨.ref a, rfl, a, _, 0, _, rfl, rfl, ex_t e2 hS, atI_nat (j := 0) rfl, rfl, _, rfl, no_str n3 ?_⟩
        refine ⟨Nat.zero_le _, fun l nl => ?_⟩
        have e3 := e2.trans (Ex.new (o := .lst []) nl)
        have hb : decide (V.str kd = V.str "but") = false := decide_eq_false fun z => n4 (V.str.inj z)
        refine ⟨.ref a, rfl, 1, rfl, .ref a, rfl, a, _, 0, _, rfl, rfl, ex_t e3 hS, atI_nat (j := 0) rfl, rfl, .inr ⟨false, congrArg (fun b => [V.bl b]) hb, 3, 0, rfl, rfl, 3, rfl, a, _, rfl, ex_t e3 hS, not_whole _ _ 1 (by decide) _, fun p np => ?_⟩⟩
        have e4 := e3.trans (Ex.new (o := .tup (cutV (.str kd :: vs) (some 1) (some 3))) np)
        refine ⟨.ref a, rfl, 3, rfl, a, _, rfl, ex_t e4 hS, not_whole _ _ 3 (by decide) _, fun p2 np2 => ?_⟩
        have e5 := e4.trans (Ex.new (o := .tup (cutV (.str kd :: vs) (some 3) none)) np2)
        rw [cut3 _ _ l4 l2] at e5 ⊢
        rw [cut13 _ _ l2] at e4 e5 np2 ⊢
        refine ⟨p, p2, vs.take 2, vs.drop 2, rfl, rfl, SqT.of ?_, SqT.of upd_same, ?_, ?_, fun hn => ?_, fun hn r nr => ?_⟩
        · rw [upd_ne (ne_of_none upd_same np2), upd_same]
        · intro z
          have := congrArg List.length z
          rw [List.length_take, List.length_nil] at this
          omega
        · rw [List.length_take, List.length_drop]
          exact sz (by omega)
        · have ev : vs.take 2 = vs := by
            have := List.take_append_drop 2 vs
            rw [hn, List.append_nil] at this
            exact this
          have hp : (upd (upd (upd (upd H t2 (.tup [.str "word", .str "phrase"])) l (.lst [])) p (.tup (vs.take 2))) p2 (.tup (vs.drop 2))) p = some (.tup vs) := by
            rw [upd_ne (ne_of_none upd_same np2), upd_same, ev]
          refine ⟨p, rfl, ⟨_, SqT.of hp⟩, loop _ p l vs wss tss e5 (fresh_back e2 nl) ?_ (SqT.of hp) l4 hA et⟩
          have np' := np
          rw [upd_ne (ne_of_none (show (upd (upd (upd H t2 (.tup [.str "word", .str "phrase"])) l (.lst [])) p (.tup (vs.take 2))) l = some (.lst []) by rw [upd_ne (ne_of_none upd_same np), upd_same]) np2), upd_ne (ne_of_none upd_same np), upd_same]
        · have e6 := e5.trans (Ex.new (o := .tup (vs.take 2 ++ vs.drop 2)) nr)
          rw [List.take_append_drop] at e6 ⊢
          refine ⟨r, rfl, ⟨_, SqT.of upd_same⟩, loop _ r l vs wss tss e6 (fresh_back e2 nl) ?_ (SqT.of upd_same) l4 hA et⟩
          have hl1 : (upd (upd (upd H t2 (.tup [.str "word", .str "phrase"])) l (.lst [])) p (.tup (vs.take 2))) l = some (.lst []) := by rw [upd_ne (ne_of_none upd_same np), upd_same]
          have hl2 : (upd (upd (upd (upd H t2 (.tup [.str "word", .str "phrase"])) l (.lst [])) p (.tup (vs.take 2))) p2 (.tup (vs.drop 2))) l = some (.lst []) := by rw [upd_ne (ne_of_none hl1 np2), hl1]
          rw [upd_ne (ne_of_none hl2 nr), hl2]
      · refine ⟨.ref a, rfl, a, _, 0, _, rfl, rfl, hS, atI_nat (j := 0) rfl, by show 2 ≤ sizeLine; decide, fun t2 nt2 => ?_⟩
        refine ⟨t2, _, rfl, .inr (SqT.of upd_same), rfl, rfl, _, rfl, ?_⟩
        show (if inV (.str "but") [.str "word", .str "phrase"] = true then _ else _)
        rw [show inV (.str "but") [.str "word", .str "phrase"] = false by decide +kernel]
        have e2 : Ex H (upd H t2 (.tup [.str "word", .str "phrase"])) := Ex.new nt2
        refine ⟨.ref a, rfl, a, _, 0, _, rfl, rfl, ex_t e2 hS, atI_nat (j := 0) rfl, rfl, _, rfl, no_str (by decide +kernel) ?_⟩
        refine ⟨Nat.zero_le _, fun l nl => ?_⟩
        have e3 := e2.trans (Ex.new (o := .lst []) nl)
        have hb : decide (V.str "but" = V.str "but") = true := decide_eq_true rfl
        refine ⟨.ref a, rfl, 1, rfl, .ref a, rfl, a, _, 0, _, rfl, rfl, ex_t e3 hS, atI_nat (j := 0) rfl, rfl, .inr ⟨true, congrArg (fun b => [V.bl b]) hb, 3, 1, rfl, rfl, 2, rfl, a, _, rfl, ex_t e3 hS, not_whole _ _ 1 (by decide) _, fun p np => ?_⟩⟩
        rw [show cutV [V.str "but", x, y] (some 1) (some 2) = [x] from rfl]
        have e4 := e3.trans (Ex.new (o := .tup [x]) np)
        refine ⟨.ref a, rfl, 3, rfl, a, _, rfl, ex_t e4 hS, not_whole _ _ 3 (by decide) _, fun p2 np2 => ?_⟩
        rw [show cutV [V.str "but", x, y] (some 3) none = [] from rfl]
        have e5 := e4.trans (Ex.new (o := .tup []) np2)
        have hl1 : (upd (upd (upd H t2 (.tup [.str "word", .str "phrase"])) l (.lst [])) p (.tup [x])) l = some (.lst []) := by rw [upd_ne (ne_of_none upd_same np), upd_same]
        have hp : (upd (upd (upd (upd H t2 (.tup [.str "word", .str "phrase"])) l (.lst [])) p (.tup [x])) p2 (.tup [])) p = some (.tup [x]) := by
          rw [upd_ne (ne_of_none upd_same np2), upd_same]
        refine ⟨p, p2, [x], [], rfl, rfl, SqT.of hp, SqT.of upd_same, by simp, sz (by simp), fun _ => ?_, fun hn => absurd rfl hn⟩
        refine ⟨p, rfl, ⟨_, SqT.of hp⟩, loop _ p l [x] [wx] [ts] e5 (fresh_back e2 nl) ?_ (SqT.of hp) (by simp) (.cons hx .nil) (by simp)⟩
        rw [upd_ne (ne_of_none hl1 np2), hl1]

/-! ### _law_kinds -/
def nine : List Str := ["a", "b", "ab", "ba", "aa", "bab", "abcdefghijkl", "z", "aab"]
theorem nineW : (nine ++ nine).all isW = true := by decide +kernel
theorem nine_cut (j k : Nat) (hj : j < 9) (hk : k < 5) : ∃ zs : List Str, cutV (nine.map V.str ++ nine.map V.str) (some (j : Int)) (some ((j : Int) + 1 + (k : Int))) = zs.map V.str ∧ 1 ≤ zs.length ∧ zs.length ≤ 5 ∧ zs.all isW = true := by
  refine ⟨((nine ++ nine).drop j).take (1 + k), ?_, ?_, ?_, ?_⟩
  · unfold cutV
    rw [show ((j : Int) + 1 + (k : Int)) = ((j + 1 + k : Nat) : Int) by omega, HT.sIx_nat, HT.sIx_nat, ← List.map_append, List.length_map]
    rw [show (nine ++ nine).length = 18 from rfl, show min j 18 = j by omega, show min (j + 1 + k) 18 - j = 1 + k by omega, List.map_take, List.map_drop]
  · rw [List.length_take, List.length_drop, show (nine ++ nine).length = 18 from rfl]
    omega
  · rw [List.length_take, List.length_drop, show (nine ++ nine).length = 18 from rfl]
    omega
  · rw [List.all_eq_true]
    intro x hx
    exact List.all_eq_true.mp nineW x (List.mem_of_mem_drop (List.mem_of_mem_take hx))
/-- a list of one to five words at a -/
def Kn (H : Hp) (a : Addr) (zs : List Str) : Prop := H a = some (.lst (zs.map V.str)) ∧ 1 ≤ zs.length ∧ zs.length ≤ 5 ∧ zs.all isW = true
theorem Kn.ne {H : Hp} {a p : Addr} {zs : List Str} {c : Nat} (h : Kn H a zs) (hp : Pl H p c) : a ≠ p := by
  obtain ⟨g, b, k, h1, _⟩ := hp
  obtain ⟨h2, h3, _⟩ := h
  refine ne_of h2 h1 fun z => ?_
  cases zs with
  | nil => simp at h3
  | cons x r =>
    injection z with z
    rw [List.map_cons] at z
    injection z with z _
    cases z
theorem Kn.fx {H H' : Hp} {a p : Addr} {zs : List Str} {c : Nat} (h : Kn H a zs) (hp : Pl H p c) (f : Fx p H H') : Kn H' a zs := ⟨f a _ (h.ne hp) h.1, h.2⟩
theorem Kn.ex {H H' : Hp} {a : Addr} {zs : List Str} (h : Kn H a zs) (e : Ex H H') : Kn H' a zs := ⟨e _ _ h.1, h.2⟩
def spKinds : Sp := fun vs H Q _ => ∃ (p : Addr) (c : Nat), vs = [.ref p] ∧ Pl H p c ∧ c < 900000 ∧ ∀ (l : Addr) (zs : List Str) (H' : Hp), H l = none → Kn H' l zs → Pl H' p (c + 2) → Fx p H H' → Q (.ref l) H'
set_option maxHeartbeats 8000000 in
theorem ok_l_kinds (T : TX K mg A FD TK) : FnOk P w K mg base CX0 2 (A 25) (FD 25) ["_law_pool_here"] spKinds := by
  have G_l_take := ok_l_take (P := P) (w := w) (base := base) T
  refine T.f_l_kinds.ok (k := 1) sc_l_kinds (fun vs H Q E h => ?_) (fun cdv A' outer s H vs Q E hr h => ?_)
  · obtain ⟨p, c, rfl, _⟩ := h
    rfl
  · obtain ⟨p, c, rfl, hp, hc, q⟩ := h
    refine ⟨_, (pss_cons (ps_set (i := 1) sc_l_kinds.nd rfl (.inl rfl) (pe_lst (pa_cons pe_str (pa_cons pe_str (pa_cons pe_str (pa_cons pe_str (pa_cons pe_str (pa_cons pe_str (pa_cons pe_str (pa_cons pe_str (pa_cons pe_str pa_nil)))))))))))
      (pss_cons (ps_set (i := 2) sc_l_kinds.nd rfl (.inl rfl) (pe_call G_l_take hr (by rfl) T.g_l_take T.f_l_take.kp T.b_l_take .nil pass0 (pa_cons (pv 0) (pa_cons pe_int pa_nil))))
      (pss_one (ps_ret (pe_slice (slLK (K := K) rfl) (pe_op op_cat (pv 1) (pv 1)) (po_some (pv 2)) (po_some (pe_op op_add (pe_op op_add (pv 2) pe_int) (pe_call G_l_take hr (by rfl) T.g_l_take T.f_l_take.kp T.b_l_take .nil pass0 (pa_cons (pv 0) (pa_cons pe_int pa_nil)))))))))), ?_⟩
    refine ⟨by show 9 ≤ sizeLine; decide, fun s0 n0 => ?_⟩
    have e1 : Ex H (upd H s0 (.lst (nine.map V.str))) := Ex.new n0
    have hs1 : (upd H s0 (.lst (nine.map V.str))) s0 = some (.lst (nine.map V.str)) := upd_same
    have nsp : s0 ≠ p := by
      obtain ⟨xs, hx⟩ := hp.some
      exact (ne_of_none hx n0).symm
    refine ⟨.ref p, rfl, p, 9, c, rfl, hp.ex e1, by decide, by decide, by omega, fun d H2 d0 d1 hp2 f2 => ?_⟩
    have hs2 : H2 s0 = some (.lst (nine.map V.str)) := f2 _ _ nsp hs1
    refine ⟨.ref s0, rfl, .ref s0, rfl, s0, s0, _, _, rfl, rfl, hs2, hs2, by show 18 ≤ sizeLine; decide, fun r nr => ?_⟩
    have e3 : Ex H2 (upd H2 r (.lst (nine.map V.str ++ nine.map V.str))) := Ex.new nr
    have hr3 : (upd H2 r (.lst (nine.map V.str ++ nine.map V.str))) r = some (.lst (nine.map V.str ++ nine.map V.str)) := upd_same
    have nrp : r ≠ p := by
      obtain ⟨xs, hx⟩ := hp2.some
      exact (ne_of_none hx nr).symm
    refine ⟨.int d, rfl, d, rfl, .int d, rfl, d, 1, rfl, rfl, .ref p, rfl, p, 5, c + 1, rfl, hp2.ex e3, by decide, by decide, by omega, fun k H4 k0 k1 hp4 f4 => ?_⟩
    refine ⟨d + 1, k, rfl, rfl, d + 1 + k, rfl, r, _, rfl, SqL.of (f4 _ _ nrp hr3), fun l nl => ?_⟩
    obtain ⟨j, rfl⟩ := Int.eq_ofNat_of_zero_le d0
    obtain ⟨i, rfl⟩ := Int.eq_ofNat_of_zero_le k0
    obtain ⟨zs, ez, l1, l5, hw⟩ := nine_cut j i (by omega) (by omega)
    have fr : Fx p H H4 := ((Fx.ex e1).trans f2).trans ((Fx.ex e3).trans f4)
    refine q l zs _ (fx_free fr hp4 nl) ⟨?_, l1, l5, hw⟩ (hp4.ex (Ex.new nl)) (fr.trans (Fx.ex (Ex.new nl)))
    rw [upd_same, ez]

/-! ### _law_query -/
def cost : Nat → Nat
  | 0 => 0
  | d + 1 => 9 + 4 * cost d
theorem all3_tlen {R : V → List Str → List Str → Prop} (f : ∀ v w t, R v w t → t.length ≤ w.length) : ∀ {vs : List V} {ws ts : List (List Str)}, All3 R vs ws ts → ts.flatten.length ≤ ws.flatten.length
  | _, _, _, .nil => Nat.le_refl _
  | _, _, _, .cons h t => by
    rw [List.flatten_cons, List.flatten_cons, List.length_append, List.length_append]
    have := f _ _ _ h
    have := all3_tlen f t
    omega
theorem QO.tlen {K : PySem.W.Frag} {H : Hp} : ∀ {d : Nat} {v : V} {ws ts : List Str}, QO K H d v ws ts → ts.length ≤ ws.length
  | 0, _, _, _, h => h.elim
  | d + 1, v, ws, ts, h => by
    obtain ⟨a, rfl, h⟩ := h
    rcases h with ⟨w, h1, h2, rfl, rfl⟩ | ⟨h1, h2, h3, h4, rfl⟩ | ⟨f, w, u, h1, h2, h3, h4, h5, rfl, rfl⟩ | ⟨k, vs, wss, tss, hk, h1, h2, h3, h4, rfl, rfl⟩ | ⟨x, y, wx, tx, wy, ty, h1, h2, h3, rfl, rfl⟩
    · exact Nat.le_refl _
    · exact Nat.le_refl _
    · exact Nat.le_refl _
    · exact all3_tlen (fun _ _ _ z => QO.tlen z) h4
    · rw [List.length_append]
      have := QO.tlen h2
      omega
theorem sqt_upd {K : PySem.W.Frag} {H : Hp} {a l : Addr} {xs ys zs : List V} (h : SqT K H a xs) (hl : H l = some (.lst ys)) : SqT K (upd H l (.lst zs)) a xs := by
  rcases h with (h | ⟨o, h⟩) | h
  · exact .inl (.inl (by rw [upd_ne (ne_of h hl (by intro z; cases z))]; exact h))
  · exact .inl (.inr ⟨o, by rw [upd_ne (ne_of h hl (by intro z; cases z))]; exact h⟩)
  · exact .inr h
def spQuery (K : PySem.W.Frag) (d : Nat) : Sp := fun vs H Q _ => ∃ (p kk : Addr) (zs : List Str) (m : Int) (c : Nat), vs = [.ref p, .ref kk, .int (d : Int), .int m] ∧ 0 < d ∧ d ≤ 5 ∧ Pl H p c ∧ Kn H kk zs ∧ 1 ≤ m ∧ m ≤ 12 ∧ c + cost d < 900000 ∧
  ∀ (v : V) (ws ts : List Str) (H' : Hp), QO K H' d v ws ts → 1 ≤ ws.length → (ws.length : Int) ≤ m → Pl H' p (c + cost d) → Fx p H H' → Q v H'
theorem five_at (d : Int) (h0 : 0 ≤ d) (h5 : d < 5) : ∃ (mm : Int) (kd : Str), atI [V.int 2, .int 2, .int 3, .int 4, .int 2] d = some (.int mm) ∧ atI [V.str "and", .str "or", .str "and", .str "or", .str "but"] d = some (.str kd) ∧
    2 ≤ mm ∧ mm ≤ 4 ∧ (d = 4 → mm = 2) ∧ (kd = "and" ∨ kd = "or" ∨ (kd = "but" ∧ mm = 2)) := by
  have h : d = 0 ∨ d = 1 ∨ d = 2 ∨ d = 3 ∨ d = 4 := by omega
  rcases h with rfl | rfl | rfl | rfl | rfl
  · exact ⟨2, "and", atI_nat (j := 0) rfl, atI_nat (j := 0) rfl, by decide, by decide, by decide, .inl rfl⟩
  · exact ⟨2, "or", atI_nat (j := 1) rfl, atI_nat (j := 1) rfl, by decide, by decide, by decide, .inr (.inl rfl)⟩
  · exact ⟨3, "and", atI_nat (j := 2) rfl, atI_nat (j := 2) rfl, by decide, by decide, by decide, .inl rfl⟩
  · exact ⟨4, "or", atI_nat (j := 3) rfl, atI_nat (j := 3) rfl, by decide, by decide, by decide, .inr (.inl rfl)⟩
  · exact ⟨2, "but", atI_nat (j := 4) rfl, atI_nat (j := 4) rfl, by decide, by decide, by decide, .inr (.inr ⟨rfl, rfl⟩)⟩
theorem two_at (d : Int) (h0 : 0 ≤ d) (h2 : d < 2) : ∃ mm : Int, atI [V.int 3, .int 20] d = some (.int mm) ∧ 3 ≤ mm ∧ mm ≤ 20 := by
  have h : d = 0 ∨ d = 1 := by omega
  rcases h with rfl | rfl
  · exact ⟨3, atI_nat (j := 0) rfl, by decide, by decide⟩
  · exact ⟨20, atI_nat (j := 1) rfl, by decide, by decide⟩
theorem all_at {zs : List Str} (h : zs.all isW = true) {i : Nat} (hi : i < zs.length) : ∃ z, (zs.map V.str)[i]? = some (.str z) ∧ isW z = true :=
  ⟨zs[i], by rw [List.getElem?_map, List.getElem?_eq_getElem hi]; rfl, List.all_eq_true.mp h _ (List.getElem_mem _)⟩
set_option maxHeartbeats 16000000 in
theorem ok_l_query (T : TX K mg A FD TK) : ∀ d : Nat, FnOk P w K mg base CX0 (d + 2) (A 26) (FD 26) ["_law_pool_here", "_law_kinds_here", "_law_deep", "_law_most"] (spQuery K d)
  | 0 => by
    refine T.f_l_query.ok (k := 1) sc_l_query (fun vs H Q E h => ?_) (fun cdv A' outer s H vs Q E hr h => ?_)
    · obtain ⟨p, kk, zs, m, c, _, h, _⟩ := h
      exact absurd h (Nat.lt_irrefl 0)
    · obtain ⟨p, kk, zs, m, c, _, h, _⟩ := h
      exact absurd h (Nat.lt_irrefl 0)
  | d + 1 => by
    have G_l_query : FnOk P w K mg base CX0 (d + 2) (A 26) (FD 26) ["_law_pool_here", "_law_kinds_here", "_law_deep", "_law_most"] (spQuery K d) := ok_l_query T d
    have G_l_take := (ok_l_take (P := P) (w := w) (base := base) T).mono (show 1 ≤ d + 2 by omega)
    have G_l_many := (ok_l_many (P := P) (w := w) (base := base) T d).mono (show d + 1 ≤ d + 2 by omega)
    refine T.f_l_query.ok (k := d + 2) sc_l_query (fun vs H Q E h => ?_) (fun cdv A' outer s H vs Q E hr h => ?_)
    · obtain ⟨p, kk, zs, m, c, rfl, _⟩ := h
      rfl
    · obtain ⟨p, kk, zs, m, c, rfl, _, d5, hp, hk, m1, m12, hc, q⟩ := h
      have hcost : cost (d + 1) = 9 + 4 * cost d := rfl
      rw [hcost] at hc q
      refine ⟨_, (pss_cons (ps_set (i := 4) sc_l_query.nd rfl (.inl rfl) (pe_call G_l_take hr (by rfl) T.g_l_take T.f_l_take.kp T.b_l_take .nil pass0 (pa_cons (pv 0) (pa_cons pe_int pa_nil))))
      (pss_cons (ps_setLc (i := 5) (own := [("_law_k", 9)])  rfl sc_l_query.nd rfl rfl (sw_true rfl rfl rfl (by decide +kernel)) (pi_range1 (by rfl) T.m_range (pa_cons pe_int pa_nil)) (blkOk_by (own := [("_law_k", 9)]) (N := N_l_query) (sc := defScope (topS 26)) (by decide +kernel)) (fun _ _ _ _ _ => (pg_name (i := 9) sc_l_query.nd rfl (Or.inl rfl))) (fun _ _ _ _ _ => pts_nil) (fun _ _ _ _ _ => (pe_ix (ixLK (K := K) rfl) (pv 1) (pe_call G_l_take hr (by rfl) T.g_l_take T.f_l_take.kp T.b_l_take .nil pass0 (pa_cons (pv 0) (pa_cons (pe_callB (lenK (K := K) rfl) (by rfl) T.m_len (by decide +kernel) (pa_cons (pv 1) pa_nil)) pa_nil))) (fun _ _ => rfl))))
      (pss_cons (ps_if (PW.pt (pw_and (pt_cmpR op_gt (pv 2) pe_int (nomark _)) (pw_and (pt_cmpR op_gt (pv 3) pe_int (nomark _)) (pw_and1 (pt_cmpR op_lt (pv 4) pe_int (nomark _))))))
      (pss_cons (ps_set (i := 6) sc_l_query.nd rfl (.inl rfl) (pe_ix (ixLK (K := K) rfl) (pe_lst (pa_cons pe_int (pa_cons pe_int (pa_cons pe_int (pa_cons pe_int (pa_cons pe_int pa_nil)))))) (pv 4) (fun _ _ => rfl)))
      (pss_cons (ps_if (pt_cmpR op_eq (pv 4) pe_int (nomark _))
      (pss_one (ps_set (i := 6) sc_l_query.nd rfl (.inl rfl) pe_int))
      pss_nil)
      (pss_cons (ps_set (i := 7) sc_l_query.nd rfl (.inl rfl) (pe_ix (ixLK (K := K) rfl) (pe_lst (pa_cons pe_str (pa_cons pe_str (pa_cons pe_str (pa_cons pe_str (pa_cons pe_str pa_nil)))))) (pv 4) (fun _ _ => rfl)))
      (pss_cons (ps_set (i := 8) sc_l_query.nd rfl (.inl rfl) (pe_lst pa_nil))
      (pss_cons (ps_for PassesOwn.never rfl (pi_range1 (by rfl) T.m_range (pa_cons (pe_callB (call_min2 rfl) (by rfl) T.m_min (by decide +kernel) (pa_cons (pv 6) (pa_cons (pv 3) pa_nil))) pa_nil)) (pg_name (i := 9) sc_l_query.nd rfl (.inl rfl))
      (pss_cons (ps_set (i := 10) sc_l_query.nd rfl (.inl rfl) (pe_op op_sub (pe_op op_sub (pv 3) (pe_callB (sumK (K := K) rfl rfl) (by rfl) T.m_sum (by decide +kernel) (pa_cons (pe_lc (own := [("_law_part", 11)])  rfl sc_l_query.nd (piLK (K := K) rfl (pv 8)) (blkOk_by (own := [("_law_part", 11)]) (N := N_l_query) (sc := defScope (topS 26)) (by decide +kernel)) (fun _ _ _ _ _ => (pg_name (i := 11) sc_l_query.nd rfl (Or.inl rfl))) (fun _ _ _ _ _ => pts_nil) (fun _ _ _ _ _ => (pe_call G_l_many hr (by rfl) T.g_l_many T.f_l_many.kp T.b_l_many .nil pass0 (pa_cons (pv 11) pa_nil)))) pa_nil))) (pe_op op_sub (pe_op op_sub (pe_callB (call_min2 rfl) (by rfl) T.m_min (by decide +kernel) (pa_cons (pv 6) (pa_cons (pv 3) pa_nil))) (pv 9)) pe_int)))
      (pss_one (ps_expr (pe_bm PySem.F.plainAttrs_list PySem.F.slot_list_append PySem.F.type_list_append mt_append (pv 8) (pa_cons (pe_call G_l_query hr (by rfl) T.g_l_query T.f_l_query.kp T.b_l_query .nil pass0 (pa_cons (pv 0) (pa_cons (pv 1) (pa_cons (pe_op op_sub (pv 2) pe_int) (pa_cons (pv 10) pa_nil))))) pa_nil))))))
      (pss_one (ps_ret (pe_op (catTK (K := K) rfl) (pe_tup (pa_cons (pv 7) pa_nil)) (pe_callTy (tupK (K := K) rfl) (by rfl) T.m_tuple (by decide +kernel) (pa_cons (pv 8) pa_nil))))))))))
      pss_nil)
      (pss_cons (ps_if (PW.pt (pw_and (pt_cmpR op_eq (pe_op op_mod (pv 4) pe_int) pe_int (nomark _)) (pw_and1 (pt_cmpR op_gt (pv 3) pe_int (nomark _)))))
      (pss_one (ps_ret (pe_op (catTK (K := K) rfl) (pe_tup (pa_cons pe_str pa_nil)) (pe_callTy (tupK (K := K) rfl) (by rfl) T.m_tuple (by decide +kernel) (pa_cons (pe_slice (slLK (K := K) rfl) (pv 5) po_none (po_some (pe_callB (call_min2 rfl) (by rfl) T.m_min (by decide +kernel) (pa_cons (pv 3) (pa_cons (pe_op op_add pe_int (pe_call G_l_take hr (by rfl) T.g_l_take T.f_l_take.kp T.b_l_take .nil pass0 (pa_cons (pv 0) (pa_cons pe_int pa_nil)))) pa_nil))))) pa_nil)))))
      pss_nil)
      (pss_cons (ps_if (PW.pt (pw_and (pt_cmpR op_eq (pe_op op_mod (pv 4) pe_int) pe_int (nomark _)) (pw_and1 (pt_cmpR op_gt (pv 3) pe_int (nomark _)))))
      (pss_one (ps_ret (pe_tup (pa_cons pe_str (pa_cons (pe_op op_add pe_int (pe_call G_l_take hr (by rfl) T.g_l_take T.f_l_take.kp T.b_l_take .nil pass0 (pa_cons (pv 0) (pa_cons (pe_ix (ixLK (K := K) rfl) (pe_lst (pa_cons pe_int (pa_cons pe_int pa_nil))) (pe_call G_l_take hr (by rfl) T.g_l_take T.f_l_take.kp T.b_l_take .nil pass0 (pa_cons (pv 0) (pa_cons pe_int pa_nil))) (fun _ _ => rfl)) pa_nil)))) (pa_cons (pe_ix (ixLK (K := K) rfl) (pv 5) pe_int (fun _ _ => rfl)) (pa_cons (pe_ix (ixLK (K := K) rfl) (pv 5) pe_int (fun _ _ => rfl)) pa_nil)))))))
      pss_nil)
      (pss_one (ps_ret (pe_tup (pa_cons pe_str (pa_cons (pe_ix (ixLK (K := K) rfl) (pv 5) pe_int (fun _ _ => rfl)) pa_nil)))))))))), ?_⟩
      -- sort
      refine ⟨.ref p, rfl, p, 8, c, rfl, hp, by decide, by decide, by omega, fun d1 H1 s0 s1 hp1 f1 => ?_⟩
      have hk1 := hk.fx hp f1
      -- words
      refine ⟨5, rfl, by decide, by decide, fun D nD => ?_⟩
      refine lc_range (lo := 0) (n := 5) (fun i H' => ∃ us : List Str, us.length = i ∧ us.all isW = true ∧ H' D = some (.lst (us.map V.str)) ∧ Pl H' p (c + 1 + i) ∧ Fx p H H' ∧ Fx p H1 H') ⟨[], rfl, rfl, upd_same, hp1.ex (Ex.new nD), f1.trans (Fx.ex (Ex.new nD)), Fx.ex (Ex.new nD)⟩ (fun i H2 hi pv => ?_) (fun H2 pv => ?_)
      · obtain ⟨us, ul, uw, hD, hp2, f2, f2'⟩ := pv
        have hk2 := hk.fx hp f2
        have nDp : D ≠ p := by
          obtain ⟨xs, hx⟩ := hp1.some
          exact (ne_of_none hx nD).symm
        refine ⟨rfl, .ref kk, rfl, .ref p, rfl, .ref kk, rfl, kk, _, rfl, .inl (SqL.of hk2.1), p, ((zs.map V.str).length : Int), c + 1 + i, rfl, hp2, ?_, ?_, by omega, fun e H3 e0 e1 hp3 f3 => ?_⟩
        · rw [List.length_map]
          have := hk2.2.1
          omega
        · rw [List.length_map]
          have := hk2.2.2.1
          omega
        · rw [List.length_map] at e1
          obtain ⟨j, rfl⟩ := Int.eq_ofNat_of_zero_le e0
          obtain ⟨z, gz, hz⟩ := all_at hk2.2.2.2 (i := j) (by omega)
          refine ⟨kk, _, _, .str z, rfl, rfl, SqL.of (hk2.fx hp2 f3).1, atI_nat gz, _, f3 _ _ nDp hD, ?_, us ++ [z], ?_, ?_, ?_, ?_, ?_, ?_⟩
          · rw [List.length_map]
            exact sz_lt (by omega)
          · rw [List.length_append, ul]
            rfl
          · rw [List.all_append, uw]
            simp [hz]
          · rw [upd_same, List.map_append]
            rfl
          · obtain ⟨g, b, k, x1, x2⟩ := hp3
            exact ⟨g, b, k, by rw [upd_ne nDp.symm]; exact x1, x2⟩
          · intro x o nx hx
            have nxD : x ≠ D := by
              have hx1 := f1 x o nx hx
              exact ne_of_none hx1 nD
            rw [upd_ne nxD]
            exact f3 _ _ nx (f2 _ _ nx hx)
          · intro x o nx hx
            rw [upd_ne (ne_of_none hx nD)]
            exact f3 _ _ nx (f2' _ _ nx hx)
      obtain ⟨us, ul, uw, hD, hp2, f2, f2'⟩ := pv
      have hk2 := hk.fx hp f2
      -- if deep > 1 and most > 1 and sort < 5
      refine q_when (b := decide ((1 : Int) < ((d + 1 : Nat) : Int)) && (decide ((1 : Int) < m) && decide (d1 < 5))) (et_and (et_test (ev_op (ev_var rfl) ev_c rv_I0)) fun _ => et_and (et_test (ev_op (ev_var rfl) ev_c rv_I0)) fun _ => et_test (ev_op (ev_var rfl) ev_c rv_I0)) (fun hb H5 e5 => ?_) (fun hb H5 e5 => ?_)
      · rw [Bool.and_eq_true, Bool.and_eq_true, decide_eq_true_eq, decide_eq_true_eq, decide_eq_true_eq] at hb
        obtain ⟨b1, b2, b3⟩ := hb
        obtain ⟨mm, kd, a1, a2, mm2, mm4, mm3, hkd⟩ := five_at d1 s0 b3
        -- many
        refine ⟨by show 5 ≤ sizeLine; decide, fun x1 nx1 => ⟨.int d1, rfl, x1, _, d1, .int mm, rfl, rfl, SqL.of upd_same, a1, ?_⟩⟩
        refine q_ifAsg (v := .int mm) (b := decide (V.int d1 = V.int 4)) (et_test (ev_op (ev_var rfl) ev_c (rv_eq rfl))) (fun hb => ?_) (fun _ => rfl) (fun H7 e7 => ?_)
        · have : d1 = 4 := V.int.inj (of_decide_eq_true hb)
          rw [mm3 this]
          exact ev_c
        have f7 : Ex H2 H7 := (e5.trans (Ex.new nx1)).trans e7
        -- kind
        refine ⟨by show 5 ≤ sizeLine; decide, fun x2 nx2 => ⟨.int d1, rfl, x2, _, d1, .str kd, rfl, rfl, SqL.of upd_same, a2, ?_⟩⟩
        have f8 := f7.trans (Ex.new (o := .lst [V.str "and", .str "or", .str "and", .str "or", .str "but"]) nx2)
        -- parts
        refine ⟨Nat.zero_le _, fun l nl => ?_⟩
        have f9 := f8.trans (Ex.new (o := .lst []) nl)
        have hp9 := hp2.ex f9
        have F9 : Fx p H _ := f2.trans (Fx.ex f9)
        have nl0 : H l = none := fx_free (f2.trans (Fx.ex f8)) (hp2.ex f8) nl
        have nlp : l ≠ p := by
          obtain ⟨xs, hx⟩ := hp.some
          exact (ne_of_none hx nl0).symm
        -- the loop
        refine ⟨.int mm, rfl, .int m, rfl, mm, m, rfl, if m < mm then m else mm, rfl, ?_, ?_, ?_⟩
        · split <;> omega
        · split <;> omega
        have hn2 : 2 ≤ (if m < mm then m else mm) := by split <;> omega
        have hn4 : (if m < mm then m else mm) ≤ 4 := by split <;> omega
        have hnm : (if m < mm then m else mm) ≤ m := by split <;> omega
        have hnmm : (if m < mm then m else mm) ≤ mm := by split <;> omega
        generalize hn : (if m < mm then m else mm) = n at hn2 hn4 hnm hnmm ⊢
        refine for_range (lo := 0) (n := n.toNat) (fun i σ' H' => ∃ (y9 y10 : Option V) (vs : List V) (wss tss : List (List Str)), σ' = [some (.ref p), some (.ref kk), some (.int ((d + 1 : Nat) : Int)), some (.int m), some (.int d1), some (.ref D), some (.int mm), some (.str kd), some (.ref l), y9, y10, none] ∧
          vs.length = i ∧ H' l = some (.lst vs) ∧ All3 (QO K H' d) vs wss tss ∧ i ≤ wss.flatten.length ∧ (wss.flatten.length : Int) + (n - i) ≤ m ∧ Pl H' p (c + 8 + i * cost d) ∧ Fx p H H') ⟨none, none, [], [], [], rfl, rfl, upd_same, .nil, Nat.le_refl _, by simp; omega, hp9.mono (by omega), F9⟩ (fun i σ' H' hi pv => ?_) (fun σ' H' pv => ?_)
        · obtain ⟨y9, y10, vs, wss, tss, rfl, vl, hl, hA, i1, i2, hpi, fi⟩ := pv
          have hi' : (i : Int) < n := by omega
          -- room
          refine ⟨.int m, rfl, .ref l, rfl, l, rfl, ⟨_, SqL.of hl⟩, fun D2 nD2 => ?_⟩
          refine lc_list (K := K) (xs := vs) (fun j Hj => Ex H' Hj ∧ Hj D2 = some (.lst ((wss.take j).map fun ws => .int (ws.length : Int)))) ⟨Ex.new nD2, upd_same⟩ (fun j Hj _ pj => SqL.of (pj.1 _ _ hl)) (fun j x Hj gx pj => ?_) (fun Hj pj => ?_)
          · obtain ⟨j1, j2⟩ := pj
            obtain ⟨bw, bt, gb, _, hq⟩ := hA.get gx
            have hj : j < vs.length := (List.getElem?_eq_some_iff.mp gx).1
            refine ⟨rfl, x, rfl, x, bw, bt, rfl, hq.ex j1, fun H3 e3 => ?_⟩
            refine ⟨_, e3 _ _ j2, ?_, Ex.mut (j1.trans e3) nD2, ?_⟩
            · rw [List.length_map, List.length_take]
              exact sz_lt (by omega)
            · rw [upd_same, List.take_add_one, gb, List.map_append]
              rfl
          · obtain ⟨j1, j2⟩ := pj
            refine ⟨D2, wss.map fun ws => (ws.length : Int), rfl, SqL.of ?_, ?_⟩
            · rw [j2, ← hA.len.1, List.take_length, List.map_map]
              rfl
            rw [sum_lens]
            refine ⟨m, _, rfl, rfl, .int mm, rfl, .int m, rfl, mm, m, rfl, .int ((0 : Int) + i), rfl, _, _, rfl, rfl, _, 1, rfl, rfl, _, _, rfl, rfl, ?_⟩
            rw [hn]
            -- append
            have room1 : 1 ≤ m - (wss.flatten.length : Int) - (n - (0 + (i : Int)) - 1) := by omega
            dsimp only
            generalize hroom : m - (wss.flatten.length : Int) - (n - (0 + (i : Int)) - 1) = room at room1 ⊢
            have hpj := hpi.ex j1
            have fj : Fx p H Hj := fi.trans (Fx.ex j1)
            have hlj := j1 _ _ hl
            refine ⟨.ref l, rfl, .inl ⟨rfl, _, SqL.of hlj⟩, .ref p, rfl, .ref kk, rfl, .int ((d + 1 : Nat) : Int), rfl, _, 1, rfl, rfl, .int room, rfl, p, kk, zs, room, c + 8 + i * cost d, ?_, by omega, by omega, hpj, hk.fx hp fj, room1, by omega, ?_, ?_⟩
            · show [V.ref p, V.ref kk, V.int (((d + 1 : Nat) : Int) - 1), V.int room] = _
              rw [show ((d + 1 : Nat) : Int) - 1 = (d : Int) by omega]
            · have : i * cost d + cost d ≤ 4 * cost d := by
                have h4 : (i + 1) * cost d ≤ 4 * cost d := Nat.mul_le_mul_right _ (by omega)
                rw [Nat.add_mul, Nat.one_mul] at h4
                exact h4
              omega
            · intro v ws ts H3 hq w1 wm hp3 f3
              have hl3 : H3 l = some (.lst vs) := f3 _ _ nlp hlj
              refine ⟨l, vs, v, rfl, rfl, hl3, sz_lt (by omega), some (.int ((0 : Int) + i)), some (.int room), vs ++ [v], wss ++ [ws], tss ++ [ts], rfl, by rw [List.length_append, vl]; rfl, upd_same, ?_, ?_, ?_, ?_, ?_⟩
              · exact All3.snoc (hq.mono fun _ _ z => sqt_upd z hl3) (hA.imp fun _ _ _ z => ((z.ex j1).fx f3 hpj).mono fun _ _ z => sqt_upd z hl3)
              · rw [List.flatten_append, List.length_append, show [ws].flatten = ws by simp]
                omega
              · rw [List.flatten_append, List.length_append, show [ws].flatten = ws by simp]
                omega
              · obtain ⟨g, b, k, x1, x2, x3, x4, x5⟩ := hp3
                refine ⟨g, b, k, by rw [upd_ne nlp.symm]; exact x1, x2, x3, x4, ?_⟩
                rw [Nat.add_mul, Nat.one_mul]
                omega
              · intro x o nx hx
                rw [upd_ne (ne_of_none hx nl0)]
                exact f3 _ _ nx (fj _ _ nx hx)
        · obtain ⟨y9, y10, vs, wss, tss, rfl, vl, hl, hA, i1, i2, hpi, fi⟩ := pv
          refine ⟨.str kd, rfl, by show 1 ≤ sizeLine; decide, fun t nt => ?_⟩
          have e1 : Ex H' (upd H' t (.tup [.str kd])) := Ex.new nt
          refine ⟨.ref l, rfl, l, vs, rfl, .inl ⟨SqL.of (e1 _ _ hl), fun u nu => ?_⟩⟩
          have e2 := e1.trans (Ex.new (o := .tup vs) nu)
          have ht2 : (upd (upd H' t (.tup [.str kd])) u (.tup vs)) t = some (.tup [.str kd]) := by rw [upd_ne (ne_of_none upd_same nu), upd_same]
          refine ⟨t, u, [.str kd], vs, rfl, rfl, SqT.of ht2, SqT.of upd_same, by simp, sz (by simp; omega), fun hv => ?_, fun hv r nr => ?_⟩
          · rw [hv] at vl
            simp at vl
            omega
          · have e3 := e2.trans (Ex.new (o := .tup ([.str kd] ++ vs)) nr)
            have hr : SqT K (upd (upd (upd H' t (.tup [.str kd])) u (.tup vs)) r (.tup ([.str kd] ++ vs))) r (.str kd :: vs) := SqT.of upd_same
            have hA3 := hA.imp fun _ _ _ z => z.ex e3
            have hq : ∃ tz, QO K (upd (upd (upd H' t (.tup [.str kd])) u (.tup vs)) r (.tup ([.str kd] ++ vs))) (d + 1) (.ref r) wss.flatten tz := by
              rcases hkd with h | h | ⟨h, h2⟩
              · exact ⟨_, r, rfl, .inr (.inr (.inr (.inl ⟨kd, vs, wss, tss, .inl h, hr, by omega, by omega, hA3, rfl, rfl⟩)))⟩
              · exact ⟨_, r, rfl, .inr (.inr (.inr (.inl ⟨kd, vs, wss, tss, .inr h, hr, by omega, by omega, hA3, rfl, rfl⟩)))⟩
              · have v2 : vs.length = 2 := by omega
                rw [h] at hr hA3 ⊢
                cases hA3 with
                | nil => simp at v2
                | cons g1 t1 =>
                  cases t1 with
                  | nil => simp at v2
                  | cons g2 t2 =>
                    cases t2 with
                    | nil => exact ⟨_, r, rfl, .inr (.inr (.inr (.inr ⟨_, _, _, _, _, _, hr, g1, g2, by simp, rfl⟩)))⟩
                    | cons g3 t3 => simp at v2
            obtain ⟨tz, hq⟩ := hq
            refine q _ _ tz _ hq (by omega) (by omega) ((hpi.ex e3).mono ?_) (fi.trans (Fx.ex e3))
            have : n.toNat * cost d ≤ 4 * cost d := Nat.mul_le_mul_right _ (by omega)
            omega
      · have hp5 := hp2.ex e5
        have hk5 := hk2.ex e5
        have hD5 := e5 _ _ hD
        have f5 : Fx p H H5 := f2.trans (Fx.ex e5)
        have nDp : D ≠ p := by
          obtain ⟨xs, hx⟩ := hp1.some
          exact (ne_of_none hx nD).symm
        obtain ⟨z0, g0, w0⟩ := all_at uw (i := 0) (by omega)
        obtain ⟨z1, g1, w1⟩ := all_at uw (i := 1) (by omega)
        refine q_when (b := decide (V.int (d1 % 4) = V.int 1) && decide ((1 : Int) < m)) (et_and (et_test (ev_op (ev_op (ev_var rfl) ev_c (rv_I (show (0 : Int) < 4 by decide))) ev_c (rv_eq rfl))) fun _ => et_test (ev_op (ev_var rfl) ev_c rv_I0)) (fun hb H6 e6 => ?_) (fun hb H6 e6 => ?_)
        · rw [Bool.and_eq_true, decide_eq_true_eq, decide_eq_true_eq] at hb
          have hm2 := hb.2
          have hp6 := hp5.ex e6
          refine ⟨by show 1 ≤ sizeLine; decide, fun t nt => ?_⟩
          have e7 : Ex H6 (upd H6 t (.tup [.str "phrase"])) := Ex.new nt
          have hD7 := e7 _ _ (e6 _ _ hD5)
          have ntp : t ≠ p := by
            obtain ⟨xs, hx⟩ := hp6.some
            exact (ne_of_none hx nt).symm
          refine ⟨.ref D, rfl, .int m, rfl, .ref p, rfl, p, 4, c + 6, rfl, hp6.ex e7, by decide, by decide, by omega, fun e H8 e0 e1 hp8 f8 => ?_⟩
          refine ⟨2, e, rfl, rfl, m, 2 + e, rfl, _, rfl, D, _, rfl, SqL.of (f8 _ _ nDp hD7), fun x nx => ?_⟩
          have hcut : ∃ cs : List Str, cutV (us.map V.str) none (some (if 2 + e < m then 2 + e else m)) = cs.map V.str ∧ 2 ≤ cs.length ∧ cs.length ≤ 5 ∧ (cs.length : Int) ≤ m ∧ cs.all isW = true := by
            have b1 : 2 ≤ (if 2 + e < m then 2 + e else m) := by split <;> omega
            have b2 : (if 2 + e < m then 2 + e else m) ≤ 5 := by split <;> omega
            have b3 : (if 2 + e < m then 2 + e else m) ≤ m := by split <;> omega
            generalize (if 2 + e < m then 2 + e else m) = r at b1 b2 b3
            obtain ⟨r, rfl⟩ := Int.eq_ofNat_of_zero_le (show 0 ≤ r by omega)
            refine ⟨us.take r, ?_, ?_, ?_, ?_, ?_⟩
            · unfold cutV
              rw [HT.sIx_none, HT.sIx_nat, List.length_map, ul, List.drop_zero, List.map_take]
              rw [show min r 5 - 0 = r by omega]
            · rw [List.length_take]
              omega
            · rw [List.length_take]
              omega
            · rw [List.length_take]
              omega
            · rw [List.all_eq_true]
              intro y hy
              exact List.all_eq_true.mp uw y (List.mem_of_mem_take hy)
          obtain ⟨cs, ec, c2, c5, cm, cw⟩ := hcut
          rw [ec]
          have e9 : Ex H8 (upd H8 x (.lst (cs.map V.str))) := Ex.new nx
          refine ⟨x, _, rfl, .inl ⟨SqL.of upd_same, fun u nu => ?_⟩⟩
          have e10 := e9.trans (Ex.new (o := .tup (cs.map V.str)) nu)
          have ht10 : (upd (upd H8 x (.lst (cs.map V.str))) u (.tup (cs.map V.str))) t = some (.tup [.str "phrase"]) := e10 _ _ (f8 _ _ ntp upd_same)
          refine ⟨t, u, [.str "phrase"], cs.map V.str, rfl, rfl, SqT.of ht10, SqT.of upd_same, by simp, sz (by simp; omega), fun hv => ?_, fun hv r nr => ?_⟩
          · have := congrArg List.length hv
            rw [List.length_map, List.length_nil] at this
            omega
          · have e11 := e10.trans (Ex.new (o := .tup ([.str "phrase"] ++ cs.map V.str)) nr)
            exact q _ cs cs _ ⟨r, rfl, .inr (.inl ⟨SqT.of upd_same, c2, c5, cw, rfl⟩)⟩ (by omega) cm ((hp8.ex e11).mono (by omega)) (((f5.trans (Fx.ex (e6.trans e7))).trans f8).trans (Fx.ex e11))
        · refine q_when (b := decide (V.int (d1 % 4) = V.int 2) && decide ((1 : Int) < m)) (et_and (et_test (ev_op (ev_op (ev_var rfl) ev_c (rv_I (show (0 : Int) < 4 by decide))) ev_c (rv_eq rfl))) fun _ => et_test (ev_op (ev_var rfl) ev_c rv_I0)) (fun hb H7 e7 => ?_) (fun hb H7 e7 => ?_)
          · rw [Bool.and_eq_true, decide_eq_true_eq, decide_eq_true_eq] at hb
            have hm2 := hb.2
            have hp7 := hp5.ex (e6.trans e7)
            have hD7 := (e6.trans e7) _ _ hD5
            refine ⟨.ref p, rfl, by show 2 ≤ sizeLine; decide, fun x nx => ?_⟩
            have e8 : Ex H7 (upd H7 x (.lst [.int 3, .int 20])) := Ex.new nx
            have nxp : x ≠ p := by
              obtain ⟨xs, hx⟩ := hp7.some
              exact (ne_of_none hx nx).symm
            refine ⟨.ref p, rfl, p, 2, c + 6, rfl, hp7.ex e8, by decide, by decide, by omega, fun e H9 e0 e1 hp9 f9 => ?_⟩
            obtain ⟨mm, am, mm3, mm20⟩ := two_at e e0 e1
            refine ⟨x, _, e, .int mm, rfl, rfl, SqL.of (f9 _ _ nxp upd_same), am, p, mm, c + 7, rfl, hp9, by omega, by omega, by omega, fun f H10 f0 f1' hp10 f10 => ?_⟩
            have hD10 : H10 D = some (.lst (us.map V.str)) := f10 _ _ nDp (f9 _ _ nDp (e8 _ _ hD7))
            refine ⟨1, f, rfl, rfl, .ref D, rfl, D, _, 0, _, rfl, rfl, SqL.of hD10, atI_nat (j := 0) g0, .ref D, rfl, D, _, 1, _, rfl, rfl, SqL.of hD10, atI_nat (j := 1) g1, by show 4 ≤ sizeLine; decide, fun r nr => ?_⟩
            exact q _ [z0, z1] [z0, z1] _ ⟨r, rfl, .inr (.inr (.inl ⟨1 + f, z0, z1, SqT.of upd_same, by omega, by omega, w0, w1, rfl, rfl⟩))⟩ (by simp) (by simp; omega) ((hp10.ex (Ex.new nr)).mono (by omega)) ((((f5.trans (Fx.ex ((e6.trans e7).trans e8))).trans f9).trans f10).trans (Fx.ex (Ex.new nr)))
          · have hD7 := (e6.trans e7) _ _ hD5
            refine ⟨.ref D, rfl, D, _, 0, _, rfl, rfl, SqL.of hD7, atI_nat (j := 0) g0, by show 2 ≤ sizeLine; decide, fun r nr => ?_⟩
            exact q _ [z0] [z0] _ ⟨r, rfl, .inl ⟨z0, SqT.of upd_same, w0, rfl, rfl⟩⟩ (by simp) (by simp; omega) ((hp5.ex ((e6.trans e7).trans (Ex.new nr))).mono (by omega)) (f5.trans (Fx.ex ((e6.trans e7).trans (Ex.new nr))))

/-! ### lists of words, compared -/
theorem all3_allW {R : V → List Str → List Str → Prop} (f : ∀ v w t, R v w t → t.all isW = true) : ∀ {vs : List V} {ws ts : List (List Str)}, All3 R vs ws ts → ts.flatten.all isW = true
  | _, _, _, .nil => rfl
  | _, _, _, .cons h t => by
    rw [List.flatten_cons, List.all_append, f _ _ _ h, all3_allW f t]
    rfl
theorem QO.allW {K : PySem.W.Frag} {H : Hp} : ∀ {d : Nat} {v : V} {ws ts : List Str}, QO K H d v ws ts → ts.all isW = true
  | 0, _, _, _, h => h.elim
  | d + 1, v, ws, ts, h => by
    obtain ⟨a, rfl, h⟩ := h
    rcases h with ⟨w, h1, h2, rfl, rfl⟩ | ⟨h1, h2, h3, h4, rfl⟩ | ⟨f, w, u, h1, h2, h3, h4, h5, rfl, rfl⟩ | ⟨k, vs, wss, tss, hk, h1, h2, h3, h4, rfl, rfl⟩ | ⟨x, y, wx, tx, wy, ty, h1, h2, h3, rfl, rfl⟩
    · simp [h2]
    · exact h4
    · simp [h4, h5]
    · exact all3_allW (fun _ _ _ z => QO.allW z) h4
    · exact QO.allW h2
theorem isW_ok {z : Str} (h : isW z = true) : PyData.canLay0 (.str z) = true := by
  unfold isW at h
  rw [Bool.and_eq_true, List.all_eq_true] at h
  show z.cps.all (fun c => decide (c < 0x110000)) = true
  rw [← Array.all_toList, List.all_eq_true]
  intro c hc
  have := h.2 c hc
  rw [Bool.and_eq_true, decide_eq_true_eq, decide_eq_true_eq] at this
  exact decide_eq_true (by omega)
theorem dpS {K : PySem.W.Frag} {H : Hp} : ∀ zs : List Str, DpAll K H (zs.map V.str) (zs.map PyData.str)
  | [] => .nil
  | z :: r => .cons (.str z) (dpS r)
theorem shapeS {zs : List Str} (h : zs.all isW = true) : SeqAt.shaped (.list (zs.map PyData.str)) = true := by
  have h1 : ∀ zs : List Str, zs.all isW = true → PyData.canLayAll0 (zs.map PyData.str) = true := by
    intro zs
    induction zs with
    | nil => intro _; rfl
    | cons z r ih =>
      intro h
      rw [List.all_cons, Bool.and_eq_true] at h
      rw [List.map_cons, PyData.canLayAll0, isW_ok h.1, ih h.2]
      rfl
  have h2 : ∀ zs : List Str, PyData.depthAll (zs.map PyData.str) = 0 := by
    intro zs
    induction zs with
    | nil => rfl
    | cons z r ih =>
      rw [List.map_cons, PyData.depthAll, ih, PyData.depth]
      rfl
  unfold SeqAt.shaped
  rw [PyData.canLay0, PyData.depth, h1 zs h, h2 zs]
  rfl
theorem eqvS {zs : List Str} (h : zs.all isW = true) : PyData.eqv (.list (zs.map PyData.str)) (.list (zs.map PyData.str)) = true := by
  refine SeqAt.eqv_refl _ ?_
  have := shapeS h
  unfold SeqAt.shaped at this
  rw [Bool.and_eq_true] at this
  exact this.1
/-! ### the law -/
def spLaw (K : PySem.W.Frag) : Sp := fun vs H Q _ => ∃ (a : Addr) (ns : List Int), vs = [.ref a] ∧ SqL K H a (ns.map V.int) ∧ ns.length ≤ 63 ∧ ∀ H', Q (.bl true) H'
theorem fx_new {p : Addr} {H H1 H2 : Hp} (n : H p = none) (e : Ex H H1) (f : Fx p H1 H2) : Ex H H2 := fun a o h => f a o (ne_of_none h n) (e a o h)
theorem maxmin (n : Nat) : 1 ≤ (if (if (n : Int) < 8 then (n : Int) else 8) > 1 then (if (n : Int) < 8 then (n : Int) else 8) else 1) ∧ (if (if (n : Int) < 8 then (n : Int) else 8) > 1 then (if (n : Int) < 8 then (n : Int) else 8) else 1) ≤ 8 := by
  constructor
  · split <;> split <;> omega
  · split <;> split <;> omega
set_option maxHeartbeats 16000000 in
theorem ok_law (T : TX K mg A FD TK) : FnOk P w K mg base CX0 17 (A 29) (FD 29) ["_law_script"] (spLaw K) := by
  have G_l_pool := (ok_l_pool (P := P) (w := w) (base := base) T).mono (show 1 ≤ 16 by decide)
  have G_l_kinds := (ok_l_kinds (P := P) (w := w) (base := base) T).mono (show 2 ≤ 16 by decide)
  have G_l_query5 := (ok_l_query (P := P) (w := w) (base := base) T 5).mono (show 7 ≤ 16 by decide)
  have G_l_query4 := (ok_l_query (P := P) (w := w) (base := base) T 4).mono (show 6 ≤ 16 by decide)
  have G_l_query3 := (ok_l_query (P := P) (w := w) (base := base) T 3).mono (show 5 ≤ 16 by decide)
  have G_l_wanted := (ok_l_wanted (P := P) (w := w) (base := base) T 5).mono (show 6 ≤ 16 by decide)
  have G_wanted := ok_wanted (P := P) (w := w) (base := base) T
  refine T.f_law.ok (k := 16) sc_law (fun vs H Q E h => ?_) (fun cdv A' outer s H vs Q E hr h => ?_)
  · obtain ⟨a, ns, rfl, _⟩ := h
    rfl
  · obtain ⟨a, ns, rfl, hS, hn, q⟩ := h
    refine ⟨_, (pss_cons (ps_for PassesOwn.never rfl (pi_range1 (by rfl) T.m_range (pa_cons (pe_callB (call_max2 rfl) (by rfl) T.m_max (by decide +kernel) (pa_cons pe_int (pa_cons (pe_callB (call_min2 rfl) (by rfl) T.m_min (by decide +kernel) (pa_cons pe_int (pa_cons (pe_callB (lenK (K := K) rfl) (by rfl) T.m_len (by decide +kernel) (pa_cons (pv 0) pa_nil)) pa_nil))) pa_nil))) pa_nil)) (pg_name (i := 1) sc_law.nd rfl (.inl rfl))
      (pss_cons (ps_set (i := 2) sc_law.nd rfl (.inl rfl) (pe_call G_l_pool hr (by rfl) T.g_l_pool T.f_l_pool.kp T.b_l_pool .nil pass0 (pa_cons (pv 0) (pa_cons (pv 1) pa_nil))))
      (pss_cons (ps_set (i := 3) sc_law.nd rfl (.inl rfl) (pe_call G_l_kinds hr (by rfl) T.g_l_kinds T.f_l_kinds.kp T.b_l_kinds .nil pass0 (pa_cons (pv 2) pa_nil)))
      (pss_cons (ps_set (i := 4) sc_law.nd rfl (.inl rfl) (pe_lst (pa_cons (pe_call G_l_query5 hr (by rfl) T.g_l_query T.f_l_query.kp T.b_l_query .nil pass0 (pa_cons (pv 2) (pa_cons (pv 3) (pa_cons pe_int (pa_cons pe_int pa_nil))))) (pa_cons (pe_call G_l_query4 hr (by rfl) T.g_l_query T.f_l_query.kp T.b_l_query .nil pass0 (pa_cons (pv 2) (pa_cons (pv 3) (pa_cons pe_int (pa_cons pe_int pa_nil))))) (pa_cons (pe_call G_l_query3 hr (by rfl) T.g_l_query T.f_l_query.kp T.b_l_query .nil pass0 (pa_cons (pv 2) (pa_cons (pv 3) (pa_cons pe_int (pa_cons pe_int pa_nil))))) pa_nil)))))
      (pss_cons (ps_expr (pe_bm PySem.F.plainAttrs_list PySem.F.slot_list_append PySem.F.type_list_append mt_append (pv 4) (pa_cons (pe_tup (pa_cons pe_str (pa_cons (pe_ix (ixLK (K := K) rfl) (pv 4) pe_int (fun _ _ => rfl)) (pa_cons (pe_ix (ixLK (K := K) rfl) (pv 4) pe_int (fun _ _ => rfl)) pa_nil)))) pa_nil)))
      (pss_one (ps_for PassesOwn.never rfl (piLK (K := K) rfl (pv 4)) (pg_name (i := 5) sc_law.nd rfl (.inl rfl))
      (pss_cons (ps_set (i := 6) sc_law.nd rfl (.inl rfl) (pe_call G_l_wanted hr (by rfl) T.g_l_wanted T.f_l_wanted.kp T.b_l_wanted .nil pass0 (pa_cons (pv 5) pa_nil)))
      (pss_one (ps_for PassesOwn.never rfl (pi_range1 (by rfl) T.m_range (pa_cons pe_int pa_nil)) (pg_name (i := 7) sc_law.nd rfl (.inl rfl))
      (pss_cons (ps_set (i := 8) sc_law.nd rfl (.inl rfl) (pe_call G_wanted hr (by rfl) T.g_wanted T.f_wanted.kp T.b_wanted .nil pass0 (pa_cons (pv 5) pa_nil)))
      (pss_cons (ps_if (PW.pt (pw_or (pt_not (pt_val (pe_callB (isiK (K := K) rfl) (by rfl) T.m_isinstance (by decide +kernel) (pa_cons (pv 8) (pa_cons (pe_bltn (v := .ty "list") (by rfl) T.m_list (by decide +kernel) rfl) pa_nil))))) (pw_or1 (pt_cmpR (neDK (K := K) rfl hr.units) (pv 8) (pv 6) (nomark _)))))
      (pss_one (ps_ret pe_bl))
      pss_nil)
      (pss_one (ps_expr (pe_bm PySem.F.plainAttrs_list PySem.F.slot_list_append PySem.F.type_list_append mt_append (pv 8) (pa_cons pe_str pa_nil))))))))))))))))
      (pss_one (ps_ret (pe_and (pe_cmpR (eqDK (K := K) rfl hr.units) (pe_call G_wanted hr (by rfl) T.g_wanted T.f_wanted.kp T.b_wanted .nil pass0 (pa_cons (pe_tup (pa_cons pe_str (pa_cons (pe_tup (pa_cons pe_str (pa_cons pe_str pa_nil))) (pa_cons (pe_tup (pa_cons pe_str (pa_cons pe_str pa_nil))) pa_nil)))) pa_nil)) (pe_lst (pa_cons pe_str pa_nil)) (nomark _)) (pe_one (pe_cmpR (eqDK (K := K) rfl hr.units) (pe_call G_wanted hr (by rfl) T.g_wanted T.f_wanted.kp T.b_wanted .nil pass0 (pa_cons (pe_tup (pa_cons pe_str (pa_cons pe_int (pa_cons pe_str (pa_cons pe_str pa_nil))))) pa_nil)) (pe_lst (pa_cons pe_str (pa_cons pe_str pa_nil))) (nomark _))))))), ?_⟩
    refine ⟨.ref a, rfl, a, _, rfl, .inl hS, 8, _, rfl, 1, _, rfl, (if (if ((ns.map V.int).length : Int) < 8 then ((ns.map V.int).length : Int) else 8) > 1 then (if ((ns.map V.int).length : Int) < 8 then ((ns.map V.int).length : Int) else 8) else 1), rfl, ?_, ?_, ?_⟩
    · have := maxmin (ns.map V.int).length
      omega
    · have := maxmin (ns.map V.int).length
      omega
    have hmm := maxmin (ns.map V.int).length
    generalize (if (if ((ns.map V.int).length : Int) < 8 then ((ns.map V.int).length : Int) else 8) > 1 then (if ((ns.map V.int).length : Int) < 8 then ((ns.map V.int).length : Int) else 8) else 1) = n at hmm ⊢
    refine for_range (lo := 0) (n := n.toNat) (fun i σ' H' => ∃ y1 y2 y3 y4 y5 y6 y7 y8 : Option V, σ' = [some (.ref a), y1, y2, y3, y4, y5, y6, y7, y8] ∧ Ex H H') ⟨none, none, none, none, none, none, none, none, rfl, Ex.refl H⟩ (fun i σ' H' hi pv => ?_) (fun σ' H' pv => ?_)
    · obtain ⟨y1, y2, y3, y4, y5, y6, y7, y8, rfl, e0⟩ := pv
      -- pool, kinds
      refine ⟨.ref a, rfl, .int ((0 : Int) + i), rfl, a, ns, i, ?_, ex_l e0 hS, hn, by omega, fun p H1 np e1 hp1 => ?_⟩
      · show [V.ref a, V.int ((0 : Int) + i)] = [V.ref a, V.int (i : Int)]
        rw [Int.zero_add]
      refine ⟨.ref p, rfl, p, 0, rfl, hp1, by decide, fun kk zs H2 nk hk hp2 f2 => ?_⟩
      have c5 : cost 5 = 3069 := by decide
      have c4 : cost 4 = 765 := by decide
      have c3 : cost 3 = 189 := by decide
      -- the three queries
      refine ⟨.ref p, rfl, .ref kk, rfl, p, kk, zs, 12, 2, rfl, by decide, by decide, hp2, hk, by decide, by decide, by omega, fun v1 ws1 ts1 H3 q1 l1 m1 hp3 f3 => ?_⟩
      have hk3 := hk.fx hp2 f3
      refine ⟨.ref p, rfl, .ref kk, rfl, p, kk, zs, 6, 0 + 2 + cost 5, rfl, by decide, by decide, hp3, hk3, by decide, by decide, by omega, fun v2 ws2 ts2 H4 q2 l2 m2 hp4 f4 => ?_⟩
      have hk4 := hk3.fx hp3 f4
      refine ⟨.ref p, rfl, .ref kk, rfl, p, kk, zs, 3, 0 + 2 + cost 5 + cost 4, rfl, by decide, by decide, hp4, hk4, by decide, by decide, by omega, fun v3 ws3 ts3 H5 q3 l3 m3 hp5 f5 => ?_⟩
      refine ⟨by show 3 ≤ sizeLine; decide, fun sm nsm => ?_⟩
      have x5 : Ex H' H5 := fx_new np e1 (((f2.trans f3).trans f4).trans f5)
      have e6 : Ex H5 (upd H5 sm (.lst [v1, v2, v3])) := Ex.new nsm
      have hs6 : (upd H5 sm (.lst [v1, v2, v3])) sm = some (.lst [v1, v2, v3]) := upd_same
      have nsm' : H' sm = none := fresh_back x5 nsm
      -- some.append
      refine ⟨.ref sm, rfl, .inl ⟨rfl, _, SqL.of hs6⟩, .ref sm, rfl, sm, _, 1, _, rfl, rfl, SqL.of hs6, atI_nat (j := 1) rfl, .ref sm, rfl, sm, _, 2, _, rfl, rfl, SqL.of hs6, atI_nat (j := 2) rfl, by show 3 ≤ sizeLine; decide, fun t nt => ?_⟩
      have e7 : Ex (upd H5 sm (.lst [v1, v2, v3])) (upd (upd H5 sm (.lst [v1, v2, v3])) t (.tup [.str "but", v2, v3])) := Ex.new nt
      have hs7 := e7 _ _ hs6
      refine ⟨sm, _, _, rfl, rfl, hs7, sz_lt (by simp), ?_⟩
      have Q1 : QO K (upd (upd (upd H5 sm (.lst [v1, v2, v3])) t (.tup [.str "but", v2, v3])) sm (.lst ([v1, v2, v3] ++ [.ref t]))) 5 v1 ws1 ts1 := ((((q1.fx f4 hp3).fx f5 hp4).ex (e6.trans e7))).mono fun _ _ z => sqt_upd z hs7
      have Q2 : QO K (upd (upd (upd H5 sm (.lst [v1, v2, v3])) t (.tup [.str "but", v2, v3])) sm (.lst ([v1, v2, v3] ++ [.ref t]))) 4 v2 ws2 ts2 := (((q2.fx f5 hp4).ex (e6.trans e7))).mono fun _ _ z => sqt_upd z hs7
      have Q3 : QO K (upd (upd (upd H5 sm (.lst [v1, v2, v3])) t (.tup [.str "but", v2, v3])) sm (.lst ([v1, v2, v3] ++ [.ref t]))) 3 v3 ws3 ts3 := ((q3.ex (e6.trans e7))).mono fun _ _ z => sqt_upd z hs7
      have ht8 : SqT K (upd (upd (upd H5 sm (.lst [v1, v2, v3])) t (.tup [.str "but", v2, v3])) sm (.lst ([v1, v2, v3] ++ [.ref t]))) t [.str "but", v2, v3] := sqt_upd (SqT.of upd_same) hs7
      have hs8 : (upd (upd (upd H5 sm (.lst [v1, v2, v3])) t (.tup [.str "but", v2, v3])) sm (.lst ([v1, v2, v3] ++ [.ref t]))) sm = some (.lst [v1, v2, v3, .ref t]) := upd_same
      have x8 : Ex H' (upd (upd (upd H5 sm (.lst [v1, v2, v3])) t (.tup [.str "but", v2, v3])) sm (.lst ([v1, v2, v3] ++ [.ref t]))) := Ex.mut ((x5.trans e6).trans e7) nsm'
      generalize (upd (upd (upd H5 sm (.lst [v1, v2, v3])) t (.tup [.str "but", v2, v3])) sm (.lst ([v1, v2, v3] ++ [.ref t]))) = H8 at Q1 Q2 Q3 ht8 hs8 x8 ⊢
      -- each of the four
      have each : ∀ (j : Nat) (x : V), [v1, v2, v3, .ref t][j]? = some x → ∃ ws ts, QO K H8 5 x ws ts ∧ ws.length ≤ 12 := by
        intro j x hx
        match j, hx with
        | 0, hx => cases hx; exact ⟨ws1, ts1, Q1, by omega⟩
        | 1, hx => cases hx; exact ⟨ws2, ts2, Q2.up, by omega⟩
        | 2, hx => cases hx; exact ⟨ws3, ts3, Q3.le (by decide), by omega⟩
        | 3, hx => cases hx; exact ⟨ws2 ++ ws3, ts2, ⟨t, rfl, .inr (.inr (.inr (.inr ⟨v2, v3, ws2, ts2, ws3, ts3, ht8, Q2, Q3.up, rfl, rfl⟩)))⟩, by rw [List.length_append]; omega⟩
        | j + 4, hx => simp at hx
      refine ⟨.ref sm, rfl, sm, rfl, ⟨_, SqL.of hs8⟩, ?_⟩
      refine for_list (K := K) (xs := [v1, v2, v3, .ref t]) (fun j σ2 Hj => ∃ y5 y6 y7 y8 : Option V, σ2 = [some (.ref a), some (.int ((0 : Int) + i)), some (.ref p), some (.ref kk), some (.ref sm), y5, y6, y7, y8] ∧ Ex H8 Hj) ⟨y5, y6, y7, y8, rfl, Ex.refl _⟩ (fun j σ2 Hj _ pj => ?_) (fun j x σ2 Hj gx pj => ?_) (fun σ2 Hj pj => ?_)
      · obtain ⟨_, _, _, _, _, ej⟩ := pj
        exact SqL.of (ej _ _ hs8)
      · obtain ⟨y5, y6, y7, y8, rfl, ej⟩ := pj
        obtain ⟨ws, ts, hq, hl⟩ := each j x gx
        have tl := hq.tlen
        have tw := hq.allW
        -- due
        refine ⟨x, rfl, x, ws, ts, rfl, hq.ex ej, by omega, fun pd Hd nd ed hd => ?_⟩
        -- twice
        refine ⟨2, rfl, by decide, by decide, ?_⟩
        refine for_range (lo := 0) (n := 2) (fun u σ3 Hu => ∃ y7 y8 : Option V, σ3 = [some (.ref a), some (.int ((0 : Int) + i)), some (.ref p), some (.ref kk), some (.ref sm), some x, some (.ref pd), y7, y8] ∧ Ex Hd Hu) ⟨y7, y8, rfl, Ex.refl _⟩ (fun u σ3 Hu _ pu => ?_) (fun σ3 Hu pu => ?_)
        · obtain ⟨y7, y8, rfl, eu⟩ := pu
          refine ⟨x, rfl, x, ws, ts, rfl, ((hq.ex ej).ex ed).ex eu, hl, by omega, fun pt Ht ntt et ht => ?_⟩
          have hdt := et _ _ (eu _ _ hd)
          refine ⟨.ref pt, rfl, .ref pt, .ty "list", .type "list", .type "list", true, rfl, .ty _, .base (.lst ht), kit_ty (by decide +kernel), true, rfl, ?_⟩
          refine ⟨.ref pt, rfl, .ref pd, rfl, _, _, .lst (SqL.of ht) (dpS ts), .lst (SqL.of hdt) (dpS ts), shapeS tw, shapeS tw, _, rfl, ?_⟩
          rw [eqvS tw]
          refine ⟨.ref pt, rfl, .inl ⟨rfl, _, SqL.of ht⟩, pt, _, _, rfl, rfl, ht, ?_, some (.int ((0 : Int) + u)), some (.ref pt), rfl, ?_⟩
          · rw [List.length_map]
            exact sz_lt (by omega)
          · exact Ex.mut (eu.trans et) (fresh_back eu ntt)
        · obtain ⟨y7, y8, rfl, eu⟩ := pu
          exact ⟨some x, some (.ref pd), y7, y8, rfl, (ej.trans ed).trans eu⟩
      · obtain ⟨y5, y6, y7, y8, rfl, ej⟩ := pj
        exact ⟨_, _, _, _, y5, y6, y7, y8, rfl, (e0.trans x8).trans ej⟩
    · obtain ⟨y1, y2, y3, y4, y5, y6, y7, y8, rfl, e0⟩ := pv
      -- the two written ones
      refine ⟨by show 2 ≤ sizeLine; decide, fun t1 n1 => ⟨by show 2 ≤ sizeLine; decide, fun t2 n2 => ⟨by show 3 ≤ sizeLine; decide, fun t3 n3 => ?_⟩⟩⟩
      have h1 : (upd (upd (upd H' t1 (.tup [.str "word", .str "a"])) t2 (.tup [.str "word", .str "b"])) t3 (.tup [.str "but", .ref t1, .ref t2])) t1 = some (.tup [.str "word", .str "a"]) := Ex.new n3 _ _ (Ex.new n2 _ _ upd_same)
      have h2 : (upd (upd (upd H' t1 (.tup [.str "word", .str "a"])) t2 (.tup [.str "word", .str "b"])) t3 (.tup [.str "but", .ref t1, .ref t2])) t2 = some (.tup [.str "word", .str "b"]) := Ex.new n3 _ _ upd_same
      have h3 : (upd (upd (upd H' t1 (.tup [.str "word", .str "a"])) t2 (.tup [.str "word", .str "b"])) t3 (.tup [.str "but", .ref t1, .ref t2])) t3 = some (.tup [.str "but", .ref t1, .ref t2]) := upd_same
      generalize (upd (upd (upd H' t1 (.tup [.str "word", .str "a"])) t2 (.tup [.str "word", .str "b"])) t3 (.tup [.str "but", .ref t1, .ref t2])) = H1 at h1 h2 h3 ⊢
      have wa : isW "a" = true := by decide +kernel
      have wb : isW "b" = true := by decide +kernel
      have Qa : QO K H1 5 (.ref t3) ["a", "b"] ["a"] := ⟨t3, rfl, .inr (.inr (.inr (.inr ⟨.ref t1, .ref t2, ["a"], ["a"], ["b"], ["b"], SqT.of h3, ⟨t1, rfl, .inl ⟨"a", SqT.of h1, wa, rfl, rfl⟩⟩, ⟨t2, rfl, .inl ⟨"b", SqT.of h2, wb, rfl, rfl⟩⟩, rfl, rfl⟩)))⟩
      refine ⟨.ref t3, _, _, rfl, Qa, by decide, by decide, fun p H2 np e2 hp => ?_⟩
      refine ⟨by show 1 ≤ sizeLine; decide, fun l nl => ?_⟩
      have sa : (["a"] : List Str).all isW = true := by simp [wa]
      refine ⟨_, _, .lst (SqL.of (Ex.new nl _ _ hp)) (dpS ["a"]), .lst (SqL.of upd_same) (dpS ["a"]), shapeS sa, shapeS sa, _, rfl, ?_⟩
      rw [eqvS sa]
      refine ⟨by show 4 ≤ sizeLine; decide, fun t4 n4 => ?_⟩
      have Qb : QO K (upd (upd H2 l (.lst [.str "a"])) t4 (.tup [.str "near", .int 2, .str "b", .str "b"])) 5 (.ref t4) ["b", "b"] ["b", "b"] := ⟨t4, rfl, .inr (.inr (.inl ⟨2, "b", "b", SqT.of upd_same, by decide, by decide, wb, wb, rfl, rfl⟩))⟩
      refine ⟨.ref t4, _, _, rfl, Qb, by decide, by decide, fun p' H3 np' e3 hp' => ?_⟩
      refine ⟨by show 2 ≤ sizeLine; decide, fun l' nl' => ?_⟩
      have sb : (["b", "b"] : List Str).all isW = true := by simp [wb]
      refine ⟨_, _, .lst (SqL.of (Ex.new nl' _ _ hp')) (dpS ["b", "b"]), .lst (SqL.of upd_same) (dpS ["b", "b"]), shapeS sb, shapeS sb, ?_⟩
      rw [eqvS sb]
      exact q _

end
set_option maxHeartbeats 8000000 in
theorem all_mk {l : PySem.W.OpenLaw} {w : World} {K : PySem.W.Frag} {h : Heap} {mg : Str → Option Value} {fa : Addr} (X : K.In h) (G : h.Ns mainGlobals mg) (hfa : mg "law" = some (.ref fa))
    {f4 : Addr} {od4 an4 : Option Addr} {sl4 : Array (Option Value)} {oc4 kV4 dc4 pm4 cd4 ct4 : Value}
    (a4 : PySem.W.nsIn K mainGlobals "is_whole" = some (some (.ref f4))) (l4 : K.lookup f4 = some ⟨oc4, od4, .func (PySem.W.fnOf "is_whole" "is_whole" (defArgs (topS 4)) (defBody (topS 4)) (defScope (topS 4)) .none kV4 dc4 pm4 an4 cd4 ct4), sl4⟩) (c4 : PySem.W.codeIn K cd4 "is_whole" = true) (k4 : PySem.W.keepIn K (.ref f4) = true)
    {f5 : Addr} {od5 an5 : Option Addr} {sl5 : Array (Option Value)} {oc5 kV5 dc5 pm5 cd5 ct5 : Value}
    (a5 : PySem.W.nsIn K mainGlobals "is_within" = some (some (.ref f5))) (l5 : K.lookup f5 = some ⟨oc5, od5, .func (PySem.W.fnOf "is_within" "is_within" (defArgs (topS 5)) (defBody (topS 5)) (defScope (topS 5)) .none kV5 dc5 pm5 an5 cd5 ct5), sl5⟩) (c5 : PySem.W.codeIn K cd5 "is_within" = true) (k5 : PySem.W.keepIn K (.ref f5) = true)
    {f8 : Addr} {od8 an8 : Option Addr} {sl8 : Array (Option Value)} {oc8 kV8 dc8 pm8 cd8 ct8 : Value}
    (a8 : PySem.W.nsIn K mainGlobals "is_word" = some (some (.ref f8))) (l8 : K.lookup f8 = some ⟨oc8, od8, .func (PySem.W.fnOf "is_word" "is_word" (defArgs (topS 8)) (defBody (topS 8)) (defScope (topS 8)) .none kV8 dc8 pm8 an8 cd8 ct8), sl8⟩) (c8 : PySem.W.codeIn K cd8 "is_word" = true) (k8 : PySem.W.keepIn K (.ref f8) = true)
    {f9 : Addr} {od9 an9 : Option Addr} {sl9 : Array (Option Value)} {oc9 kV9 dc9 pm9 cd9 ct9 : Value}
    (a9 : PySem.W.nsIn K mainGlobals "are_words" = some (some (.ref f9))) (l9 : K.lookup f9 = some ⟨oc9, od9, .func (PySem.W.fnOf "are_words" "are_words" (defArgs (topS 9)) (defBody (topS 9)) (defScope (topS 9)) .none kV9 dc9 pm9 an9 cd9 ct9), sl9⟩) (c9 : PySem.W.codeIn K cd9 "are_words" = true) (k9 : PySem.W.keepIn K (.ref f9) = true)
    {f16 : Addr} {od16 an16 : Option Addr} {sl16 : Array (Option Value)} {oc16 kV16 dc16 pm16 cd16 ct16 : Value}
    (a16 : PySem.W.nsIn K mainGlobals "is_query" = some (some (.ref f16))) (l16 : K.lookup f16 = some ⟨oc16, od16, .func (PySem.W.fnOf "is_query" "is_query" (defArgs (topS 16)) (defBody (topS 16)) (defScope (topS 16)) .none kV16 dc16 pm16 an16 cd16 ct16), sl16⟩) (c16 : PySem.W.codeIn K cd16 "is_query" = true) (k16 : PySem.W.keepIn K (.ref f16) = true)
    {f17 : Addr} {od17 an17 : Option Addr} {sl17 : Array (Option Value)} {oc17 kV17 dc17 pm17 cd17 ct17 : Value}
    (a17 : PySem.W.nsIn K mainGlobals "check_query" = some (some (.ref f17))) (l17 : K.lookup f17 = some ⟨oc17, od17, .func (PySem.W.fnOf "check_query" "check_query" (defArgs (topS 17)) (defBody (topS 17)) (defScope (topS 17)) .none kV17 dc17 pm17 an17 cd17 ct17), sl17⟩) (c17 : PySem.W.codeIn K cd17 "check_query" = true) (k17 : PySem.W.keepIn K (.ref f17) = true)
    {f18 : Addr} {od18 an18 : Option Addr} {sl18 : Array (Option Value)} {oc18 kV18 dc18 pm18 cd18 ct18 : Value}
    (a18 : PySem.W.nsIn K mainGlobals "wanted" = some (some (.ref f18))) (l18 : K.lookup f18 = some ⟨oc18, od18, .func (PySem.W.fnOf "wanted" "wanted" (defArgs (topS 18)) (defBody (topS 18)) (defScope (topS 18)) .none kV18 dc18 pm18 an18 cd18 ct18), sl18⟩) (c18 : PySem.W.codeIn K cd18 "wanted" = true) (k18 : PySem.W.keepIn K (.ref f18) = true)
    {f19 : Addr} {od19 an19 : Option Addr} {sl19 : Array (Option Value)} {oc19 kV19 dc19 pm19 cd19 ct19 : Value}
    (a19 : PySem.W.nsIn K mainGlobals "is_built" = some (some (.ref f19))) (l19 : K.lookup f19 = some ⟨oc19, od19, .func (PySem.W.fnOf "is_built" "is_built" (defArgs (topS 19)) (defBody (topS 19)) (defScope (topS 19)) .none kV19 dc19 pm19 an19 cd19 ct19), sl19⟩) (c19 : PySem.W.codeIn K cd19 "is_built" = true) (k19 : PySem.W.keepIn K (.ref f19) = true)
    {f20 : Addr} {od20 an20 : Option Addr} {sl20 : Array (Option Value)} {oc20 kV20 dc20 pm20 cd20 ct20 : Value}
    (a20 : PySem.W.nsIn K mainGlobals "are_built" = some (some (.ref f20))) (l20 : K.lookup f20 = some ⟨oc20, od20, .func (PySem.W.fnOf "are_built" "are_built" (defArgs (topS 20)) (defBody (topS 20)) (defScope (topS 20)) .none kV20 dc20 pm20 an20 cd20 ct20), sl20⟩) (c20 : PySem.W.codeIn K cd20 "are_built" = true) (k20 : PySem.W.keepIn K (.ref f20) = true)
    {f21 : Addr} {od21 an21 : Option Addr} {sl21 : Array (Option Value)} {oc21 dc21 pm21 cd21 ct21 : Value} {D21 : Addr}
    (a21 : PySem.W.nsIn K mainGlobals "words_in" = some (some (.ref f21))) (l21 : K.lookup f21 = some ⟨oc21, od21, .func (PySem.W.fnOf "words_in" "words_in" (defArgs (topS 21)) (defBody (topS 21)) (defScope (topS 21)) .none (.ref D21) dc21 pm21 an21 cd21 ct21), sl21⟩) (c21 : PySem.W.codeIn K cd21 "words_in" = true) (k21 : PySem.W.keepIn K (.ref f21) = true)
    (d21_0 : PySem.W.nsIn K D21 "only_wanted" = some (some (.bool false)))
    {f23 : Addr} {od23 an23 : Option Addr} {sl23 : Array (Option Value)} {oc23 kV23 dc23 pm23 cd23 ct23 : Value}
    (a23 : PySem.W.nsIn K mainGlobals "_law_pool" = some (some (.ref f23))) (l23 : K.lookup f23 = some ⟨oc23, od23, .func (PySem.W.fnOf "_law_pool" "_law_pool" (defArgs (topS 23)) (defBody (topS 23)) (defScope (topS 23)) .none kV23 dc23 pm23 an23 cd23 ct23), sl23⟩) (c23 : PySem.W.codeIn K cd23 "_law_pool" = true) (k23 : PySem.W.keepIn K (.ref f23) = true)
    {f24 : Addr} {od24 an24 : Option Addr} {sl24 : Array (Option Value)} {oc24 kV24 dc24 pm24 cd24 ct24 : Value}
    (a24 : PySem.W.nsIn K mainGlobals "_law_take" = some (some (.ref f24))) (l24 : K.lookup f24 = some ⟨oc24, od24, .func (PySem.W.fnOf "_law_take" "_law_take" (defArgs (topS 24)) (defBody (topS 24)) (defScope (topS 24)) .none kV24 dc24 pm24 an24 cd24 ct24), sl24⟩) (c24 : PySem.W.codeIn K cd24 "_law_take" = true) (k24 : PySem.W.keepIn K (.ref f24) = true)
    {f25 : Addr} {od25 an25 : Option Addr} {sl25 : Array (Option Value)} {oc25 kV25 dc25 pm25 cd25 ct25 : Value}
    (a25 : PySem.W.nsIn K mainGlobals "_law_kinds" = some (some (.ref f25))) (l25 : K.lookup f25 = some ⟨oc25, od25, .func (PySem.W.fnOf "_law_kinds" "_law_kinds" (defArgs (topS 25)) (defBody (topS 25)) (defScope (topS 25)) .none kV25 dc25 pm25 an25 cd25 ct25), sl25⟩) (c25 : PySem.W.codeIn K cd25 "_law_kinds" = true) (k25 : PySem.W.keepIn K (.ref f25) = true)
    {f26 : Addr} {od26 an26 : Option Addr} {sl26 : Array (Option Value)} {oc26 kV26 dc26 pm26 cd26 ct26 : Value}
    (a26 : PySem.W.nsIn K mainGlobals "_law_query" = some (some (.ref f26))) (l26 : K.lookup f26 = some ⟨oc26, od26, .func (PySem.W.fnOf "_law_query" "_law_query" (defArgs (topS 26)) (defBody (topS 26)) (defScope (topS 26)) .none kV26 dc26 pm26 an26 cd26 ct26), sl26⟩) (c26 : PySem.W.codeIn K cd26 "_law_query" = true) (k26 : PySem.W.keepIn K (.ref f26) = true)
    {f27 : Addr} {od27 an27 : Option Addr} {sl27 : Array (Option Value)} {oc27 kV27 dc27 pm27 cd27 ct27 : Value}
    (a27 : PySem.W.nsIn K mainGlobals "_law_many" = some (some (.ref f27))) (l27 : K.lookup f27 = some ⟨oc27, od27, .func (PySem.W.fnOf "_law_many" "_law_many" (defArgs (topS 27)) (defBody (topS 27)) (defScope (topS 27)) .none kV27 dc27 pm27 an27 cd27 ct27), sl27⟩) (c27 : PySem.W.codeIn K cd27 "_law_many" = true) (k27 : PySem.W.keepIn K (.ref f27) = true)
    {f28 : Addr} {od28 an28 : Option Addr} {sl28 : Array (Option Value)} {oc28 kV28 dc28 pm28 cd28 ct28 : Value}
    (a28 : PySem.W.nsIn K mainGlobals "_law_wanted" = some (some (.ref f28))) (l28 : K.lookup f28 = some ⟨oc28, od28, .func (PySem.W.fnOf "_law_wanted" "_law_wanted" (defArgs (topS 28)) (defBody (topS 28)) (defScope (topS 28)) .none kV28 dc28 pm28 an28 cd28 ct28), sl28⟩) (c28 : PySem.W.codeIn K cd28 "_law_wanted" = true) (k28 : PySem.W.keepIn K (.ref f28) = true)
    {f29 : Addr} {od29 an29 : Option Addr} {sl29 : Array (Option Value)} {oc29 kV29 dc29 pm29 cd29 ct29 : Value}
    (a29 : PySem.W.nsIn K mainGlobals "law" = some (some (.ref f29))) (l29 : K.lookup f29 = some ⟨oc29, od29, .func (PySem.W.fnOf "law" "law" (defArgs (topS 29)) (defBody (topS 29)) (defScope (topS 29)) .none kV29 dc29 pm29 an29 cd29 ct29), sl29⟩) (c29 : PySem.W.codeIn K cd29 "law" = true) (k29 : PySem.W.keepIn K (.ref f29) = true)
    (z_abs : PySem.W.nsIn K mainGlobals "abs" = some none)
    (z_all : PySem.W.nsIn K mainGlobals "all" = some none)
    (z_bool : PySem.W.nsIn K mainGlobals "bool" = some none)
    (z_int : PySem.W.nsIn K mainGlobals "int" = some none)
    (z_isinstance : PySem.W.nsIn K mainGlobals "isinstance" = some none)
    (z_len : PySem.W.nsIn K mainGlobals "len" = some none)
    (z_list : PySem.W.nsIn K mainGlobals "list" = some none)
    (z_max : PySem.W.nsIn K mainGlobals "max" = some none)
    (z_min : PySem.W.nsIn K mainGlobals "min" = some none)
    (z_range : PySem.W.nsIn K mainGlobals "range" = some none)
    (z_str : PySem.W.nsIn K mainGlobals "str" = some none)
    (z_sum : PySem.W.nsIn K mainGlobals "sum" = some none)
    (z_tuple : PySem.W.nsIn K mainGlobals "tuple" = some none)
    {tk7 : Tok} (e7 : PySem.W.nsIn K mainGlobals "MOST_LETTERS" = some (some (.int 12 tk7)))
    {tk11 : Tok} (e11 : PySem.W.nsIn K mainGlobals "MOST_FAR" = some (some (.int 20 tk11)))
    {tk12 : Tok} (e12 : PySem.W.nsIn K mainGlobals "MOST_DEEP" = some (some (.int 5 tk12)))
    {tk13 : Tok} (e13 : PySem.W.nsIn K mainGlobals "MOST_ASKED" = some (some (.int 12 tk13)))
    {tk14 : Tok} (e14 : PySem.W.nsIn K mainGlobals "MOST_PHRASED" = some (some (.int 5 tk14)))
    {tk15 : Tok} (e15 : PySem.W.nsIn K mainGlobals "MOST_JOINED" = some (some (.int 4 tk15)))
    {f1 : Addr} (a1 : PySem.W.nsIn K mainGlobals "Wrong" = some (some (.ref f1)))
    {f2 : Addr} (a2 : PySem.W.nsIn K mainGlobals "NoQuery" = some (some (.ref f2)))
    : ∃ fd : FuncData, (∀ (s : Shared) (v : Value), BindsTo s fd ⟨[v], []⟩ [("_law_script", v)]) ∧ ∀ base : Heap, K.In base → base.Ns mainGlobals mg → FnOk l.prog w K mg base CX0 17 fa fd ["_law_script"] (spLaw K) := by
  have e := hfa.symm.trans (PySem.W.mg_of X G a29)
  cases e
  let A : Nat → Addr := fun i => ([0, f1, f2, 0, f4, f5, 0, 0, f8, f9, 0, 0, 0, 0, 0, 0, f16, f17, f18, f19, f20, f21, 0, f23, f24, f25, f26, f27, f28, fa] : List Addr).getD i 0
  let FD : Nat → FuncData := fun i => ([PySem.W.fnOf "law" "law" (defArgs (topS 29)) (defBody (topS 29)) (defScope (topS 29)) .none kV29 dc29 pm29 an29 cd29 ct29, PySem.W.fnOf "law" "law" (defArgs (topS 29)) (defBody (topS 29)) (defScope (topS 29)) .none kV29 dc29 pm29 an29 cd29 ct29, PySem.W.fnOf "law" "law" (defArgs (topS 29)) (defBody (topS 29)) (defScope (topS 29)) .none kV29 dc29 pm29 an29 cd29 ct29, PySem.W.fnOf "law" "law" (defArgs (topS 29)) (defBody (topS 29)) (defScope (topS 29)) .none kV29 dc29 pm29 an29 cd29 ct29, PySem.W.fnOf "is_whole" "is_whole" (defArgs (topS 4)) (defBody (topS 4)) (defScope (topS 4)) .none kV4 dc4 pm4 an4 cd4 ct4, PySem.W.fnOf "is_within" "is_within" (defArgs (topS 5)) (defBody (topS 5)) (defScope (topS 5)) .none kV5 dc5 pm5 an5 cd5 ct5, PySem.W.fnOf "law" "law" (defArgs (topS 29)) (defBody (topS 29)) (defScope (topS 29)) .none kV29 dc29 pm29 an29 cd29 ct29, PySem.W.fnOf "law" "law" (defArgs (topS 29)) (defBody (topS 29)) (defScope (topS 29)) .none kV29 dc29 pm29 an29 cd29 ct29, PySem.W.fnOf "is_word" "is_word" (defArgs (topS 8)) (defBody (topS 8)) (defScope (topS 8)) .none kV8 dc8 pm8 an8 cd8 ct8, PySem.W.fnOf "are_words" "are_words" (defArgs (topS 9)) (defBody (topS 9)) (defScope (topS 9)) .none kV9 dc9 pm9 an9 cd9 ct9, PySem.W.fnOf "law" "law" (defArgs (topS 29)) (defBody (topS 29)) (defScope (topS 29)) .none kV29 dc29 pm29 an29 cd29 ct29, PySem.W.fnOf "law" "law" (defArgs (topS 29)) (defBody (topS 29)) (defScope (topS 29)) .none kV29 dc29 pm29 an29 cd29 ct29, PySem.W.fnOf "law" "law" (defArgs (topS 29)) (defBody (topS 29)) (defScope (topS 29)) .none kV29 dc29 pm29 an29 cd29 ct29, PySem.W.fnOf "law" "law" (defArgs (topS 29)) (defBody (topS 29)) (defScope (topS 29)) .none kV29 dc29 pm29 an29 cd29 ct29, PySem.W.fnOf "law" "law" (defArgs (topS 29)) (defBody (topS 29)) (defScope (topS 29)) .none kV29 dc29 pm29 an29 cd29 ct29, PySem.W.fnOf "law" "law" (defArgs (topS 29)) (defBody (topS 29)) (defScope (topS 29)) .none kV29 dc29 pm29 an29 cd29 ct29, PySem.W.fnOf "is_query" "is_query" (defArgs (topS 16)) (defBody (topS 16)) (defScope (topS 16)) .none kV16 dc16 pm16 an16 cd16 ct16, PySem.W.fnOf "check_query" "check_query" (defArgs (topS 17)) (defBody (topS 17)) (defScope (topS 17)) .none kV17 dc17 pm17 an17 cd17 ct17, PySem.W.fnOf "wanted" "wanted" (defArgs (topS 18)) (defBody (topS 18)) (defScope (topS 18)) .none kV18 dc18 pm18 an18 cd18 ct18, PySem.W.fnOf "is_built" "is_built" (defArgs (topS 19)) (defBody (topS 19)) (defScope (topS 19)) .none kV19 dc19 pm19 an19 cd19 ct19, PySem.W.fnOf "are_built" "are_built" (defArgs (topS 20)) (defBody (topS 20)) (defScope (topS 20)) .none kV20 dc20 pm20 an20 cd20 ct20, PySem.W.fnOf "words_in" "words_in" (defArgs (topS 21)) (defBody (topS 21)) (defScope (topS 21)) .none (.ref D21) dc21 pm21 an21 cd21 ct21, PySem.W.fnOf "law" "law" (defArgs (topS 29)) (defBody (topS 29)) (defScope (topS 29)) .none kV29 dc29 pm29 an29 cd29 ct29, PySem.W.fnOf "_law_pool" "_law_pool" (defArgs (topS 23)) (defBody (topS 23)) (defScope (topS 23)) .none kV23 dc23 pm23 an23 cd23 ct23, PySem.W.fnOf "_law_take" "_law_take" (defArgs (topS 24)) (defBody (topS 24)) (defScope (topS 24)) .none kV24 dc24 pm24 an24 cd24 ct24, PySem.W.fnOf "_law_kinds" "_law_kinds" (defArgs (topS 25)) (defBody (topS 25)) (defScope (topS 25)) .none kV25 dc25 pm25 an25 cd25 ct25, PySem.W.fnOf "_law_query" "_law_query" (defArgs (topS 26)) (defBody (topS 26)) (defScope (topS 26)) .none kV26 dc26 pm26 an26 cd26 ct26, PySem.W.fnOf "_law_many" "_law_many" (defArgs (topS 27)) (defBody (topS 27)) (defScope (topS 27)) .none kV27 dc27 pm27 an27 cd27 ct27, PySem.W.fnOf "_law_wanted" "_law_wanted" (defArgs (topS 28)) (defBody (topS 28)) (defScope (topS 28)) .none kV28 dc28 pm28 an28 cd28 ct28, PySem.W.fnOf "law" "law" (defArgs (topS 29)) (defBody (topS 29)) (defScope (topS 29)) .none kV29 dc29 pm29 an29 cd29 ct29] : List FuncData).getD i (PySem.W.fnOf "law" "law" (defArgs (topS 29)) (defBody (topS 29)) (defScope (topS 29)) .none kV29 dc29 pm29 an29 cd29 ct29)
  let TK : Nat → Tok := fun i => ([0, 0, 0, 0, 0, 0, 0, tk7, 0, 0, 0, tk11, tk12, tk13, tk14, tk15] : List Tok).getD i 0
  have T : TX K mg A FD TK := {
    f_is_whole := fun_mk (st := topS 4) l4 c4 k4
    b_is_whole := (fun_mk (st := topS 4) l4 c4 k4).binds (ps := ["thing"]) fun _ _ _ _ _ _ us hl => match us, hl with | [_], _ => rfl
    g_is_whole := PySem.W.mg_of X G a4
    f_is_within := fun_mk (st := topS 5) l5 c5 k5
    b_is_within := (fun_mk (st := topS 5) l5 c5 k5).binds (ps := ["thing", "least", "most"]) fun _ _ _ _ _ _ us hl => match us, hl with | [_, _, _], _ => rfl
    g_is_within := PySem.W.mg_of X G a5
    f_is_word := fun_mk (st := topS 8) l8 c8 k8
    b_is_word := (fun_mk (st := topS 8) l8 c8 k8).binds (ps := ["thing"]) fun _ _ _ _ _ _ us hl => match us, hl with | [_], _ => rfl
    g_is_word := PySem.W.mg_of X G a8
    f_are_words := fun_mk (st := topS 9) l9 c9 k9
    b_are_words := (fun_mk (st := topS 9) l9 c9 k9).binds (ps := ["things"]) fun _ _ _ _ _ _ us hl => match us, hl with | [_], _ => rfl
    g_are_words := PySem.W.mg_of X G a9
    f_is_query := fun_mk (st := topS 16) l16 c16 k16
    b_is_query := (fun_mk (st := topS 16) l16 c16 k16).binds (ps := ["thing"]) fun _ _ _ _ _ _ us hl => match us, hl with | [_], _ => rfl
    g_is_query := PySem.W.mg_of X G a16
    f_check_query := fun_mk (st := topS 17) l17 c17 k17
    b_check_query := (fun_mk (st := topS 17) l17 c17 k17).binds (ps := ["query"]) fun _ _ _ _ _ _ us hl => match us, hl with | [_], _ => rfl
    g_check_query := PySem.W.mg_of X G a17
    f_wanted := fun_mk (st := topS 18) l18 c18 k18
    b_wanted := (fun_mk (st := topS 18) l18 c18 k18).binds (ps := ["query"]) fun _ _ _ _ _ _ us hl => match us, hl with | [_], _ => rfl
    g_wanted := PySem.W.mg_of X G a18
    f_is_built := fun_mk (st := topS 19) l19 c19 k19
    b_is_built := (fun_mk (st := topS 19) l19 c19 k19).binds (ps := ["thing", "deep"]) fun _ _ _ _ _ _ us hl => match us, hl with | [_, _], _ => rfl
    g_is_built := PySem.W.mg_of X G a19
    f_are_built := fun_mk (st := topS 20) l20 c20 k20
    b_are_built := (fun_mk (st := topS 20) l20 c20 k20).binds (ps := ["things", "deep"]) fun _ _ _ _ _ _ us hl => match us, hl with | [_, _], _ => rfl
    g_are_built := PySem.W.mg_of X G a20
    f_words_in := ⟨⟨oc21, od21, .none, .ref D21, dc21, pm21, an21, cd21, ct21, sl21, rfl, l21, c21, .inl ⟨rfl, rfl⟩, .inr ⟨D21, rfl, fun q hq => by
        simp only [List.mem_cons, List.not_mem_nil, or_false] at hq
        subst hq
        exact ⟨_, d21_0, rfl⟩⟩⟩, k21⟩
    g_words_in := PySem.W.mg_of X G a21
    f_l_pool := fun_mk (st := topS 23) l23 c23 k23
    b_l_pool := (fun_mk (st := topS 23) l23 c23 k23).binds (ps := ["_law_script", "_law_at"]) fun _ _ _ _ _ _ us hl => match us, hl with | [_, _], _ => rfl
    g_l_pool := PySem.W.mg_of X G a23
    f_l_take := fun_mk (st := topS 24) l24 c24 k24
    b_l_take := (fun_mk (st := topS 24) l24 c24 k24).binds (ps := ["_law_pool_here", "_law_many_here"]) fun _ _ _ _ _ _ us hl => match us, hl with | [_, _], _ => rfl
    g_l_take := PySem.W.mg_of X G a24
    f_l_kinds := fun_mk (st := topS 25) l25 c25 k25
    b_l_kinds := (fun_mk (st := topS 25) l25 c25 k25).binds (ps := ["_law_pool_here"]) fun _ _ _ _ _ _ us hl => match us, hl with | [_], _ => rfl
    g_l_kinds := PySem.W.mg_of X G a25
    f_l_query := fun_mk (st := topS 26) l26 c26 k26
    b_l_query := (fun_mk (st := topS 26) l26 c26 k26).binds (ps := ["_law_pool_here", "_law_kinds_here", "_law_deep", "_law_most"]) fun _ _ _ _ _ _ us hl => match us, hl with | [_, _, _, _], _ => rfl
    g_l_query := PySem.W.mg_of X G a26
    f_l_many := fun_mk (st := topS 27) l27 c27 k27
    b_l_many := (fun_mk (st := topS 27) l27 c27 k27).binds (ps := ["_law_query_here"]) fun _ _ _ _ _ _ us hl => match us, hl with | [_], _ => rfl
    g_l_many := PySem.W.mg_of X G a27
    f_l_wanted := fun_mk (st := topS 28) l28 c28 k28
    b_l_wanted := (fun_mk (st := topS 28) l28 c28 k28).binds (ps := ["_law_query_here"]) fun _ _ _ _ _ _ us hl => match us, hl with | [_], _ => rfl
    g_l_wanted := PySem.W.mg_of X G a28
    f_law := fun_mk (st := topS 29) l29 c29 k29
    b_law := (fun_mk (st := topS 29) l29 c29 k29).binds (ps := ["_law_script"]) fun _ _ _ _ _ _ us hl => match us, hl with | [_], _ => rfl
    g_law := PySem.W.mg_of X G a29
    m_abs := PySem.W.mg_none_of X G z_abs
    m_all := PySem.W.mg_none_of X G z_all
    m_bool := PySem.W.mg_none_of X G z_bool
    m_int := PySem.W.mg_none_of X G z_int
    m_isinstance := PySem.W.mg_none_of X G z_isinstance
    m_len := PySem.W.mg_none_of X G z_len
    m_list := PySem.W.mg_none_of X G z_list
    m_max := PySem.W.mg_none_of X G z_max
    m_min := PySem.W.mg_none_of X G z_min
    m_range := PySem.W.mg_none_of X G z_range
    m_str := PySem.W.mg_none_of X G z_str
    m_sum := PySem.W.mg_none_of X G z_sum
    m_tuple := PySem.W.mg_none_of X G z_tuple
    c_MOST_LETTERS := PySem.W.mg_of X G e7
    c_MOST_FAR := PySem.W.mg_of X G e11
    c_MOST_DEEP := PySem.W.mg_of X G e12
    c_MOST_ASKED := PySem.W.mg_of X G e13
    c_MOST_PHRASED := PySem.W.mg_of X G e14
    c_MOST_JOINED := PySem.W.mg_of X G e15
    k_Wrong := PySem.W.mg_of X G a1
    k_NoQuery := PySem.W.mg_of X G a2 }
  exact ⟨FD 29, fun s v => .of_eq rfl, fun base _ _ => ok_law T⟩
end K20
open PySem PySem.W PyProof.Rows
set_option maxHeartbeats 0 in
theorem PySem.Challenge.cw_blocksearch_k20_words_wanted_holds : PySem.Challenge.rw_blocksearch_k20_words_wanted.Holds := by
  w_on; o_law; k_head; (case hw => w_witness2)
  k_fill
  refine L2.walk_of (l := PySem.Challenge.rw_blocksearch_k20_words_wanted) (n := 63) (k := 17) (x := "_law_script") (CX := fun _ => L2.CX0) (sp := fun w => K20.spLaw _) rfl (by decide) rfl ⟨rfl, by decide, by decide⟩ (fun w h Y => PySem.W.kIn_of Y) ?F (fun _ _ a ns hl _ hS => ⟨a, ns, rfl, hS, hl, fun _ => rfl⟩) (fun _ _ _ _ _ h => h)
  case F =>
    intro w mg fa h KX G hmg
    refine' K20.all_mk KX G hmg ?a4 ?l4 ?c4 ?k4 ?a5 ?l5 ?c5 ?k5 ?a8 ?l8 ?c8 ?k8 ?a9 ?l9 ?c9 ?k9 ?a16 ?l16 ?c16 ?k16 ?a17 ?l17 ?c17 ?k17 ?a18 ?l18 ?c18 ?k18 ?a19 ?l19 ?c19 ?k19 ?a20 ?l20 ?c20 ?k20 ?a21 ?l21 ?c21 ?k21 ?d21_0 ?a23 ?l23 ?c23 ?k23 ?a24 ?l24 ?c24 ?k24 ?a25 ?l25 ?c25 ?k25 ?a26 ?l26 ?c26 ?k26 ?a27 ?l27 ?c27 ?k27 ?a28 ?l28 ?c28 ?k28 ?a29 ?l29 ?c29 ?k29 ?z_abs ?z_all ?z_bool ?z_int ?z_isinstance ?z_len ?z_list ?z_max ?z_min ?z_range ?z_str ?z_sum ?z_tuple ?e7 ?e11 ?e12 ?e13 ?e14 ?e15 ?a1 ?a2
    (case a4 => k_is)
    (case l4 => k_is)
    (case c4 => k_is)
    (case k4 => k_is)
    (case a5 => k_is)
    (case l5 => k_is)
    (case c5 => k_is)
    (case k5 => k_is)
    (case a8 => k_is)
    (case l8 => k_is)
    (case c8 => k_is)
    (case k8 => k_is)
    (case a9 => k_is)
    (case l9 => k_is)
    (case c9 => k_is)
    (case k9 => k_is)
    (case a16 => k_is)
    (case l16 => k_is)
    (case c16 => k_is)
    (case k16 => k_is)
    (case a17 => k_is)
    (case l17 => k_is)
    (case c17 => k_is)
    (case k17 => k_is)
    (case a18 => k_is)
    (case l18 => k_is)
    (case c18 => k_is)
    (case k18 => k_is)
    (case a19 => k_is)
    (case l19 => k_is)
    (case c19 => k_is)
    (case k19 => k_is)
    (case a20 => k_is)
    (case l20 => k_is)
    (case c20 => k_is)
    (case k20 => k_is)
    (case a21 => k_is)
    (case l21 => k_is)
    (case c21 => k_is)
    (case k21 => k_is)
    (case d21_0 => k_is)
    (case a23 => k_is)
    (case l23 => k_is)
    (case c23 => k_is)
    (case k23 => k_is)
    (case a24 => k_is)
    (case l24 => k_is)
    (case c24 => k_is)
    (case k24 => k_is)
    (case a25 => k_is)
    (case l25 => k_is)
    (case c25 => k_is)
    (case k25 => k_is)
    (case a26 => k_is)
    (case l26 => k_is)
    (case c26 => k_is)
    (case k26 => k_is)
    (case a27 => k_is)
    (case l27 => k_is)
    (case c27 => k_is)
    (case k27 => k_is)
    (case a28 => k_is)
    (case l28 => k_is)
    (case c28 => k_is)
    (case k28 => k_is)
    (case a29 => k_is)
    (case l29 => k_is)
    (case c29 => k_is)
    (case k29 => k_is)
    (case z_abs => k_is)
    (case z_all => k_is)
    (case z_bool => k_is)
    (case z_int => k_is)
    (case z_isinstance => k_is)
    (case z_len => k_is)
    (case z_list => k_is)
    (case z_max => k_is)
    (case z_min => k_is)
    (case z_range => k_is)
    (case z_str => k_is)
    (case z_sum => k_is)
    (case z_tuple => k_is)
    (case e7 => k_is)
    (case e11 => k_is)
    (case e12 => k_is)
    (case e13 => k_is)
    (case e14 => k_is)
    (case e15 => k_is)
    (case a1 => k_is)
    (case a2 => k_is)

