import PyProof.Rows.All
import Wide.All
import OpenK.AllK
import Wide.FinOn
import HandS.ForMost
import HandS.Defaults
import HandS.IsInst
import HandS.Walk
import HandS.Exc
import HandS.TryOnly
import HandS.ExcOwn
import HandS.WordsExc
import HandS.ExcIs
import HandS.HotCalls
import HandS.Lambda
import HandS.EndTab
import HandS.Evl
import KE.KExcIs
import KE.KNestM
import PySem.Challenge.RW_blocksearch_k01_words_known
set_option Elab.async false
set_option linter.all false
set_option maxRecDepth 100000
/-! words of my own: the drawn pool, heaps that grow beside it, small facts -/
namespace My
open PySem PySem.Spec PyProof.Rows L2 Evl

/-- the pool at p: three ints, at most c draws mixed so far -/
def Pl (H : Hp) (p : Addr) (c : Nat) : Prop := ∃ (g b : Int) (k : Nat), H p = some (.lst [.int g, .int b, .int (k : Int)]) ∧ 0 ≤ g ∧ 0 ≤ b ∧ b < 281474976710656 ∧ k ≤ c
/-- all but p stays -/
def Fx (p : Addr) (H H' : Hp) : Prop := ∀ a o, a ≠ p → H a = some o → H' a = some o
theorem Fx.refl (p : Addr) (H : Hp) : Fx p H H := fun _ _ _ h => h
theorem Fx.trans {p : Addr} {H H1 H2 : Hp} (a : Fx p H H1) (b : Fx p H1 H2) : Fx p H H2 := fun x o n h => b x o n (a x o n h)
theorem Fx.ex {p : Addr} {H H' : Hp} (e : Ex H H') : Fx p H H' := fun a o _ h => e a o h
theorem Fx.upd {p : Addr} {H : Hp} {o : HO} : Fx p H (L2.upd H p o) := fun a u n h => by
  rw [upd_ne n]
  exact h
theorem Pl.mono {H : Hp} {p : Addr} {c c' : Nat} (h : Pl H p c) (l : c ≤ c') : Pl H p c' := by
  obtain ⟨g, b, k, h1, h2, h3, h4, h5⟩ := h
  exact ⟨g, b, k, h1, h2, h3, h4, Nat.le_trans h5 l⟩
theorem Pl.ex {H H' : Hp} {p : Addr} {c : Nat} (h : Pl H p c) (e : Ex H H') : Pl H' p c := by
  obtain ⟨g, b, k, h1, h2⟩ := h
  exact ⟨g, b, k, e _ _ h1, h2⟩
theorem Pl.some {H : Hp} {p : Addr} {c : Nat} (h : Pl H p c) : ∃ xs, H p = some (.lst xs) := by
  obtain ⟨g, b, k, h1, _⟩ := h
  exact ⟨_, h1⟩
/-- what is free behind was free ahead -/
theorem fx_free {p a : Addr} {H H' : Hp} {c : Nat} (f : Fx p H H') (h : Pl H' p c) (e : H' a = none) : H a = none := by
  cases q : H a with
  | none => rfl
  | some o =>
    have n : a ≠ p := fun z => by
      obtain ⟨xs, hx⟩ := h.some
      rw [z, hx] at e
      cases e
    rw [f a o n q] at e
    cases e
/-- a tuple is not the pool -/
theorem Fx.tup {p a : Addr} {H H' : Hp} {xs : List V} {c : Nat} (f : Fx p H H') (hp : Pl H p c) (h : H a = some (.tup xs)) : H' a = some (.tup xs) := by
  obtain ⟨ys, hy⟩ := hp.some
  exact f a _ (ne_of h hy (by intro z; cases z)) h
theorem Fx.sqt {K : PySem.W.Frag} {p a : Addr} {H H' : Hp} {xs : List V} {c : Nat} (f : Fx p H H') (hp : Pl H p c) (h : SqT K H a xs) : SqT K H' a xs := by
  obtain ⟨ys, hy⟩ := hp.some
  rcases h with (h | ⟨o, h⟩) | h
  · exact .inl (.inl (f a _ (ne_of h hy (by intro z; cases z)) h))
  · exact .inl (.inr ⟨o, f a _ (ne_of h hy (by intro z; cases z)) h⟩)
  · exact .inr h
theorem Fx.lst {p a : Addr} {H H' : Hp} {xs : List V} (f : Fx p H H') (n : a ≠ p) (h : H a = some (.lst xs)) : H' a = some (.lst xs) := f a _ n h
theorem ex_upd {H : Hp} {p : Addr} {o : HO} (h : H p = none) : Ex H (L2.upd H p o) := Ex.new h
theorem ret_v {v : V} {H : Hp} {Q : VK} (q : RetV v H Q) : Q v H := q H (Ex.refl H)
theorem sz {n : Nat} (h : n ≤ 100000) : n ≤ sizeLine := sz_of h
theorem natAbs_lt {z : Int} {n : Nat} (h0 : 0 ≤ z) (h : z < (n : Int)) : z.natAbs < n := by omega
/-- a * b ≤ A * B -/
theorem mul_le {a b A B : Int} (h0 : 0 ≤ a) (h1 : a ≤ A) (h2 : 0 ≤ b) (h3 : b ≤ B) : a * b ≤ A * B := Int.mul_le_mul h1 h3 h2 (Int.le_trans h0 h1)
theorem mul_nn {a b : Int} (h0 : 0 ≤ a) (h1 : 0 ≤ b) : 0 ≤ a * b := Int.mul_nonneg h0 h1
/-! the rules with the written part said, for blocks of comprehensions -/
section
variable {X : Cx} {K : PySem.W.Frag}
theorem lenK (h : X.K = K) : CallR X (.builtin "len") (rLenS K) := by subst h; exact call_len_seq
theorem listK (h : X.K = K) : CallR X (.type "list") (rListS K) := by subst h; exact call_list_of
def rTupS (K : PySem.W.Frag) : List V → Hp → VK → Prop := fun xs H Q => ∃ p ys, xs = [.ref p] ∧ ((SqL K H p ys ∧ ∀ l, H l = none → Q (.ref l) (L2.upd H l (.tup ys))) ∨ (SqT K H p ys ∧ Q (.ref p) H))
theorem tupK (h : X.K = K) : CallR X (.type "tuple") (rTupS K) := by subst h; exact call_tuple_of
theorem ixLK (h : X.K = K) : IxR X (rIxL K) := by subst h; exact ix_list
theorem ixTK (h : X.K = K) : IxR X (rIxT K) := by subst h; exact ix_tup
theorem slLK (h : X.K = K) : SlR X (rSlL K) := by subst h; exact sl_list
theorem slTK (h : X.K = K) : SlR X (rSlT K) := by subst h; exact sl_tup
theorem catTK (h : X.K = K) : OpR X (binaryOp .Add) (rCatT K) := by subst h; exact op_catT
theorem inK (h : X.K = K) : OpR X (compareOp .In) (rIn K false) := by subst h; exact op_in_seq
theorem notInK (h : X.K = K) : OpR X (compareOp .NotIn) (rIn K true) := by subst h; exact op_notIn_seq
theorem isiK (h : X.K = K) : CallR X (.builtin "isinstance") (rIsi K) := by subst h; exact call_isi
theorem isiTK (h : X.K = K) : CallR X (.builtin "isinstance") (rIsiT K) := by subst h; exact call_isiT
theorem allK (h : X.K = K) (hc : X.calm = true) : CallR X (.builtin "all") (rAll K) := by subst h; exact cr_all hc
theorem anyK (h : X.K = K) (hc : X.calm = true) : CallR X (.builtin "any") (rAny K) := by subst h; exact cr_any hc
theorem sumK (h : X.K = K) (hc : X.calm = true) : CallR X (.builtin "sum") (rSum K) := by subst h; exact cr_sum hc
theorem maxK (h : X.K = K) (hc : X.calm = true) : CallR X (.builtin "max") (rMax K) := by subst h; exact cr_max hc
theorem minK (h : X.K = K) (hc : X.calm = true) : CallR X (.builtin "min") (rMin K) := by subst h; exact cr_min hc
theorem fldK {e : Expr} {f : Str} {pos : Pos} {ta : TE} (h : X.K = K) (he : PE X e ta) (hb : attributeBase e f X.env (eval e X.env) = eval e X.env) : PE X (.Attribute e f pos) (tFld K ta f) := by subst h; exact pe_fld he hb
theorem tupGK {es : List Expr} {k : Nat} {t : TGs} {n : Nat} {pos : Pos} (h : X.K = K) (hc : X.calm = true) (hg : PGs X es t) (hn : (assignEach es X.env).length = n := by rfl) (hst : (assignEach es X.env).findIdx? (·.1) = none := by rfl) : PG X (.Tuple es k pos) (gTup K n t) := by subst h; exact pg_tup hc hg hn hst
theorem eqDK (h : X.K = K) (hu : X.A.units + 64 < cLine) : OpR X (compareOp .Eq) (rEqD K) := by subst h; exact op_eqD hu
theorem neDK (h : X.K = K) (hu : X.A.units + 64 < cLine) : OpR X (compareOp .NotEq) (rNeD K) := by subst h; exact op_neD hu
theorem indexK (h : X.K = K) : MtR X "list.index" (rIndex K) := by subst h; exact mt_index
theorem piOr {tg e : Expr} {w1 w2 : TI} (h1 : PI X tg e w1) (h2 : PI X tg e w2) : PI X tg e (fun σ H R => w1 σ H R ∨ w2 σ H R) := ⟨fun pins s σ H R I h => h.elim (fun h => h1.run pins s σ H R I h) (fun h => h2.run pins s σ H R I h)⟩
theorem piLK {tg l : Expr} {tl : TE} (h : X.K = K) (hl : PE X l tl) : PI X tg l (iList K tl) := by subst h; exact pi_list hl
theorem piTK {tg l : Expr} {tl : TE} (h : X.K = K) (hl : PE X l tl) : PI X tg l (iTup K tl) := by subst h; exact pi_tup hl
end
end My
/-! several except clauses with a name, each over one class or a tuple of them -/
namespace My
open PySem PySem.Spec PyProof.Rows L2 Evl
/-- the matching of an exception with the classes of a tuple -/
theorem loop_all {M : Model} {A : Around} {E : Value → Shared → Prop} {s : Shared} {f : Value → PUnit → Sem (ForInStep PUnit)} : ∀ {cs : List Value}, (∀ c ∈ cs, ∀ Q : ForInStep PUnit → Shared → Prop, Q (.yield ()) s → wpAny M A (f c ()) Q E s) →
    ∀ {Q : PUnit → Shared → Prop}, Q () s → wpAny M A (forIn cs PUnit.unit f) Q E s
  | [], _, Q, q => by
    rw [List.forIn_nil]
    exact wpAny_pure q
  | c :: r, hf, Q, q => by
    rw [List.forIn_cons]
    exact wpAny_bind (hf c (List.mem_cons_self ..) _ (loop_all (fun x hx => hf x (List.mem_cons_of_mem _ hx)) q))
theorem loop_any {M : Model} {A : Around} {E : Value → Shared → Prop} {s : Shared} {K : PySem.W.Frag} {cls : Value} {f : Value → Option Bool × PUnit → Sem (ForInStep (Option Bool × PUnit))} :
    ∀ {cs : List Value} {b : Bool}, PySem.W.exmAny K cls cs = some b →
      (∀ c b1, PySem.W.exmOne K cls c = some b1 → ∀ Q : ForInStep (Option Bool × PUnit) → Shared → Prop, Q (if b1 then .done (some true, ()) else .yield (none, ())) s → wpAny M A (f c (none, ())) Q E s) →
    ∀ {Q : Option Bool × PUnit → Shared → Prop}, Q (if b then some true else none, ()) s → wpAny M A (forIn cs ((none, ()) : Option Bool × PUnit) f) Q E s
  | [], b, hx, _, Q, q => by
    rw [List.forIn_nil]
    cases (show some false = some b from hx)
    exact wpAny_pure q
  | c :: r, b, hx, hf, Q, q => by
    obtain ⟨b1, d1, x1, x2, e⟩ := PySem.W.exmAny_cons hx
    rw [List.forIn_cons]
    refine wpAny_bind (hf c b1 x1 _ ?_)
    cases b1 with
    | true =>
      rw [e] at q
      exact wpAny_pure q
    | false =>
      rw [e] at q
      exact loop_any x2 hf q
theorem exm_in {K : PySem.W.Frag} {cls : Value} : ∀ {cs : List Value} {b : Bool}, PySem.W.exmAny K cls cs = some b → ∀ c ∈ cs, ∃ b1, PySem.W.exmOne K cls c = some b1
  | [], _, _, c, h => absurd h (by simp)
  | x :: r, b, hx, c, h => by
    obtain ⟨b1, d1, x1, x2, e⟩ := PySem.W.exmAny_cons hx
    rcases List.mem_cons.mp h with rfl | h
    · exact ⟨b1, x1⟩
    · exact exm_in x2 c h
theorem exm_many {M : Model} {K : PySem.W.Frag} {cls : Value} {e tp : Addr} {b : Bool} {h : Heap} {cs : List Value} {o : Obj} {n : Nat} (KX : K.In h) (LT : PySem.W.Looks M h (typeOf (.ref e)) cls)
    (ho : h.get? tp = some o) (hc : o.cls = .type "tuple") (hd : o.data = .seq cs.toArray n) (hx : PySem.W.exmAny K cls cs = some b) : PySem.W.Looks M h (excMatches (.ref e) (.ref tp)) b := by
  have ty : PySem.W.Looks M h (isInstance (.ref tp) (.type "tuple")) true := by
    have l0 : PySem.W.Looks M h (typeOf (.ref tp)) (.type "tuple") := fun A Q E s k q => wpAny_typeOf_ref (k _ _ ho) (by rw [hc]; exact q)
    exact l0.andThen (PySem.W.Looks.of_pure isSubtype_tuple_tuple)
  intro A Q E s k q
  unfold excMatches
  refine wpAny_bind ((ty.keeps k).here ?_)
  rw [if_pos rfl]
  refine wpAny_bind (wpAny_seqItems (k _ _ ho) hd ?_)
  refine wpAny_bind (wpAny_pure ?_)
  refine wpAny_bind (loop_all (fun c hm Q' q' => ?_) ?_)
  · obtain ⟨b1, x1⟩ := exm_in hx c (by simpa using hm)
    obtain ⟨l1, _⟩ := PySem.W.exm_cls (M := M) KX x1
    refine wpAny_bind ((l1.keeps k).here ?_)
    exact wpAny_pure q'
  · refine wpAny_bind ((LT.keeps k).here (wpAny_bind (loop_any (cs := cs) hx (fun c b1 x1 Q' q' => ?_) ?_)))
    · obtain ⟨_, l2⟩ := PySem.W.exm_cls (M := M) KX x1
      refine wpAny_bind ((l2.keeps k).here ?_)
      cases b1 with
      | true => exact wpAny_pure q'
      | false => exact wpAny_pure q'
    · cases b with
      | true => exact wpAny_pure q
      | false => exact wpAny_pure q
/-- what a clause's classes are: the test is run in the suite's context, it may lay a tuple -/
def TestR (X : Cx) (t : Expr) (cs : List Value) : Prop := ∀ (a : Addr) (pn : List (Addr × Obj)) (σ : L2.St) (H : Hp) (s : Shared) (cls : Value) (b : Bool) (Q : Bool → Shared → Prop) (E : Value → Shared → Prop),
  Inv (X.suite a pn) [] σ H s → PySem.W.Looks (model X.prog X.w) s.heap (typeOf (.ref a)) cls → PySem.W.exmAny X.K cls cs = some b →
    (∀ h', (∀ x o, s.heap.get? x = some o → h'.get? x = some o) → Q b { s with heap := h' }) →
    wpAny (model X.prog X.w) (X.A.mark (some (.ref a))) (eval t X.env) (fun c s₁ => wpAny (model X.prog X.w) (X.A.mark (some (.ref a))) (excMatches (.ref a) c) Q E s₁) E s
theorem name_runs {X : Cx} {x : Str} {c : Value} {np : Pos} (hc : Names X x c) {a : Addr} {pn : List (Addr × Obj)} {σ : L2.St} {H : Hp} {s : Shared} (I : Inv (X.suite a pn) [] σ H s) {Q : Value → Shared → Prop} {E : Value → Shared → Prop} (q : Q c s) :
    wpAny (model X.prog X.w) (X.A.mark (some (.ref a))) (eval (.Name x np) X.env) Q E s := by
  obtain ⟨g1, g2, g3 | ⟨g3, g4, g5⟩⟩ := hc
  · exact ld_glob (X := X.suite a pn) I g1 g3 q g2
  · exact ld_blt (X := X.suite a pn) I g1 g3 g4 q g5 g2
theorem test_name {X : Cx} {x : Str} {c : Value} {np : Pos} (hc : Names X x c) : TestR X (.Name x np) [c] := by
  intro a pn σ H s cls b Q E I LT hx q
  refine name_runs hc I ?_
  obtain ⟨b1, d1, x1, x2, e⟩ := PySem.W.exmAny_cons hx
  cases (show some false = some d1 from x2)
  rw [Bool.or_false] at e
  rw [e] at q
  exact (PySem.W.exm_one I.kIn LT x1).here (q s.heap fun _ _ h => h)
inductive NamesAll (X : Cx) : List Expr → List Value → Prop
  | nil : NamesAll X [] []
  | cons {x : Str} {c : Value} {np : Pos} {es : List Expr} {cs : List Value} : Names X x c → NamesAll X es cs → NamesAll X (.Name x np :: es) (c :: cs)
theorem names_run {X : Cx} {pos : Pos} {a : Addr} {pn : List (Addr × Obj)} {σ : L2.St} {H : Hp} {s : Shared} (I : Inv (X.suite a pn) [] σ H s) : ∀ {es : List Expr} {cs : List Value}, NamesAll X es cs → ∀ {Q : List Value → Shared → Prop} {E : Value → Shared → Prop}, Q cs s →
    wpAny (model X.prog X.w) (X.A.mark (some (.ref a))) (spliced (backTo pos (starEach es X.env))) Q E s
  | _, _, .nil, Q, E, q => Calls.spliced_nil q
  | _, _, .cons (x := x) (np := np) (es := es) hn hr, Q, E, q => by
    show wpAny _ _ (spliced ((false, eval (.Name x np) X.env) :: backTo pos (starEach es X.env))) _ _ s
    exact Calls.spliced_cons (name_runs hn I (names_run I hr q))
theorem test_tup {X : Cx} {es : List Expr} {cs : List Value} {k : Nat} {pos : Pos} (hn : NamesAll X es cs) (hl : cs.length ≤ sizeLine) : TestR X (.Tuple es k pos) cs := by
  intro a pn σ H s cls b Q E I LT hx q
  refine wpAny_Tuple_spliced (names_run I hn ⟨hl, ?_⟩)
  have kp : ∀ x o, s.heap.get? x = some o → (s.heap.push { cls := .type "tuple", data := .seq cs.toArray }).get? x = some o := fun x o e => Heap.get?_push_of_some _ e
  exact (exm_many (I.kIn.keeps kp) (LT.keeps kp) (Heap.get?_push_size _ rfl) rfl rfl hx).here (q _ kp)
/-- what the clauses wish of an exception of the body; slot i is the name's -/
def wAsMany (K : PySem.W.Frag) (Wout : WX) (i : Nat) (D : Ends) : List (List Value × (Addr → Value → Option Addr → TS)) → WX
  | [] => Wout
  | (cs, ts) :: r => fun cls d σ H => ∃ b, PySem.W.exmAny K cls cs = some b ∧
      (b = true → ∀ a, H a = none → ts a cls d { nx := fun σ' H' => D.nx (σ'.set i none) H', rt := D.rt, bk := fun σ' H' => D.bk (σ'.set i none) H', ct := fun σ' H' => D.ct (σ'.set i none) H' } (σ.set i (some (.ref a))) H) ∧
      (b = false → wAsMany K Wout i D r cls d σ H)
inductive HdsAs (X : Cx) (n : Str) : List ExceptHandler → List (List Value × (Addr → Value → Option Addr → TS)) → Prop
  | nil : HdsAs X n [] []
  | cons {t : Expr} {cs : List Value} {ts : Addr → Value → Option Addr → TS} {b₀ : Stmt} {suite : List Stmt} {pos' : Pos} {hds : List ExceptHandler} {l : List (List Value × (Addr → Value → Option Addr → TS))} (ht : TestR X t cs)
      (hsu : ∀ (a : Addr) (oe : Obj) (cls : Value) (d : Option Addr) (pn : List (Addr × Obj)), Zc cls d oe → (∃ vs, oe.data = .fields vs) → PSs (X.suite a ((a, oe) :: pn)) (b₀ :: suite) (ts a cls d)) (r : HdsAs X n hds l) :
      HdsAs X n (.ExceptHandler (some t) (some n) (b₀ :: suite) pos' :: hds) ((cs, ts) :: l)
theorem fly_kept {B h h' : Heap} {l : List Env} {a : Addr} {Z : Obj → Prop} (f : HandSPX.FlyingZ B l a Z h) (k : ∀ x o, h.get? x = some o → h'.get? x = some o) : HandSPX.FlyingZ B l a Z h' := by
  obtain ⟨f1, f2, f3, oe, vs, T, oT, ts, g1, g2, g3, g4, g5, g6, g7, g8, g9⟩ := f
  exact ⟨fun b o e => k _ _ (f1 b o e), f2, f3.of_keeps fun b o e _ => ⟨o, k b o e, rfl⟩, oe, vs, T, oT, ts, k _ _ g1, g2, g3, g4, g5, g6, k _ _ g7, g8, g9⟩
section
variable {X : Cx} {n : Str} {i : Nat} {body : List Stmt} {h₀ : ExceptHandler} {hds : List ExceptHandler} {l : List (List Value × (Addr → Value → Option Addr → TS))} {pos : Pos} {tb : WX → TS} {Wout : WX}
set_option maxHeartbeats 4000000 in
theorem ps_try_asMany (hs : X.stack = X.env :: X.outer) (hf : X.env.frame = some X.env.locals) (hN : X.N.Nodup) (hi : X.N[i]? = some n) (hln : X.env.kindOf n = some .local) (tk : Takes X Wout)
    (hb : ∀ (W : WX) (pn : List (Addr × Obj)) (xe : Value → Shared → Prop), Takes (X.tr pn xe) W → PassesOwn (model X.prog X.w) X.A X.env xe → PSs (X.tr pn xe) body (tb W))
    (hh : HdsAs X n (h₀ :: hds) l) : PS X (.Try body (h₀ :: hds) [] [] pos) (fun D σ H => tb (fun cls d σ' H' => σ'.length = X.N.length → wAsMany X.K Wout i D l cls d σ' H') D σ H) := by
  refine ⟨fun pins s σ H D I h => wpAny_Try_except ?_⟩
  have ok := I.ok
  have hfr : X.A.frames = some (X.env :: X.outer) := by rw [ok.frames, hs]
  refine wpAny_mono ((hb (fun cls d σ' H' => σ'.length = X.N.length → wAsMany X.K Wout i D l cls d σ' H') (X.pn ++ pins) _ (fun u s' xx => ?_) PassesOwn.looking).run [] s σ H D (I.toTry _) h) (fun f s1 hsp => ?_) (fun e s1 he => he)
  · obtain ⟨a, B, sI, pins', σ', H', cls, d, rfl, J', nb, up, sky, na, os, ag, wish⟩ := xx
    have J : Inv X pins σ' H' sI := J'.ofTry ok
    rw [show (X.tr (X.pn ++ pins) _).stack = X.env :: X.outer from hs] at sky
    refine Sky.land Zc.steady hfr hf sky fun h3 fl up3 => ?_
    have up4 := up.trans up3
    have apart : ∀ {g : Heap}, HandSPX.FlyingZ B (X.env :: X.outer) a (Zc cls d) g → a ∉ frs (X.env :: X.outer) := fun {g} fg hm => by
      obtain ⟨oe, vs, e1, _, e3⟩ := fg.there
      obtain ⟨_, o', e', hnf⟩ := fg.2.2.1.mem hm
      rw [e1] at e'
      cases e'
      exact hnf _ e3
    have nfr := apart fl
    have nL : a ≠ X.env.locals := fun z => nfr (List.mem_filterMap.mpr ⟨X.env, List.mem_cons_self, by rw [hf, z]⟩)
    have nF : a ∉ X.fs := fun hm => by
      obtain ⟨e, he, q⟩ := List.mem_filterMap.mp hm
      exact nfr (List.mem_filterMap.mpr ⟨e, List.mem_cons_of_mem _ he, q⟩)
    have go : ∀ {hds' : List ExceptHandler} {l' : List (List Value × (Addr → Value → Option Addr → TS))}, HdsAs X n hds' l' → ∀ h', HandSPX.FlyingZ B (X.env :: X.outer) a (Zc cls d) h' → sI.heap.UpToSlots h' → wAsMany X.K Wout i D l' cls d σ' H' →
        wpAny (model X.prog X.w) X.A (handleBy (.ref a) X.env hds') (SP X pins D) X.xe { s' with heap := h' } := by
      intro hds' l' hk
      induction hk with
      | nil =>
        intro h' fg ug wi
        refine wpAny_handleBy_nil ?_
        obtain ⟨_, _, _, oe, vs, T, oT, ts', he, hz, hd, h1, _⟩ := id fg
        unfold PySem.passOn
        refine wpAny_bind (wpAny_field he hd h1 ?_)
        rw [if_neg (show ¬ ((Value.ref T == Value.none) = true) by simp)]
        have fin : wpAny (model X.prog X.w) X.A (setFlight (.ref a) X.env.frame) (fun _ s4 => wpAny (model X.prog X.w) X.A (throw (.ref a) : Sem Flow) (SP X pins D) X.xe s4) X.xe { s' with heap := h' } := by
          rw [hf]
          refine HandSPX.setFlight_upZ fg fun h4 hh4 u4 => wpAny_throw (tk _ _ ⟨a, B, sI, pins, σ', H', cls, d, rfl, J, nb, ug.trans u4, .inr (.inr ?_), na, os, ag, wi⟩)
          rw [hs]
          exact hh4
        first
          | exact wpAny_bind (wpAny_pure (wpAny_bind fin))
          | exact wpAny_bind fin
      | @cons t cs ts b₀ suite pos' hds2 l2 ht hsu r ih =>
        intro h' fg ug wi
        obtain ⟨b, hb1, hyes, hno⟩ := wi
        have J3 : Inv X pins σ' H' { s' with heap := h' } := J.landed nb fg.1 ug os ag
        obtain ⟨oe3, vs3, he3, hz3, hd3⟩ := fg.there
        refine wpAny_handleBy_cons (codeAny_handlers_test ?_) (by intro q; cases q)
        refine ht a _ σ' H' _ cls b _ _ (J3.suite he3 hd3 na nL nF) (fun A Q E s k q => wpAny_typeOf_ref (k _ _ he3) (by rw [hz3.1]; exact q)) hb1 fun h5 k5 => ?_
        have f5 := fly_kept fg k5
        have u5 := ug.trans (Heap.UpToSlots.of_keeps k5)
        cases b with
        | false => exact ih h5 f5 u5 (hno rfl)
        | true =>
          refine codeAny_handlers_suite_as ?_
          refine HandSPX.lands_againZ f5 fun h6 f6 u6 => ?_
          have J6 : Inv X pins σ' H' { s' with heap := h6 } := J.landed nb f6.1 (u5.trans u6) os ag
          obtain ⟨oe6, vs6, he6, hz6, hd6⟩ := f6.there
          have S6 := J6.suite he6 hd6 na nL nF
          refine store_ok (X := X.suite a ((a, oe6) :: (X.pn ++ pins))) (v := .ref a) S6 hN hi (.inl hln) rfl (fun s7 S7 => ?_) (.inr hln)
          refine wpAny_mono ((hsu a oe6 cls d (X.pn ++ pins) hz6 ⟨_, hd6⟩).run [] s7 _ H' _ S7 (hyes rfl a na)) (fun f s8 hsp => ?_) (fun _ _ z => False.elim z)
          have gone : ∀ {σ8 : L2.St} {H8 : Hp} {Q : Shared → Prop}, Inv (X.suite a ((a, oe6) :: (X.pn ++ pins))) [] σ8 H8 s8 → (∀ s9, Inv X pins (σ8.set i none) H8 s9 → Q s9) →
              wpAny (model X.prog X.w) X.A (do bindName X.env n .none; unbindBehindTheSuite X.env n pos') (fun _ s9 => Q s9) X.xe s8 := fun {σ8 H8 Q} S8 hq => gone_ok (S8.unsuite ok) hN hi hln hq
          cases f with
          | ret u =>
            obtain ⟨v8, σ8, H8, S8, r8, q8⟩ := hsp
            exact gone S8 fun s9 J9 => ⟨_, _, _, J9, r8, q8⟩
          | next =>
            obtain ⟨σ8, H8, S8, q8⟩ := hsp
            exact gone S8 fun s9 J9 => ⟨_, _, J9, q8⟩
          | brk =>
            obtain ⟨σ8, H8, S8, q8⟩ := hsp
            exact gone S8 fun s9 J9 => ⟨_, _, J9, q8⟩
          | cont =>
            obtain ⟨σ8, H8, S8, q8⟩ := hsp
            exact gone S8 fun s9 J9 => ⟨_, _, J9, q8⟩
    exact go hh h3 fl up4 (wish J.len)
  · cases f with
    | ret u =>
      obtain ⟨v, σ2, H2, J2, r, q⟩ := hsp
      exact ⟨v, σ2, H2, J2.ofTry ok, r, q⟩
    | next =>
      obtain ⟨σ2, H2, J2, q⟩ := hsp
      exact wpAny_execs_nil ⟨σ2, H2, J2.ofTry ok, q⟩
    | brk =>
      obtain ⟨σ2, H2, J2, q⟩ := hsp
      exact ⟨σ2, H2, J2.ofTry ok, q⟩
    | cont =>
      obtain ⟨σ2, H2, J2, q⟩ := hsp
      exact ⟨σ2, H2, J2.ofTry ok, q⟩
end
/-! ### isinstance of an exception that is held, its class D; with a dict of its own or without -/
structure ExcD (K : PySem.W.Frag) (D : Addr) : Prop where
  hc : (PySem.W.clsIn K D).isSome = true
  hg : PySem.W.findIn K (.ref D) "__getattribute__" = some (some (.builtin "BaseException.__getattribute__"))
  hk : PySem.W.findIn K (.ref D) "__getattr__" = some none
  hs : PySem.W.subIn K (.ref D) (.type "BaseException") = some true
  ha : PySem.W.findIn K (.ref D) "__class__" = some (some (.builtin "object.__class__"))
  hn : PySem.W.specialIn K (.builtin "object.__class__") "__get__" = some (some (.builtin "getset_descriptor.__get__"))
  ht : PySem.W.takesIn K (.builtin "object.__class__") = some true
  hm : PySem.W.mroIn K D (.type "object") = some true
/-- the exception at a, held by a pin: an instance of D; its dict d, if it has one, is tracked -/
structure Held (X : Cx) (a D : Addr) (d : Option Addr) (oe : Obj) : Prop where
  pn : (a, oe) ∈ X.pn
  zc : Zc (.ref D) d oe
  fl : ∃ vs, oe.data = .fields vs
def DictOk (d : Option Addr) (H : Hp) : Prop := ∀ dd, d = some dd → ∃ fs, H dd = some (.xd fs)
section
variable {X : Cx} {K : PySem.W.Frag} {a D : Addr} {d : Option Addr} {oe : Obj}
theorem held_at (hh : Held X a D d oe) {pins : List (Addr × Obj)} {σ : L2.St} {H : Hp} {s : Shared} (I : Inv X pins σ H s) (hd : DictOk d H) : ∃ od, PySem.W.InstAt s.heap a oe D od := by
  have hg := (I.pin (a, oe) (List.mem_append_left _ hh.pn)).1
  obtain ⟨vs, hv⟩ := hh.fl
  obtain ⟨c1, c2⟩ := hh.zc
  have no : PySem.W.notCls oe = true := by
    obtain ⟨oc, odd, odt, osl⟩ := oe
    simp only at hv
    subst hv
    rfl
  cases d with
  | none => exact ⟨none, hg, c1, no, by rw [c2]; exact True.intro⟩
  | some dd =>
    obtain ⟨fs, hf⟩ := hd dd rfl
    obtain ⟨mA, ⟨o, es, ep, e1, _⟩, _⟩ := (show ObjOk X.prog X.w H s.heap dd (.xd fs) from I.hok dd _ hf)
    exact ⟨some o, hg, c1, no, by rw [c2]; exact e1⟩
def rIsH (K : PySem.W.Frag) (D a : Addr) (d : Option Addr) : List V → Hp → VK → Prop := fun xs H Q => ∃ (c : V) (cv : Value) (b : Bool), xs = [.ref a, c] ∧ ClsV c cv ∧ DictOk d H ∧ PySem.W.kitOne K (.ref D) cv = some b ∧ Q (.bl b) H
theorem isH (h : X.K = K) (C : ExcD K D) (hh : Held X a D d oe) : CallR X (.builtin "isinstance") (rIsH K D a d) := by
  subst h
  intro pins s σ H xs us Q I r q
  obtain ⟨c, cv, b, rfl, hc, hd, e, q⟩ := q
  obtain ⟨u1, u2, rfl, r1, r2⟩ := vals2 r
  cases (show u1 = Value.ref a from r1)
  have e2 := hc.eq r2
  subst e2
  obtain ⟨od, J⟩ := held_at hh I hd
  exact PySem.W.kia_one (PySem.W.kitx_exc (od := od) C.hc C.hg C.hk C.hs C.ha C.hn C.ht C.hm) I.kIn J e (fun z => nomatch z) fun tk => ⟨.bl b, H, I.tok tk, rfl, q⟩
def rIsHT (K : PySem.W.Frag) (D a : Addr) (d : Option Addr) : List V → Hp → VK → Prop := fun xs H Q => ∃ (tp : Addr) (cs : List V) (ws : List Value) (b : Bool), xs = [.ref a, .ref tp] ∧ H tp = some (.tup cs) ∧ Paired ClsV cs ws ∧ DictOk d H ∧ PySem.W.kitAny K (.ref D) ws = some b ∧ Q (.bl b) H
theorem isHT (h : X.K = K) (C : ExcD K D) (hh : Held X a D d oe) : CallR X (.builtin "isinstance") (rIsHT K D a d) := by
  subst h
  intro pins s σ H xs us Q I r q
  obtain ⟨tp, cs, ws, b, rfl, hT, k, hd, e, q⟩ := q
  obtain ⟨u1, u2, rfl, r1, r2⟩ := vals2 r
  cases (show u1 = Value.ref a from r1)
  cases (show u2 = Value.ref tp from r2)
  obtain ⟨od, J⟩ := held_at hh I hd
  obtain ⟨_, its, rv, o, h1, h2, n, h3⟩ := (show ObjOk X.prog X.w H s.heap tp (.tup cs) from I.hok tp _ hT)
  have e3 := ClsV.all k rv
  subst e3
  obtain ⟨oc, odd, dt, sl⟩ := o
  simp only at h2 h3
  subst h2 h3
  exact PySem.W.kia_tup (PySem.W.kitx_exc (od := od) C.hc C.hg C.hk C.hs C.ha C.hn C.ht C.hm) I.kIn J h1 e (fun z => nomatch z) fun tk => ⟨.bl b, H, I.tok tk, rfl, q⟩
/-! ### xs.count(True), a list of truths -/
def rCntB (K : PySem.W.Frag) : V → List V → Hp → VK → Prop := fun x xs H Q => ∃ (p : Addr) (bs : List Bool), x = .ref p ∧ xs = [.bl true] ∧ SqL K H p (bs.map V.bl) ∧ Q (.int (bs.count true : Nat)) H
def eqT (v : Value) : Bool := match v with
  | .bool b => b
  | _ => false
theorem bools_of : ∀ {bs : List Bool} {us : List Value}, Vals (bs.map V.bl) us → us = bs.map Value.bool
  | [], _, .nil => rfl
  | b :: r, _, .cons h t => by
    cases (show _ = Value.bool b from h)
    rw [bools_of t]
    rfl
theorem countT : ∀ bs : List Bool, (bs.map Value.bool).countP eqT = bs.count true
  | [] => rfl
  | b :: r => by
    rw [List.map_cons, List.countP_cons, countT r, List.count_cons]
    cases b <;> rfl
theorem cntB (h : X.K = K) : MtR X "list.count" (rCntB K) := by
  subst h
  intro pins s σ H x xs v us Q I rx rxs q
  obtain ⟨p, bs, rfl, rfl, hs, q⟩ := q
  cases (show v = Value.ref p from rx)
  obtain ⟨u, rfl, ru⟩ := vals1 rxs
  cases (show u = Value.bool true from ru)
  obtain ⟨its, rv, ⟨⟨cls, dd, data, sl⟩, n, ho, hc, hdn, hd⟩, hlen⟩ := I.list hs
  simp only at hc hd
  subst hc hd
  have eb := bools_of rv
  subst eb
  refine call_meets PySem.F.slot_list_count ⟨_, ho, rfl⟩ PySem.F.entry_list_count (PySem.F.args_list_count_2 _ _)
    (SeqAt.list_countAt p (bs.map Value.bool).toArray n dd sl (.bool true) eqT) ⟨ho, fun y hy => ?_, ?_⟩
  · have hy : y ∈ bs.map Value.bool := by simpa using hy
    obtain ⟨b, _, rfl⟩ := List.mem_map.mp hy
    have z := SeqAt.EqAt.bool_bool (A := X.A.in1) (s := s) b true
    have e : (b == true) = eqT (.bool b) := by cases b <;> rfl
    rw [e] at z
    exact z
  · refine ⟨.int (bs.count true : Nat), H, I.tok _, ⟨s.toks, ?_⟩, q⟩
    show Value.int (((bs.map Value.bool).toArray.toList.countP eqT : Nat) : Int) s.toks = _
    rw [List.toList_toArray, countT]
end
/-! ### a def called with the held exception -/
structure FnP (P : Program) (w : World) (K : PySem.W.Frag) (mg : Str → Option Value) (base : Heap) (CX : CXT) (k : Nat) (f : Addr) (fd : FuncData) (ps : List Str) (sp : Addr → Value → Option Addr → Sp) : Prop where
  len : ∀ a cls d vs H Q E, sp a cls d vs H Q E → vs.length = ps.length
  run : ∀ (A : Around) (outer : List Env) (s : Shared) (H : Hp) (args : Args) (us : List Value) (vs : List V) (Q : VK) (E : XK) (p : Addr × Obj) (cls : Value) (d : Option Addr), L2H.RoomH k A → L2H.PinOk outer H s p → Zc cls d p.2 → (∃ vs, p.2.data = .fields vs) → Env0 P w K mg base A outer s H → BindsTo s fd args (ps.zip us) → Vals vs us → sp p.1 cls d vs H Q E →
    codeAny (model P w) A (.call (.ref f) args) (CR CX outer P w H s Q E) s
theorem fnP_of {CX : CXT} {P : Program} {w : World} {K : PySem.W.Frag} {mg : Str → Option Value} {base : Heap} {k : Nat} {x qual : Str} {st : Stmt} {f : Addr} {fd : FuncData} {N ps : List Str} {sp : Addr → Value → Option Addr → Sp} (F : Fun K x qual st f fd) (S : FnScope N ps (defScope st))
    (len : ∀ a cls d vs H Q E, sp a cls d vs H Q E → vs.length = ps.length)
    (hbody : ∀ (cdv : Value) (A : Around) (outer : List Env) (s : Shared) (H : Hp) (vs : List V) (Q : VK) (E : XK) (p : Addr × Obj) (cls : Value) (d : Option Addr), L2H.RoomH k (A.deeper (envOfC qual (defScope st) s.heap.objs.size f cdv)) → Zc cls d p.2 → (∃ vs, p.2.data = .fields vs) → sp p.1 cls d vs H Q E →
      ∃ t, PSs (L2H.cxH CX P w K mg base N qual (defScope st) f cdv A outer s H E p) (defBody st) t ∧ t { nx := fun _ H' => Q .non H', rt := Q } (L2.start N vs) H) : FnP P w K mg base CX (k + 1) f fd ps sp := by
  obtain ⟨oc, od, kV, doc, pm, an, cdv, ct, osl, rfl, lk, hcd⟩ := F.ex
  refine ⟨len, fun A outer s H args us vs Q E p cls d hr hpin hz hfl e0 hb r hsp => ?_⟩
  have keepB : ∀ b o, base.get? b = some o → s.heap.get? b = some o := fun b o e => (e0.bs b o e).1
  have hkind : ∀ y ∈ ps.zip us, (defScope st).names.lookup y.1 = some .local ∨ ((defScope st).names.lookup y.1 = some .cell ∧ ((cellsFrom (s.heap.objs.size + 1) (defScope st).names []).lookup y.1).isSome = true) := by
    rintro ⟨n, v⟩ hy
    exact (S.par n (List.of_mem_zip hy).1).imp id fun q => ⟨q, PySem.W.cellsFrom_some _ _ _ (.inl q)⟩
  refine codeAny_call_function hr.depth (e0.mod.kin.keeps keepB _ _ lk) rfl S.co S.gen rfl (PySem.W.codeRec_of (e0.mod.kin.keeps keepB) hcd) (hb _ _ _ _ ?_)
  refine wpAny_newFunctionEnv_cells S.kind hkind fun env he s1 z => ?_
  subst he
  refine ⟨(e0.mod.nolimit.keeps keepB).keeps z.toInCall.keep, codeAny_func ?_⟩
  obtain ⟨t, ht, hq⟩ := hbody cdv A outer s H vs Q E p cls d (hr.deeper _) hz hfl hsp
  refine wpAny_mono (ht.run [] s1 (L2.start N vs) H _ (L2H.inv_startH S hpin e0 (len _ _ _ _ _ _ _ hsp) r z) hq) (fun fl s' hs => ?_) fun e s' hs => hs
  cases fl with
  | ret u =>
    obtain ⟨v, σ', H', J, rv, q⟩ := hs
    exact ⟨v, H', J.os, J.bare, J.base, J.hok, rv, q⟩
  | next =>
    obtain ⟨σ', H', J, q⟩ := hs
    exact ⟨.non, H', J.os, J.bare, J.base, J.hok, rfl, q⟩
  | brk =>
    obtain ⟨_, _, _, q⟩ := hs
    exact False.elim q
  | cont =>
    obtain ⟨_, _, _, q⟩ := hs
    exact False.elim q
def tCallP (sp : Addr → Value → Option Addr → Sp) (a : Addr) (cls : Value) (d : Option Addr) (t : TA) : TE := fun σ H Q => t σ H fun vs H1 => sp a cls d vs H1 Q E0
theorem pe_callP {X : Cx} {k : Nat} {f : Addr} {fd : FuncData} {ps : List Str} {sp : Addr → Value → Option Addr → Sp} {x : Str} {q pos : Pos} {e : Expr} {es : List Expr} {t : TA} {p : Addr × Obj} {cls : Value} {d : Option Addr} (F : FnP X.prog X.w X.K X.mg X.base CX0 k f fd ps sp) (hr : L2H.RoomH k X.A) (hp : p ∈ X.pn) (hz : Zc cls d p.2) (hfl : ∃ vs, p.2.data = .fields vs)
    (hg : Gl X x) (hm : X.mg x = some (.ref f)) (hk : PySem.W.keepIn X.K (.ref f) = true) (hb : Binds X.K fd ps []) (ha : PA X (e :: es) t) (hdb : (x == ("__debug__" : Str)) = false := by decide)
    (he : starEach (e :: es) X.env = (false, eval e X.env) :: starEach es X.env := by rfl) (hpl : (backTo pos (starEach es X.env)).any (·.1) = false := by rfl) : PE X (.Call (.Name x q) (e :: es) [] pos) (tCallP sp p.1 cls d t) := by
  refine ⟨fun pins s σ H Q I h => wpAny_Call_Name_kw (ld_glob I hg hm ?_ hdb)⟩
  refine PySem.W.callWith_K (h₀ := X.base) I.ok.mod.kin hk (thn (ha.run pos pins s σ H _ I h) fun us s1 ⟨vs, H1, I1, r, z⟩ => ⟨I1.kIn, ?_⟩) he hpl
  have hl : us.length = ps.length := by rw [← r.length]; exact F.len _ _ _ _ _ _ _ z
  have b := hb s1 us I1.kIn (by rw [List.append_nil]; exact hl)
  rw [List.append_nil] at b
  have P1 := I1.pin p (List.mem_append_left _ hp)
  refine wpAny_call (codeAny_mono (F.run X.A X.stack s1 H1 ⟨us, []⟩ us vs Q E0 p cls d hr ⟨P1.1, P1.2.1, fun hm => (List.mem_cons.mp (I1.stkSub p.1 hm)).elim P1.2.2.1 P1.2.2.2.1, P1.2.2.2.2⟩ hz hfl I1.env0 b r z) fun rr s' hq => ?_)
  cases rr with
  | error e => exact (show False from hq).elim
  | ok fl =>
    cases fl with
    | ret u => exact I1.after hq
    | next => exact False.elim hq
    | brk => exact False.elim hq
    | cont => exact False.elim hq
/-! ### a def whose code object is known by its place -/
structure FunC (K : PySem.W.Frag) (x qual : Str) (st : Stmt) (f : Addr) (fd : FuncData) (c : Addr) : Prop where
  ex : ∃ (oc : Value) (od : Option Addr) (kV doc pm : Value) (an : Option Addr) (ct : Value) (osl : Array (Option Value)),
    fd = PySem.W.fnOf x qual (defArgs st) (defBody st) (defScope st) .none kV doc pm an (.ref c) ct ∧ K.lookup f = some ⟨oc, od, .func fd, osl⟩ ∧ PySem.W.codeIn K (.ref c) qual = true
  kp : PySem.W.keepIn K (.ref f) = true
theorem FunC.fn {K : PySem.W.Frag} {x qual : Str} {st : Stmt} {f : Addr} {fd : FuncData} {c : Addr} (F : FunC K x qual st f fd c) : Fun K x qual st f fd := by
  obtain ⟨oc, od, kV, doc, pm, an, ct, osl, h1, h2, h3⟩ := F.ex
  exact ⟨⟨oc, od, kV, doc, pm, an, .ref c, ct, osl, h1, h2, h3⟩, F.kp⟩
theorem FunC.ok {P : Program} {w : World} {K : PySem.W.Frag} {mg : Str → Option Value} {base : Heap} {x qual : Str} {st : Stmt} {f : Addr} {fd : FuncData} {c : Addr} {N ps : List Str} {k : Nat} {sp : Sp} (F : FunC K x qual st f fd c) (S : FnScope N ps (defScope st))
    (len : ∀ vs H Q E, sp vs H Q E → vs.length = ps.length)
    (hbody : ∀ (A : Around) (outer : List Env) (s : Shared) (H : Hp) (vs : List V) (Q : VK) (E : XK), Room k (A.deeper (envOfC qual (defScope st) s.heap.objs.size f (.ref c))) → sp vs H Q E →
      ∃ t, PSs (cxOf CX0 P w K mg base N qual (defScope st) f (.ref c) A outer s H E).nox (defBody st) t ∧ t { nx := fun _ H' => Q .non H', rt := Q } (start N vs) H) : FnOk P w K mg base CX0 (k + 1) f fd ps sp := by
  obtain ⟨oc, od, kV, doc, pm, an, ct, osl, rfl, lk, hcd⟩ := F.ex
  refine fn_of lk hcd S len fun A outer s H vs Q E hr hsp => ?_
  obtain ⟨t, h, q⟩ := hbody A outer s H vs Q E hr hsp
  exact ⟨t, h.nox, q⟩
/-! ### the classes of refusals -/
def excDB (K : PySem.W.Frag) (D : Addr) : Bool := (PySem.W.clsIn K D).isSome && (decide (PySem.W.findIn K (.ref D) "__getattribute__" = some (some (.builtin "BaseException.__getattribute__"))) && (decide (PySem.W.findIn K (.ref D) "__getattr__" = some none) &&
  (decide (PySem.W.subIn K (.ref D) (.type "BaseException") = some true) && (decide (PySem.W.findIn K (.ref D) "__class__" = some (some (.builtin "object.__class__"))) && (decide (PySem.W.specialIn K (.builtin "object.__class__") "__get__" = some (some (.builtin "getset_descriptor.__get__"))) &&
  (decide (PySem.W.takesIn K (.builtin "object.__class__") = some true) && decide (PySem.W.mroIn K D (.type "object") = some true)))))))
theorem excD_of {K : PySem.W.Frag} {D : Addr} (h : excDB K D = true) : ExcD K D := by
  unfold excDB at h
  simp only [Bool.and_eq_true, decide_eq_true_eq] at h
  obtain ⟨h1, h2, h3, h4, h5, h6, h7, h8⟩ := h
  exact ⟨h1, h2, h3, h4, h5, h6, h7, h8⟩
/-- the classes that the law's helpers name, by their places -/
structure HowC where
  five : List Addr
  wrong : Addr
  two : List Addr
  all : List Addr
/-- C is the i-th class under Wrong, one without a field at -/
def plainB (K : PySem.W.Frag) (hc : HowC) (C : Addr) (i : Nat) : Bool := excDB K C && (decide (PySem.W.exmAny K (.ref C) (hc.five.map Value.ref) = some false) && (decide (PySem.W.exmAny K (.ref C) [.ref hc.wrong] = some true) &&
  (decide ((hc.all.map fun D => PySem.W.kitOne K (.ref C) (.ref D)) = (List.range hc.all.length).map fun j => some (decide (j = i))) && (decide (PySem.W.kitOne K (.ref C) (.type "ValueError") = some true) && decide (PySem.W.kitAny K (.ref C) (hc.two.map Value.ref) = some false)))))
structure Plain (K : PySem.W.Frag) (hc : HowC) (C : Addr) (i : Nat) : Prop where
  ec : ExcD K C
  e5 : PySem.W.exmAny K (.ref C) (hc.five.map Value.ref) = some false
  ew : PySem.W.exmAny K (.ref C) [.ref hc.wrong] = some true
  k : (hc.all.map fun D => PySem.W.kitOne K (.ref C) (.ref D)) = (List.range hc.all.length).map fun j => some (decide (j = i))
  kv : PySem.W.kitOne K (.ref C) (.type "ValueError") = some true
  k2 : PySem.W.kitAny K (.ref C) (hc.two.map Value.ref) = some false
theorem plain_of {K : PySem.W.Frag} {hc : HowC} {C : Addr} {i : Nat} (h : plainB K hc C i = true) : Plain K hc C i := by
  unfold plainB at h
  simp only [Bool.and_eq_true, decide_eq_true_eq] at h
  obtain ⟨h1, h2, h3, h4, h5, h6⟩ := h
  exact ⟨excD_of h1, h2, h3, h4, h5, h6⟩
theorem Plain.at {K : PySem.W.Frag} {hc : HowC} {C : Addr} {i j : Nat} {D : Addr} (h : Plain K hc C i) (hj : hc.all[j]? = some D) : PySem.W.kitOne K (.ref C) (.ref D) = some (decide (j = i)) := by
  have e := congrArg (fun l => l[j]?) h.k
  have hl : j < hc.all.length := (List.getElem?_eq_some_iff.mp hj).1
  simp only [List.getElem?_map, hj, List.getElem?_range hl, Option.map_some] at e
  exact Option.some.inj e
theorem DictOk.ex {d : Option Addr} {H H' : Hp} (h : DictOk d H) (e : Ex H H') : DictOk d H' := fun dd hd => by
  obtain ⟨fs, hf⟩ := h dd hd
  exact ⟨fs, e _ _ hf⟩
def kindNames : List Str := ["code", "deed", "entries", "lengths", "name", "number", "pages", "queries", "query", "text of query", "row", "shelf", "size", "text", "word", "taken"]
def hot16 (i : Nat) : List Bool := [decide (0 = i), decide (1 = i), decide (2 = i), decide (3 = i)] ++ [decide (4 = i), decide (5 = i), decide (6 = i), decide (7 = i)] ++ [decide (8 = i), decide (9 = i), decide (10 = i), decide (11 = i)] ++ [decide (12 = i), decide (13 = i), decide (14 = i), decide (15 = i)]
theorem hot16_count : ∀ i, i < 16 → (hot16 i).count true = 1 := by decide
theorem hot16_at : ∀ i, i < 16 → (hot16 i)[i]? = some true := by decide
theorem hot16_ahead : ∀ i, i < 16 → ∀ m, m < i → (hot16 i)[m]? = some false := by decide
end My
namespace K01
open PySem PySem.Spec PyProof.Rows L2 Evl My TL
def topS (i : Nat) : Stmt := PySem.Challenge.pw_blocksearch_k01_words_known.main.body.getD i (.Pass ⟨0, 0, 0, 0⟩)
abbrev N_is_word : List Str := ["thing", "sign"]
theorem sc_is_word : FnScope N_is_word ["thing"] (defScope (topS 23)) := ⟨rfl, rfl, rfl, by decide +kernel, rfl, by decide +kernel, by decide +kernel⟩
abbrev N_are_words : List Str := ["things", "thing"]
theorem sc_are_words : FnScope N_are_words ["things"] (defScope (topS 24)) := ⟨rfl, rfl, rfl, by decide +kernel, rfl, by decide +kernel, by decide +kernel⟩
abbrev N_words_of : List Str := ["text", "words"]
theorem sc_words_of : FnScope N_words_of ["text"] (defScope (topS 25)) := ⟨rfl, rfl, rfl, by decide +kernel, rfl, by decide +kernel, by decide +kernel⟩
abbrev N_text_of : List Str := ["words"]
theorem sc_text_of : FnScope N_text_of ["words"] (defScope (topS 26)) := ⟨rfl, rfl, rfl, by decide +kernel, rfl, by decide +kernel, by decide +kernel⟩
abbrev N_check_words : List Str := ["words"]
theorem sc_check_words : FnScope N_check_words ["words"] (defScope (topS 27)) := ⟨rfl, rfl, rfl, by decide +kernel, rfl, by decide +kernel, by decide +kernel⟩
abbrev N_l_pool : List Str := ["_law_script", "_law_at", "_law_cell", "_law_far"]
theorem sc_l_pool : FnScope N_l_pool ["_law_script", "_law_at"] (defScope (topS 29)) := ⟨rfl, rfl, rfl, by decide +kernel, rfl, by decide +kernel, by decide +kernel⟩
abbrev N_l_take : List Str := ["_law_pool_here", "_law_many", "_law_digit", "_law_turn", "_law_one", "_law_other"]
theorem sc_l_take : FnScope N_l_take ["_law_pool_here", "_law_many"] (defScope (topS 30)) := ⟨rfl, rfl, rfl, by decide +kernel, rfl, by decide +kernel, by decide +kernel⟩
abbrev N_l_is_word : List Str := ["_law_thing", "_law_sign"]
theorem sc_l_is_word : FnScope N_l_is_word ["_law_thing"] (defScope (topS 31)) := ⟨rfl, rfl, rfl, by decide +kernel, rfl, by decide +kernel, by decide +kernel⟩
abbrev N_l_letters : List Str := []
theorem sc_l_letters : FnScope N_l_letters [] (defScope (topS 32)) := ⟨rfl, rfl, rfl, by decide +kernel, rfl, by decide +kernel, by decide +kernel⟩
abbrev N_l_kind : List Str := ["_law_e", "_law_names", "_law_some"]
theorem sc_l_kind : FnScope N_l_kind ["_law_e"] (defScope (topS 33)) := ⟨rfl, rfl, rfl, by decide +kernel, rfl, by decide +kernel, by decide +kernel⟩
abbrev N_l_how : List Str := ["_law_deed", "_law_e"]
theorem sc_l_how : FnScope N_l_how ["_law_deed"] (defScope (topS 34)) := ⟨rfl, rfl, rfl, by decide +kernel, rfl, by decide +kernel, by decide +kernel⟩
abbrev N_l_drawn_word : List Str := ["_law_pool_here", "_law_size", "_law_k"]
theorem sc_l_drawn_word : FnScope N_l_drawn_word ["_law_pool_here"] (defScope (topS 35)) := ⟨rfl, rfl, rfl, by decide +kernel, rfl, by decide +kernel, by decide +kernel⟩
abbrev N_l_spoilt : List Str := ["_law_pool_here", "_law_text", "_law_sort", "_law_at", "_law_sign"]
theorem sc_l_spoilt : FnScope N_l_spoilt ["_law_pool_here", "_law_text"] (defScope (topS 36)) := ⟨rfl, rfl, rfl, by decide +kernel, rfl, by decide +kernel, by decide +kernel⟩
abbrev N_l_due : List Str := ["_law_text", "_law_pieces", "_law_piece"]
theorem sc_l_due : FnScope N_l_due ["_law_text"] (defScope (topS 37)) := ⟨rfl, rfl, rfl, by decide +kernel, rfl, by decide +kernel, by decide +kernel⟩
abbrev N_l_right : List Str := ["_law_text", "_law_due_here", "_law_told"]
theorem sc_l_right : FnScope N_l_right ["_law_text"] (defScope (topS 38)) := ⟨rfl, rfl, rfl, by decide +kernel, rfl, by decide +kernel, by decide +kernel⟩
abbrev N_law : List Str := ["_law_script", "_law_k", "_law_pool_here", "_law_sort", "_law_size", "_law_pieces", "_law_text", "_law_piece", "_law_told", "_law_thing", "_law_j"]
theorem sc_law : FnScope N_law ["_law_script"] (defScope (topS 39)) := ⟨rfl, rfl, rfl, by decide +kernel, rfl, by decide +kernel, by decide +kernel⟩
def howC (A : Nat → Addr) : HowC := ⟨[A 9, A 11, A 13, A 12, A 10], A 1, [A 18, A 19], [A 9, A 16, A 11, A 6, A 8, A 4, A 13, A 14, A 7, A 12, A 10, A 15, A 5, A 3, A 2, A 17]⟩
/-- what the top has left: A the defs' places, FD their data, TK the constants' tokens -/
structure TX (K : PySem.W.Frag) (mg : Str → Option Value) (A : Nat → Addr) (FD : Nat → FuncData) (TK : Nat → Tok) (CC : Nat → Addr) : Prop where
  f_is_word : Fun K "is_word" "is_word" (topS 23) (A 23) (FD 23)
  b_is_word : Binds K (FD 23) ["thing"] []
  g_is_word : mg "is_word" = some (.ref (A 23))
  f_are_words : Fun K "are_words" "are_words" (topS 24) (A 24) (FD 24)
  b_are_words : Binds K (FD 24) ["things"] []
  g_are_words : mg "are_words" = some (.ref (A 24))
  f_words_of : Fun K "words_of" "words_of" (topS 25) (A 25) (FD 25)
  b_words_of : Binds K (FD 25) ["text"] []
  g_words_of : mg "words_of" = some (.ref (A 25))
  f_text_of : Fun K "text_of" "text_of" (topS 26) (A 26) (FD 26)
  b_text_of : Binds K (FD 26) ["words"] []
  g_text_of : mg "text_of" = some (.ref (A 26))
  f_check_words : Fun K "check_words" "check_words" (topS 27) (A 27) (FD 27)
  b_check_words : Binds K (FD 27) ["words"] []
  g_check_words : mg "check_words" = some (.ref (A 27))
  f_l_pool : Fun K "_law_pool" "_law_pool" (topS 29) (A 29) (FD 29)
  b_l_pool : Binds K (FD 29) ["_law_script", "_law_at"] []
  g_l_pool : mg "_law_pool" = some (.ref (A 29))
  f_l_take : Fun K "_law_take" "_law_take" (topS 30) (A 30) (FD 30)
  b_l_take : Binds K (FD 30) ["_law_pool_here", "_law_many"] []
  g_l_take : mg "_law_take" = some (.ref (A 30))
  f_l_is_word : Fun K "_law_is_word" "_law_is_word" (topS 31) (A 31) (FD 31)
  b_l_is_word : Binds K (FD 31) ["_law_thing"] []
  g_l_is_word : mg "_law_is_word" = some (.ref (A 31))
  f_l_letters : Fun K "_law_letters" "_law_letters" (topS 32) (A 32) (FD 32)
  b_l_letters : Binds K (FD 32) [] []
  g_l_letters : mg "_law_letters" = some (.ref (A 32))
  f_l_kind : Fun K "_law_kind" "_law_kind" (topS 33) (A 33) (FD 33)
  b_l_kind : Binds K (FD 33) ["_law_e"] []
  g_l_kind : mg "_law_kind" = some (.ref (A 33))
  f_l_how : Fun K "_law_how" "_law_how" (topS 34) (A 34) (FD 34)
  b_l_how : Binds K (FD 34) ["_law_deed"] []
  g_l_how : mg "_law_how" = some (.ref (A 34))
  f_l_drawn_word : Fun K "_law_drawn_word" "_law_drawn_word" (topS 35) (A 35) (FD 35)
  b_l_drawn_word : Binds K (FD 35) ["_law_pool_here"] []
  g_l_drawn_word : mg "_law_drawn_word" = some (.ref (A 35))
  f_l_spoilt : Fun K "_law_spoilt" "_law_spoilt" (topS 36) (A 36) (FD 36)
  b_l_spoilt : Binds K (FD 36) ["_law_pool_here", "_law_text"] []
  g_l_spoilt : mg "_law_spoilt" = some (.ref (A 36))
  f_l_due : Fun K "_law_due" "_law_due" (topS 37) (A 37) (FD 37)
  b_l_due : Binds K (FD 37) ["_law_text"] []
  g_l_due : mg "_law_due" = some (.ref (A 37))
  F_l_right : FunC K "_law_right" "_law_right" (topS 38) (A 38) (FD 38) (CC 38)
  f_l_right : Fun K "_law_right" "_law_right" (topS 38) (A 38) (FD 38)
  b_l_right : Binds K (FD 38) ["_law_text"] []
  g_l_right : mg "_law_right" = some (.ref (A 38))
  f_law : Fun K "law" "law" (topS 39) (A 39) (FD 39)
  b_law : Binds K (FD 39) ["_law_script"] []
  g_law : mg "law" = some (.ref (A 39))
  m_ValueError : mg "ValueError" = none
  m_abs : mg "abs" = none
  m_all : mg "all" = none
  m_bool : mg "bool" = none
  m_int : mg "int" = none
  m_isinstance : mg "isinstance" = none
  m_len : mg "len" = none
  m_list : mg "list" = none
  m_max : mg "max" = none
  m_min : mg "min" = none
  m_range : mg "range" = none
  m_str : mg "str" = none
  c_MOST_LETTERS : mg "MOST_LETTERS" = some (.int 12 (TK 21))
  c_MOST_WORDS : mg "MOST_WORDS" = some (.int 120 (TK 22))
  k_Wrong : mg "Wrong" = some (.ref (A 1))
  k_NoWord : mg "NoWord" = some (.ref (A 2))
  k_NoText : mg "NoText" = some (.ref (A 3))
  k_NoNumber : mg "NoNumber" = some (.ref (A 4))
  k_NoSize : mg "NoSize" = some (.ref (A 5))
  k_NoLengths : mg "NoLengths" = some (.ref (A 6))
  k_NoQuery : mg "NoQuery" = some (.ref (A 7))
  k_NoName : mg "NoName" = some (.ref (A 8))
  k_NoCode : mg "NoCode" = some (.ref (A 9))
  k_NoRow : mg "NoRow" = some (.ref (A 10))
  k_NoEntries : mg "NoEntries" = some (.ref (A 11))
  k_NoQueryText : mg "NoQueryText" = some (.ref (A 12))
  k_NoPages : mg "NoPages" = some (.ref (A 13))
  k_NoQueries : mg "NoQueries" = some (.ref (A 14))
  k_NoShelf : mg "NoShelf" = some (.ref (A 15))
  k_NoDeed : mg "NoDeed" = some (.ref (A 16))
  k_Taken : mg "Taken" = some (.ref (A 17))
  k_NoPlace : mg "NoPlace" = some (.ref (A 18))
  k_NoSlot : mg "NoSlot" = some (.ref (A 19))
  x_NoText : PySem.W.excIn K (A 3) [.type "ValueError", .type "Exception", .type "BaseException", .type "object"] "ValueError.__new__" = true
  kc_NoText : PySem.W.keepIn K (.ref (A 3)) = true
  br_NoText : PySem.W.subIn K (.ref (A 3)) (.type "BaseException") = some true
  ty_NoText : PySem.W.typeIn K (.ref (A 3)) = some (.type "type")
  h_NoText : Plain K (howC A) (A 3) 13
section
variable {P : Program} {w : World} {K : PySem.W.Frag} {mg : Str → Option Value} {base : Heap} {A : Nat → Addr} {FD : Nat → FuncData} {TK : Nat → Tok} {CC : Nat → Addr}
/-! ### _law_take -/
def spTake : Sp := fun vs H Q _ => ∃ (p : Addr) (m : Int) (c : Nat), vs = [.ref p, .int m] ∧ Pl H p c ∧ 0 < m ∧ m < 1073741824 ∧ c < 1000000 ∧
  ∀ (d : Int) (H' : Hp), 0 ≤ d → d < m → Pl H' p (c + 1) → Fx p H H' → Q (.int d) H'
set_option maxHeartbeats 4000000 in
theorem ok_l_take (T : TX K mg A FD TK CC) : FnOk P w K mg base CX0 1 (A 30) (FD 30) ["_law_pool_here", "_law_many"] spTake := by
  refine T.f_l_take.ok sc_l_take (fun vs H Q E h => ?_) (fun cdv A' outer s H vs Q E hr h => ?_)
  · obtain ⟨p, m, c, rfl, _⟩ := h
    rfl
  · obtain ⟨p, m, c, rfl, ⟨g, b, k, hp, hg, hb, hb2, hk⟩, hm, hm2, hc, q⟩ := h
    refine ⟨_, (pss_cons (ps_if (pt_cmpR op_gt (pe_ix (ixLK (K := K) rfl) (pv 0) pe_int (fun _ _ => rfl)) pe_int (nomark _))
      (pss_cons (ps_set (i := 2) sc_l_take.nd rfl (.inl rfl) (pe_op op_mod (pe_ix (ixLK (K := K) rfl) (pv 0) pe_int (fun _ _ => rfl)) (pv 1)))
      (pss_cons (ps_asg (pe_op op_fdiv (pe_ix (ixLK (K := K) rfl) (pv 0) pe_int (fun _ _ => rfl)) (pv 1)) (pg_sub (pv 0) pe_int set_list))
      (pss_one (ps_ret (pv 2)))))
      pss_nil)
      (pss_cons (ps_asg (pe_op op_add (pe_ix (ixLK (K := K) rfl) (pv 0) pe_int (fun _ _ => rfl)) pe_int) (pg_sub (pv 0) pe_int set_list))
      (pss_cons (ps_set (i := 3) sc_l_take.nd rfl (.inl rfl) (pe_ix (ixLK (K := K) rfl) (pv 0) pe_int (fun _ _ => rfl)))
      (pss_cons (ps_set (i := 4) sc_l_take.nd rfl (.inl rfl) (pe_op op_mod (pe_op op_pow (pe_op op_add (pe_op op_add (pe_ix (ixLK (K := K) rfl) (pv 0) pe_int (fun _ _ => rfl)) (pe_op op_mul (pe_op op_mul pe_int (pv 3)) (pv 3))) pe_int) pe_int) pe_int))
      (pss_cons (ps_set (i := 5) sc_l_take.nd rfl (.inl rfl) (pe_op op_mod (pe_op op_add (pe_op op_pow (pv 4) pe_int) (pe_op op_mul pe_int (pv 3))) pe_int))
      (pss_one (ps_ret (pe_op op_mod (pe_op op_fdiv (pe_op op_add (pe_op op_mul (pv 4) pe_int) (pe_op op_mul (pv 5) (pv 5))) pe_int) (pv 1))))))))), ?_⟩
    refine ⟨.ref p, rfl, p, _, 0, .int g, rfl, rfl, SqL.of hp, atI_nat (j := 0) rfl, g, 0, rfl, rfl, _, rfl, ite2 (fun e => ?_) (fun e => ?_)⟩
    · refine ⟨.ref p, rfl, p, _, 0, .int g, rfl, rfl, SqL.of hp, atI_nat (j := 0) rfl, .int m, rfl, g, m, rfl, rfl, hm, ?_⟩
      refine ⟨.ref p, rfl, p, _, 0, .int g, rfl, rfl, SqL.of hp, atI_nat (j := 0) rfl, .int m, rfl, g, m, rfl, rfl, ⟨hm, hm2⟩, .ref p, rfl, p, _, 0, 0, rfl, rfl, hp, rfl, ?_⟩
      refine ⟨.int (g % m), rfl, ?_⟩
      exact q _ _ (Int.emod_nonneg _ (by omega)) (Int.emod_lt_of_pos _ hm) ⟨g / m, b, k, upd_same, Int.ediv_nonneg hg (by omega), hb, hb2, by omega⟩ Fx.upd
    · have hp1 : (upd H p (.lst [.int g, .int b, .int ((k : Int) + 1)])) p = some (.lst [.int g, .int b, .int ((k : Int) + 1)]) := upd_same
      refine ⟨.ref p, rfl, p, _, 2, .int k, rfl, rfl, SqL.of hp, atI_nat (j := 2) rfl, k, 1, rfl, rfl, .ref p, rfl, p, _, 2, 2, rfl, rfl, hp, rfl, ?_⟩
      refine ⟨.ref p, rfl, p, _, 2, .int ((k : Int) + 1), rfl, rfl, SqL.of hp1, atI_nat (j := 2) rfl, ?_⟩
      have t0 : (0 : Int) ≤ (k : Int) + 1 := by omega
      have t1 : (k : Int) + 1 ≤ 1000000 := by omega
      have s1 : 0 ≤ 69621 * ((k : Int) + 1) ∧ 69621 * ((k : Int) + 1) ≤ 69621000000 := by omega
      have s2 : 0 ≤ 69621 * ((k : Int) + 1) * ((k : Int) + 1) := mul_nn s1.1 t0
      have s3 : 69621 * ((k : Int) + 1) * ((k : Int) + 1) ≤ 69621000000 * 1000000 := mul_le s1.1 s1.2 t0 t1
      refine ⟨.ref p, rfl, p, _, 1, .int b, rfl, rfl, SqL.of hp1, atI_nat (j := 1) rfl, .int ((k : Int) + 1), rfl, 69621, (k : Int) + 1, rfl, rfl, .inl ⟨by decide, by decide⟩, .int ((k : Int) + 1), rfl, 69621 * ((k : Int) + 1), (k : Int) + 1, rfl, rfl, .inl ⟨by omega, by omega⟩,
        b, 69621 * ((k : Int) + 1) * ((k : Int) + 1), rfl, rfl, b + 69621 * ((k : Int) + 1) * ((k : Int) + 1), 3, rfl, rfl, b + 69621 * ((k : Int) + 1) * ((k : Int) + 1) + 3, 3, rfl, rfl, ⟨by decide, by decide, natAbs_lt (by omega) (by omega)⟩,
        _, 2147483629, rfl, rfl, (show (0 : Int) < 2147483629 by decide), ?_⟩
      have o0 : 0 ≤ (b + 69621 * ((k : Int) + 1) * ((k : Int) + 1) + 3) ^ Int.toNat 3 % 2147483629 := Int.emod_nonneg _ (by decide)
      have o1 : (b + 69621 * ((k : Int) + 1) * ((k : Int) + 1) + 3) ^ Int.toNat 3 % 2147483629 < 2147483629 := Int.emod_lt_of_pos _ (by decide)
      dsimp only
      generalize (b + 69621 * ((k : Int) + 1) * ((k : Int) + 1) + 3) ^ Int.toNat 3 % 2147483629 = one at o0 o1 ⊢
      refine ⟨.int one, rfl, one, 3, rfl, rfl, ⟨by decide, by decide, natAbs_lt o0 (by omega)⟩, .int ((k : Int) + 1), rfl, 30011, (k : Int) + 1, rfl, rfl, .inl ⟨by decide, by decide⟩, _, _, rfl, rfl, _, 998244353, rfl, rfl, (show (0 : Int) < 998244353 by decide), ?_⟩
      have r0 : 0 ≤ (one ^ Int.toNat 3 + 30011 * ((k : Int) + 1)) % 998244353 := Int.emod_nonneg _ (by decide)
      have r1 : (one ^ Int.toNat 3 + 30011 * ((k : Int) + 1)) % 998244353 < 998244353 := Int.emod_lt_of_pos _ (by decide)
      dsimp only
      generalize (one ^ Int.toNat 3 + 30011 * ((k : Int) + 1)) % 998244353 = other at r0 r1 ⊢
      refine ⟨.int one, rfl, one, 998244353, rfl, rfl, .inl ⟨by omega, by omega⟩, .int other, rfl, .int other, rfl, other, other, rfl, rfl, .inl ⟨by omega, by omega⟩, _, _, rfl, rfl, _, 1013, rfl, rfl, (show (0 : Int) < 1013 ∧ (1013 : Int) < 1073741824 by decide), .int m, rfl, _, m, rfl, rfl, hm, ?_⟩
      exact q _ _ (Int.emod_nonneg _ (by omega)) (Int.emod_lt_of_pos _ hm) ⟨g, b, k + 1, upd_same, hg, hb, hb2, by omega⟩ Fx.upd

/-! ### _law_pool -/
def spPool (K : PySem.W.Frag) : Sp := fun vs H Q _ => ∃ (a : Addr) (ns : List Int) (j : Nat), vs = [.ref a, .int (j : Int)] ∧ SqL K H a (ns.map V.int) ∧ ns.length ≤ 63 ∧ j ≤ 1000 ∧
  ∀ (p : Addr) (H' : Hp), H p = none → Ex H H' → Pl H' p 0 → Q (.ref p) H'
set_option maxHeartbeats 4000000 in
theorem ok_l_pool (T : TX K mg A FD TK CC) : FnOk P w K mg base CX0 1 (A 29) (FD 29) ["_law_script", "_law_at"] (spPool K) := by
  refine T.f_l_pool.ok sc_l_pool (fun vs H Q E h => ?_) (fun cdv A' outer s H vs Q E hr h => ?_)
  · obtain ⟨a, ns, j, rfl, _⟩ := h
    rfl
  · obtain ⟨a, ns, j, rfl, hS, hn, hj, q⟩ := h
    refine ⟨_, (pss_cons (ps_set (i := 2) sc_l_pool.nd rfl (.inl rfl) pe_int)
      (pss_cut (ps_if (pt_cmpR op_lt (pv 1) (pe_callB (lenK (K := K) rfl) (by rfl) T.m_len (by decide +kernel) (pa_cons (pv 0) pa_nil)) (nomark _))
      (pss_one (ps_set (i := 2) sc_l_pool.nd rfl (.inl rfl) (pe_ix (ixLK (K := K) rfl) (pv 0) (pv 1) (fun _ _ => rfl))))
      pss_nil)
      (pss_cons (ps_set (i := 3) sc_l_pool.nd rfl (.inl rfl) (pe_callB call_abs (by rfl) T.m_abs (by decide +kernel) (pa_cons (pv 2) pa_nil)))
      (pss_one (ps_ret (pe_lst (pa_cons (pe_op op_mul (pv 3) (pe_callTy call_int1 (by rfl) T.m_int (by decide +kernel) (pa_cons (pe_cmpR op_ge (pv 3) (pe_op op_pow pe_int pe_int) (nomark _)) pa_nil))) (pa_cons (pe_op op_add (pe_op op_add (pe_op op_mul (pe_op op_mod (pv 2) pe_int) pe_int) (pe_op op_mul pe_int (pv 1))) pe_int) (pa_cons pe_int pa_nil))))))))), ?_⟩
    refine ⟨fun σ' H' => H' = H ∧ ∃ z : Int, σ' = [some (.ref a), some (.int (j : Int)), some (.int z), none], ?_, ?_⟩
    · refine ⟨.int (j : Int), rfl, .ref a, rfl, a, _, rfl, .inl hS, _, _, rfl, rfl, _, rfl, ite2 (fun e => ?_) (fun e => ?_)⟩
      · have e0 : (j : Int) < ((ns.map V.int).length : Int) := of_decide_eq_true e
        have e1 : j < ns.length := by
          rw [List.length_map] at e0
          omega
        refine ⟨.ref a, rfl, .int (j : Int), rfl, a, _, _, .int ns[j], rfl, rfl, hS, atI_nat (j := j) ?_, rfl, ns[j], rfl⟩
        rw [List.getElem?_map, List.getElem?_eq_getElem e1]
        rfl
      · exact ⟨rfl, 0, rfl⟩
    · rintro σ' H' ⟨rfl, z, rfl⟩
      refine ⟨.int z, rfl, z, rfl, ?_⟩
      have f0 : 0 ≤ (if z < 0 then -z else z) := by split <;> omega
      generalize (if z < 0 then -z else z) = far at f0 ⊢
      refine ⟨.int far, rfl, .int far, rfl, 10, 18, rfl, rfl, ⟨by decide, by decide, by decide⟩, far, _, rfl, rfl, .inr ⟨_, rfl, ?_⟩⟩
      generalize hd : decide ((10 : Int) ^ Int.toNat 18 ≤ far) = big
      have m0 : 0 ≤ z % 2147483647 := Int.emod_nonneg _ (by decide)
      have m1 : z % 2147483647 < 2147483647 := Int.emod_lt_of_pos _ (by decide)
      refine ⟨far, _, rfl, rfl, .inr ⟨?_, ?_⟩, ?_⟩
      · cases big <;> decide
      · cases big <;> decide
      refine ⟨.int z, rfl, z, 2147483647, rfl, rfl, (show (0 : Int) < 2147483647 by decide), ?_⟩
      dsimp only
      generalize z % 2147483647 = y at m0 m1 ⊢
      refine ⟨y, 48271, rfl, rfl, .inl ⟨by omega, by omega⟩, .int (j : Int), rfl, 7919, (j : Int), rfl, rfl, .inl ⟨by decide, by decide⟩, _, _, rfl, rfl, _, 31, rfl, rfl, (by show 3 ≤ sizeLine; decide), fun p np => ?_⟩
      refine q p _ np (ex_upd np) ⟨_, _, 0, upd_same, ?_, ?_, ?_, Nat.le_refl _⟩
      · cases big
        · show (0 : Int) ≤ far * 0
          omega
        · show (0 : Int) ≤ far * 1
          omega
      · omega
      · omega

/-! ### _law_kind, _law_how -/
def spKind (K : PySem.W.Frag) (A : Nat → Addr) : Addr → Value → Option Addr → Sp := fun a cls d vs H Q _ => ∃ (C : Addr) (i : Nat) (nm : Str), vs = [.ref a] ∧ cls = .ref C ∧ Plain K (howC A) C i ∧ kindNames[i]? = some nm ∧ DictOk d H ∧ RetV (.str nm) H Q
theorem no_if {b : Bool} {X Y : Prop} (h : b = false) (y : Y) : if b = true then X else Y := by
  rw [h]
  exact y
set_option maxHeartbeats 16000000 in
theorem ok_l_kind (T : TX K mg A FD TK CC) : FnP P w K mg base CX0 1 (A 33) (FD 33) ["_law_e"] (spKind K A) := by
  refine fnP_of (k := 0) T.f_l_kind sc_l_kind (fun a cls d vs H Q E h => ?_) (fun cdv A' outer s H vs Q E p cls d hr hz hfl h => ?_)
  · obtain ⟨C, i, nm, rfl, _⟩ := h
    rfl
  · obtain ⟨C, i, nm, rfl, rfl, hp, hn, hd, q⟩ := h
    have EC := hp.ec
    have HH : Held (L2H.cxH CX0 P w K mg base N_l_kind "_law_kind" (defScope (topS 33)) (A 33) cdv A' outer s H E p) p.1 C d p.2 := ⟨List.mem_singleton.mpr rfl, hz, hfl⟩
    have hi : i < 16 := (List.getElem?_eq_some_iff.mp hn).1
    refine ⟨_, (pss_cons (ps_set (i := 1) sc_l_kind.nd rfl (.inl rfl) (pe_lst (pa_cons pe_str (pa_cons pe_str (pa_cons pe_str (pa_cons pe_str (pa_cons pe_str (pa_cons pe_str (pa_cons pe_str (pa_cons pe_str (pa_cons pe_str pa_nil)))))))))))
      (pss_cons (ps_set (i := 1) sc_l_kind.nd rfl (.inl rfl) (pe_op op_cat (pv 1) (pe_lst (pa_cons pe_str (pa_cons pe_str (pa_cons pe_str (pa_cons pe_str (pa_cons pe_str (pa_cons pe_str (pa_cons pe_str pa_nil))))))))))
      (pss_cons (ps_set (i := 2) sc_l_kind.nd rfl (.inl rfl) (pe_lst (pa_cons (pe_callB (isH (K := K) rfl EC HH) (by rfl) T.m_isinstance (by decide +kernel) (pa_cons (pv 0) (pa_cons (pe_glob (v := .ref (A 9)) (by rfl) T.k_NoCode rfl) pa_nil))) (pa_cons (pe_callB (isH (K := K) rfl EC HH) (by rfl) T.m_isinstance (by decide +kernel) (pa_cons (pv 0) (pa_cons (pe_glob (v := .ref (A 16)) (by rfl) T.k_NoDeed rfl) pa_nil))) (pa_cons (pe_callB (isH (K := K) rfl EC HH) (by rfl) T.m_isinstance (by decide +kernel) (pa_cons (pv 0) (pa_cons (pe_glob (v := .ref (A 11)) (by rfl) T.k_NoEntries rfl) pa_nil))) (pa_cons (pe_callB (isH (K := K) rfl EC HH) (by rfl) T.m_isinstance (by decide +kernel) (pa_cons (pv 0) (pa_cons (pe_glob (v := .ref (A 6)) (by rfl) T.k_NoLengths rfl) pa_nil))) pa_nil))))))
      (pss_cons (ps_set (i := 2) sc_l_kind.nd rfl (.inl rfl) (pe_op op_cat (pv 2) (pe_lst (pa_cons (pe_callB (isH (K := K) rfl EC HH) (by rfl) T.m_isinstance (by decide +kernel) (pa_cons (pv 0) (pa_cons (pe_glob (v := .ref (A 8)) (by rfl) T.k_NoName rfl) pa_nil))) (pa_cons (pe_callB (isH (K := K) rfl EC HH) (by rfl) T.m_isinstance (by decide +kernel) (pa_cons (pv 0) (pa_cons (pe_glob (v := .ref (A 4)) (by rfl) T.k_NoNumber rfl) pa_nil))) (pa_cons (pe_callB (isH (K := K) rfl EC HH) (by rfl) T.m_isinstance (by decide +kernel) (pa_cons (pv 0) (pa_cons (pe_glob (v := .ref (A 13)) (by rfl) T.k_NoPages rfl) pa_nil))) (pa_cons (pe_callB (isH (K := K) rfl EC HH) (by rfl) T.m_isinstance (by decide +kernel) (pa_cons (pv 0) (pa_cons (pe_glob (v := .ref (A 14)) (by rfl) T.k_NoQueries rfl) pa_nil))) pa_nil)))))))
      (pss_cons (ps_set (i := 2) sc_l_kind.nd rfl (.inl rfl) (pe_op op_cat (pv 2) (pe_lst (pa_cons (pe_callB (isH (K := K) rfl EC HH) (by rfl) T.m_isinstance (by decide +kernel) (pa_cons (pv 0) (pa_cons (pe_glob (v := .ref (A 7)) (by rfl) T.k_NoQuery rfl) pa_nil))) (pa_cons (pe_callB (isH (K := K) rfl EC HH) (by rfl) T.m_isinstance (by decide +kernel) (pa_cons (pv 0) (pa_cons (pe_glob (v := .ref (A 12)) (by rfl) T.k_NoQueryText rfl) pa_nil))) (pa_cons (pe_callB (isH (K := K) rfl EC HH) (by rfl) T.m_isinstance (by decide +kernel) (pa_cons (pv 0) (pa_cons (pe_glob (v := .ref (A 10)) (by rfl) T.k_NoRow rfl) pa_nil))) (pa_cons (pe_callB (isH (K := K) rfl EC HH) (by rfl) T.m_isinstance (by decide +kernel) (pa_cons (pv 0) (pa_cons (pe_glob (v := .ref (A 15)) (by rfl) T.k_NoShelf rfl) pa_nil))) pa_nil)))))))
      (pss_cons (ps_set (i := 2) sc_l_kind.nd rfl (.inl rfl) (pe_op op_cat (pv 2) (pe_lst (pa_cons (pe_callB (isH (K := K) rfl EC HH) (by rfl) T.m_isinstance (by decide +kernel) (pa_cons (pv 0) (pa_cons (pe_glob (v := .ref (A 5)) (by rfl) T.k_NoSize rfl) pa_nil))) (pa_cons (pe_callB (isH (K := K) rfl EC HH) (by rfl) T.m_isinstance (by decide +kernel) (pa_cons (pv 0) (pa_cons (pe_glob (v := .ref (A 3)) (by rfl) T.k_NoText rfl) pa_nil))) (pa_cons (pe_callB (isH (K := K) rfl EC HH) (by rfl) T.m_isinstance (by decide +kernel) (pa_cons (pv 0) (pa_cons (pe_glob (v := .ref (A 2)) (by rfl) T.k_NoWord rfl) pa_nil))) (pa_cons (pe_callB (isH (K := K) rfl EC HH) (by rfl) T.m_isinstance (by decide +kernel) (pa_cons (pv 0) (pa_cons (pe_glob (v := .ref (A 17)) (by rfl) T.k_Taken rfl) pa_nil))) pa_nil)))))))
      (pss_cons (ps_if (PW.pt (pw_or (pt_cmpR op_ne (pe_bm PySem.F.plainAttrs_list PySem.F.slot_list_count PySem.F.type_list_count (cntB (K := K) rfl) (pv 2) (pa_cons pe_bl pa_nil)) pe_int (nomark _)) (pw_or (pt_not (pt_val (pe_callB (isH (K := K) rfl EC HH) (by rfl) T.m_isinstance (by decide +kernel) (pa_cons (pv 0) (pa_cons (pe_bltn (v := .ty "ValueError") (by rfl) T.m_ValueError (by decide +kernel) rfl) pa_nil))))) (pw_or1 (pt_val (pe_callB (isHT (K := K) rfl EC HH) (by rfl) T.m_isinstance (by decide +kernel) (pa_cons (pv 0) (pa_cons (pe_tup (pa_cons (pe_glob (v := .ref (A 18)) (by rfl) T.k_NoPlace rfl) (pa_cons (pe_glob (v := .ref (A 19)) (by rfl) T.k_NoSlot rfl) pa_nil))) pa_nil))))))))
      (pss_one (ps_ret pe_str))
      pss_nil)
      (pss_one (ps_ret (pe_ix (ixLK (K := K) rfl) (pv 1) (pe_bm PySem.F.plainAttrs_list PySem.F.slot_list_index PySem.F.type_list_index (indexK (K := K) rfl) (pv 2) (pa_cons pe_bl pa_nil)) (fun _ _ => rfl))))))))))), ?_⟩
    refine ⟨by show 9 ≤ sizeLine; decide, fun l0 n0 => ?_⟩
    have e0 := Ex.new (o := .lst [V.str "code", .str "deed", .str "entries", .str "lengths", .str "name", .str "number", .str "pages", .str "queries", .str "query"]) n0
    refine ⟨.ref l0, rfl, by show 7 ≤ sizeLine; decide, fun l1 n1 => ?_⟩
    have e1 := e0.trans (Ex.new (o := .lst [V.str "text of query", .str "row", .str "shelf", .str "size", .str "text", .str "word", .str "taken"]) n1)
    refine ⟨l0, l1, _, _, rfl, rfl, Ex.new n1 _ _ upd_same, upd_same, by show 16 ≤ sizeLine; decide, fun l2 n2 => ?_⟩
    have e2 := e1.trans (Ex.new (o := .lst (kindNames.map V.str)) n2)
    have hN : (upd (upd (upd H l0 (.lst [V.str "code", .str "deed", .str "entries", .str "lengths", .str "name", .str "number", .str "pages", .str "queries", .str "query"])) l1 (.lst [V.str "text of query", .str "row", .str "shelf", .str "size", .str "text", .str "word", .str "taken"])) l2 (.lst (kindNames.map V.str))) l2 = some (.lst (kindNames.map V.str)) := upd_same
    show tSeq _ _ _ _ (upd (upd (upd H l0 (.lst [V.str "code", .str "deed", .str "entries", .str "lengths", .str "name", .str "number", .str "pages", .str "queries", .str "query"])) l1 (.lst [V.str "text of query", .str "row", .str "shelf", .str "size", .str "text", .str "word", .str "taken"])) l2 (.lst (kindNames.map V.str)))
    generalize (upd (upd (upd H l0 (.lst [V.str "code", .str "deed", .str "entries", .str "lengths", .str "name", .str "number", .str "pages", .str "queries", .str "query"])) l1 (.lst [V.str "text of query", .str "row", .str "shelf", .str "size", .str "text", .str "word", .str "taken"])) l2 (.lst (kindNames.map V.str))) = H2 at e2 hN ⊢
    have d2 := hd.ex e2
    refine ⟨.ref p.1, rfl, .ref (A 9), .ref (A 9), _, rfl, .own _, d2, hp.at (j := 0) rfl, .ref p.1, rfl, .ref (A 16), .ref (A 16), _, rfl, .own _, d2, hp.at (j := 1) rfl, .ref p.1, rfl, .ref (A 11), .ref (A 11), _, rfl, .own _, d2, hp.at (j := 2) rfl, .ref p.1, rfl, .ref (A 6), .ref (A 6), _, rfl, .own _, d2, hp.at (j := 3) rfl, by show 4 ≤ sizeLine; decide, fun m0 k0 => ?_⟩
    have x0 : Ex H2 _ := Ex.new (o := .lst [V.bl (decide (0 = i)), V.bl (decide (1 = i)), V.bl (decide (2 = i)), V.bl (decide (3 = i))]) k0
    have h0 : (upd H2 m0 (.lst [V.bl (decide (0 = i)), V.bl (decide (1 = i)), V.bl (decide (2 = i)), V.bl (decide (3 = i))])) m0 = some (.lst [V.bl (decide (0 = i)), V.bl (decide (1 = i)), V.bl (decide (2 = i)), V.bl (decide (3 = i))]) := upd_same
    generalize (upd H2 m0 (.lst [V.bl (decide (0 = i)), V.bl (decide (1 = i)), V.bl (decide (2 = i)), V.bl (decide (3 = i))])) = G0 at x0 h0 ⊢
    have c0 := d2.ex x0
    refine ⟨.ref m0, rfl, .ref p.1, rfl, .ref (A 8), .ref (A 8), _, rfl, .own _, c0, hp.at (j := 4) rfl, .ref p.1, rfl, .ref (A 4), .ref (A 4), _, rfl, .own _, c0, hp.at (j := 5) rfl, .ref p.1, rfl, .ref (A 13), .ref (A 13), _, rfl, .own _, c0, hp.at (j := 6) rfl, .ref p.1, rfl, .ref (A 14), .ref (A 14), _, rfl, .own _, c0, hp.at (j := 7) rfl, by show 4 ≤ sizeLine; decide, fun n1' j1 => ?_⟩
    have y1 : Ex G0 (upd G0 n1' (.lst [V.bl (decide (4 = i)), V.bl (decide (5 = i)), V.bl (decide (6 = i)), V.bl (decide (7 = i))])) := Ex.new j1
    refine ⟨m0, n1', _, _, rfl, rfl, y1 _ _ h0, upd_same, by show 8 ≤ sizeLine; decide, fun m1 k1 => ?_⟩
    have x1 : Ex G0 (upd (upd G0 n1' (.lst [V.bl (decide (4 = i)), V.bl (decide (5 = i)), V.bl (decide (6 = i)), V.bl (decide (7 = i))])) m1 (.lst ([V.bl (decide (0 = i)), V.bl (decide (1 = i)), V.bl (decide (2 = i)), V.bl (decide (3 = i))] ++ [V.bl (decide (4 = i)), V.bl (decide (5 = i)), V.bl (decide (6 = i)), V.bl (decide (7 = i))]))) := y1.trans (Ex.new k1)
    have h1 : (upd (upd G0 n1' (.lst [V.bl (decide (4 = i)), V.bl (decide (5 = i)), V.bl (decide (6 = i)), V.bl (decide (7 = i))])) m1 (.lst ([V.bl (decide (0 = i)), V.bl (decide (1 = i)), V.bl (decide (2 = i)), V.bl (decide (3 = i))] ++ [V.bl (decide (4 = i)), V.bl (decide (5 = i)), V.bl (decide (6 = i)), V.bl (decide (7 = i))]))) m1 = some (.lst ([V.bl (decide (0 = i)), V.bl (decide (1 = i)), V.bl (decide (2 = i)), V.bl (decide (3 = i))] ++ [V.bl (decide (4 = i)), V.bl (decide (5 = i)), V.bl (decide (6 = i)), V.bl (decide (7 = i))])) := upd_same
    generalize (upd (upd G0 n1' (.lst [V.bl (decide (4 = i)), V.bl (decide (5 = i)), V.bl (decide (6 = i)), V.bl (decide (7 = i))])) m1 (.lst ([V.bl (decide (0 = i)), V.bl (decide (1 = i)), V.bl (decide (2 = i)), V.bl (decide (3 = i))] ++ [V.bl (decide (4 = i)), V.bl (decide (5 = i)), V.bl (decide (6 = i)), V.bl (decide (7 = i))]))) = G1 at x1 h1 ⊢
    have c1 := c0.ex x1
    refine ⟨.ref m1, rfl, .ref p.1, rfl, .ref (A 7), .ref (A 7), _, rfl, .own _, c1, hp.at (j := 8) rfl, .ref p.1, rfl, .ref (A 12), .ref (A 12), _, rfl, .own _, c1, hp.at (j := 9) rfl, .ref p.1, rfl, .ref (A 10), .ref (A 10), _, rfl, .own _, c1, hp.at (j := 10) rfl, .ref p.1, rfl, .ref (A 15), .ref (A 15), _, rfl, .own _, c1, hp.at (j := 11) rfl, by show 4 ≤ sizeLine; decide, fun n2' j2 => ?_⟩
    have y2 : Ex G1 (upd G1 n2' (.lst [V.bl (decide (8 = i)), V.bl (decide (9 = i)), V.bl (decide (10 = i)), V.bl (decide (11 = i))])) := Ex.new j2
    refine ⟨m1, n2', _, _, rfl, rfl, y2 _ _ h1, upd_same, by show 12 ≤ sizeLine; decide, fun m2 k2 => ?_⟩
    have x2 : Ex G1 (upd (upd G1 n2' (.lst [V.bl (decide (8 = i)), V.bl (decide (9 = i)), V.bl (decide (10 = i)), V.bl (decide (11 = i))])) m2 (.lst (([V.bl (decide (0 = i)), V.bl (decide (1 = i)), V.bl (decide (2 = i)), V.bl (decide (3 = i))] ++ [V.bl (decide (4 = i)), V.bl (decide (5 = i)), V.bl (decide (6 = i)), V.bl (decide (7 = i))]) ++ [V.bl (decide (8 = i)), V.bl (decide (9 = i)), V.bl (decide (10 = i)), V.bl (decide (11 = i))]))) := y2.trans (Ex.new k2)
    have h2 : (upd (upd G1 n2' (.lst [V.bl (decide (8 = i)), V.bl (decide (9 = i)), V.bl (decide (10 = i)), V.bl (decide (11 = i))])) m2 (.lst (([V.bl (decide (0 = i)), V.bl (decide (1 = i)), V.bl (decide (2 = i)), V.bl (decide (3 = i))] ++ [V.bl (decide (4 = i)), V.bl (decide (5 = i)), V.bl (decide (6 = i)), V.bl (decide (7 = i))]) ++ [V.bl (decide (8 = i)), V.bl (decide (9 = i)), V.bl (decide (10 = i)), V.bl (decide (11 = i))]))) m2 = some (.lst (([V.bl (decide (0 = i)), V.bl (decide (1 = i)), V.bl (decide (2 = i)), V.bl (decide (3 = i))] ++ [V.bl (decide (4 = i)), V.bl (decide (5 = i)), V.bl (decide (6 = i)), V.bl (decide (7 = i))]) ++ [V.bl (decide (8 = i)), V.bl (decide (9 = i)), V.bl (decide (10 = i)), V.bl (decide (11 = i))])) := upd_same
    generalize (upd (upd G1 n2' (.lst [V.bl (decide (8 = i)), V.bl (decide (9 = i)), V.bl (decide (10 = i)), V.bl (decide (11 = i))])) m2 (.lst (([V.bl (decide (0 = i)), V.bl (decide (1 = i)), V.bl (decide (2 = i)), V.bl (decide (3 = i))] ++ [V.bl (decide (4 = i)), V.bl (decide (5 = i)), V.bl (decide (6 = i)), V.bl (decide (7 = i))]) ++ [V.bl (decide (8 = i)), V.bl (decide (9 = i)), V.bl (decide (10 = i)), V.bl (decide (11 = i))]))) = G2 at x2 h2 ⊢
    have c2 := c1.ex x2
    refine ⟨.ref m2, rfl, .ref p.1, rfl, .ref (A 5), .ref (A 5), _, rfl, .own _, c2, hp.at (j := 12) rfl, .ref p.1, rfl, .ref (A 3), .ref (A 3), _, rfl, .own _, c2, hp.at (j := 13) rfl, .ref p.1, rfl, .ref (A 2), .ref (A 2), _, rfl, .own _, c2, hp.at (j := 14) rfl, .ref p.1, rfl, .ref (A 17), .ref (A 17), _, rfl, .own _, c2, hp.at (j := 15) rfl, by show 4 ≤ sizeLine; decide, fun n3' j3 => ?_⟩
    have y3 : Ex G2 (upd G2 n3' (.lst [V.bl (decide (12 = i)), V.bl (decide (13 = i)), V.bl (decide (14 = i)), V.bl (decide (15 = i))])) := Ex.new j3
    refine ⟨m2, n3', _, _, rfl, rfl, y3 _ _ h2, upd_same, by show 16 ≤ sizeLine; decide, fun m3 k3 => ?_⟩
    have x3 : Ex G2 (upd (upd G2 n3' (.lst [V.bl (decide (12 = i)), V.bl (decide (13 = i)), V.bl (decide (14 = i)), V.bl (decide (15 = i))])) m3 (.lst ((([V.bl (decide (0 = i)), V.bl (decide (1 = i)), V.bl (decide (2 = i)), V.bl (decide (3 = i))] ++ [V.bl (decide (4 = i)), V.bl (decide (5 = i)), V.bl (decide (6 = i)), V.bl (decide (7 = i))]) ++ [V.bl (decide (8 = i)), V.bl (decide (9 = i)), V.bl (decide (10 = i)), V.bl (decide (11 = i))]) ++ [V.bl (decide (12 = i)), V.bl (decide (13 = i)), V.bl (decide (14 = i)), V.bl (decide (15 = i))]))) := y3.trans (Ex.new k3)
    have h3 : (upd (upd G2 n3' (.lst [V.bl (decide (12 = i)), V.bl (decide (13 = i)), V.bl (decide (14 = i)), V.bl (decide (15 = i))])) m3 (.lst ((([V.bl (decide (0 = i)), V.bl (decide (1 = i)), V.bl (decide (2 = i)), V.bl (decide (3 = i))] ++ [V.bl (decide (4 = i)), V.bl (decide (5 = i)), V.bl (decide (6 = i)), V.bl (decide (7 = i))]) ++ [V.bl (decide (8 = i)), V.bl (decide (9 = i)), V.bl (decide (10 = i)), V.bl (decide (11 = i))]) ++ [V.bl (decide (12 = i)), V.bl (decide (13 = i)), V.bl (decide (14 = i)), V.bl (decide (15 = i))]))) m3 = some (.lst ((([V.bl (decide (0 = i)), V.bl (decide (1 = i)), V.bl (decide (2 = i)), V.bl (decide (3 = i))] ++ [V.bl (decide (4 = i)), V.bl (decide (5 = i)), V.bl (decide (6 = i)), V.bl (decide (7 = i))]) ++ [V.bl (decide (8 = i)), V.bl (decide (9 = i)), V.bl (decide (10 = i)), V.bl (decide (11 = i))]) ++ [V.bl (decide (12 = i)), V.bl (decide (13 = i)), V.bl (decide (14 = i)), V.bl (decide (15 = i))])) := upd_same
    generalize (upd (upd G2 n3' (.lst [V.bl (decide (12 = i)), V.bl (decide (13 = i)), V.bl (decide (14 = i)), V.bl (decide (15 = i))])) m3 (.lst ((([V.bl (decide (0 = i)), V.bl (decide (1 = i)), V.bl (decide (2 = i)), V.bl (decide (3 = i))] ++ [V.bl (decide (4 = i)), V.bl (decide (5 = i)), V.bl (decide (6 = i)), V.bl (decide (7 = i))]) ++ [V.bl (decide (8 = i)), V.bl (decide (9 = i)), V.bl (decide (10 = i)), V.bl (decide (11 = i))]) ++ [V.bl (decide (12 = i)), V.bl (decide (13 = i)), V.bl (decide (14 = i)), V.bl (decide (15 = i))]))) = G3 at x3 h3 ⊢
    have c3 := c2.ex x3
    have xN : Ex H2 G3 := ((x0.trans x1).trans x2).trans x3
    have hm : G3 m3 = some (.lst ((hot16 i).map V.bl)) := h3
    refine ⟨.ref m3, rfl, .inl ⟨rfl, _, SqL.of hm⟩, m3, hot16 i, rfl, rfl, SqL.of hm, rfl, _, rfl, no_if (by rw [hot16_count i hi]; decide) ?_⟩
    refine ⟨.ref p.1, rfl, .ty "ValueError", .type "ValueError", true, rfl, .ty _, c3, hp.kv, true, rfl, ?_⟩
    refine ⟨.ref p.1, rfl, by show 2 ≤ sizeLine; decide, fun tp ntp => ?_⟩
    have xT : Ex G3 (upd G3 tp (.tup [.ref (A 18), .ref (A 19)])) := Ex.new ntp
    refine ⟨tp, _, _, false, rfl, upd_same, .cons (.own _) (.cons (.own _) .nil), c3.ex xT, hp.k2, false, rfl, ?_⟩
    refine ⟨.ref l2, rfl, .ref m3, rfl, .inl ⟨rfl, _, SqL.of (xT _ _ hm)⟩, m3, (hot16 i).map V.bl, .bl true, i, .bl true, rfl, rfl, SqL.of (xT _ _ hm), rfl, ?_, ?_, rfl, ?_, ?_⟩
    · rw [List.all_eq_true]
      intro x hx
      obtain ⟨b, _, rfl⟩ := List.mem_map.mp hx
      rfl
    · rw [List.getElem?_map, hot16_at i hi]
      rfl
    · intro m z hm' hz
      rw [List.getElem?_map, hot16_ahead i hi m hm'] at hz
      cases hz
      rfl
    · refine ⟨l2, _, i, .str nm, rfl, rfl, SqL.of ((xN.trans xT) _ _ hN), atI_nat ?_, q.go ((e2.trans xN).trans xT)⟩
      rw [List.getElem?_map, hn]
      rfl
/-- what the law's _law_how makes of a deed: its refusal's kind, or told -/
def TTHow (K : PySem.W.Frag) (A : Nat → Addr) : (XK → Hp → VK → Prop) → Hp → VK → Prop := fun tl H Q =>
  tl (fun cls d H' => ∃ (C : Addr) (i : Nat) (nm : Str), cls = .ref C ∧ Plain K (howC A) C i ∧ kindNames[i]? = some nm ∧ DictOk d H' ∧ RetV (.str nm) H' Q) H (fun _ H' => Q (.str "told") H')
set_option maxHeartbeats 16000000 in
theorem how_gives {X : Cx} (T : TX X.K X.mg A FD TK CC) {k : Nat} (hr : Room (k + 2) X.A) (cdg : Value) (qn : Str) :
    LamX.GivesTo X N_l_how "_law_how" (defScope (topS 34)) (A 34) cdg (defBody (topS 34)) "_law_deed" qn (TTHow X.K A) := by
  intro f c' s H Q tl act hc h
  have GK := ok_l_kind (P := X.prog) (w := X.w) (base := X.base) T
  have rm : ∀ a : Addr, L2H.RoomH 1 ((X.A.deeper (envOfC "_law_how" (defScope (topS 34)) s.heap.objs.size (A 34) cdg)).mark (some (.ref a))) := fun a =>
    let r := L2H.roomH_of ((hr.deeper (envOfC "_law_how" (defScope (topS 34)) s.heap.objs.size (A 34) cdg)).mono (show 1 ≤ k + 1 by omega))
    ⟨r.dp, r.un⟩
  refine ⟨_, pss_cons (ps_try_asMany (X := (cxOf C8.CX0 X.prog X.w X.K X.mg X.base N_l_how "_law_how" (defScope (topS 34)) (A 34) cdg X.A X.stack s H C8.E0).nox) (n := "_law_e") (i := 1)
      (tb := fun W D σ H => ∃ Ech : XK, (∀ cls d σ' H', Ech cls d H' → W cls d σ' H') ∧ σ[0]? = some (some (.ref f)) ∧ H c' = some (LamX.CodeO c' qn) ∧ tl Ech H (fun _ H' => D.nx σ H')) rfl rfl sc_l_how.nd rfl rfl takes0 (fun W pn xe tk _ => ?_)
      (HdsAs.cons (test_tup (.cons ⟨rfl, by decide, .inl T.k_NoCode⟩ (.cons ⟨rfl, by decide, .inl T.k_NoEntries⟩ (.cons ⟨rfl, by decide, .inl T.k_NoPages⟩ (.cons ⟨rfl, by decide, .inl T.k_NoQueryText⟩ (.cons ⟨rfl, by decide, .inl T.k_NoRow⟩ .nil))))) (by show 5 ≤ sizeLine; decide)) (fun _ _ _ _ _ _ _ => pss_never)
      (HdsAs.cons (ts := fun a cls d => tRet (tCallP (spKind X.K A) a cls d (tCons (tVar 1) tNil))) (test_name ⟨rfl, by decide, .inl T.k_Wrong⟩) (fun a oe cls d pn hz hf => pss_one (ps_ret (pe_callP (X := ((cxOf C8.CX0 X.prog X.w X.K X.mg X.base N_l_how "_law_how" (defScope (topS 34)) (A 34) cdg X.A X.stack s H C8.E0).nox).suite a ((a, oe) :: pn)) (p := (a, oe)) GK (rm a) (List.mem_cons_self ..) hz hf (by rfl) T.g_l_kind T.f_l_kind.kp T.b_l_kind (pa_cons (pv 1) pa_nil))))
      (HdsAs.cons (test_tup (.cons ⟨rfl, by decide, .inl T.k_NoPlace⟩ (.cons ⟨rfl, by decide, .inl T.k_NoSlot⟩ .nil)) (by show 2 ≤ sizeLine; decide)) (fun _ _ _ _ _ _ _ => pss_never) HdsAs.nil))))
    (pss_one (ps_ret pe_str)), ?_⟩
  · refine ⟨fun pins s' σ H' D I h' => ?_⟩
    obtain ⟨Ech, hW, h1, h2, h3⟩ := h'
    exact (pss_one (ps_expr (act W pn xe Ech _ _ tk hW))).run pins s' σ H' D I ⟨h1, h2, h3⟩
  · refine ⟨_, fun cls d σ' H' hE hl => ?_, rfl, hc, h⟩
    obtain ⟨C, i, nm, rfl, hp, hn, hd, q⟩ := hE
    refine ⟨false, hp.e5, (fun z => Bool.noConfusion z), fun _ => ⟨true, hp.ew, fun _ a na => ?_, fun z => Bool.noConfusion z⟩⟩
    match σ', hl with
    | [x, y], _ => exact ⟨.ref a, rfl, C, i, nm, rfl, rfl, hp, hn, hd, q⟩
set_option maxHeartbeats 8000000 in
theorem pe_how {X : Cx} (T : TX X.K X.mg A FD TK CC) {c Pt : Addr} {k : Nat} {params : Arguments} {body : Expr} {scope : Scope} {t : XK → TE} {p lpos pos : Pos} {Tt : List (Addr × Str)} (TB : LamX.TabB X.base X.mg c Pt) (hcode : X.env.code = .ref c) (hmT : (Pt, X.env.qual ++ "<lambda>") ∈ Tt)
    (hu : ∀ q ∈ Tt, q.1 = Pt → q.2 = X.env.qual ++ "<lambda>") (hr : Room (k + 4) X.A) (L : LamX.LamS X.env.scope scope)
    (hbody : ∀ (A' : Around) (outer : List Env) (s : Shared) (H : Hp) (E : XK) (f c' : Addr), Room (k + 2) (A'.deeper (LamX.lamEnv X scope s.heap.objs.size f c')) → PE (LamX.lamCx X A' outer s H E scope f c') body (t E))
    (hg : Gl X "_law_how" := by rfl) (hdef : defaultsOf params X.env = ([], []) := by rfl)
    (hbind : ∀ (q : Str) (cl : List (Str × Addr)) (pm cv ctv : Value), bindArgs (PySem.W.kla_fn "<lambda>" q params body scope cl pm cv ctv) ⟨[], []⟩ = pure [] := by intros; rfl) :
    PE X (.Call (.Name "_law_how" p) [.Lambda params body scope lpos] [] pos) (LamX.tLam Tt (TTHow X.K A) t) := by
  have B := T.b_l_how
  obtain ⟨oc, od, kV, doc, pm, an, cdv, ct, osl, e, lk, hcd⟩ := T.f_l_how.ex
  rw [e] at B lk
  exact LamX.pe_lamcall (k := k + 2) hg T.g_l_how T.f_l_how.kp lk hcd B sc_l_how rfl (.inl rfl) (how_gives T (k := k) (hr.mono (show k + 2 ≤ k + 4 by omega)) cdv _) TB hcode hmT hu hr L hdef hbind hbody

/-! ### texts: words, pieces between blanks -/
/-- a word: one to twelve letters a to z -/
def isW (z : Str) : Bool := decide (1 ≤ z.cps.size) && decide (z.cps.size ≤ 12) && z.cps.toList.all fun c => decide (97 ≤ c) && decide (c ≤ 122)
def wordV : V → Bool
  | .str z => isW z
  | _ => false
/-- the things that are asked of -/
inductive Th (H : Hp) : V → Prop
  | str (z : Str) (h : z.length ≤ 100000) : Th H (.str z)
  | non : Th H .non
  | bl (b : Bool) : Th H (.bl b)
  | int (i : Int) : Th H (.int i)
  | lst {a : Addr} {xs : List V} (h : H a = some (.lst xs)) : Th H (.ref a)
  | tup {a : Addr} {xs : List V} (h : H a = some (.tup xs)) : Th H (.ref a)
theorem Th.ex {H H' : Hp} {v : V} (t : Th H v) (e : Ex H H') : Th H' v := by
  cases t with
  | str z h => exact .str z h
  | non => exact .non
  | bl b => exact .bl b
  | int i => exact .int i
  | lst h => exact .lst (e _ _ h)
  | tup h => exact .tup (e _ _ h)
theorem Th.exN {H H' : Hp} {v : V} (t : Th H v) (e : LamX.ExtN H H') : Th H' v := by
  cases t with
  | str z h => exact .str z h
  | non => exact .non
  | bl b => exact .bl b
  | int i => exact .int i
  | lst h => exact .lst (e _ _ h (by intro ps z; cases z))
  | tup h => exact .tup (e _ _ h (by intro ps z; cases z))
/-- a text, or a thing of another kind -/
theorem Th.kinds (K : PySem.W.Frag) {H : Hp} {v : V} (t : Th H v) : (∃ z, v = .str z ∧ z.length ≤ 100000) ∨ (∃ ty, TyX K H v (.type ty) ∧ kitB ty "str" = some false ∧ wordV v = false ∧ ∀ z, v ≠ .str z) := by
  cases t with
  | str z h => exact .inl ⟨z, rfl, h⟩
  | non => exact .inr ⟨_, .base .non, by decide +kernel, rfl, fun z e => by cases e⟩
  | bl b => exact .inr ⟨_, .base (.bl b), by decide +kernel, rfl, fun z e => by cases e⟩
  | int i => exact .inr ⟨_, .base (.int i), by decide +kernel, rfl, fun z e => by cases e⟩
  | lst h => exact .inr ⟨_, .base (.lst h), by decide +kernel, rfl, fun z e => by cases e⟩
  | tup h => exact .inr ⟨_, .base (.tup h), by decide +kernel, rfl, fun z e => by cases e⟩
theorem lt_one (a b : Nat) : decide (([a] : List Nat) < [b]) = decide (a < b) := by
  by_cases h : a < b
  · rw [decide_eq_true h]
    exact decide_eq_true (List.Lex.rel h)
  · rw [decide_eq_false h]
    refine decide_eq_false fun z => ?_
    cases z with
    | rel h' => exact h h'
    | cons h' => cases h'
theorem isW_len {z : Str} (h : isW z = true) : z.length ≤ 12 := by
  unfold isW at h
  rw [Bool.and_eq_true, Bool.and_eq_true, decide_eq_true_eq, decide_eq_true_eq] at h
  exact h.1.2
/-! ### split by a blank, joined again -/
theorem spl_len : ∀ (xs acc : List Nat), (spl [32] 0 acc xs).length ≤ xs.length + 1
  | [], acc => Nat.le_refl _
  | c :: r, acc => by
    rw [spl]
    split
    · have := spl_len r []
      show (spl [32] 0 [] r).length + 1 ≤ (c :: r).length + 1
      rw [List.length_cons]
      omega
    · have := spl_len r (acc ++ [c])
      rw [List.length_cons]
      omega
theorem spl_short : ∀ (xs acc : List Nat), ∀ p ∈ spl [32] 0 acc xs, p.length ≤ acc.length + xs.length
  | [], acc, p, h => by
    rw [spl, List.mem_singleton] at h
    rw [h]
    exact Nat.le_refl _
  | c :: r, acc, p, h => by
    rw [spl] at h
    split at h
    · rcases List.mem_cons.mp h with rfl | h
      · omega
      · have := spl_short r [] p h
        rw [List.length_nil] at this
        rw [List.length_cons]
        omega
    · have := spl_short r (acc ++ [c]) p h
      rw [List.length_append, List.length_cons, List.length_nil] at this
      rw [List.length_cons]
      omega
theorem spl_ne (xs acc : List Nat) : spl [32] 0 acc xs ≠ [] := by
  cases xs with
  | nil => rw [spl]; simp
  | cons c r =>
    rw [spl]
    split
    · simp
    · exact spl_ne r (acc ++ [c])
theorem joinL_cons {S p : List Nat} {q : List (List Nat)} (h : q ≠ []) : joinL S (p :: q) = p ++ (S ++ joinL S q) := by
  cases q with
  | nil => exact absurd rfl h
  | cons x r => rw [joinL]
theorem join_spl : ∀ (xs acc : List Nat), joinL [32] (spl [32] 0 acc xs) = acc ++ xs
  | [], acc => by
    rw [spl, joinL, List.append_nil]
  | c :: r, acc => by
    rw [spl]
    split
    · rename_i h
      have hc : c = 32 := by simpa [pre] using h
      show joinL [32] (acc :: spl [32] 0 [] r) = _
      rw [joinL_cons (spl_ne r []), join_spl r [], hc]
      simp
    · rw [join_spl r (acc ++ [c])]
      simp
theorem split_tl (z : Str) : (Txt.split z " ").map tl = spl [32] 0 [] (tl z) := split_spl z " " (by decide) (kind_ok (by decide +kernel))
theorem join_split (z : Str) : Txt.join " " (Txt.split z " ") = z := by
  refine ext_tl ?_
  rw [join_eq, tl_join, split_tl]
  exact (join_spl (tl z) []).trans (List.nil_append _)
theorem tl_len (z : Str) : (tl z).length = z.length := by
  show z.cps.toList.length = z.cps.size
  simp
theorem split_len (z : Str) : (Txt.split z " ").length ≤ z.length + 1 := by
  have h := spl_len (tl z) []
  rw [← split_tl, List.length_map, tl_len] at h
  exact h
theorem split_short {z p : Str} (h : p ∈ Txt.split z " ") : p.length ≤ z.length := by
  have h2 : tl p ∈ spl [32] 0 [] (tl z) := by
    rw [← split_tl]
    exact List.mem_map_of_mem h
  have h3 := spl_short _ _ _ h2
  rw [tl_len, tl_len, List.length_nil] at h3
  omega
/-- the words of a text, if it were one -/
def piecesOf (z : Str) : List Str := if z.length = 0 then [] else Txt.split z " "
def okP (ps : List Str) : Bool := decide (ps.length ≤ 120) && ps.all isW
theorem pieces_len (z : Str) : (piecesOf z).length ≤ z.length + 1 := by
  unfold piecesOf
  split
  · exact Nat.zero_le _
  · exact split_len z
theorem pieces_short {z p : Str} (h : p ∈ piecesOf z) : p.length ≤ z.length := by
  unfold piecesOf at h
  split at h
  · cases h
  · exact split_short h
theorem join_pieces (z : Str) : Txt.join " " (piecesOf z) = z := by
  unfold piecesOf
  split
  · rename_i h
    refine ext_tl ?_
    rw [join_eq, tl_join]
    have : tl z = [] := List.length_eq_zero_iff.mp (by rw [tl_len]; exact h)
    rw [this]
    rfl
  · exact join_split z
/-! ### lists of texts, compared -/
theorem isW_ok {z : Str} (h : isW z = true) : PyData.canLay0 (.str z) = true := by
  unfold isW at h
  rw [Bool.and_eq_true, List.all_eq_true] at h
  show z.cps.all (fun c => decide (c < 0x110000)) = true
  rw [← Array.all_toList, List.all_eq_true]
  intro c hc
  have := h.2 c hc
  rw [Bool.and_eq_true, decide_eq_true_eq, decide_eq_true_eq] at this
  exact decide_eq_true (by omega)
theorem dpS {K : PySem.W.Frag} {H : Hp} : ∀ zs : List Str, DpAll K H (zs.map V.str) (zs.map PyData.str)
  | [] => .nil
  | z :: r => .cons (.str z) (dpS r)
theorem shapeS {zs : List Str} (h : zs.all isW = true) : SeqAt.shaped (.list (zs.map PyData.str)) = true := by
  have h1 : ∀ zs : List Str, zs.all isW = true → PyData.canLayAll0 (zs.map PyData.str) = true := by
    intro zs
    induction zs with
    | nil => intro _; rfl
    | cons z r ih =>
      intro h
      rw [List.all_cons, Bool.and_eq_true] at h
      rw [List.map_cons, PyData.canLayAll0, isW_ok h.1, ih h.2]
      rfl
  have h2 : ∀ zs : List Str, PyData.depthAll (zs.map PyData.str) = 0 := by
    intro zs
    induction zs with
    | nil => rfl
    | cons z r ih =>
      rw [List.map_cons, PyData.depthAll, ih, PyData.depth]
      rfl
  unfold SeqAt.shaped
  rw [PyData.canLay0, PyData.depth, h1 zs h, h2 zs]
  rfl
theorem eqvS {zs : List Str} (h : zs.all isW = true) : PyData.eqv (.list (zs.map PyData.str)) (.list (zs.map PyData.str)) = true := by
  refine SeqAt.eqv_refl _ ?_
  have := shapeS h
  unfold SeqAt.shaped at this
  rw [Bool.and_eq_true] at this
  exact this.1
theorem no_str {x y : Str} {A B : Prop} (h : x ≠ y) (b : B) : if decide (V.str x = V.str y) = true then A else B := by
  rw [decide_eq_false fun z => h (V.str.inj z)]
  exact b
theorem yes_str {x : Str} {A B : Prop} (a : A) : if decide (V.str x = V.str x) = true then A else B := by
  rw [decide_eq_true rfl]
  exact a
theorem yes_le {c A B : Prop} [Decidable c] (h : c) (a : A) : if decide c = true then A else B := by
  rw [decide_eq_true h]
  exact a
theorem no_le {c A B : Prop} [Decidable c] (h : ¬ c) (b : B) : if decide c = true then A else B := by
  rw [decide_eq_false h]
  exact b
theorem joinL_len (S : List Nat) : ∀ ps : List (List Nat), (joinL S ps).length ≤ (ps.map List.length).sum + ps.length * S.length
  | [] => Nat.zero_le _
  | [p] => by
    rw [joinL, List.map_cons, List.sum_cons, List.map_nil, List.sum_nil]
    omega
  | p :: q :: r => by
    have ih := joinL_len S (q :: r)
    rw [joinL, List.length_append, List.length_append, List.map_cons, List.sum_cons, List.length_cons, Nat.add_mul, Nat.one_mul]
    omega
theorem join_len (y : Str) (ps : List Str) : (Txt.join y ps).length ≤ (ps.map (·.length)).sum + ps.length * y.length := by
  have h := joinL_len (tl y) (ps.map tl)
  rw [← tl_join, ← join_eq, tl_len, tl_len, List.length_map, List.map_map] at h
  rw [show (ps.map (·.length)) = ps.map (List.length ∘ tl) from List.map_congr_left fun p _ => (tl_len p).symm]
  exact h
theorem sum_le {ps : List Str} {n : Nat} (h : ∀ p ∈ ps, p.length ≤ n) : (ps.map (·.length)).sum ≤ ps.length * n := by
  induction ps with
  | nil => simp
  | cons p r ih =>
    have h1 := h p (List.mem_cons_self ..)
    have h2 := ih fun x hx => h x (List.mem_cons_of_mem _ hx)
    rw [List.map_cons, List.sum_cons, List.length_cons, Nat.add_mul, Nat.one_mul]
    omega

/-! ### the program's words: is_word, are_words, check_words, words_of, text_of -/
def spIsWord : Sp := fun vs H Q _ => ∃ v : V, vs = [v] ∧ Th H v ∧ RetV (.bl (wordV v)) H Q
set_option maxHeartbeats 4000000 in
theorem ok_is_word (T : TX K mg A FD TK CC) : FnOk P w K mg base CX0 1 (A 23) (FD 23) ["thing"] spIsWord := by
  refine T.f_is_word.ok sc_is_word (fun vs H Q E h => ?_) (fun cdv A' outer s H vs Q E hr h => ?_)
  · obtain ⟨v, rfl, _⟩ := h
    rfl
  · obtain ⟨v, rfl, ht, q⟩ := h
    refine ⟨_, (pss_cons (ps_if (PW.pt (pw_or (pt_not (pt_val (pe_callB (isiK (K := K) rfl) (by rfl) T.m_isinstance (by decide +kernel) (pa_cons (pv 0) (pa_cons (pe_bltn (v := .ty "str") (by rfl) T.m_str (by decide +kernel) rfl) pa_nil))))) (pw_or1 (pt_not (pt_chain op_le op_le pe_int (pe_callB call_len_str (by rfl) T.m_len (by decide +kernel) (pa_cons (pv 0) pa_nil)) (pe_glob (v := .int 12) (by rfl) T.c_MOST_LETTERS ⟨_, rfl⟩))))))
      (pss_one (ps_ret pe_bl))
      pss_nil)
      (pss_one (ps_ret (pe_callB (allK (K := K) rfl rfl) (by rfl) T.m_all (by decide +kernel) (pa_cons (pe_lc (own := [("sign", 1)])  rfl sc_is_word.nd (pi_str (pv 0)) (blkOk_by (own := [("sign", 1)]) (N := N_is_word) (sc := defScope (topS 23)) (by decide +kernel)) (fun _ _ _ _ _ => (pg_name (i := 1) sc_is_word.nd rfl (Or.inl rfl))) (fun _ _ _ _ _ => pts_nil) (fun _ _ _ _ _ => (pe_chain op_le_str op_le_str pe_str (pv 1) pe_str))) pa_nil))))), ?_⟩
    rcases ht.kinds K with ⟨z, rfl, hz⟩ | ⟨ty, t1, t2, t3, t4⟩
    · refine ⟨.str z, rfl, .str z, .ty "str", .type "str", .type "str", true, rfl, .ty _, .base (.str z), kit_ty (by decide +kernel), true, rfl, iteF ?_⟩
      have q : RetV (.bl (isW z)) H Q := q
      have no : ¬ (decide ((1 : Int) ≤ (z.length : Int)) = true ∧ decide ((z.length : Int) ≤ 12) = true) → isW z = false := fun h => by
        unfold isW
        have e : z.length = z.cps.size := rfl
        by_cases h1 : 1 ≤ z.cps.size
        · by_cases h2 : z.cps.size ≤ 12
          · exact absurd ⟨decide_eq_true (by omega), decide_eq_true (by omega)⟩ h
          · rw [decide_eq_false h2, Bool.and_false, Bool.false_and]
        · rw [decide_eq_false h1, Bool.false_and, Bool.false_and]
      refine ⟨.str z, rfl, z, rfl, sz hz, 1, (z.length : Int), rfl, rfl, _, rfl, ite2 (fun c1 => ?_) (fun c1 => ?_)⟩
      · refine ⟨(z.length : Int), 12, rfl, rfl, _, rfl, ?_⟩
        by_cases c2 : (z.length : Int) ≤ 12
        · rw [decide_eq_true c2]
          refine iteF ?_
          have e : z.length = z.cps.size := rfl
          have c1' : (1 : Int) ≤ (z.length : Int) := of_decide_eq_true c1
          refine ⟨.str z, rfl, z, rfl, fun D hD => ?_⟩
          refine lc_it (walk_str (z := z)) (fun i H' => Ex H H' ∧ H' D = some (.lst ((z.cps.toList.take i).map fun c => .bl (decide (97 ≤ c) && decide (c ≤ 122))))) ⟨Ex.new hD, upd_same⟩ (fun _ _ _ _ => True.intro) (fun i x H1 H2 hi p y => ?_) (fun H1 p => ?_)
          · obtain ⟨p1, p2⟩ := p
            obtain ⟨rfl, c, hc, rfl⟩ := y
            have g : z.cps.toList[i]? = some c := by
              rw [Array.getElem?_toList]
              exact hc
            have stepE : (z.cps.toList.take (i + 1)).map (fun c => V.bl (decide (97 ≤ c) && decide (c ≤ 122))) = (z.cps.toList.take i).map (fun c => V.bl (decide (97 ≤ c) && decide (c ≤ 122))) ++ [V.bl (decide (97 ≤ c) && decide (c ≤ 122))] := by
              rw [List.take_add_one, g, List.map_append]
              rfl
            have lenE : ((z.cps.toList.take i).map (fun c => V.bl (decide (97 ≤ c) && decide (c ≤ 122)))).length < sizeLine := by
              rw [List.length_map, List.length_take]
              refine sz_lt ?_
              have : z.cps.toList.length = z.cps.size := by simp
              omega
            refine ⟨rfl, .str ⟨#[c]⟩, rfl, _, _, rfl, rfl, _, rfl, ?_⟩
            have e1 : (!decide (((⟨#[c]⟩ : Str).cps.toList) < (Str.ofString "a").cps.toList)) = decide (97 ≤ c) := by
              show (!decide ([c] < [97])) = _
              rw [lt_one]
              by_cases h : 97 ≤ c
              · rw [decide_eq_true h, decide_eq_false (by omega)]
                rfl
              · rw [decide_eq_false h, decide_eq_true (by omega)]
                rfl
            have e2 : (!decide ((Str.ofString "z").cps.toList < (⟨#[c]⟩ : Str).cps.toList)) = decide (c ≤ 122) := by
              show (!decide ([122] < [c])) = _
              rw [lt_one]
              by_cases h : c ≤ 122
              · rw [decide_eq_true h, decide_eq_false (by omega)]
                rfl
              · rw [decide_eq_false h, decide_eq_true (by omega)]
                rfl
            refine ite2 (fun b1 => ?_) (fun b1 => ?_)
            · refine ⟨_, _, rfl, rfl, _, p2, lenE, Ex.mut p1 hD, ?_⟩
              rw [upd_same, stepE, ← e1, ← e2, b1, Bool.true_and]
            · refine ⟨_, p2, lenE, Ex.mut p1 hD, ?_⟩
              rw [upd_same, stepE, ← e1, Bool.eq_false_iff.mpr b1, Bool.false_and]
          · obtain ⟨p1, p2⟩ := p
            refine ⟨D, (z.cps.toList.map fun c => (decide (97 ≤ c) && decide (c ≤ 122))), rfl, SqL.of ?_, ?_⟩
            · rw [p2, List.take_of_length_le (by simp), List.map_map]
              rfl
            · have v := q.go p1
              have ev : isW z = ((z.cps.toList.map fun c => (decide (97 ≤ c) && decide (c ≤ 122))).all id) := by
                unfold isW
                rw [decide_eq_true (by omega), decide_eq_true (by omega), List.all_map]
                rfl
              rw [ev] at v
              exact v
        · rw [decide_eq_false c2]
          refine iteT ?_
          have v := ret_v q
          rw [no (fun h => c2 (of_decide_eq_true h.2))] at v
          exact v
      · have v := ret_v q
        rw [no (fun h => c1 h.1)] at v
        exact ⟨false, rfl, v⟩
    · rw [t3] at q
      exact ⟨v, rfl, v, .ty "str", .type ty, .type "str", false, rfl, .ty _, t1, kit_ty t2, false, rfl, ret_v q⟩
def spWordsL (K : PySem.W.Frag) : Sp := fun vs H Q _ => ∃ (a : Addr) (xs : List V), vs = [.ref a] ∧ SqL K H a xs ∧ xs.length ≤ 50000 ∧ (∀ x ∈ xs, Th H x) ∧ RetV (.bl (xs.all wordV)) H Q
set_option maxHeartbeats 4000000 in
theorem ok_are_words (T : TX K mg A FD TK CC) : FnOk P w K mg base CX0 2 (A 24) (FD 24) ["things"] (spWordsL K) := by
  have G_is_word := ok_is_word (P := P) (w := w) (base := base) T
  refine T.f_are_words.ok sc_are_words (fun vs H Q E h => ?_) (fun cdv A' outer s H vs Q E hr h => ?_)
  · obtain ⟨a, xs, rfl, _⟩ := h
    rfl
  · obtain ⟨a, xs, rfl, hS, hl, hz, q⟩ := h
    refine ⟨_, (pss_one (ps_ret (pe_callB (allK (K := K) rfl rfl) (by rfl) T.m_all (by decide +kernel) (pa_cons (pe_lc (own := [("thing", 1)])  rfl sc_are_words.nd (piLK (K := K) rfl (pv 0)) (blkOk_by (own := [("thing", 1)]) (N := N_are_words) (sc := defScope (topS 24)) (by decide +kernel)) (fun _ _ _ _ _ => (pg_name (i := 1) sc_are_words.nd rfl (Or.inl rfl))) (fun _ _ _ _ _ => pts_nil) (fun _ _ _ _ _ => (pe_call G_is_word hr (by rfl) T.g_is_word T.f_is_word.kp T.b_is_word .nil pass0 (pa_cons (pv 1) pa_nil)))) pa_nil)))), ?_⟩
    refine ⟨.ref a, rfl, a, rfl, ⟨_, hS⟩, fun D hD => ?_⟩
    refine lc_list (xs := xs) (fun i H' => Ex H H' ∧ H' D = some (.lst ((xs.take i).map fun z => .bl (wordV z)))) ⟨Ex.new hD, upd_same⟩ (fun i H' _ p => ex_l p.1 hS) (fun i x H1 hx p => ?_) (fun H1 p => ?_)
    · obtain ⟨p1, p2⟩ := p
      have hi : i < xs.length := (List.getElem?_eq_some_iff.mp hx).1
      refine ⟨rfl, x, rfl, x, rfl, (hz x (List.mem_of_getElem? hx)).ex p1, fun H2 e2 => ?_⟩
      refine ⟨_, e2 _ _ p2, ?_, Ex.mut (p1.trans e2) hD, ?_⟩
      · rw [List.length_map, List.length_take]
        exact sz_lt (by omega)
      · rw [upd_same, List.take_add_one, hx, List.map_append]
        rfl
    · obtain ⟨p1, p2⟩ := p
      refine ⟨D, xs.map wordV, rfl, SqL.of ?_, ?_⟩
      · rw [p2, List.take_of_length_le (Nat.le_refl _), List.map_map]
        rfl
      · have v := q.go p1
        rw [show ((xs.map wordV).all id) = xs.all wordV by rw [List.all_map]; rfl]
        exact v
/-- refused with the class at C -/
def RetE (C : Addr) (H : Hp) (E : XK) : Prop := ∀ H', Ex H H' → E (.ref C) none H'
def okX (xs : List V) : Bool := decide (xs.length ≤ 120) && xs.all wordV
def spCheck (K : PySem.W.Frag) (C : Addr) : Sp := fun vs H Q E => ∃ (a : Addr) (xs : List V), vs = [.ref a] ∧ SqL K H a xs ∧ xs.length ≤ 50000 ∧ (∀ x ∈ xs, Th H x) ∧ (okX xs = true → RetV .non H Q) ∧ (okX xs = false → RetE C H E)
set_option maxHeartbeats 4000000 in
theorem ok_check_words (T : TX K mg A FD TK CC) : FnOk P w K mg base (L2.CX P w) 3 (A 27) (FD 27) ["words"] (spCheck K (A 3)) := by
  have G_are_words := ok_are_words (P := P) (w := w) (base := base) T
  refine T.f_check_words.okX sc_check_words (fun vs H Q E h => ?_) (fun cdv A' outer s H vs Q E hr h => ?_)
  · obtain ⟨a, xs, rfl, _⟩ := h
    rfl
  · obtain ⟨a, xs, rfl, hS, hl, hz, q1, q2⟩ := h
    refine ⟨_, (pss_cons (ps_if (pt_cmpR op_gt (pe_callB (lenK (K := K) rfl) (by rfl) T.m_len (by decide +kernel) (pa_cons (pv 0) pa_nil)) (pe_glob (v := .int 120) (by rfl) T.c_MOST_WORDS ⟨_, rfl⟩) (nomark _))
      (pss_one (ps_raise rfl (takes_of rfl rfl rfl rfl) (pmk_own PySem.F.excBase_ValueError T.x_NoText T.k_NoText T.kc_NoText (raises_own T.br_NoText T.ty_NoText) rfl)))
      pss_nil)
      (pss_one (ps_if (pt_not (pt_val (pe_call G_are_words hr (by rfl) T.g_are_words T.f_are_words.kp T.b_are_words .nil pass0 (pa_cons (pv 0) pa_nil))))
      (pss_one (ps_raise rfl (takes_of rfl rfl rfl rfl) (pmk_own PySem.F.excBase_ValueError T.x_NoText T.k_NoText T.kc_NoText (raises_own T.br_NoText T.ty_NoText) rfl)))
      pss_nil))), ?_⟩
    refine ⟨.ref a, rfl, a, _, rfl, .inl hS, _, 120, rfl, rfl, _, rfl, ite2 (fun e => ?_) (fun e => ?_)⟩
    · have e : (120 : Int) < (xs.length : Int) := of_decide_eq_true e
      refine q2 ?_ H (Ex.refl H)
      unfold okX
      rw [decide_eq_false (by omega), Bool.false_and]
    · have e : ¬ (120 : Int) < (xs.length : Int) := fun z => e (decide_eq_true z)
      refine ⟨.ref a, rfl, a, xs, rfl, hS, hl, hz, fun H1 e1 => ⟨_, rfl, ?_⟩⟩
      have eo : okX xs = xs.all wordV := by
        unfold okX
        rw [decide_eq_true (by omega), Bool.true_and]
      cases hw : xs.all wordV with
      | true =>
        rw [hw] at eo
        exact (q1 eo).go e1
      | false =>
        rw [hw] at eo
        exact q2 eo H1 e1
theorem okX_str (ps : List Str) : okX (ps.map V.str) = okP ps := by
  unfold okX okP
  rw [List.length_map, List.all_map]
  rfl
/-- words_of: of a text that is one its words, else refused -/
def spWordsOf (C : Addr) : Sp := fun vs H Q E => ∃ v : V, vs = [v] ∧ Th H v ∧ (∀ z, v = .str z → z.length ≤ 20000 ∧ (okP (piecesOf z) = true → RetL ((piecesOf z).map V.str) H Q) ∧ (okP (piecesOf z) = false → RetE C H E)) ∧ ((∀ z, v ≠ .str z) → RetE C H E)
set_option maxHeartbeats 4000000 in
theorem ok_words_of (T : TX K mg A FD TK CC) : FnOk P w K mg base (L2.CX P w) 4 (A 25) (FD 25) ["text"] (spWordsOf (A 3)) := by
  have G_check_words := ok_check_words (P := P) (w := w) (base := base) T
  refine T.f_words_of.okX sc_words_of (fun vs H Q E h => ?_) (fun cdv A' outer s H vs Q E hr h => ?_)
  · obtain ⟨v, rfl, _⟩ := h
    rfl
  · obtain ⟨v, rfl, ht, q1, q2⟩ := h
    refine ⟨_, (pss_cons (ps_if (pt_not (pt_val (pe_callB (isiK (K := K) rfl) (by rfl) T.m_isinstance (by decide +kernel) (pa_cons (pv 0) (pa_cons (pe_bltn (v := .ty "str") (by rfl) T.m_str (by decide +kernel) rfl) pa_nil)))))
      (pss_one (ps_raise rfl (takes_of rfl rfl rfl rfl) (pmk_own PySem.F.excBase_ValueError T.x_NoText T.k_NoText T.kc_NoText (raises_own T.br_NoText T.ty_NoText) rfl)))
      pss_nil)
      (pss_cons (ps_set (i := 1) sc_words_of.nd rfl (.inl rfl) (pe_ifExp (pt_truth (pv 0) (by intro _; rfl)) (pe_split (pv 0) pe_str) (pe_lst pa_nil)))
      (pss_cons (ps_expr (pe_call G_check_words hr (by rfl) T.g_check_words T.f_check_words.kp T.b_check_words .nil (passes_call (takes_of rfl rfl rfl rfl) (fun _ _ _ _ h => h)) (pa_cons (pv 1) pa_nil)))
      (pss_one (ps_ret (pv 1)))))), ?_⟩
    rcases ht.kinds K with ⟨z, rfl, hz⟩ | ⟨ty, t1, t2, t3, t4⟩
    · obtain ⟨hl, q1, q3⟩ := q1 z rfl
      refine ⟨.str z, rfl, .str z, .ty "str", .type "str", .type "str", true, rfl, .ty _, .base (.str z), kit_ty (by decide +kernel), true, rfl, ?_⟩
      have fin : ∀ (p : Addr), H p = none → spCheck K (A 3) [.ref p] (upd H p (.lst ((piecesOf z).map V.str))) (fun _ H' => ∃ v : V, ([some (.str z), some (.ref p)] : L2.St)[1]? = some (some v) ∧ Q v H') E := fun p np => by
        have pl := pieces_len z
        refine ⟨p, _, rfl, SqL.of upd_same, by rw [List.length_map]; omega, fun x hx => ?_, fun ho H2 e2 => ?_, fun ho H2 e2 => ?_⟩
        · obtain ⟨y, hy, rfl⟩ := List.mem_map.mp hx
          exact .str y (by have := pieces_short hy; omega)
        · rw [okX_str] at ho
          exact ⟨.ref p, rfl, q1 ho p H2 np ((Ex.new np).trans e2) (e2 _ _ upd_same)⟩
        · rw [okX_str] at ho
          exact q3 ho H2 ((Ex.new np).trans e2)
      refine ⟨.str z, rfl, ((z.length : Int) != 0), ⟨sz (by omega), rfl⟩, ?_⟩
      by_cases h0 : z.length = 0
      · rw [show ((z.length : Int) != 0) = false by rw [h0]; rfl]
        refine ⟨Nat.zero_le _, fun p np => ?_⟩
        have f := fin p np
        rw [show piecesOf z = [] by unfold piecesOf; rw [if_pos h0]] at f
        exact ⟨.ref p, rfl, f⟩
      · rw [show ((z.length : Int) != 0) = true by simp [h0]]
        refine ⟨.str z, rfl, ⟨_, rfl⟩, z, " ", rfl, rfl, by decide +kernel, sz (by omega), fun p np => ?_⟩
        have f := fin p np
        rw [show piecesOf z = Txt.split z " " by unfold piecesOf; rw [if_neg h0]] at f
        exact ⟨.ref p, rfl, f⟩
    · refine ⟨v, rfl, v, .ty "str", .type ty, .type "str", false, rfl, .ty _, t1, kit_ty t2, false, rfl, ?_⟩
      exact q2 t4 H (Ex.refl H)
theorem len_sum (zs : List Str) (h : zs.all isW = true) : (zs.map (·.length)).sum ≤ 12 * zs.length := by
  induction zs with
  | nil => exact Nat.le_refl _
  | cons z r ih =>
    rw [List.all_cons, Bool.and_eq_true] at h
    have := ih h.2
    have := isW_len h.1
    rw [List.map_cons, List.sum_cons, List.length_cons]
    omega

/-- text_of, of a list of texts: the words with a blank between -/
def spTextOf (K : PySem.W.Frag) : Sp := fun vs H Q _ => ∃ (a : Addr) (zs : List Str), vs = [.ref a] ∧ SqL K H a (zs.map V.str) ∧ okP zs = true ∧ RetV (.str (Txt.join " " zs)) H Q
set_option maxHeartbeats 4000000 in
theorem ok_text_of (T : TX K mg A FD TK CC) : FnOk P w K mg base (L2.CX P w) 4 (A 26) (FD 26) ["words"] (spTextOf K) := by
  have G_check_words := ok_check_words (P := P) (w := w) (base := base) T
  refine T.f_text_of.okX sc_text_of (fun vs H Q E h => ?_) (fun cdv A' outer s H vs Q E hr h => ?_)
  · obtain ⟨a, zs, rfl, _⟩ := h
    rfl
  · obtain ⟨a, zs, rfl, hS, ho, q⟩ := h
    refine ⟨_, (pss_cons (ps_if (pt_not (pt_val (pe_callB (isiK (K := K) rfl) (by rfl) T.m_isinstance (by decide +kernel) (pa_cons (pv 0) (pa_cons (pe_bltn (v := .ty "list") (by rfl) T.m_list (by decide +kernel) rfl) pa_nil)))))
      (pss_one (ps_raise rfl (takes_of rfl rfl rfl rfl) (pmk_own PySem.F.excBase_ValueError T.x_NoText T.k_NoText T.kc_NoText (raises_own T.br_NoText T.ty_NoText) rfl)))
      pss_nil)
      (pss_cons (ps_expr (pe_call G_check_words hr (by rfl) T.g_check_words T.f_check_words.kp T.b_check_words .nil (passes_call (takes_of rfl rfl rfl rfl) (fun _ _ _ _ h => h)) (pa_cons (pv 0) pa_nil)))
      (pss_one (ps_ret (pe_join pe_str (pv 0)))))), ?_⟩
    have ho' := ho
    unfold okP at ho'
    rw [Bool.and_eq_true, decide_eq_true_eq] at ho'
    have ty : TyX K H (.ref a) (.type "list") := by
      rcases hS with (h | ⟨o, h⟩) | ⟨o, its, n, h1, h2, _⟩
      · exact .base (.lst h)
      · exact .base (.frz h)
      · exact .kList h1 h2
    refine ⟨.ref a, rfl, .ref a, .ty "list", .type "list", .type "list", true, rfl, .ty _, ty, kit_ty (by decide +kernel), true, rfl, ?_⟩
    refine ⟨.ref a, rfl, a, _, rfl, hS, by rw [List.length_map]; omega, fun x hx => ?_, fun _ H1 e1 => ?_, fun hf => ?_⟩
    · obtain ⟨y, hy, rfl⟩ := List.mem_map.mp hx
      exact .str y (by have := isW_len (List.all_eq_true.mp ho'.2 y hy); omega)
    · refine ⟨⟨_, rfl⟩, .ref a, rfl, " ", a, zs, rfl, rfl, .inl (ex_l e1 hS), ?_, q.go e1⟩
      have := len_sum zs ho'.2
      rw [show (Str.ofString " ").length = 1 by decide +kernel]
      omega
    · rw [okX_str, ho] at hf
      cases hf

/-! ### the law's own words -/
def alpha : Str := "abcdefghijklmnopqrstuvwxyz"
theorem alpha_in (c : Nat) : decide (c ∈ alpha.cps.toList) = (decide (97 ≤ c) && decide (c ≤ 122)) := by
  have h : alpha.cps.toList = List.range' 97 26 := by decide +kernel
  rw [h]
  by_cases h1 : 97 ≤ c
  · by_cases h2 : c ≤ 122
    · rw [decide_eq_true h1, decide_eq_true h2]
      exact decide_eq_true (List.mem_range'_1.mpr ⟨h1, by omega⟩)
    · rw [decide_eq_true h1, decide_eq_false h2]
      exact decide_eq_false fun z => h2 (by have := (List.mem_range'_1.mp z).2; omega)
  · rw [decide_eq_false h1]
    exact decide_eq_false fun z => h1 (List.mem_range'_1.mp z).1
def spLetters : Sp := fun vs H Q _ => vs = [] ∧ Q (.str alpha) H
theorem ok_l_letters (T : TX K mg A FD TK CC) : FnOk P w K mg base CX0 1 (A 32) (FD 32) [] spLetters := by
  refine T.f_l_letters.ok sc_l_letters (fun vs H Q E h => ?_) (fun cdv A' outer s H vs Q E hr h => ?_)
  · obtain ⟨rfl, _⟩ := h
    rfl
  · obtain ⟨rfl, q⟩ := h
    exact ⟨_, (pss_one (ps_ret pe_str)), q⟩
set_option maxHeartbeats 4000000 in
theorem ok_l_is_word (T : TX K mg A FD TK CC) : FnOk P w K mg base CX0 2 (A 31) (FD 31) ["_law_thing"] spIsWord := by
  have G_l_letters := ok_l_letters (P := P) (w := w) (base := base) T
  refine T.f_l_is_word.ok (k := 1) sc_l_is_word (fun vs H Q E h => ?_) (fun cdv A' outer s H vs Q E hr h => ?_)
  · obtain ⟨v, rfl, _⟩ := h
    rfl
  · obtain ⟨v, rfl, ht, q⟩ := h
    refine ⟨_, (pss_one (ps_ret (pe_and (pe_callB (isiK (K := K) rfl) (by rfl) T.m_isinstance (by decide +kernel) (pa_cons (pv 0) (pa_cons (pe_bltn (v := .ty "str") (by rfl) T.m_str (by decide +kernel) rfl) pa_nil))) (pe_and (pe_chain op_le op_le pe_int (pe_callB call_len_str (by rfl) T.m_len (by decide +kernel) (pa_cons (pv 0) pa_nil)) pe_int) (pe_one (pe_callB (allK (K := K) rfl rfl) (by rfl) T.m_all (by decide +kernel) (pa_cons (pe_lc (own := [("_law_sign", 1)])  rfl sc_l_is_word.nd (pi_str (pv 0)) (blkOk_by (own := [("_law_sign", 1)]) (N := N_l_is_word) (sc := defScope (topS 31)) (by decide +kernel)) (fun _ _ _ _ _ => (pg_name (i := 1) sc_l_is_word.nd rfl (Or.inl rfl))) (fun _ _ _ _ _ => pts_nil) (fun _ _ _ _ _ => (pe_cmpR op_in_sign (pv 1) (pe_call0 G_l_letters hr (by rfl) T.g_l_letters T.f_l_letters.kp T.b_l_letters .nil pass0) (by rfl)))) pa_nil))))))), ?_⟩
    rcases ht.kinds K with ⟨z, rfl, hz⟩ | ⟨ty, t1, t2, t3, t4⟩
    · have q : RetV (.bl (isW z)) H Q := q
      refine ⟨.str z, rfl, .str z, .ty "str", .type "str", .type "str", true, rfl, .ty _, .base (.str z), kit_ty (by decide +kernel), true, rfl, ?_⟩
      have e : z.length = z.cps.size := rfl
      refine ⟨.str z, rfl, z, rfl, sz hz, 1, (z.length : Int), rfl, rfl, _, rfl, ite2 (fun c1 => ?_) (fun c1 => ?_)⟩
      · have c1' : (1 : Int) ≤ (z.length : Int) := of_decide_eq_true c1
        refine ⟨(z.length : Int), 12, rfl, rfl, _, rfl, ite2 (fun c2 => ?_) (fun c2 => ?_)⟩
        · have c2' : (z.length : Int) ≤ 12 := of_decide_eq_true c2
          refine ⟨.str z, rfl, z, rfl, fun D hD => ?_⟩
          refine lc_it (walk_str (z := z)) (fun i H' => Ex H H' ∧ H' D = some (.lst ((z.cps.toList.take i).map fun c => .bl (decide (97 ≤ c) && decide (c ≤ 122))))) ⟨Ex.new hD, upd_same⟩ (fun _ _ _ _ => True.intro) (fun i x H1 H2 hi p y => ?_) (fun H1 p => ?_)
          · obtain ⟨p1, p2⟩ := p
            obtain ⟨rfl, c, hc, rfl⟩ := y
            have g : z.cps.toList[i]? = some c := by
              rw [Array.getElem?_toList]
              exact hc
            refine ⟨rfl, .str ⟨#[c]⟩, rfl, rfl, c, alpha, rfl, rfl, _, p2, ?_, Ex.mut p1 hD, ?_⟩
            · rw [List.length_map, List.length_take]
              refine sz_lt ?_
              have : z.cps.toList.length = z.cps.size := by simp
              omega
            · rw [upd_same, alpha_in, List.take_add_one, g, List.map_append]
              rfl
          · obtain ⟨p1, p2⟩ := p
            refine ⟨D, (z.cps.toList.map fun c => (decide (97 ≤ c) && decide (c ≤ 122))), rfl, SqL.of ?_, ?_⟩
            · rw [p2, List.take_of_length_le (by simp), List.map_map]
              rfl
            · have v := q.go p1
              have ev : isW z = ((z.cps.toList.map fun c => (decide (97 ≤ c) && decide (c ≤ 122))).all id) := by
                unfold isW
                rw [decide_eq_true (by omega), decide_eq_true (by omega), List.all_map]
                rfl
              rw [ev] at v
              exact v
        · have c2' : ¬ (z.length : Int) ≤ 12 := fun h => c2 (decide_eq_true h)
          have v := ret_v q
          rw [show isW z = false by unfold isW; rw [decide_eq_false (show ¬ z.cps.size ≤ 12 by omega), Bool.and_false, Bool.false_and]] at v
          exact v
      · have c1' : ¬ (1 : Int) ≤ (z.length : Int) := fun h => c1 (decide_eq_true h)
        have v := ret_v q
        rw [show isW z = false by unfold isW; rw [decide_eq_false (show ¬ 1 ≤ z.cps.size by omega), Bool.false_and, Bool.false_and]] at v
        exact ⟨false, rfl, v⟩
    · rw [t3] at q
      exact ⟨v, rfl, v, .ty "str", .type ty, .type "str", false, rfl, .ty _, t1, kit_ty t2, false, rfl, ret_v q⟩

/-- what is due: the words, or none -/
def dueV : V → Option (List Str)
  | .str z => if okP (piecesOf z) then some (piecesOf z) else none
  | _ => none
def spDue : Sp := fun vs H Q _ => ∃ v : V, vs = [v] ∧ Th H v ∧ (∀ z, v = .str z → z.length ≤ 20000) ∧ (∀ ps, dueV v = some ps → RetL (ps.map V.str) H Q) ∧ (dueV v = none → RetV .non H Q)
set_option maxHeartbeats 4000000 in
theorem ok_l_due (T : TX K mg A FD TK CC) : FnOk P w K mg base CX0 3 (A 37) (FD 37) ["_law_text"] spDue := by
  have G_l_is_word := ok_l_is_word (P := P) (w := w) (base := base) T
  refine T.f_l_due.ok (k := 2) sc_l_due (fun vs H Q E h => ?_) (fun cdv A' outer s H vs Q E hr h => ?_)
  · obtain ⟨v, rfl, _⟩ := h
    rfl
  · obtain ⟨v, rfl, ht, hl, q1, q2⟩ := h
    refine ⟨_, (pss_cons (ps_if (pt_not (pt_val (pe_callB (isiK (K := K) rfl) (by rfl) T.m_isinstance (by decide +kernel) (pa_cons (pv 0) (pa_cons (pe_bltn (v := .ty "str") (by rfl) T.m_str (by decide +kernel) rfl) pa_nil)))))
      (pss_one (ps_ret pe_non))
      pss_nil)
      (pss_cons (ps_if (pt_cmpR op_eq (pv 0) pe_str (nomark _))
      (pss_one (ps_ret (pe_lst pa_nil)))
      pss_nil)
      (pss_cons (ps_set (i := 1) sc_l_due.nd rfl (.inl rfl) (pe_split (pv 0) pe_str))
      (pss_cons (ps_if (PW.pt (pw_or (pt_cmpR op_gt (pe_callB (lenK (K := K) rfl) (by rfl) T.m_len (by decide +kernel) (pa_cons (pv 1) pa_nil)) pe_int (nomark _)) (pw_or1 (pt_not (pt_val (pe_callB (allK (K := K) rfl rfl) (by rfl) T.m_all (by decide +kernel) (pa_cons (pe_lc (own := [("_law_piece", 2)])  rfl sc_l_due.nd (piLK (K := K) rfl (pv 1)) (blkOk_by (own := [("_law_piece", 2)]) (N := N_l_due) (sc := defScope (topS 37)) (by decide +kernel)) (fun _ _ _ _ _ => (pg_name (i := 2) sc_l_due.nd rfl (Or.inl rfl))) (fun _ _ _ _ _ => pts_nil) (fun _ _ _ _ _ => (pe_call G_l_is_word hr (by rfl) T.g_l_is_word T.f_l_is_word.kp T.b_l_is_word .nil pass0 (pa_cons (pv 2) pa_nil)))) pa_nil)))))))
      (pss_one (ps_ret pe_non))
      pss_nil)
      (pss_one (ps_ret (pv 1))))))), ?_⟩
    rcases ht.kinds K with ⟨z, rfl, hz⟩ | ⟨ty, t1, t2, t3, t4⟩
    · have hl := hl z rfl
      refine ⟨.str z, rfl, .str z, .ty "str", .type "str", .type "str", true, rfl, .ty _, .base (.str z), kit_ty (by decide +kernel), true, rfl, ?_⟩
      refine ⟨.str z, rfl, rfl, _, rfl, ?_⟩
      by_cases h0 : z = ""
      · rw [h0]
        refine yes_str ⟨Nat.zero_le _, fun p np => ?_⟩
        refine q1 [] ?_ p _ np (Ex.new np) upd_same
        rw [h0]
        decide +kernel
      · have hz0 : ¬ z.length = 0 := fun e => h0 (ext_tl (by rw [show tl z = [] from List.length_eq_zero_iff.mp (by rw [tl_len]; exact e)]; rfl))
        have ep : piecesOf z = Txt.split z " " := by unfold piecesOf; rw [if_neg hz0]
        have pl := pieces_len z
        rw [ep] at pl
        refine no_str h0 ?_
        refine ⟨.str z, rfl, ⟨_, rfl⟩, z, " ", rfl, rfl, by decide +kernel, sz (by omega), fun p np => ?_⟩
        have e1 : Ex H (upd H p (.lst ((Txt.split z " ").map V.str))) := Ex.new np
        have hp : (upd H p (.lst ((Txt.split z " ").map V.str))) p = some (.lst ((Txt.split z " ").map V.str)) := upd_same
        generalize (upd H p (.lst ((Txt.split z " ").map V.str))) = H1 at e1 hp ⊢
        refine ⟨.ref p, rfl, p, _, rfl, .inl (SqL.of hp), _, 120, rfl, rfl, _, rfl, ite2 (fun e => ?_) (fun e => ?_)⟩
        · have e : (120 : Int) < (((Txt.split z " ").map V.str).length : Int) := of_decide_eq_true e
          rw [List.length_map] at e
          refine (q2 ?_).go e1
          show (if okP (piecesOf z) = true then some (piecesOf z) else none) = none
          rw [if_neg]
          unfold okP
          rw [ep, decide_eq_false (by omega), Bool.false_and]
          exact Bool.false_ne_true
        · have e : ¬ (120 : Int) < (((Txt.split z " ").map V.str).length : Int) := fun h => e (decide_eq_true h)
          rw [List.length_map] at e
          refine ⟨.ref p, rfl, p, rfl, ⟨_, SqL.of hp⟩, fun D hD => ?_⟩
          refine lc_list (K := K) (xs := (Txt.split z " ").map V.str) (fun i H' => Ex H1 H' ∧ H' D = some (.lst (((Txt.split z " ").take i).map fun z => .bl (isW z)))) ⟨Ex.new hD, upd_same⟩ (fun i H' _ p => SqL.of (p.1 _ _ hp)) (fun i x H2 hx p2 => ?_) (fun H2 p2 => ?_)
          · obtain ⟨g1, g2⟩ := p2
            rw [List.getElem?_map] at hx
            obtain ⟨y, gy, rfl⟩ := Option.map_eq_some_iff.mp hx
            have hi : i < (Txt.split z " ").length := (List.getElem?_eq_some_iff.mp gy).1
            refine ⟨rfl, .str y, rfl, .str y, rfl, .str y (by have := split_short (List.mem_of_getElem? gy); omega), fun H3 e3 => ?_⟩
            refine ⟨_, e3 _ _ g2, ?_, Ex.mut (g1.trans e3) hD, ?_⟩
            · rw [List.length_map, List.length_take]
              exact sz_lt (by omega)
            · rw [upd_same, List.take_add_one, gy, List.map_append]
              rfl
          · obtain ⟨g1, g2⟩ := p2
            refine ⟨D, (Txt.split z " ").map isW, rfl, SqL.of ?_, _, rfl, ?_⟩
            · rw [g2, List.take_of_length_le (by simp), List.map_map]
              rfl
            rw [show (((Txt.split z " ").map isW).all id) = (Txt.split z " ").all isW by rw [List.all_map]; rfl]
            have eo : okP (piecesOf z) = (Txt.split z " ").all isW := by
              unfold okP
              rw [ep, decide_eq_true (by omega), Bool.true_and]
            cases hw : (Txt.split z " ").all isW with
            | true =>
              refine ⟨.ref p, rfl, q1 (Txt.split z " ") ?_ p H2 np (e1.trans g1) (g1 _ _ hp)⟩
              show (if okP (piecesOf z) = true then some (piecesOf z) else none) = _
              rw [eo, hw, if_pos rfl, ep]
            | false =>
              refine (q2 ?_).go (e1.trans g1)
              show (if okP (piecesOf z) = true then some (piecesOf z) else none) = none
              rw [eo, hw]
              rfl
    · refine ⟨v, rfl, v, .ty "str", .type ty, .type "str", false, rfl, .ty _, t1, kit_ty t2, false, rfl, ?_⟩
      refine ret_v (q2 ?_)
      cases v with
      | str z => exact absurd rfl (t4 z)
      | _ => rfl

/-! ### _law_right -/
abbrev lamQ (n : Str) : Str := n ++ ".<locals>." ++ "<lambda>"
abbrev TabL (PR : Addr) : List (Addr × Str) := [(PR, lamQ "_law_right")]
/-- things that _law_right is asked of -/
def ThR (H : Hp) (v : V) : Prop := Th H v ∧ ∀ z, v = .str z → z.length ≤ 20000
def spRight (PR : Addr) : Sp := fun vs H Q _ => ∃ v : V, vs = [v] ∧ ThR H v ∧ LamX.Tabs (TabL PR) H ∧ ∀ H', LamX.ExtN H H' → LamX.Tabs (TabL PR) H' → Q (.bl true) H'
theorem due_none {v : V} (h : dueV v = none) : (∀ z, v = .str z → okP (piecesOf z) = false) := fun z e => by
  subst e
  have h : (if okP (piecesOf z) = true then some (piecesOf z) else none) = none := h
  split at h
  · cases h
  · rename_i n
    exact Bool.eq_false_iff.mpr n
theorem due_some {v : V} {ps : List Str} (h : dueV v = some ps) : ∃ z, v = .str z ∧ okP (piecesOf z) = true ∧ ps = piecesOf z := by
  cases v with
  | str z =>
    have h : (if okP (piecesOf z) = true then some (piecesOf z) else none) = some ps := h
    split at h
    · rename_i n
      exact ⟨z, rfl, n, (Option.some.inj h).symm⟩
    · cases h
  | _ => cases h
set_option maxHeartbeats 8000000 in
theorem ok_l_right (T : TX K mg A FD TK CC) {PR : Addr} (TBL : LamX.TabB base mg (CC 38) PR) : FnOk P w K mg base CX0 7 (A 38) (FD 38) ["_law_text"] (spRight PR) := by
  have G_l_due := (ok_l_due (P := P) (w := w) (base := base) T).mono (show 3 ≤ 6 by decide)
  have G_words_of_lam := ok_words_of (P := P) (w := w) (base := base) T
  have G_words_of := G_words_of_lam.mono (show 4 ≤ 6 by decide)
  have G_text_of := (ok_text_of (P := P) (w := w) (base := base) T).mono (show 4 ≤ 6 by decide)
  have hmL : (PR, lamQ "_law_right") ∈ TabL PR := List.mem_cons_self ..
  have huL : ∀ q ∈ TabL PR, q.1 = PR → q.2 = lamQ "_law_right" := fun q hq _ => by rw [List.mem_singleton.mp hq]
  refine T.F_l_right.ok (k := 6) sc_l_right (fun vs H Q E h => ?_) (fun A' outer s H vs Q E hr h => ?_)
  · obtain ⟨v, rfl, _⟩ := h
    rfl
  · obtain ⟨v, rfl, ⟨ht, hl⟩, hT, q⟩ := h
    refine ⟨_, (pss_cons (ps_set (i := 1) sc_l_right.nd rfl (.inl rfl) (pe_call G_l_due hr (by rfl) T.g_l_due T.f_l_due.kp T.b_l_due .nil pass0 (pa_cons (pv 0) pa_nil)))
      (pss_cons (ps_if (pt_cmpR op_isN (pv 1) pe_non (nomark _))
      (pss_one (ps_ret (pe_cmpR op_eq (pe_how T TBL rfl hmL huL hr (LamX.lamS_by (sc := defScope (topS 38)) (by decide +kernel)) (fun _ _ _ _ E _ _ hr2 => (pe_call G_words_of_lam hr2 (by rfl) T.g_words_of T.f_words_of.kp T.b_words_of .nil (passes_call (takes_of rfl rfl rfl rfl) (fun _ _ _ _ h => h)) (pa_cons (pv 0) pa_nil)))) pe_str (nomark _))))
      pss_nil)
      (pss_cons (ps_set (i := 2) sc_l_right.nd rfl (.inl rfl) (pe_call G_words_of hr (by rfl) T.g_words_of T.f_words_of.kp T.b_words_of .nil passL (pa_cons (pv 0) pa_nil)))
      (pss_cons (ps_if (PW.pt (pw_or (pt_not (pt_val (pe_callB (isiK (K := K) rfl) (by rfl) T.m_isinstance (by decide +kernel) (pa_cons (pv 2) (pa_cons (pe_bltn (v := .ty "list") (by rfl) T.m_list (by decide +kernel) rfl) pa_nil))))) (pw_or (pt_cmpR (neDK (K := K) rfl hr.units) (pv 2) (pv 1) (nomark _)) (pw_or1 (pt_cmpR op_ne (pe_call G_text_of hr (by rfl) T.g_text_of T.f_text_of.kp T.b_text_of .nil passL (pa_cons (pv 2) pa_nil)) (pv 0) (nomark _))))))
      (pss_one (ps_ret pe_bl))
      pss_nil)
      (pss_cons (ps_expr (pe_bm PySem.F.plainAttrs_list PySem.F.slot_list_append PySem.F.type_list_append mt_append (pv 2) (pa_cons pe_str pa_nil)))
      (pss_one (ps_ret (pe_cmpR (eqDK (K := K) rfl hr.units) (pe_call G_words_of hr (by rfl) T.g_words_of T.f_words_of.kp T.b_words_of .nil passL (pa_cons (pv 0) pa_nil)) (pv 1) (nomark _))))))))), ?_⟩
    refine ⟨v, rfl, v, rfl, ht, hl, fun ps hd => ?_, fun hd => ?_⟩
    · intro p H1 np e1 hp
      obtain ⟨z, rfl, ho, rfl⟩ := due_some hd
      have ho' := ho
      unfold okP at ho'
      rw [Bool.and_eq_true, decide_eq_true_eq] at ho'
      refine ⟨.ref p, rfl, rfl, _, rfl, ?_⟩
      refine ⟨.str z, rfl, .str z, rfl, ht.ex e1, fun z' ez => ?_, fun hn => absurd rfl (hn z)⟩
      cases ez
      refine ⟨hl z rfl, fun _ pt H2 npt e2 hpt => ?_, fun hf => by rw [ho] at hf; cases hf⟩
      refine ⟨.ref pt, rfl, .ref pt, .ty "list", .type "list", .type "list", true, rfl, .ty _, .base (.lst hpt), kit_ty (by decide +kernel), true, rfl, ?_⟩
      refine ⟨.ref pt, rfl, .ref p, rfl, _, _, .lst (SqL.of hpt) (dpS _), .lst (SqL.of (e2 _ _ hp)) (dpS _), shapeS ho'.2, shapeS ho'.2, _, rfl, ?_⟩
      rw [eqvS ho'.2]
      refine ⟨.ref pt, rfl, pt, _, rfl, SqL.of hpt, ho, fun H3 e3 => ?_⟩
      refine ⟨.str z, rfl, rfl, _, rfl, ?_⟩
      rw [join_pieces]
      rw [show (!decide (V.str z = V.str z)) = false by rw [decide_eq_true rfl]; rfl]
      have hpt3 := e3 _ _ hpt
      refine ⟨.ref pt, rfl, .inl ⟨rfl, _, SqL.of hpt3⟩, pt, _, _, rfl, rfl, hpt3, ?_, ?_⟩
      · rw [List.length_map]
        exact sz_lt (by omega)
      · have npt1 : H1 pt = none := npt
        have e4 : Ex H1 (upd H3 pt (.lst ((piecesOf z).map V.str ++ [.str "a"]))) := Ex.mut (e2.trans e3) npt1
        refine ⟨.str z, rfl, .str z, rfl, (ht.ex e1).ex e4, fun z' ez => ?_, fun hn => absurd rfl (hn z)⟩
        cases ez
        refine ⟨hl z rfl, fun _ pu H5 npu e5 hpu => ?_, fun hf => by rw [ho] at hf; cases hf⟩
        refine ⟨.ref p, rfl, _, _, .lst (SqL.of hpu) (dpS _), .lst (SqL.of (e5 _ _ (e4 _ _ hp))) (dpS _), shapeS ho'.2, shapeS ho'.2, ?_⟩
        rw [eqvS ho'.2]
        have ef := (e1.trans e4).trans e5
        exact q _ (LamX.ExtN.of ef) (hT.ext ef)
    · intro H1 e1
      refine ⟨.non, rfl, rfl, _, rfl, ?_⟩
      refine ⟨hT.ext e1, fun H2 n2 T2 => ?_⟩
      have fin : ∀ H3, Ex H2 H3 → Q (.bl (decide (V.str "text" = V.str "text"))) H3 := fun H3 e3 => by
        rw [decide_eq_true rfl]
        exact q H3 ((LamX.ExtN.of e1).trans (n2.trans (LamX.ExtN.of e3))) (T2.ext e3)
      have bad : RetE (A 3) H2 (fun cls d H' => ∃ (C : Addr) (i : Nat) (nm : Str), cls = .ref C ∧ Plain K (howC A) C i ∧ kindNames[i]? = some nm ∧ DictOk d H' ∧ RetV (.str nm) H' (fun x H2 => rEq x (.str "text") H2 Q)) := fun H3 e3 =>
        ⟨_, 13, "text", rfl, T.h_NoText, rfl, (fun dd z => by cases z), fun H4 e4 => ⟨rfl, fin H4 (e3.trans e4)⟩⟩
      refine ⟨v, rfl, v, rfl, (ht.ex e1).exN n2, fun z ez => ⟨hl z ez, fun ho => ?_, fun _ => bad⟩, fun _ => bad⟩
      rw [due_none hd z ez] at ho
      cases ho

/-! ### _law_drawn_word, _law_spoilt -/
theorem eight_at (d : Int) (h0 : 0 ≤ d) (h8 : d < 8) : ∃ n : Int, atI [V.int 1, .int 2, .int 3, .int 11, .int 12, .int 13, .int 1, .int 1] d = some (.int n) ∧ 1 ≤ n ∧ n ≤ 13 := by
  have h : d = 0 ∨ d = 1 ∨ d = 2 ∨ d = 3 ∨ d = 4 ∨ d = 5 ∨ d = 6 ∨ d = 7 := by omega
  rcases h with rfl | rfl | rfl | rfl | rfl | rfl | rfl | rfl
  · exact ⟨1, atI_nat (j := 0) rfl, by decide, by decide⟩
  · exact ⟨2, atI_nat (j := 1) rfl, by decide, by decide⟩
  · exact ⟨3, atI_nat (j := 2) rfl, by decide, by decide⟩
  · exact ⟨11, atI_nat (j := 3) rfl, by decide, by decide⟩
  · exact ⟨12, atI_nat (j := 4) rfl, by decide, by decide⟩
  · exact ⟨13, atI_nat (j := 5) rfl, by decide, by decide⟩
  · exact ⟨1, atI_nat (j := 6) rfl, by decide, by decide⟩
  · exact ⟨1, atI_nat (j := 7) rfl, by decide, by decide⟩
theorem pool_ne {H : Hp} {p a : Addr} {c : Nat} (h : Pl H p c) (n : H a = none) : a ≠ p := by
  obtain ⟨xs, hx⟩ := h.some
  exact (ne_of_none hx n).symm
theorem pl_upd {H : Hp} {p a : Addr} {c : Nat} {o : HO} (h : Pl H p c) (n : a ≠ p) : Pl (upd H a o) p c := by
  obtain ⟨g, b, k, x1, x2⟩ := h
  exact ⟨g, b, k, by rw [upd_ne n.symm]; exact x1, x2⟩
def spDrawn : Sp := fun vs H Q _ => ∃ (p : Addr) (c : Nat), vs = [.ref p] ∧ Pl H p c ∧ c < 900000 ∧ ∀ (z : Str) (H' : Hp), z.length ≤ 13 → Pl H' p (c + 14) → Fx p H H' → Q (.str z) H'
set_option maxHeartbeats 8000000 in
theorem ok_l_drawn_word (T : TX K mg A FD TK CC) : FnOk P w K mg base CX0 2 (A 35) (FD 35) ["_law_pool_here"] spDrawn := by
  have G_l_take := ok_l_take (P := P) (w := w) (base := base) T
  have G_l_letters := ok_l_letters (P := P) (w := w) (base := base) T
  refine T.f_l_drawn_word.ok (k := 1) sc_l_drawn_word (fun vs H Q E h => ?_) (fun cdv A' outer s H vs Q E hr h => ?_)
  · obtain ⟨p, c, rfl, _⟩ := h
    rfl
  · obtain ⟨p, c, rfl, hp, hc, q⟩ := h
    refine ⟨_, (pss_cons (ps_set (i := 1) sc_l_drawn_word.nd rfl (.inl rfl) (pe_ix (ixLK (K := K) rfl) (pe_lst (pa_cons pe_int (pa_cons pe_int (pa_cons pe_int (pa_cons pe_int (pa_cons pe_int (pa_cons pe_int (pa_cons pe_int (pa_cons pe_int pa_nil))))))))) (pe_call G_l_take hr (by rfl) T.g_l_take T.f_l_take.kp T.b_l_take .nil pass0 (pa_cons (pv 0) (pa_cons pe_int pa_nil))) (fun _ _ => rfl)))
      (pss_one (ps_ret (pe_join pe_str (pe_lc (own := [("_law_k", 2)])  rfl sc_l_drawn_word.nd (pi_range1 (by rfl) T.m_range (pa_cons (pv 1) pa_nil)) (blkOk_by (own := [("_law_k", 2)]) (N := N_l_drawn_word) (sc := defScope (topS 35)) (by decide +kernel)) (fun _ _ _ _ _ => (pg_name (i := 2) sc_l_drawn_word.nd rfl (Or.inl rfl))) (fun _ _ _ _ _ => pts_nil) (fun _ _ _ _ _ => (pe_ix ix_str (pe_call0 G_l_letters hr (by rfl) T.g_l_letters T.f_l_letters.kp T.b_l_letters .nil pass0) (pe_call G_l_take hr (by rfl) T.g_l_take T.f_l_take.kp T.b_l_take .nil pass0 (pa_cons (pv 0) (pa_cons pe_int pa_nil))) (fun _ _ => rfl)))))))), ?_⟩
    refine ⟨by show 8 ≤ sizeLine; decide, fun l nl => ?_⟩
    have e1 : Ex H (upd H l (.lst [V.int 1, .int 2, .int 3, .int 11, .int 12, .int 13, .int 1, .int 1])) := Ex.new nl
    have nlp := pool_ne hp nl
    refine ⟨.ref p, rfl, p, 8, c, rfl, hp.ex e1, by decide, by decide, by omega, fun d H2 d0 d1 hp2 f2 => ?_⟩
    obtain ⟨n, an, n1, n13⟩ := eight_at d d0 d1
    refine ⟨l, _, d, .int n, rfl, rfl, SqL.of (f2 _ _ nlp upd_same), an, ?_⟩
    have F2 : Fx p H H2 := (Fx.ex e1).trans f2
    refine ⟨⟨_, rfl⟩, .int n, rfl, n, rfl, by omega, by omega, fun D nD => ?_⟩
    have nDp := pool_ne hp2 nD
    refine lc_range (lo := 0) (n := n.toNat) (fun i H' => ∃ ys : List Str, ys.length = i ∧ (∀ y ∈ ys, y.length ≤ 1) ∧ H' D = some (.lst (ys.map V.str)) ∧ Pl H' p (c + 1 + i) ∧ Fx p H2 H') ⟨[], rfl, (fun y hy => by cases hy), upd_same, hp2.ex (Ex.new nD), Fx.ex (Ex.new nD)⟩ (fun i H3 hi pv => ?_) (fun H3 pv => ?_)
    · obtain ⟨ys, yl, y1, hD, hp3, f3⟩ := pv
      refine ⟨rfl, rfl, .ref p, rfl, p, 26, c + 1 + i, rfl, hp3, by decide, by decide, by omega, fun e H4 e0 e1 hp4 f4 => ?_⟩
      obtain ⟨j, rfl⟩ := Int.eq_ofNat_of_zero_le e0
      have hj : j < alpha.cps.toList.length := by
        rw [show alpha.cps.toList.length = 26 by decide +kernel]
        omega
      refine ⟨alpha, _, _, rfl, rfl, sz (by decide +kernel), atI_nat (List.getElem?_eq_getElem hj), _, f4 _ _ nDp hD, ?_, ys ++ [⟨#[alpha.cps.toList[j]]⟩], ?_, ?_, ?_, ?_, ?_⟩
      · rw [List.length_map]
        exact sz_lt (by omega)
      · rw [List.length_append, yl]
        rfl
      · intro y hy
        rcases List.mem_append.mp hy with hy | hy
        · exact y1 y hy
        · rw [List.mem_singleton.mp hy]
          exact Nat.le_refl 1
      · rw [upd_same, List.map_append]
        rfl
      · exact pl_upd hp4 nDp
      · intro x o nx hx
        rw [upd_ne (ne_of_none hx nD)]
        exact f4 _ _ nx (f3 _ _ nx hx)
    · obtain ⟨ys, yl, y1, hD, hp3, f3⟩ := pv
      have s1 := sum_le y1
      have s2 := join_len "" ys
      rw [show (Str.ofString "").length = 0 by decide +kernel] at s2
      refine ⟨"", D, ys, rfl, rfl, .inl (SqL.of hD), ?_, q _ _ ?_ (hp3.mono (by omega)) (F2.trans f3)⟩
      · rw [show (Str.ofString "").length = 0 by decide +kernel]
        omega
      · omega
theorem signs_at (d : Int) (h0 : 0 ≤ d) (h : d < 11) : ∃ c, atI (Str.ofString " abz-A_0.{`").cps.toList d = some c := by
  obtain ⟨j, rfl⟩ := Int.eq_ofNat_of_zero_le h0
  have hj : j < (Str.ofString " abz-A_0.{`").cps.toList.length := by
    rw [show (Str.ofString " abz-A_0.{`").cps.toList.length = 11 by decide +kernel]
    omega
  exact ⟨_, atI_nat (List.getElem?_eq_getElem hj)⟩
def spSpoilt : Sp := fun vs H Q _ => ∃ (p : Addr) (z : Str) (c : Nat), vs = [.ref p, .str z] ∧ Pl H p c ∧ c < 900000 ∧ z.length ≤ 6000 ∧ ∀ (y : Str) (H' : Hp), y.length ≤ 3 * z.length + 1 → Pl H' p (c + 3) → Fx p H H' → Q (.str y) H'
set_option maxHeartbeats 8000000 in
theorem ok_l_spoilt (T : TX K mg A FD TK CC) : FnOk P w K mg base CX0 2 (A 36) (FD 36) ["_law_pool_here", "_law_text"] spSpoilt := by
  have G_l_take := ok_l_take (P := P) (w := w) (base := base) T
  refine T.f_l_spoilt.ok (k := 1) sc_l_spoilt (fun vs H Q E h => ?_) (fun cdv A' outer s H vs Q E hr h => ?_)
  · obtain ⟨p, z, c, rfl, _⟩ := h
    rfl
  · obtain ⟨p, z, c, rfl, hp, hc, hz, q⟩ := h
    refine ⟨_, (pss_cons (ps_set (i := 2) sc_l_spoilt.nd rfl (.inl rfl) (pe_call G_l_take hr (by rfl) T.g_l_take T.f_l_take.kp T.b_l_take .nil pass0 (pa_cons (pv 0) (pa_cons pe_int pa_nil))))
      (pss_cons (ps_set (i := 3) sc_l_spoilt.nd rfl (.inl rfl) (pe_call G_l_take hr (by rfl) T.g_l_take T.f_l_take.kp T.b_l_take .nil pass0 (pa_cons (pv 0) (pa_cons (pe_op op_add (pe_callB call_len_str (by rfl) T.m_len (by decide +kernel) (pa_cons (pv 1) pa_nil)) pe_int) pa_nil))))
      (pss_cons (ps_set (i := 4) sc_l_spoilt.nd rfl (.inl rfl) (pe_ix ix_str pe_str (pe_call G_l_take hr (by rfl) T.g_l_take T.f_l_take.kp T.b_l_take .nil pass0 (pa_cons (pv 0) (pa_cons pe_int pa_nil))) (fun _ _ => rfl)))
      (pss_cons (ps_if (pt_cmpR op_eq (pv 2) pe_int (nomark _))
      (pss_one (ps_ret (pe_op op_add_str (pe_op op_add_str (pe_slice sl_str (pv 1) po_none (po_some (pv 3))) (pv 4)) (pe_slice sl_str (pv 1) (po_some (pe_op op_add (pv 3) pe_int)) po_none))))
      pss_nil)
      (pss_cons (ps_if (pt_cmpR op_eq (pv 2) pe_int (nomark _))
      (pss_one (ps_ret (pe_op op_add_str (pe_op op_add_str (pe_slice sl_str (pv 1) po_none (po_some (pv 3))) (pv 4)) (pe_slice sl_str (pv 1) (po_some (pv 3)) po_none))))
      pss_nil)
      (pss_cons (ps_if (pt_cmpR op_eq (pv 2) pe_int (nomark _))
      (pss_one (ps_ret (pe_op op_add_str (pe_slice sl_str (pv 1) po_none (po_some (pv 3))) (pe_slice sl_str (pv 1) (po_some (pe_op op_add (pv 3) pe_int)) po_none))))
      pss_nil)
      (pss_cons (ps_if (pt_cmpR op_eq (pv 2) pe_int (nomark _))
      (pss_one (ps_ret (pe_op op_add_str (pe_op op_add_str (pe_slice sl_str (pv 1) po_none (po_some (pv 3))) (pe_slice sl_str (pv 1) (po_some (pv 3)) (po_some (pe_op op_add (pv 3) pe_int)))) (pe_slice sl_str (pv 1) (po_some (pv 3)) po_none))))
      pss_nil)
      (pss_one (ps_ret (pv 1)))))))))), ?_⟩
    refine ⟨.ref p, rfl, p, 6, c, rfl, hp, by decide, by decide, by omega, fun d H2 d0 d1 hp2 f2 => ?_⟩
    refine ⟨.ref p, rfl, .str z, rfl, z, rfl, sz (by omega), _, 1, rfl, rfl, p, (z.length : Int) + 1, c + 1, rfl, hp2, by omega, by omega, by omega, fun e H3 e0 e1 hp3 f3 => ?_⟩
    refine ⟨.ref p, rfl, p, 11, c + 1 + 1, rfl, hp3, by decide, by decide, by omega, fun g H4 g0 g1 hp4 f4 => ?_⟩
    obtain ⟨cc, ac⟩ := signs_at g g0 g1
    refine ⟨_, g, cc, rfl, rfl, sz (by decide +kernel), ac, ?_⟩
    have F4 := (f2.trans f3).trans f4
    have hp4' : Pl H4 p (c + 3) := hp4
    have cl := fun lo hi => cutS_length z lo hi
    have l1 : (⟨#[cc]⟩ : Str).length = 1 := rfl
    refine ⟨.int d, rfl, rfl, _, rfl, ite2 (fun h => ?_) (fun h => ?_)⟩
    · have c1 := cl none (some e)
      have c2 := cl (some (e + 1)) none
      refine ⟨.str z, rfl, .int e, rfl, e, rfl, z, rfl, sz (by omega), .str ⟨#[cc]⟩, rfl, _, _, rfl, rfl, sz (by omega), .str z, rfl, .int e, rfl, e, 1, rfl, rfl, _, rfl, z, rfl, sz (by omega), _, _, rfl, rfl, ?_, q _ _ ?_ hp4' F4⟩
      · rw [Str.length_append]
        exact sz (by omega)
      · rw [Str.length_append, Str.length_append]
        omega
    · refine ⟨.int d, rfl, rfl, _, rfl, ite2 (fun h => ?_) (fun h => ?_)⟩
      · have c1 := cl none (some e)
        have c2 := cl (some e) none
        refine ⟨.str z, rfl, .int e, rfl, e, rfl, z, rfl, sz (by omega), .str ⟨#[cc]⟩, rfl, _, _, rfl, rfl, sz (by omega), .str z, rfl, .int e, rfl, e, rfl, z, rfl, sz (by omega), _, _, rfl, rfl, ?_, q _ _ ?_ hp4' F4⟩
        · rw [Str.length_append]
          exact sz (by omega)
        · rw [Str.length_append, Str.length_append]
          omega
      · refine ⟨.int d, rfl, rfl, _, rfl, ite2 (fun h => ?_) (fun h => ?_)⟩
        · have c1 := cl none (some e)
          have c2 := cl (some (e + 1)) none
          refine ⟨.str z, rfl, .int e, rfl, e, rfl, z, rfl, sz (by omega), .str z, rfl, .int e, rfl, e, 1, rfl, rfl, _, rfl, z, rfl, sz (by omega), _, _, rfl, rfl, sz (by omega), q _ _ ?_ hp4' F4⟩
          rw [Str.length_append]
          omega
        · refine ⟨.int d, rfl, rfl, _, rfl, ite2 (fun h => ?_) (fun h => ?_)⟩
          · have c1 := cl none (some e)
            have c2 := cl (some e) (some (e + 2))
            have c3 := cl (some e) none
            refine ⟨.str z, rfl, .int e, rfl, e, rfl, z, rfl, sz (by omega), .str z, rfl, .int e, rfl, e, rfl, .int e, rfl, e, 2, rfl, rfl, _, rfl, z, rfl, sz (by omega), _, _, rfl, rfl, sz (by omega), .str z, rfl, .int e, rfl, e, rfl, z, rfl, sz (by omega), _, _, rfl, rfl, ?_, q _ _ ?_ hp4' F4⟩
            · rw [Str.length_append]
              exact sz (by omega)
            · rw [Str.length_append, Str.length_append]
              omega
          · exact ⟨.str z, rfl, q _ _ (by omega) hp4' F4⟩

/-! ### the law -/
theorem fx_new {p : Addr} {H H1 H2 : Hp} (n : H p = none) (e : Ex H H1) (f : Fx p H1 H2) : Ex H H2 := fun a o h => f a o (ne_of_none h n) (e a o h)
theorem maxmin (n : Nat) : 1 ≤ (if (if (n : Int) < 8 then (n : Int) else 8) > 1 then (if (n : Int) < 8 then (n : Int) else 8) else 1) ∧ (if (if (n : Int) < 8 then (n : Int) else 8) > 1 then (if (n : Int) < 8 then (n : Int) else 8) else 1) ≤ 8 := by
  constructor
  · split <;> split <;> omega
  · split <;> split <;> omega
theorem lst_exN {H H' : Hp} {a : Addr} {xs : List V} (e : LamX.ExtN H H') (h : H a = some (.lst xs)) : H' a = some (.lst xs) := e _ _ h (by intro ps z; cases z)
theorem tup_exN {H H' : Hp} {a : Addr} {xs : List V} (e : LamX.ExtN H H') (h : H a = some (.tup xs)) : H' a = some (.tup xs) := e _ _ h (by intro ps z; cases z)
theorem sql_exN {K : PySem.W.Frag} {H H' : Hp} {a : Addr} {xs : List V} (e : LamX.ExtN H H') (h : SqL K H a xs) : SqL K H' a xs := by
  rcases h with (h | ⟨o, h⟩) | h
  · exact .inl (.inl (lst_exN e h))
  · exact .inl (.inr ⟨o, e _ _ h (by intro ps z; cases z)⟩)
  · exact .inr h
theorem two_at (b : Bool) (x y : Int) : atI [V.int x, .int y] (if b = true then 1 else 0) = some (.int (if b = true then y else x)) := by
  cases b
  · exact atI_nat (j := 0) rfl
  · exact atI_nat (j := 1) rfl
theorem ite2' {b : Bool} {A B : Prop} (y : b ≠ true → B) (x : b = true → A) : if b = true then A else B := by
  by_cases h : b = true
  · rw [if_pos h]; exact x h
  · rw [if_neg h]; exact y h
theorem seq_cutG {i : Nat} {v : V} {tt : TT} {x y b : TS} {Ds D1 : Ends} {σ : L2.St} {H : Hp} {C : L2.St → Hp → Prop} (use : (∀ σ' H', C σ' H' → b Ds σ' H') → tSeq (tIfS tt x y) b Ds (σ.set i (some v)) H) (key : ∀ σ' H', C σ' H' → b Ds σ' H') : gName i v σ H ({ D1 with nx := tSeq (tIfS tt x y) b Ds } : Ends).nx := use key
def spLaw (K : PySem.W.Frag) (Tt : List (Addr × Str)) : Sp := fun vs H Q _ => ∃ (a : Addr) (ns : List Int), vs = [.ref a] ∧ SqL K H a (ns.map V.int) ∧ ns.length ≤ 63 ∧ LamX.Tabs Tt H ∧ ∀ H', Q (.bl true) H'
set_option maxHeartbeats 16000000 in
theorem ok_law (T : TX K mg A FD TK CC) {PR : Addr} (TBL : LamX.TabB base mg (CC 38) PR) : FnOk P w K mg base CX0 9 (A 39) (FD 39) ["_law_script"] (spLaw K [(PR, lamQ "_law_right")]) := by
  have G_l_pool := (ok_l_pool (P := P) (w := w) (base := base) T).mono (show 1 ≤ 8 by decide)
  have G_l_take := (ok_l_take (P := P) (w := w) (base := base) T).mono (show 1 ≤ 8 by decide)
  have G_l_drawn_word := (ok_l_drawn_word (P := P) (w := w) (base := base) T).mono (show 2 ≤ 8 by decide)
  have G_l_spoilt := (ok_l_spoilt (P := P) (w := w) (base := base) T).mono (show 2 ≤ 8 by decide)
  have G_is_word := (ok_is_word (P := P) (w := w) (base := base) T).mono (show 1 ≤ 8 by decide)
  have G_l_is_word := (ok_l_is_word (P := P) (w := w) (base := base) T).mono (show 2 ≤ 8 by decide)
  have G_l_right := (ok_l_right (P := P) (w := w) (base := base) T TBL).mono (show 7 ≤ 8 by decide)
  refine T.f_law.ok (k := 8) sc_law (fun vs H Q E h => ?_) (fun cdv A' outer s H vs Q E hr h => ?_)
  · obtain ⟨a, ns, rfl, _⟩ := h
    rfl
  · obtain ⟨a, ns, rfl, hS, hn, hT, q⟩ := h
    refine ⟨_, (pss_cons (ps_for PassesOwn.never rfl (pi_range1 (by rfl) T.m_range (pa_cons (pe_callB (call_max2 rfl) (by rfl) T.m_max (by decide +kernel) (pa_cons pe_int (pa_cons (pe_callB (call_min2 rfl) (by rfl) T.m_min (by decide +kernel) (pa_cons pe_int (pa_cons (pe_callB (lenK (K := K) rfl) (by rfl) T.m_len (by decide +kernel) (pa_cons (pv 0) pa_nil)) pa_nil))) pa_nil))) pa_nil)) (pg_name (i := 1) sc_law.nd rfl (.inl rfl))
      (pss_cons (ps_set (i := 2) sc_law.nd rfl (.inr rfl) (pe_call G_l_pool hr (by rfl) T.g_l_pool T.f_l_pool.kp T.b_l_pool .nil pass0 (pa_cons (pv 0) (pa_cons (pv 1) pa_nil))))
      (pss_cons (ps_set (i := 3) sc_law.nd rfl (.inl rfl) (pe_call G_l_take hr (by rfl) T.g_l_take T.f_l_take.kp T.b_l_take .nil pass0 (pa_cons (pv 2) (pa_cons pe_int pa_nil))))
      (pss_cons (ps_set (i := 4) sc_law.nd rfl (.inl rfl) (pe_ix (ixLK (K := K) rfl) (pe_lst (pa_cons (pe_call G_l_take hr (by rfl) T.g_l_take T.f_l_take.kp T.b_l_take .nil pass0 (pa_cons (pv 2) (pa_cons pe_int pa_nil))) (pa_cons (pe_op op_add pe_int (pe_call G_l_take hr (by rfl) T.g_l_take T.f_l_take.kp T.b_l_take .nil pass0 (pa_cons (pv 2) (pa_cons pe_int pa_nil)))) pa_nil))) (pe_callTy call_int1 (by rfl) T.m_int (by decide +kernel) (pa_cons (pe_cmpR op_eq (pv 3) pe_int (nomark _)) pa_nil)) (fun _ _ => rfl)))
      (pss_cons (ps_setLc (i := 5) (own := [("_law_j", 10)])  rfl sc_law.nd rfl rfl (sw_true rfl rfl rfl (by decide +kernel)) (pi_range1 (by rfl) T.m_range (pa_cons (pv 4) pa_nil)) (blkOk_by (own := [("_law_j", 10)]) (N := N_law) (sc := defScope (topS 39)) (by decide +kernel)) (fun _ _ _ _ _ => (pg_name (i := 10) sc_law.nd rfl (Or.inl rfl))) (fun _ _ _ _ _ => pts_nil) (fun _ _ _ _ _ => (pe_call G_l_drawn_word hr (by rfl) T.g_l_drawn_word T.f_l_drawn_word.kp T.b_l_drawn_word .nil pass0 (pa_cons (pv 2) pa_nil))))
      (pss_cons (ps_if (pt_cmpR op_eq (pv 3) pe_int (nomark _))
      (pss_one (ps_setLc (i := 5) (own := [("_law_piece", 7)])  rfl sc_law.nd rfl rfl (sw_true rfl rfl rfl (by decide +kernel)) (piLK (K := K) rfl (pv 5)) (blkOk_by (own := [("_law_piece", 7)]) (N := N_law) (sc := defScope (topS 39)) (by decide +kernel)) (fun _ _ _ _ _ => (pg_name (i := 7) sc_law.nd rfl (Or.inl rfl))) (fun _ _ _ _ _ => pts_nil) (fun _ _ _ _ _ => (pe_slice sl_str (pv 7) po_none (po_some pe_int)))))
      pss_nil)
      (pss_cons (ps_set (i := 6) sc_law.nd rfl (.inl rfl) (pe_call G_l_spoilt hr (by rfl) T.g_l_spoilt T.f_l_spoilt.kp T.b_l_spoilt .nil pass0 (pa_cons (pv 2) (pa_cons (pe_join pe_str (pv 5)) pa_nil))))
      (pss_cons (ps_if (pt_not (pt_val (pe_call G_l_right hr (by rfl) T.g_l_right T.f_l_right.kp T.b_l_right .nil pass0 (pa_cons (pv 6) pa_nil))))
      (pss_one (ps_ret pe_bl))
      pss_nil)
      (pss_cons (ps_for PassesOwn.never rfl (piLK (K := K) rfl (pe_op op_cat (pe_split (pv 6) pe_str) (pe_lst (pa_cons (pv 6) (pa_cons pe_non (pa_cons pe_int (pa_cons pe_bl (pa_cons (pe_tup (pa_cons pe_str pa_nil)) (pa_cons (pe_lst (pa_cons pe_str pa_nil)) (pa_cons pe_str (pa_cons pe_str pa_nil))))))))))) (pg_name (i := 7) sc_law.nd rfl (.inl rfl))
      (pss_cons (ps_set (i := 8) sc_law.nd rfl (.inl rfl) (pe_call G_is_word hr (by rfl) T.g_is_word T.f_is_word.kp T.b_is_word .nil pass0 (pa_cons (pv 7) pa_nil)))
      (pss_one (ps_if (PW.pt (pw_or (pt_not (pt_val (pe_callB (isiK (K := K) rfl) (by rfl) T.m_isinstance (by decide +kernel) (pa_cons (pv 8) (pa_cons (pe_bltn (v := .ty "bool") (by rfl) T.m_bool (by decide +kernel) rfl) pa_nil))))) (pw_or1 (pt_cmpR op_ne (pv 8) (pe_call G_l_is_word hr (by rfl) T.g_l_is_word T.f_l_is_word.kp T.b_l_is_word .nil pass0 (pa_cons (pv 7) pa_nil)) (nomark _)))))
      (pss_one (ps_ret pe_bl))
      pss_nil))))
      (pss_one (ps_for PassesOwn.never rfl (piTK (K := K) rfl (pe_tup (pa_cons pe_non (pa_cons pe_int (pa_cons pe_bl (pa_cons (pe_lst (pa_cons pe_str pa_nil)) (pa_cons (pe_tup (pa_cons pe_str pa_nil)) (pa_cons (pv 5) pa_nil)))))))) (pg_name (i := 9) sc_law.nd rfl (.inl rfl))
      (pss_one (ps_if (pt_not (pt_val (pe_call G_l_right hr (by rfl) T.g_l_right T.f_l_right.kp T.b_l_right .nil pass0 (pa_cons (pv 9) pa_nil))))
      (pss_one (ps_ret pe_bl))
      pss_nil)))))))))))))
      (pss_one (ps_ret pe_bl))), ?_⟩
    refine ⟨.ref a, rfl, a, _, rfl, .inl hS, 8, _, rfl, 1, _, rfl, (if (if ((ns.map V.int).length : Int) < 8 then ((ns.map V.int).length : Int) else 8) > 1 then (if ((ns.map V.int).length : Int) < 8 then ((ns.map V.int).length : Int) else 8) else 1), rfl, ?_, ?_, ?_⟩
    · have := maxmin (ns.map V.int).length
      omega
    · have := maxmin (ns.map V.int).length
      omega
    have hmm := maxmin (ns.map V.int).length
    generalize (if (if ((ns.map V.int).length : Int) < 8 then ((ns.map V.int).length : Int) else 8) > 1 then (if ((ns.map V.int).length : Int) < 8 then ((ns.map V.int).length : Int) else 8) else 1) = n at hmm ⊢
    refine for_range (lo := 0) (n := n.toNat) (fun i σ' H' => ∃ y1 y2 y3 y4 y5 y6 y7 y8 y9 y10 : Option V, σ' = [some (.ref a), y1, y2, y3, y4, y5, y6, y7, y8, y9, y10] ∧ LamX.ExtN H H' ∧ LamX.Tabs (TabL PR) H') ⟨none, none, none, none, none, none, none, none, none, none, rfl, LamX.ExtN.refl H, hT⟩ (fun i σ' H' hi pv => ?_) (fun σ' H' pv => ?_)
    · obtain ⟨y1, y2, y3, y4, y5, y6, y7, y8, y9, y10, rfl, e0, T0⟩ := pv
      refine ⟨.ref a, rfl, .int ((0 : Int) + i), rfl, a, ns, i, ?_, sql_exN e0 hS, hn, by omega, fun p H1 np e1 hp1 => ?_⟩
      · show [V.ref a, V.int ((0 : Int) + i)] = [V.ref a, V.int (i : Int)]
        rw [Int.zero_add]
      refine ⟨.ref p, rfl, p, 8, 0, rfl, hp1, by decide, by decide, by omega, fun d H2 d0 d1 hp2 f2 => ?_⟩
      refine ⟨.ref p, rfl, p, 15, 1, rfl, hp2, by decide, by decide, by omega, fun e H3 eg el hp3 f3 => ?_⟩
      refine ⟨.ref p, rfl, p, 4, 2, rfl, hp3, by decide, by decide, by omega, fun g H4 g0 g1 hp4 f4 => ?_⟩
      refine ⟨119, g, rfl, rfl, by show 2 ≤ sizeLine; decide, fun l nl => ?_⟩
      have x4 : Ex H' H4 := fx_new np e1 ((f2.trans f3).trans f4)
      have F4 : Fx p H1 H4 := (f2.trans f3).trans f4
      have np1 : H' p = none := np
      refine ⟨.int d, rfl, rfl, .inr ⟨_, rfl, l, _, _, .int (if decide (V.int d = V.int 5) = true then 119 + g else e), rfl, rfl, SqL.of upd_same, two_at _ _ _, ?_⟩⟩
      have e5 : Ex H4 (upd H4 l (.lst [.int e, .int (119 + g)])) := Ex.new nl
      have hp5 : Pl (upd H4 l (.lst [.int e, .int (119 + g)])) p 3 := hp4.ex e5
      have F5 : Fx p H1 (upd H4 l (.lst [.int e, .int (119 + g)])) := F4.trans (Fx.ex e5)
      generalize (upd H4 l (.lst [.int e, .int (119 + g)])) = H5 at hp5 F5 ⊢
      have sz0 : 0 ≤ (if decide (V.int d = V.int 5) = true then 119 + g else e) ∧ (if decide (V.int d = V.int 5) = true then 119 + g else e) ≤ 122 := by
        constructor
        · split <;> omega
        · split <;> omega
      generalize (if decide (V.int d = V.int 5) = true then 119 + g else e) = sz1 at sz0 ⊢
      refine ⟨.int sz1, rfl, sz1, rfl, by omega, by omega, fun D nD => ?_⟩
      have nDp := pool_ne hp5 nD
      refine lc_range (lo := 0) (n := sz1.toNat) (fun i H' => ∃ ys : List Str, ys.length = i ∧ (∀ y ∈ ys, y.length ≤ 13) ∧ H' D = some (.lst (ys.map V.str)) ∧ Pl H' p (3 + 14 * i) ∧ Fx p H5 H') ⟨[], rfl, (fun y hy => by cases hy), upd_same, hp5.ex (Ex.new nD), Fx.ex (Ex.new nD)⟩ (fun i H6 hi pv => ?_) (fun H6 pv => ?_)
      · obtain ⟨ys, yl, y1, hD, hp6, f6⟩ := pv
        refine ⟨rfl, .ref p, rfl, p, _, rfl, hp6, by omega, fun z H7 z1 hp7 f7 => ?_⟩
        refine ⟨_, f7 _ _ nDp hD, ?_, ys ++ [z], ?_, ?_, ?_, ?_, ?_⟩
        · rw [List.length_map]
          exact sz_lt (by omega)
        · rw [List.length_append, yl]
          rfl
        · intro y hy
          rcases List.mem_append.mp hy with hy | hy
          · exact y1 y hy
          · rw [List.mem_singleton.mp hy]
            exact z1
        · rw [upd_same, List.map_append]
          rfl
        · exact pl_upd (hp7.mono (by omega)) nDp
        · intro x o nx hx
          rw [upd_ne (ne_of_none hx nD)]
          exact f7 _ _ nx (f6 _ _ nx hx)
      · obtain ⟨ys, yl, ym, hD, hp6, f6⟩ := pv
        have F6 := F5.trans f6
        refine seq_cutG (C := fun σ' H6 => ∃ (D : Addr) (ys : List Str), σ' = [some (.ref a), some (.int ((0 : Int) + i)), some (.ref p), some (.int d), some (.int sz1), some (.ref D), y6, y7, y8, y9, y10] ∧ ys.length ≤ 122 ∧ (∀ y ∈ ys, y.length ≤ 13) ∧ H6 D = some (.lst (ys.map V.str)) ∧ D ≠ p ∧ Pl H6 p 1800 ∧ Fx p H1 H6) (fun key => ?_) (fun σ' H6 c => ?_)
        · refine ⟨.int d, rfl, rfl, _, rfl, ite2' (fun h => ?_) (fun h => ?_)⟩
          · exact key _ _ ⟨D, ys, rfl, by omega, ym, hD, nDp, hp6.mono (by omega), F6⟩
          refine ⟨.ref D, rfl, D, rfl, ⟨_, SqL.of hD⟩, fun D2 nD2 => ?_⟩
          have nD2p := pool_ne hp6 nD2
          refine lc_list (K := K) (xs := ys.map V.str) (fun i H' => Ex H6 H' ∧ H' D2 = some (.lst ((ys.take i).map fun z => .str (cutS z none (some 12))))) ⟨Ex.new nD2, upd_same⟩ (fun i H' _ p => SqL.of (p.1 _ _ hD)) (fun i x H7 hx p7 => ?_) (fun H7 p7 => ?_)
          · obtain ⟨g1, g2⟩ := p7
            rw [List.getElem?_map] at hx
            obtain ⟨y, gy, rfl⟩ := Option.map_eq_some_iff.mp hx
            have hi : i < ys.length := (List.getElem?_eq_some_iff.mp gy).1
            have yl := ym y (List.mem_of_getElem? gy)
            refine ⟨rfl, .str y, rfl, 12, rfl, y, rfl, sz (by omega), _, g2, ?_, Ex.mut g1 nD2, ?_⟩
            · rw [List.length_map, List.length_take]
              exact sz_lt (by omega)
            · rw [upd_same, List.take_add_one, gy, List.map_append]
              rfl
          · obtain ⟨g1, g2⟩ := p7
            refine key _ H7 ⟨D2, ys.map fun z => cutS z none (some 12), rfl, by rw [List.length_map]; omega, fun y hy => ?_, ?_, nD2p, (hp6.mono (by omega)).ex g1, F6.trans (Fx.ex g1)⟩
            · obtain ⟨z, hz, rfl⟩ := List.mem_map.mp hy
              have := ym z hz
              have := cutS_length z none (some 12)
              omega
            · rw [g2, List.take_of_length_le (by simp), List.map_map]
              rfl
        · obtain ⟨D, ys, rfl, yl, ym, hD, nDp, hp6, F6⟩ := c
          have jl := join_len " " ys
          have sl := sum_le ym
          rw [show (Str.ofString " ").length = 1 by decide +kernel] at jl
          refine ⟨.ref p, rfl, ⟨_, rfl⟩, .ref D, rfl, " ", D, ys, rfl, rfl, .inl (SqL.of hD), ?_, p, Txt.join " " ys, 1800, rfl, hp6, by decide, by omega, fun y H7 yl2 hp7 f7 => ?_⟩
          · rw [show (Str.ofString " ").length = 1 by decide +kernel]
            omega
          have x7 : Ex H' H7 := fx_new np e1 (F6.trans f7)
          have yb : y.length ≤ 20000 := by omega
          have hD7 := f7 _ _ nDp hD
          refine ⟨.str y, rfl, .str y, rfl, ⟨.str y (by omega), fun z ez => by cases ez; exact yb⟩, T0.ext x7, fun H8 n8 T8 => ?_⟩
          refine ⟨_, rfl, ?_⟩
          have hD8 := lst_exN n8 hD7
          have xn8 : LamX.ExtN H H8 := e0.trans ((LamX.ExtN.of x7).trans n8)
          refine ⟨.str y, rfl, ⟨_, rfl⟩, y, " ", rfl, rfl, by decide +kernel, sz (by omega), fun sp nsp => ?_⟩
          refine ⟨.str y, rfl, by show 1 ≤ sizeLine; decide, fun t1 nt1 => ⟨by show 1 ≤ sizeLine; decide, fun l1 nl1 => ⟨by show 8 ≤ sizeLine; decide, fun l nl => ?_⟩⟩⟩
          have s1 : Ex H8 (upd H8 sp (.lst ((Txt.split y " ").map V.str))) := Ex.new nsp
          have s2 := Ex.new (o := .tup [.str "a"]) nt1
          have s3 := Ex.new (o := .lst [.str "a"]) nl1
          have s4 := Ex.new (o := .lst [.str y, .non, .int 3, .bl true, .ref t1, .ref l1, .str "", .str "A"]) nl
          have h_sp := s4 _ _ (s3 _ _ (s2 _ _ (upd_same (H := H8) (a := sp) (o := .lst ((Txt.split y " ").map V.str)))))
          have h_t1 := s4 _ _ (s3 _ _ (upd_same (a := t1) (o := .tup [.str "a"])))
          have h_l1 := s4 _ _ (upd_same (a := l1) (o := .lst [.str "a"]))
          refine ⟨sp, l, _, _, rfl, rfl, h_sp, upd_same, ?_, fun pp npp => ?_⟩
          · have := split_len y
            rw [List.length_map]
            exact sz (show _ + 8 ≤ 100000 by omega)
          refine ⟨pp, rfl, ⟨_, SqL.of upd_same⟩, ?_⟩
          have s5 := Ex.new (o := .lst ((Txt.split y " ").map V.str ++ [.str y, .non, .int 3, .bl true, .ref t1, .ref l1, .str "", .str "A"])) npp
          have x89 := (((s1.trans s2).trans s3).trans s4).trans s5
          have k_t1 := s5 _ _ h_t1
          have k_l1 := s5 _ _ h_l1
          refine for_list (K := K) (xs := (Txt.split y " ").map V.str ++ [.str y, .non, .int 3, .bl true, .ref t1, .ref l1, .str "", .str "A"]) (fun j σ2 Hj => ∃ y7 y8 : Option V, σ2 = [some (.ref a), some (.int ((0 : Int) + i)), some (.ref p), some (.int d), some (.int sz1), some (.ref D), some (.str y), y7, y8, y9, y10] ∧ Ex _ Hj) ⟨y7, y8, rfl, Ex.refl _⟩ (fun j σ2 Hj _ pj => ?_) (fun j x σ2 Hj gx pj => ?_) (fun σ2 Hj pj => ?_)
          · obtain ⟨_, _, _, ej⟩ := pj
            exact SqL.of (ej _ _ upd_same)
          · obtain ⟨y7, y8, rfl, ej⟩ := pj
            have thx : Th Hj x := by
              rcases List.mem_append.mp (List.mem_of_getElem? gx) with hx | hx
              · obtain ⟨z, hz, rfl⟩ := List.mem_map.mp hx
                exact .str z (by have := split_short hz; omega)
              · simp only [List.mem_cons, List.not_mem_nil, or_false] at hx
                rcases hx with rfl | rfl | rfl | rfl | rfl | rfl | rfl | rfl
                · exact .str y (by omega)
                · exact .non
                · exact .int 3
                · exact .bl true
                · exact .tup (ej _ _ k_t1)
                · exact .lst (ej _ _ k_l1)
                · exact .str _ (by decide +kernel)
                · exact .str _ (by decide +kernel)
            refine ⟨x, rfl, x, rfl, thx, fun Hk ek => ?_⟩
            refine ⟨.bl (wordV x), rfl, .bl (wordV x), .ty "bool", .type "bool", .type "bool", true, rfl, .ty _, .base (.bl _), kit_ty (by decide +kernel), true, rfl, ?_⟩
            refine ⟨.bl (wordV x), rfl, x, rfl, x, rfl, thx.ex ek, fun Hm em => ?_⟩
            refine ⟨rfl, _, rfl, ?_⟩
            rw [show (!decide (V.bl (wordV x) = V.bl (wordV x))) = false by rw [decide_eq_true rfl]; rfl]
            exact ⟨some x, some (.bl (wordV x)), rfl, (ej.trans ek).trans em⟩
          · obtain ⟨y7, y8, rfl, ej⟩ := pj
            have x8j := x89.trans ej
            have hDj := x8j _ _ hD8
            have Tj := T8.ext x8j
            have nj := xn8.trans (LamX.ExtN.of x8j)
            refine ⟨by show 1 ≤ sizeLine; decide, fun l2 nl2 => ⟨by show 1 ≤ sizeLine; decide, fun t2 nt2 => ⟨.ref D, rfl, by show 6 ≤ sizeLine; decide, fun tt ntt => ?_⟩⟩⟩
            have z1 := Ex.new (o := .lst [.str "a"]) nl2
            have z2 := Ex.new (o := .tup [.str "a"]) nt2
            have z3 := Ex.new (o := .tup [.non, .int 7, .bl true, .ref l2, .ref t2, .ref D]) ntt
            have z := (z1.trans z2).trans z3
            have k_D := z _ _ hDj
            have k_l2 := z3 _ _ (z2 _ _ (upd_same (H := Hj) (a := l2) (o := .lst [.str "a"])))
            have k_t2 := z3 _ _ (upd_same (a := t2) (o := .tup [.str "a"]))
            refine ⟨tt, rfl, ⟨_, SqT.of upd_same⟩, ?_⟩
            refine for_tup (K := K) (xs := [.non, .int 7, .bl true, .ref l2, .ref t2, .ref D]) (fun j σ2 Hm => ∃ y9 : Option V, σ2 = [some (.ref a), some (.int ((0 : Int) + i)), some (.ref p), some (.int d), some (.int sz1), some (.ref D), some (.str y), y7, y8, y9, y10] ∧ LamX.ExtN _ Hm ∧ LamX.Tabs (TabL PR) Hm) ⟨y9, rfl, LamX.ExtN.refl _, Tj.ext z⟩ (fun j σ2 Hm _ pj => ?_) (fun j x σ2 Hm gx pj => ?_) (fun σ2 Hm pj => ?_)
            · obtain ⟨_, _, em, _⟩ := pj
              exact SqT.of (tup_exN em upd_same)
            · obtain ⟨y9, rfl, em, Tm⟩ := pj
              have thx : ThR Hm x := by
                have hx := List.mem_of_getElem? gx
                simp only [List.mem_cons, List.not_mem_nil, or_false] at hx
                rcases hx with rfl | rfl | rfl | rfl | rfl | rfl
                · exact ⟨.non, fun z e => by cases e⟩
                · exact ⟨.int 7, fun z e => by cases e⟩
                · exact ⟨.bl true, fun z e => by cases e⟩
                · exact ⟨.lst (lst_exN em k_l2), fun z e => by cases e⟩
                · exact ⟨.tup (tup_exN em k_t2), fun z e => by cases e⟩
                · exact ⟨.lst (lst_exN em k_D), fun z e => by cases e⟩
              refine ⟨x, rfl, x, rfl, thx, Tm, fun Hk nk Tk => ?_⟩
              exact ⟨_, rfl, some x, rfl, em.trans nk, Tk⟩
            · obtain ⟨y9, rfl, em, Tm⟩ := pj
              exact ⟨_, _, _, _, _, _, _, _, _, _, rfl, nj.trans ((LamX.ExtN.of z).trans em), Tm⟩
    · obtain ⟨y1, y2, y3, y4, y5, y6, y7, y8, y9, y10, rfl, e0, T0⟩ := pv
      exact q _

end
set_option maxHeartbeats 8000000 in
theorem all_mk {l : PySem.W.OpenLaw} {w : World} {K : PySem.W.Frag} {h : Heap} {mg : Str → Option Value} {fa : Addr} (X : K.In h) (G : h.Ns mainGlobals mg) (hfa : mg "law" = some (.ref fa))
    {f23 : Addr} {od23 an23 : Option Addr} {sl23 : Array (Option Value)} {oc23 kV23 dc23 pm23 cd23 ct23 : Value}
    (a23 : PySem.W.nsIn K mainGlobals "is_word" = some (some (.ref f23))) (l23 : K.lookup f23 = some ⟨oc23, od23, .func (PySem.W.fnOf "is_word" "is_word" (defArgs (topS 23)) (defBody (topS 23)) (defScope (topS 23)) .none kV23 dc23 pm23 an23 cd23 ct23), sl23⟩) (c23 : PySem.W.codeIn K cd23 "is_word" = true) (k23 : PySem.W.keepIn K (.ref f23) = true)
    {f24 : Addr} {od24 an24 : Option Addr} {sl24 : Array (Option Value)} {oc24 kV24 dc24 pm24 cd24 ct24 : Value}
    (a24 : PySem.W.nsIn K mainGlobals "are_words" = some (some (.ref f24))) (l24 : K.lookup f24 = some ⟨oc24, od24, .func (PySem.W.fnOf "are_words" "are_words" (defArgs (topS 24)) (defBody (topS 24)) (defScope (topS 24)) .none kV24 dc24 pm24 an24 cd24 ct24), sl24⟩) (c24 : PySem.W.codeIn K cd24 "are_words" = true) (k24 : PySem.W.keepIn K (.ref f24) = true)
    {f25 : Addr} {od25 an25 : Option Addr} {sl25 : Array (Option Value)} {oc25 kV25 dc25 pm25 cd25 ct25 : Value}
    (a25 : PySem.W.nsIn K mainGlobals "words_of" = some (some (.ref f25))) (l25 : K.lookup f25 = some ⟨oc25, od25, .func (PySem.W.fnOf "words_of" "words_of" (defArgs (topS 25)) (defBody (topS 25)) (defScope (topS 25)) .none kV25 dc25 pm25 an25 cd25 ct25), sl25⟩) (c25 : PySem.W.codeIn K cd25 "words_of" = true) (k25 : PySem.W.keepIn K (.ref f25) = true)
    {f26 : Addr} {od26 an26 : Option Addr} {sl26 : Array (Option Value)} {oc26 kV26 dc26 pm26 cd26 ct26 : Value}
    (a26 : PySem.W.nsIn K mainGlobals "text_of" = some (some (.ref f26))) (l26 : K.lookup f26 = some ⟨oc26, od26, .func (PySem.W.fnOf "text_of" "text_of" (defArgs (topS 26)) (defBody (topS 26)) (defScope (topS 26)) .none kV26 dc26 pm26 an26 cd26 ct26), sl26⟩) (c26 : PySem.W.codeIn K cd26 "text_of" = true) (k26 : PySem.W.keepIn K (.ref f26) = true)
    {f27 : Addr} {od27 an27 : Option Addr} {sl27 : Array (Option Value)} {oc27 kV27 dc27 pm27 cd27 ct27 : Value}
    (a27 : PySem.W.nsIn K mainGlobals "check_words" = some (some (.ref f27))) (l27 : K.lookup f27 = some ⟨oc27, od27, .func (PySem.W.fnOf "check_words" "check_words" (defArgs (topS 27)) (defBody (topS 27)) (defScope (topS 27)) .none kV27 dc27 pm27 an27 cd27 ct27), sl27⟩) (c27 : PySem.W.codeIn K cd27 "check_words" = true) (k27 : PySem.W.keepIn K (.ref f27) = true)
    {f29 : Addr} {od29 an29 : Option Addr} {sl29 : Array (Option Value)} {oc29 kV29 dc29 pm29 cd29 ct29 : Value}
    (a29 : PySem.W.nsIn K mainGlobals "_law_pool" = some (some (.ref f29))) (l29 : K.lookup f29 = some ⟨oc29, od29, .func (PySem.W.fnOf "_law_pool" "_law_pool" (defArgs (topS 29)) (defBody (topS 29)) (defScope (topS 29)) .none kV29 dc29 pm29 an29 cd29 ct29), sl29⟩) (c29 : PySem.W.codeIn K cd29 "_law_pool" = true) (k29 : PySem.W.keepIn K (.ref f29) = true)
    {f30 : Addr} {od30 an30 : Option Addr} {sl30 : Array (Option Value)} {oc30 kV30 dc30 pm30 cd30 ct30 : Value}
    (a30 : PySem.W.nsIn K mainGlobals "_law_take" = some (some (.ref f30))) (l30 : K.lookup f30 = some ⟨oc30, od30, .func (PySem.W.fnOf "_law_take" "_law_take" (defArgs (topS 30)) (defBody (topS 30)) (defScope (topS 30)) .none kV30 dc30 pm30 an30 cd30 ct30), sl30⟩) (c30 : PySem.W.codeIn K cd30 "_law_take" = true) (k30 : PySem.W.keepIn K (.ref f30) = true)
    {f31 : Addr} {od31 an31 : Option Addr} {sl31 : Array (Option Value)} {oc31 kV31 dc31 pm31 cd31 ct31 : Value}
    (a31 : PySem.W.nsIn K mainGlobals "_law_is_word" = some (some (.ref f31))) (l31 : K.lookup f31 = some ⟨oc31, od31, .func (PySem.W.fnOf "_law_is_word" "_law_is_word" (defArgs (topS 31)) (defBody (topS 31)) (defScope (topS 31)) .none kV31 dc31 pm31 an31 cd31 ct31), sl31⟩) (c31 : PySem.W.codeIn K cd31 "_law_is_word" = true) (k31 : PySem.W.keepIn K (.ref f31) = true)
    {f32 : Addr} {od32 an32 : Option Addr} {sl32 : Array (Option Value)} {oc32 kV32 dc32 pm32 cd32 ct32 : Value}
    (a32 : PySem.W.nsIn K mainGlobals "_law_letters" = some (some (.ref f32))) (l32 : K.lookup f32 = some ⟨oc32, od32, .func (PySem.W.fnOf "_law_letters" "_law_letters" (defArgs (topS 32)) (defBody (topS 32)) (defScope (topS 32)) .none kV32 dc32 pm32 an32 cd32 ct32), sl32⟩) (c32 : PySem.W.codeIn K cd32 "_law_letters" = true) (k32 : PySem.W.keepIn K (.ref f32) = true)
    {f33 : Addr} {od33 an33 : Option Addr} {sl33 : Array (Option Value)} {oc33 kV33 dc33 pm33 cd33 ct33 : Value}
    (a33 : PySem.W.nsIn K mainGlobals "_law_kind" = some (some (.ref f33))) (l33 : K.lookup f33 = some ⟨oc33, od33, .func (PySem.W.fnOf "_law_kind" "_law_kind" (defArgs (topS 33)) (defBody (topS 33)) (defScope (topS 33)) .none kV33 dc33 pm33 an33 cd33 ct33), sl33⟩) (c33 : PySem.W.codeIn K cd33 "_law_kind" = true) (k33 : PySem.W.keepIn K (.ref f33) = true)
    {f34 : Addr} {od34 an34 : Option Addr} {sl34 : Array (Option Value)} {oc34 kV34 dc34 pm34 cd34 ct34 : Value}
    (a34 : PySem.W.nsIn K mainGlobals "_law_how" = some (some (.ref f34))) (l34 : K.lookup f34 = some ⟨oc34, od34, .func (PySem.W.fnOf "_law_how" "_law_how" (defArgs (topS 34)) (defBody (topS 34)) (defScope (topS 34)) .none kV34 dc34 pm34 an34 cd34 ct34), sl34⟩) (c34 : PySem.W.codeIn K cd34 "_law_how" = true) (k34 : PySem.W.keepIn K (.ref f34) = true)
    {f35 : Addr} {od35 an35 : Option Addr} {sl35 : Array (Option Value)} {oc35 kV35 dc35 pm35 cd35 ct35 : Value}
    (a35 : PySem.W.nsIn K mainGlobals "_law_drawn_word" = some (some (.ref f35))) (l35 : K.lookup f35 = some ⟨oc35, od35, .func (PySem.W.fnOf "_law_drawn_word" "_law_drawn_word" (defArgs (topS 35)) (defBody (topS 35)) (defScope (topS 35)) .none kV35 dc35 pm35 an35 cd35 ct35), sl35⟩) (c35 : PySem.W.codeIn K cd35 "_law_drawn_word" = true) (k35 : PySem.W.keepIn K (.ref f35) = true)
    {f36 : Addr} {od36 an36 : Option Addr} {sl36 : Array (Option Value)} {oc36 kV36 dc36 pm36 cd36 ct36 : Value}
    (a36 : PySem.W.nsIn K mainGlobals "_law_spoilt" = some (some (.ref f36))) (l36 : K.lookup f36 = some ⟨oc36, od36, .func (PySem.W.fnOf "_law_spoilt" "_law_spoilt" (defArgs (topS 36)) (defBody (topS 36)) (defScope (topS 36)) .none kV36 dc36 pm36 an36 cd36 ct36), sl36⟩) (c36 : PySem.W.codeIn K cd36 "_law_spoilt" = true) (k36 : PySem.W.keepIn K (.ref f36) = true)
    {f37 : Addr} {od37 an37 : Option Addr} {sl37 : Array (Option Value)} {oc37 kV37 dc37 pm37 cd37 ct37 : Value}
    (a37 : PySem.W.nsIn K mainGlobals "_law_due" = some (some (.ref f37))) (l37 : K.lookup f37 = some ⟨oc37, od37, .func (PySem.W.fnOf "_law_due" "_law_due" (defArgs (topS 37)) (defBody (topS 37)) (defScope (topS 37)) .none kV37 dc37 pm37 an37 cd37 ct37), sl37⟩) (c37 : PySem.W.codeIn K cd37 "_law_due" = true) (k37 : PySem.W.keepIn K (.ref f37) = true)
    {f38 : Addr} {od38 an38 : Option Addr} {sl38 : Array (Option Value)} {oc38 kV38 dc38 pm38 ct38 : Value} {cc38 : Addr}
    (a38 : PySem.W.nsIn K mainGlobals "_law_right" = some (some (.ref f38))) (l38 : K.lookup f38 = some ⟨oc38, od38, .func (PySem.W.fnOf "_law_right" "_law_right" (defArgs (topS 38)) (defBody (topS 38)) (defScope (topS 38)) .none kV38 dc38 pm38 an38 (.ref cc38) ct38), sl38⟩) (c38 : PySem.W.codeIn K (.ref cc38) "_law_right" = true) (k38 : PySem.W.keepIn K (.ref f38) = true)
    {f39 : Addr} {od39 an39 : Option Addr} {sl39 : Array (Option Value)} {oc39 kV39 dc39 pm39 cd39 ct39 : Value}
    (a39 : PySem.W.nsIn K mainGlobals "law" = some (some (.ref f39))) (l39 : K.lookup f39 = some ⟨oc39, od39, .func (PySem.W.fnOf "law" "law" (defArgs (topS 39)) (defBody (topS 39)) (defScope (topS 39)) .none kV39 dc39 pm39 an39 cd39 ct39), sl39⟩) (c39 : PySem.W.codeIn K cd39 "law" = true) (k39 : PySem.W.keepIn K (.ref f39) = true)
    (z_ValueError : PySem.W.nsIn K mainGlobals "ValueError" = some none)
    (z_abs : PySem.W.nsIn K mainGlobals "abs" = some none)
    (z_all : PySem.W.nsIn K mainGlobals "all" = some none)
    (z_bool : PySem.W.nsIn K mainGlobals "bool" = some none)
    (z_int : PySem.W.nsIn K mainGlobals "int" = some none)
    (z_isinstance : PySem.W.nsIn K mainGlobals "isinstance" = some none)
    (z_len : PySem.W.nsIn K mainGlobals "len" = some none)
    (z_list : PySem.W.nsIn K mainGlobals "list" = some none)
    (z_max : PySem.W.nsIn K mainGlobals "max" = some none)
    (z_min : PySem.W.nsIn K mainGlobals "min" = some none)
    (z_range : PySem.W.nsIn K mainGlobals "range" = some none)
    (z_str : PySem.W.nsIn K mainGlobals "str" = some none)
    {tk21 : Tok} (e21 : PySem.W.nsIn K mainGlobals "MOST_LETTERS" = some (some (.int 12 tk21)))
    {tk22 : Tok} (e22 : PySem.W.nsIn K mainGlobals "MOST_WORDS" = some (some (.int 120 tk22)))
    {f1 : Addr} (a1 : PySem.W.nsIn K mainGlobals "Wrong" = some (some (.ref f1)))
    {f2 : Addr} (a2 : PySem.W.nsIn K mainGlobals "NoWord" = some (some (.ref f2)))
    {f3 : Addr} (a3 : PySem.W.nsIn K mainGlobals "NoText" = some (some (.ref f3)))
    {f4 : Addr} (a4 : PySem.W.nsIn K mainGlobals "NoNumber" = some (some (.ref f4)))
    {f5 : Addr} (a5 : PySem.W.nsIn K mainGlobals "NoSize" = some (some (.ref f5)))
    {f6 : Addr} (a6 : PySem.W.nsIn K mainGlobals "NoLengths" = some (some (.ref f6)))
    {f7 : Addr} (a7 : PySem.W.nsIn K mainGlobals "NoQuery" = some (some (.ref f7)))
    {f8 : Addr} (a8 : PySem.W.nsIn K mainGlobals "NoName" = some (some (.ref f8)))
    {f9 : Addr} (a9 : PySem.W.nsIn K mainGlobals "NoCode" = some (some (.ref f9)))
    {f10 : Addr} (a10 : PySem.W.nsIn K mainGlobals "NoRow" = some (some (.ref f10)))
    {f11 : Addr} (a11 : PySem.W.nsIn K mainGlobals "NoEntries" = some (some (.ref f11)))
    {f12 : Addr} (a12 : PySem.W.nsIn K mainGlobals "NoQueryText" = some (some (.ref f12)))
    {f13 : Addr} (a13 : PySem.W.nsIn K mainGlobals "NoPages" = some (some (.ref f13)))
    {f14 : Addr} (a14 : PySem.W.nsIn K mainGlobals "NoQueries" = some (some (.ref f14)))
    {f15 : Addr} (a15 : PySem.W.nsIn K mainGlobals "NoShelf" = some (some (.ref f15)))
    {f16 : Addr} (a16 : PySem.W.nsIn K mainGlobals "NoDeed" = some (some (.ref f16)))
    {f17 : Addr} (a17 : PySem.W.nsIn K mainGlobals "Taken" = some (some (.ref f17)))
    {f18 : Addr} (a18 : PySem.W.nsIn K mainGlobals "NoPlace" = some (some (.ref f18)))
    {f19 : Addr} (a19 : PySem.W.nsIn K mainGlobals "NoSlot" = some (some (.ref f19)))
    (xx3 : PySem.W.excIn K f3 [.type "ValueError", .type "Exception", .type "BaseException", .type "object"] "ValueError.__new__" = true) (xk3 : PySem.W.keepIn K (.ref f3) = true) (xb3 : PySem.W.subIn K (.ref f3) (.type "BaseException") = some true) (xt3 : PySem.W.typeIn K (.ref f3) = some (.type "type"))
    (xh3 : plainB K ⟨[f9, f11, f13, f12, f10], f1, [f18, f19], [f9, f16, f11, f6, f8, f4, f13, f14, f7, f12, f10, f15, f5, f3, f2, f17]⟩ f3 13 = true)
    {P38 : Addr} (tb38 : h.get? P38 = some (PySem.W.tabObj #[])) (tn38 : K.lookup P38 = none) (th38 : PySem.W.codeHdIn K cc38 P38 = true)
    : LamX.LawAtS l w K CX0 9 63 "_law_script" mg fa h := by
  have e := hfa.symm.trans (PySem.W.mg_of X G a39)
  cases e
  let A : Nat → Addr := fun i => ([0, f1, f2, f3, f4, f5, f6, f7, f8, f9, f10, f11, f12, f13, f14, f15, f16, f17, f18, f19, 0, 0, 0, f23, f24, f25, f26, f27, 0, f29, f30, f31, f32, f33, f34, f35, f36, f37, f38, fa] : List Addr).getD i 0
  let FD : Nat → FuncData := fun i => ([PySem.W.fnOf "law" "law" (defArgs (topS 39)) (defBody (topS 39)) (defScope (topS 39)) .none kV39 dc39 pm39 an39 cd39 ct39, PySem.W.fnOf "law" "law" (defArgs (topS 39)) (defBody (topS 39)) (defScope (topS 39)) .none kV39 dc39 pm39 an39 cd39 ct39, PySem.W.fnOf "law" "law" (defArgs (topS 39)) (defBody (topS 39)) (defScope (topS 39)) .none kV39 dc39 pm39 an39 cd39 ct39, PySem.W.fnOf "law" "law" (defArgs (topS 39)) (defBody (topS 39)) (defScope (topS 39)) .none kV39 dc39 pm39 an39 cd39 ct39, PySem.W.fnOf "law" "law" (defArgs (topS 39)) (defBody (topS 39)) (defScope (topS 39)) .none kV39 dc39 pm39 an39 cd39 ct39, PySem.W.fnOf "law" "law" (defArgs (topS 39)) (defBody (topS 39)) (defScope (topS 39)) .none kV39 dc39 pm39 an39 cd39 ct39, PySem.W.fnOf "law" "law" (defArgs (topS 39)) (defBody (topS 39)) (defScope (topS 39)) .none kV39 dc39 pm39 an39 cd39 ct39, PySem.W.fnOf "law" "law" (defArgs (topS 39)) (defBody (topS 39)) (defScope (topS 39)) .none kV39 dc39 pm39 an39 cd39 ct39, PySem.W.fnOf "law" "law" (defArgs (topS 39)) (defBody (topS 39)) (defScope (topS 39)) .none kV39 dc39 pm39 an39 cd39 ct39, PySem.W.fnOf "law" "law" (defArgs (topS 39)) (defBody (topS 39)) (defScope (topS 39)) .none kV39 dc39 pm39 an39 cd39 ct39, PySem.W.fnOf "law" "law" (defArgs (topS 39)) (defBody (topS 39)) (defScope (topS 39)) .none kV39 dc39 pm39 an39 cd39 ct39, PySem.W.fnOf "law" "law" (defArgs (topS 39)) (defBody (topS 39)) (defScope (topS 39)) .none kV39 dc39 pm39 an39 cd39 ct39, PySem.W.fnOf "law" "law" (defArgs (topS 39)) (defBody (topS 39)) (defScope (topS 39)) .none kV39 dc39 pm39 an39 cd39 ct39, PySem.W.fnOf "law" "law" (defArgs (topS 39)) (defBody (topS 39)) (defScope (topS 39)) .none kV39 dc39 pm39 an39 cd39 ct39, PySem.W.fnOf "law" "law" (defArgs (topS 39)) (defBody (topS 39)) (defScope (topS 39)) .none kV39 dc39 pm39 an39 cd39 ct39, PySem.W.fnOf "law" "law" (defArgs (topS 39)) (defBody (topS 39)) (defScope (topS 39)) .none kV39 dc39 pm39 an39 cd39 ct39, PySem.W.fnOf "law" "law" (defArgs (topS 39)) (defBody (topS 39)) (defScope (topS 39)) .none kV39 dc39 pm39 an39 cd39 ct39, PySem.W.fnOf "law" "law" (defArgs (topS 39)) (defBody (topS 39)) (defScope (topS 39)) .none kV39 dc39 pm39 an39 cd39 ct39, PySem.W.fnOf "law" "law" (defArgs (topS 39)) (defBody (topS 39)) (defScope (topS 39)) .none kV39 dc39 pm39 an39 cd39 ct39, PySem.W.fnOf "law" "law" (defArgs (topS 39)) (defBody (topS 39)) (defScope (topS 39)) .none kV39 dc39 pm39 an39 cd39 ct39, PySem.W.fnOf "law" "law" (defArgs (topS 39)) (defBody (topS 39)) (defScope (topS 39)) .none kV39 dc39 pm39 an39 cd39 ct39, PySem.W.fnOf "law" "law" (defArgs (topS 39)) (defBody (topS 39)) (defScope (topS 39)) .none kV39 dc39 pm39 an39 cd39 ct39, PySem.W.fnOf "law" "law" (defArgs (topS 39)) (defBody (topS 39)) (defScope (topS 39)) .none kV39 dc39 pm39 an39 cd39 ct39, PySem.W.fnOf "is_word" "is_word" (defArgs (topS 23)) (defBody (topS 23)) (defScope (topS 23)) .none kV23 dc23 pm23 an23 cd23 ct23, PySem.W.fnOf "are_words" "are_words" (defArgs (topS 24)) (defBody (topS 24)) (defScope (topS 24)) .none kV24 dc24 pm24 an24 cd24 ct24, PySem.W.fnOf "words_of" "words_of" (defArgs (topS 25)) (defBody (topS 25)) (defScope (topS 25)) .none kV25 dc25 pm25 an25 cd25 ct25, PySem.W.fnOf "text_of" "text_of" (defArgs (topS 26)) (defBody (topS 26)) (defScope (topS 26)) .none kV26 dc26 pm26 an26 cd26 ct26, PySem.W.fnOf "check_words" "check_words" (defArgs (topS 27)) (defBody (topS 27)) (defScope (topS 27)) .none kV27 dc27 pm27 an27 cd27 ct27, PySem.W.fnOf "law" "law" (defArgs (topS 39)) (defBody (topS 39)) (defScope (topS 39)) .none kV39 dc39 pm39 an39 cd39 ct39, PySem.W.fnOf "_law_pool" "_law_pool" (defArgs (topS 29)) (defBody (topS 29)) (defScope (topS 29)) .none kV29 dc29 pm29 an29 cd29 ct29, PySem.W.fnOf "_law_take" "_law_take" (defArgs (topS 30)) (defBody (topS 30)) (defScope (topS 30)) .none kV30 dc30 pm30 an30 cd30 ct30, PySem.W.fnOf "_law_is_word" "_law_is_word" (defArgs (topS 31)) (defBody (topS 31)) (defScope (topS 31)) .none kV31 dc31 pm31 an31 cd31 ct31, PySem.W.fnOf "_law_letters" "_law_letters" (defArgs (topS 32)) (defBody (topS 32)) (defScope (topS 32)) .none kV32 dc32 pm32 an32 cd32 ct32, PySem.W.fnOf "_law_kind" "_law_kind" (defArgs (topS 33)) (defBody (topS 33)) (defScope (topS 33)) .none kV33 dc33 pm33 an33 cd33 ct33, PySem.W.fnOf "_law_how" "_law_how" (defArgs (topS 34)) (defBody (topS 34)) (defScope (topS 34)) .none kV34 dc34 pm34 an34 cd34 ct34, PySem.W.fnOf "_law_drawn_word" "_law_drawn_word" (defArgs (topS 35)) (defBody (topS 35)) (defScope (topS 35)) .none kV35 dc35 pm35 an35 cd35 ct35, PySem.W.fnOf "_law_spoilt" "_law_spoilt" (defArgs (topS 36)) (defBody (topS 36)) (defScope (topS 36)) .none kV36 dc36 pm36 an36 cd36 ct36, PySem.W.fnOf "_law_due" "_law_due" (defArgs (topS 37)) (defBody (topS 37)) (defScope (topS 37)) .none kV37 dc37 pm37 an37 cd37 ct37, PySem.W.fnOf "_law_right" "_law_right" (defArgs (topS 38)) (defBody (topS 38)) (defScope (topS 38)) .none kV38 dc38 pm38 an38 (.ref cc38) ct38, PySem.W.fnOf "law" "law" (defArgs (topS 39)) (defBody (topS 39)) (defScope (topS 39)) .none kV39 dc39 pm39 an39 cd39 ct39] : List FuncData).getD i (PySem.W.fnOf "law" "law" (defArgs (topS 39)) (defBody (topS 39)) (defScope (topS 39)) .none kV39 dc39 pm39 an39 cd39 ct39)
  let TK : Nat → Tok := fun i => ([0, 0, 0, 0, 0, 0, 0, 0, 0, 0, 0, 0, 0, 0, 0, 0, 0, 0, 0, 0, 0, tk21, tk22] : List Tok).getD i 0
  let CC : Nat → Addr := fun i => ([0, 0, 0, 0, 0, 0, 0, 0, 0, 0, 0, 0, 0, 0, 0, 0, 0, 0, 0, 0, 0, 0, 0, 0, 0, 0, 0, 0, 0, 0, 0, 0, 0, 0, 0, 0, 0, 0, cc38, 0] : List Addr).getD i 0
  have T : TX K mg A FD TK CC := {
    f_is_word := fun_mk (st := topS 23) l23 c23 k23
    b_is_word := (fun_mk (st := topS 23) l23 c23 k23).binds (ps := ["thing"]) fun _ _ _ _ _ _ us hl => match us, hl with | [_], _ => rfl
    g_is_word := PySem.W.mg_of X G a23
    f_are_words := fun_mk (st := topS 24) l24 c24 k24
    b_are_words := (fun_mk (st := topS 24) l24 c24 k24).binds (ps := ["things"]) fun _ _ _ _ _ _ us hl => match us, hl with | [_], _ => rfl
    g_are_words := PySem.W.mg_of X G a24
    f_words_of := fun_mk (st := topS 25) l25 c25 k25
    b_words_of := (fun_mk (st := topS 25) l25 c25 k25).binds (ps := ["text"]) fun _ _ _ _ _ _ us hl => match us, hl with | [_], _ => rfl
    g_words_of := PySem.W.mg_of X G a25
    f_text_of := fun_mk (st := topS 26) l26 c26 k26
    b_text_of := (fun_mk (st := topS 26) l26 c26 k26).binds (ps := ["words"]) fun _ _ _ _ _ _ us hl => match us, hl with | [_], _ => rfl
    g_text_of := PySem.W.mg_of X G a26
    f_check_words := fun_mk (st := topS 27) l27 c27 k27
    b_check_words := (fun_mk (st := topS 27) l27 c27 k27).binds (ps := ["words"]) fun _ _ _ _ _ _ us hl => match us, hl with | [_], _ => rfl
    g_check_words := PySem.W.mg_of X G a27
    f_l_pool := fun_mk (st := topS 29) l29 c29 k29
    b_l_pool := (fun_mk (st := topS 29) l29 c29 k29).binds (ps := ["_law_script", "_law_at"]) fun _ _ _ _ _ _ us hl => match us, hl with | [_, _], _ => rfl
    g_l_pool := PySem.W.mg_of X G a29
    f_l_take := fun_mk (st := topS 30) l30 c30 k30
    b_l_take := (fun_mk (st := topS 30) l30 c30 k30).binds (ps := ["_law_pool_here", "_law_many"]) fun _ _ _ _ _ _ us hl => match us, hl with | [_, _], _ => rfl
    g_l_take := PySem.W.mg_of X G a30
    f_l_is_word := fun_mk (st := topS 31) l31 c31 k31
    b_l_is_word := (fun_mk (st := topS 31) l31 c31 k31).binds (ps := ["_law_thing"]) fun _ _ _ _ _ _ us hl => match us, hl with | [_], _ => rfl
    g_l_is_word := PySem.W.mg_of X G a31
    f_l_letters := fun_mk (st := topS 32) l32 c32 k32
    b_l_letters := (fun_mk (st := topS 32) l32 c32 k32).binds (ps := []) fun _ _ _ _ _ _ us hl => match us, hl with | [], _ => rfl
    g_l_letters := PySem.W.mg_of X G a32
    f_l_kind := fun_mk (st := topS 33) l33 c33 k33
    b_l_kind := (fun_mk (st := topS 33) l33 c33 k33).binds (ps := ["_law_e"]) fun _ _ _ _ _ _ us hl => match us, hl with | [_], _ => rfl
    g_l_kind := PySem.W.mg_of X G a33
    f_l_how := fun_mk (st := topS 34) l34 c34 k34
    b_l_how := (fun_mk (st := topS 34) l34 c34 k34).binds (ps := ["_law_deed"]) fun _ _ _ _ _ _ us hl => match us, hl with | [_], _ => rfl
    g_l_how := PySem.W.mg_of X G a34
    f_l_drawn_word := fun_mk (st := topS 35) l35 c35 k35
    b_l_drawn_word := (fun_mk (st := topS 35) l35 c35 k35).binds (ps := ["_law_pool_here"]) fun _ _ _ _ _ _ us hl => match us, hl with | [_], _ => rfl
    g_l_drawn_word := PySem.W.mg_of X G a35
    f_l_spoilt := fun_mk (st := topS 36) l36 c36 k36
    b_l_spoilt := (fun_mk (st := topS 36) l36 c36 k36).binds (ps := ["_law_pool_here", "_law_text"]) fun _ _ _ _ _ _ us hl => match us, hl with | [_, _], _ => rfl
    g_l_spoilt := PySem.W.mg_of X G a36
    f_l_due := fun_mk (st := topS 37) l37 c37 k37
    b_l_due := (fun_mk (st := topS 37) l37 c37 k37).binds (ps := ["_law_text"]) fun _ _ _ _ _ _ us hl => match us, hl with | [_], _ => rfl
    g_l_due := PySem.W.mg_of X G a37
    F_l_right := ⟨⟨oc38, od38, kV38, dc38, pm38, an38, ct38, sl38, rfl, l38, c38⟩, k38⟩
    f_l_right := fun_mk (st := topS 38) l38 c38 k38
    b_l_right := (fun_mk (st := topS 38) l38 c38 k38).binds (ps := ["_law_text"]) fun _ _ _ _ _ _ us hl => match us, hl with | [_], _ => rfl
    g_l_right := PySem.W.mg_of X G a38
    f_law := fun_mk (st := topS 39) l39 c39 k39
    b_law := (fun_mk (st := topS 39) l39 c39 k39).binds (ps := ["_law_script"]) fun _ _ _ _ _ _ us hl => match us, hl with | [_], _ => rfl
    g_law := PySem.W.mg_of X G a39
    m_ValueError := PySem.W.mg_none_of X G z_ValueError
    m_abs := PySem.W.mg_none_of X G z_abs
    m_all := PySem.W.mg_none_of X G z_all
    m_bool := PySem.W.mg_none_of X G z_bool
    m_int := PySem.W.mg_none_of X G z_int
    m_isinstance := PySem.W.mg_none_of X G z_isinstance
    m_len := PySem.W.mg_none_of X G z_len
    m_list := PySem.W.mg_none_of X G z_list
    m_max := PySem.W.mg_none_of X G z_max
    m_min := PySem.W.mg_none_of X G z_min
    m_range := PySem.W.mg_none_of X G z_range
    m_str := PySem.W.mg_none_of X G z_str
    c_MOST_LETTERS := PySem.W.mg_of X G e21
    c_MOST_WORDS := PySem.W.mg_of X G e22
    k_Wrong := PySem.W.mg_of X G a1
    k_NoWord := PySem.W.mg_of X G a2
    k_NoText := PySem.W.mg_of X G a3
    k_NoNumber := PySem.W.mg_of X G a4
    k_NoSize := PySem.W.mg_of X G a5
    k_NoLengths := PySem.W.mg_of X G a6
    k_NoQuery := PySem.W.mg_of X G a7
    k_NoName := PySem.W.mg_of X G a8
    k_NoCode := PySem.W.mg_of X G a9
    k_NoRow := PySem.W.mg_of X G a10
    k_NoEntries := PySem.W.mg_of X G a11
    k_NoQueryText := PySem.W.mg_of X G a12
    k_NoPages := PySem.W.mg_of X G a13
    k_NoQueries := PySem.W.mg_of X G a14
    k_NoShelf := PySem.W.mg_of X G a15
    k_NoDeed := PySem.W.mg_of X G a16
    k_Taken := PySem.W.mg_of X G a17
    k_NoPlace := PySem.W.mg_of X G a18
    k_NoSlot := PySem.W.mg_of X G a19
    x_NoText := xx3
    kc_NoText := xk3
    br_NoText := xb3
    ty_NoText := xt3
    h_NoText := plain_of xh3 }
  refine ⟨FD 39, [(cc38, P38)], spLaw K [(P38, lamQ "_law_right")], (fun p hp => by
      simp only [List.mem_cons, List.not_mem_nil, or_false] at hp
      subst hp
      exact tb38), (fun p hp => by
      simp only [List.mem_cons, List.not_mem_nil, or_false] at hp
      subst hp
      exact tn38), (fun p hp => by
      simp only [List.mem_cons, List.not_mem_nil, or_false] at hp
      subst hp
      exact PySem.W.codeHd_of_K X th38), fun s v => .of_eq rfl, fun H a ns hl _ hT hS => ⟨a, ns, rfl, hS, hl, ?_, fun _ => rfl⟩, fun base _ _ hB => ok_law T (hB (cc38, P38) (by simp))⟩
  intro p hp
  simp only [List.mem_cons, List.not_mem_nil, or_false] at hp
  subst hp
  exact LamX.TabS.nil (hT (cc38, P38) (by simp))
end K01
open PySem PySem.W PyProof.Rows
set_option maxHeartbeats 0 in
theorem PySem.Challenge.cw_blocksearch_k01_words_known_holds : PySem.Challenge.rw_blocksearch_k01_words_known.Holds := by
  w_on; o_law; k_head; (case hw => w_witness2)
  k_fill
  refine LamX.walk_ofTs (l := PySem.Challenge.rw_blocksearch_k01_words_known) (n := 63) (k := 9) (x := "_law_script") (CX := fun _ => L2.CX0) rfl (by decide) rfl ⟨rfl, by decide, by decide⟩ (fun w h Y => PySem.W.km_in_of Y) ?F (fun _ _ _ _ _ h => h)
  case F =>
    intro w mg fa h Y KX G hmg
    have hT8 := PySem.W.km_tabs_of Y
    refine' K01.all_mk KX G hmg ?a23 ?l23 ?c23 ?k23 ?a24 ?l24 ?c24 ?k24 ?a25 ?l25 ?c25 ?k25 ?a26 ?l26 ?c26 ?k26 ?a27 ?l27 ?c27 ?k27 ?a29 ?l29 ?c29 ?k29 ?a30 ?l30 ?c30 ?k30 ?a31 ?l31 ?c31 ?k31 ?a32 ?l32 ?c32 ?k32 ?a33 ?l33 ?c33 ?k33 ?a34 ?l34 ?c34 ?k34 ?a35 ?l35 ?c35 ?k35 ?a36 ?l36 ?c36 ?k36 ?a37 ?l37 ?c37 ?k37 ?a38 ?l38 ?c38 ?k38 ?a39 ?l39 ?c39 ?k39 ?z_ValueError ?z_abs ?z_all ?z_bool ?z_int ?z_isinstance ?z_len ?z_list ?z_max ?z_min ?z_range ?z_str ?e21 ?e22 ?a1 ?a2 ?a3 ?a4 ?a5 ?a6 ?a7 ?a8 ?a9 ?a10 ?a11 ?a12 ?a13 ?a14 ?a15 ?a16 ?a17 ?a18 ?a19 ?xx3 ?xk3 ?xb3 ?xt3 ?xh3 ?tb38 ?tn38 ?th38
    (case a23 => k_is)
    (case l23 => k_is)
    (case c23 => k_is)
    (case k23 => k_is)
    (case a24 => k_is)
    (case l24 => k_is)
    (case c24 => k_is)
    (case k24 => k_is)
    (case a25 => k_is)
    (case l25 => k_is)
    (case c25 => k_is)
    (case k25 => k_is)
    (case a26 => k_is)
    (case l26 => k_is)
    (case c26 => k_is)
    (case k26 => k_is)
    (case a27 => k_is)
    (case l27 => k_is)
    (case c27 => k_is)
    (case k27 => k_is)
    (case a29 => k_is)
    (case l29 => k_is)
    (case c29 => k_is)
    (case k29 => k_is)
    (case a30 => k_is)
    (case l30 => k_is)
    (case c30 => k_is)
    (case k30 => k_is)
    (case a31 => k_is)
    (case l31 => k_is)
    (case c31 => k_is)
    (case k31 => k_is)
    (case a32 => k_is)
    (case l32 => k_is)
    (case c32 => k_is)
    (case k32 => k_is)
    (case a33 => k_is)
    (case l33 => k_is)
    (case c33 => k_is)
    (case k33 => k_is)
    (case a34 => k_is)
    (case l34 => k_is)
    (case c34 => k_is)
    (case k34 => k_is)
    (case a35 => k_is)
    (case l35 => k_is)
    (case c35 => k_is)
    (case k35 => k_is)
    (case a36 => k_is)
    (case l36 => k_is)
    (case c36 => k_is)
    (case k36 => k_is)
    (case a37 => k_is)
    (case l37 => k_is)
    (case c37 => k_is)
    (case k37 => k_is)
    (case a38 => k_is)
    (case l38 => k_is)
    (case c38 => k_is)
    (case k38 => k_is)
    (case a39 => k_is)
    (case l39 => k_is)
    (case c39 => k_is)
    (case k39 => k_is)
    (case z_ValueError => k_is)
    (case z_abs => k_is)
    (case z_all => k_is)
    (case z_bool => k_is)
    (case z_int => k_is)
    (case z_isinstance => k_is)
    (case z_len => k_is)
    (case z_list => k_is)
    (case z_max => k_is)
    (case z_min => k_is)
    (case z_range => k_is)
    (case z_str => k_is)
    (case e21 => k_is)
    (case e22 => k_is)
    (case a1 => k_is)
    (case a2 => k_is)
    (case a3 => k_is)
    (case a4 => k_is)
    (case a5 => k_is)
    (case a6 => k_is)
    (case a7 => k_is)
    (case a8 => k_is)
    (case a9 => k_is)
    (case a10 => k_is)
    (case a11 => k_is)
    (case a12 => k_is)
    (case a13 => k_is)
    (case a14 => k_is)
    (case a15 => k_is)
    (case a16 => k_is)
    (case a17 => k_is)
    (case a18 => k_is)
    (case a19 => k_is)
    (case xx3 => k_exc)
    (case xk3 => k_is)
    (case xb3 => k_is)
    (case xt3 => k_is)
    (case xh3 => kernel_rfl)
    (case tb38 => exact hT8 _ (by first | exact List.mem_cons_self .. | exact List.mem_cons_of_mem _ (List.mem_cons_self ..)))
    (case tn38 => kernel_rfl)
    (case th38 => kernel_rfl)

