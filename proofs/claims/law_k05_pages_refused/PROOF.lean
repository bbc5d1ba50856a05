import PyProof.Rows.All
import Wide.All
import OpenK.AllK
import Wide.FinOn
import HandS.ForMost
import HandS.Defaults
import HandS.IsInst
import HandS.Walk
import HandS.Exc
import HandS.TryOnly
import HandS.ExcOwn
import HandS.WordsExc
import HandS.ExcIs
import HandS.HotCalls
import HandS.Lambda
import HandS.EndTab
import HandS.Evl
import HandS.More
import HandS.MakeKw
import HandS.MakeKwOnly
import HandS.Text
import KE.KExcIs
import KE.KNestM
import PySem.Challenge.RW_blocksearch_k05_pages_refused
set_option Elab.async false
set_option linter.all false
set_option maxRecDepth 100000
/-! words of my own: the drawn pool, heaps that grow beside it, small facts -/
namespace My
open PySem PySem.Spec PyProof.Rows L2 Evl

/-- the pool at p: three ints, at most c draws mixed so far -/
def Pl (H : Hp) (p : Addr) (c : Nat) : Prop := ∃ (g b : Int) (k : Nat), H p = some (.lst [.int g, .int b, .int (k : Int)]) ∧ 0 ≤ g ∧ 0 ≤ b ∧ b < 281474976710656 ∧ k ≤ c
/-- all but p stays -/
def Fx (p : Addr) (H H' : Hp) : Prop := ∀ a o, a ≠ p → H a = some o → H' a = some o
theorem Fx.refl (p : Addr) (H : Hp) : Fx p H H := fun _ _ _ h => h
theorem Fx.trans {p : Addr} {H H1 H2 : Hp} (a : Fx p H H1) (b : Fx p H1 H2) : Fx p H H2 := fun x o n h => b x o n (a x o n h)
theorem Fx.ex {p : Addr} {H H' : Hp} (e : Ex H H') : Fx p H H' := fun a o _ h => e a o h
theorem Fx.upd {p : Addr} {H : Hp} {o : HO} : Fx p H (L2.upd H p o) := fun a u n h => by
  rw [upd_ne n]
  exact h
theorem Pl.mono {H : Hp} {p : Addr} {c c' : Nat} (h : Pl H p c) (l : c ≤ c') : Pl H p c' := by
  obtain ⟨g, b, k, h1, h2, h3, h4, h5⟩ := h
  exact ⟨g, b, k, h1, h2, h3, h4, Nat.le_trans h5 l⟩
theorem Pl.ex {H H' : Hp} {p : Addr} {c : Nat} (h : Pl H p c) (e : Ex H H') : Pl H' p c := by
  obtain ⟨g, b, k, h1, h2⟩ := h
  exact ⟨g, b, k, e _ _ h1, h2⟩
theorem Pl.some {H : Hp} {p : Addr} {c : Nat} (h : Pl H p c) : ∃ xs, H p = some (.lst xs) := by
  obtain ⟨g, b, k, h1, _⟩ := h
  exact ⟨_, h1⟩
/-- what is free behind was free ahead -/
theorem fx_free {p a : Addr} {H H' : Hp} {c : Nat} (f : Fx p H H') (h : Pl H' p c) (e : H' a = none) : H a = none := by
  cases q : H a with
  | none => rfl
  | some o =>
    have n : a ≠ p := fun z => by
      obtain ⟨xs, hx⟩ := h.some
      rw [z, hx] at e
      cases e
    rw [f a o n q] at e
    cases e
/-- a tuple is not the pool -/
theorem Fx.tup {p a : Addr} {H H' : Hp} {xs : List V} {c : Nat} (f : Fx p H H') (hp : Pl H p c) (h : H a = some (.tup xs)) : H' a = some (.tup xs) := by
  obtain ⟨ys, hy⟩ := hp.some
  exact f a _ (ne_of h hy (by intro z; cases z)) h
theorem Fx.sqt {K : PySem.W.Frag} {p a : Addr} {H H' : Hp} {xs : List V} {c : Nat} (f : Fx p H H') (hp : Pl H p c) (h : SqT K H a xs) : SqT K H' a xs := by
  obtain ⟨ys, hy⟩ := hp.some
  rcases h with (h | ⟨o, h⟩) | h
  · exact .inl (.inl (f a _ (ne_of h hy (by intro z; cases z)) h))
  · exact .inl (.inr ⟨o, f a _ (ne_of h hy (by intro z; cases z)) h⟩)
  · exact .inr h
theorem Fx.lst {p a : Addr} {H H' : Hp} {xs : List V} (f : Fx p H H') (n : a ≠ p) (h : H a = some (.lst xs)) : H' a = some (.lst xs) := f a _ n h
theorem ex_upd {H : Hp} {p : Addr} {o : HO} (h : H p = none) : Ex H (L2.upd H p o) := Ex.new h
theorem ret_v {v : V} {H : Hp} {Q : VK} (q : RetV v H Q) : Q v H := q H (Ex.refl H)
theorem sz {n : Nat} (h : n ≤ 100000) : n ≤ sizeLine := sz_of h
theorem natAbs_lt {z : Int} {n : Nat} (h0 : 0 ≤ z) (h : z < (n : Int)) : z.natAbs < n := by omega
/-- a * b ≤ A * B -/
theorem mul_le {a b A B : Int} (h0 : 0 ≤ a) (h1 : a ≤ A) (h2 : 0 ≤ b) (h3 : b ≤ B) : a * b ≤ A * B := Int.mul_le_mul h1 h3 h2 (Int.le_trans h0 h1)
theorem mul_nn {a b : Int} (h0 : 0 ≤ a) (h1 : 0 ≤ b) : 0 ≤ a * b := Int.mul_nonneg h0 h1
/-! the rules with the written part said, for blocks of comprehensions -/
section
variable {X : Cx} {K : PySem.W.Frag}
theorem lenK (h : X.K = K) : CallR X (.builtin "len") (rLenS K) := by subst h; exact call_len_seq
theorem listK (h : X.K = K) : CallR X (.type "list") (rListS K) := by subst h; exact call_list_of
def rTupS (K : PySem.W.Frag) : List V → Hp → VK → Prop := fun xs H Q => ∃ p ys, xs = [.ref p] ∧ ((SqL K H p ys ∧ ∀ l, H l = none → Q (.ref l) (L2.upd H l (.tup ys))) ∨ (SqT K H p ys ∧ Q (.ref p) H))
theorem tupK (h : X.K = K) : CallR X (.type "tuple") (rTupS K) := by subst h; exact call_tuple_of
theorem ixLK (h : X.K = K) : IxR X (rIxL K) := by subst h; exact ix_list
theorem ixTK (h : X.K = K) : IxR X (rIxT K) := by subst h; exact ix_tup
theorem slLK (h : X.K = K) : SlR X (rSlL K) := by subst h; exact sl_list
theorem slTK (h : X.K = K) : SlR X (rSlT K) := by subst h; exact sl_tup
theorem catTK (h : X.K = K) : OpR X (binaryOp .Add) (rCatT K) := by subst h; exact op_catT
theorem inK (h : X.K = K) : OpR X (compareOp .In) (rIn K false) := by subst h; exact op_in_seq
theorem notInK (h : X.K = K) : OpR X (compareOp .NotIn) (rIn K true) := by subst h; exact op_notIn_seq
theorem isiK (h : X.K = K) : CallR X (.builtin "isinstance") (rIsi K) := by subst h; exact call_isi
theorem isiTK (h : X.K = K) : CallR X (.builtin "isinstance") (rIsiT K) := by subst h; exact call_isiT
theorem allK (h : X.K = K) (hc : X.calm = true) : CallR X (.builtin "all") (rAll K) := by subst h; exact cr_all hc
theorem anyK (h : X.K = K) (hc : X.calm = true) : CallR X (.builtin "any") (rAny K) := by subst h; exact cr_any hc
theorem sumK (h : X.K = K) (hc : X.calm = true) : CallR X (.builtin "sum") (rSum K) := by subst h; exact cr_sum hc
theorem maxK (h : X.K = K) (hc : X.calm = true) : CallR X (.builtin "max") (rMax K) := by subst h; exact cr_max hc
theorem minK (h : X.K = K) (hc : X.calm = true) : CallR X (.builtin "min") (rMin K) := by subst h; exact cr_min hc
theorem fldK {e : Expr} {f : Str} {pos : Pos} {ta : TE} (h : X.K = K) (he : PE X e ta) (hb : attributeBase e f X.env (eval e X.env) = eval e X.env) : PE X (.Attribute e f pos) (tFld K ta f) := by subst h; exact pe_fld he hb
theorem tupGK {es : List Expr} {k : Nat} {t : TGs} {n : Nat} {pos : Pos} (h : X.K = K) (hc : X.calm = true) (hg : PGs X es t) (hn : (assignEach es X.env).length = n := by rfl) (hst : (assignEach es X.env).findIdx? (·.1) = none := by rfl) : PG X (.Tuple es k pos) (gTup K n t) := by subst h; exact pg_tup hc hg hn hst
theorem eqDK (h : X.K = K) (hu : X.A.units + 64 < cLine) : OpR X (compareOp .Eq) (rEqD K) := by subst h; exact op_eqD hu
theorem neDK (h : X.K = K) (hu : X.A.units + 64 < cLine) : OpR X (compareOp .NotEq) (rNeD K) := by subst h; exact op_neD hu
theorem indexK (h : X.K = K) : MtR X "list.index" (rIndex K) := by subst h; exact mt_index
theorem piOr {tg e : Expr} {w1 w2 : TI} (h1 : PI X tg e w1) (h2 : PI X tg e w2) : PI X tg e (fun σ H R => w1 σ H R ∨ w2 σ H R) := ⟨fun pins s σ H R I h => h.elim (fun h => h1.run pins s σ H R I h) (fun h => h2.run pins s σ H R I h)⟩
theorem piLK {tg l : Expr} {tl : TE} (h : X.K = K) (hl : PE X l tl) : PI X tg l (iList K tl) := by subst h; exact pi_list hl
theorem piTK {tg l : Expr} {tl : TE} (h : X.K = K) (hl : PE X l tl) : PI X tg l (iTup K tl) := by subst h; exact pi_tup hl
end
end My
/-! several except clauses with a name, each over one class or a tuple of them -/
namespace My
open PySem PySem.Spec PyProof.Rows L2 Evl
/-- the matching of an exception with the classes of a tuple -/
theorem loop_all {M : Model} {A : Around} {E : Value → Shared → Prop} {s : Shared} {f : Value → PUnit → Sem (ForInStep PUnit)} : ∀ {cs : List Value}, (∀ c ∈ cs, ∀ Q : ForInStep PUnit → Shared → Prop, Q (.yield ()) s → wpAny M A (f c ()) Q E s) →
    ∀ {Q : PUnit → Shared → Prop}, Q () s → wpAny M A (forIn cs PUnit.unit f) Q E s
  | [], _, Q, q => by
    rw [List.forIn_nil]
    exact wpAny_pure q
  | c :: r, hf, Q, q => by
    rw [List.forIn_cons]
    exact wpAny_bind (hf c (List.mem_cons_self ..) _ (loop_all (fun x hx => hf x (List.mem_cons_of_mem _ hx)) q))
theorem loop_any {M : Model} {A : Around} {E : Value → Shared → Prop} {s : Shared} {K : PySem.W.Frag} {cls : Value} {f : Value → Option Bool × PUnit → Sem (ForInStep (Option Bool × PUnit))} :
    ∀ {cs : List Value} {b : Bool}, PySem.W.exmAny K cls cs = some b →
      (∀ c b1, PySem.W.exmOne K cls c = some b1 → ∀ Q : ForInStep (Option Bool × PUnit) → Shared → Prop, Q (if b1 then .done (some true, ()) else .yield (none, ())) s → wpAny M A (f c (none, ())) Q E s) →
    ∀ {Q : Option Bool × PUnit → Shared → Prop}, Q (if b then some true else none, ()) s → wpAny M A (forIn cs ((none, ()) : Option Bool × PUnit) f) Q E s
  | [], b, hx, _, Q, q => by
    rw [List.forIn_nil]
    cases (show some false = some b from hx)
    exact wpAny_pure q
  | c :: r, b, hx, hf, Q, q => by
    obtain ⟨b1, d1, x1, x2, e⟩ := PySem.W.exmAny_cons hx
    rw [List.forIn_cons]
    refine wpAny_bind (hf c b1 x1 _ ?_)
    cases b1 with
    | true =>
      rw [e] at q
      exact wpAny_pure q
    | false =>
      rw [e] at q
      exact loop_any x2 hf q
theorem exm_in {K : PySem.W.Frag} {cls : Value} : ∀ {cs : List Value} {b : Bool}, PySem.W.exmAny K cls cs = some b → ∀ c ∈ cs, ∃ b1, PySem.W.exmOne K cls c = some b1
  | [], _, _, c, h => absurd h (by simp)
  | x :: r, b, hx, c, h => by
    obtain ⟨b1, d1, x1, x2, e⟩ := PySem.W.exmAny_cons hx
    rcases List.mem_cons.mp h with rfl | h
    · exact ⟨b1, x1⟩
    · exact exm_in x2 c h
theorem exm_many {M : Model} {K : PySem.W.Frag} {cls : Value} {e tp : Addr} {b : Bool} {h : Heap} {cs : List Value} {o : Obj} {n : Nat} (KX : K.In h) (LT : PySem.W.Looks M h (typeOf (.ref e)) cls)
    (ho : h.get? tp = some o) (hc : o.cls = .type "tuple") (hd : o.data = .seq cs.toArray n) (hx : PySem.W.exmAny K cls cs = some b) : PySem.W.Looks M h (excMatches (.ref e) (.ref tp)) b := by
  have ty : PySem.W.Looks M h (isInstance (.ref tp) (.type "tuple")) true := by
    have l0 : PySem.W.Looks M h (typeOf (.ref tp)) (.type "tuple") := fun A Q E s k q => wpAny_typeOf_ref (k _ _ ho) (by rw [hc]; exact q)
    exact l0.andThen (PySem.W.Looks.of_pure isSubtype_tuple_tuple)
  intro A Q E s k q
  unfold excMatches
  refine wpAny_bind ((ty.keeps k).here ?_)
  rw [if_pos rfl]
  refine wpAny_bind (wpAny_seqItems (k _ _ ho) hd ?_)
  refine wpAny_bind (wpAny_pure ?_)
  refine wpAny_bind (loop_all (fun c hm Q' q' => ?_) ?_)
  · obtain ⟨b1, x1⟩ := exm_in hx c (by simpa using hm)
    obtain ⟨l1, _⟩ := PySem.W.exm_cls (M := M) KX x1
    refine wpAny_bind ((l1.keeps k).here ?_)
    exact wpAny_pure q'
  · refine wpAny_bind ((LT.keeps k).here (wpAny_bind (loop_any (cs := cs) hx (fun c b1 x1 Q' q' => ?_) ?_)))
    · obtain ⟨_, l2⟩ := PySem.W.exm_cls (M := M) KX x1
      refine wpAny_bind ((l2.keeps k).here ?_)
      cases b1 with
      | true => exact wpAny_pure q'
      | false => exact wpAny_pure q'
    · cases b with
      | true => exact wpAny_pure q
      | false => exact wpAny_pure q
/-- what a clause's classes are: the test is run in the suite's context, it may lay a tuple -/
def TestR (X : Cx) (t : Expr) (cs : List Value) : Prop := ∀ (a : Addr) (pn : List (Addr × Obj)) (σ : L2.St) (H : Hp) (s : Shared) (cls : Value) (b : Bool) (Q : Bool → Shared → Prop) (E : Value → Shared → Prop),
  Inv (X.suite a pn) [] σ H s → PySem.W.Looks (model X.prog X.w) s.heap (typeOf (.ref a)) cls → PySem.W.exmAny X.K cls cs = some b →
    (∀ h', (∀ x o, s.heap.get? x = some o → h'.get? x = some o) → Q b { s with heap := h' }) →
    wpAny (model X.prog X.w) (X.A.mark (some (.ref a))) (eval t X.env) (fun c s₁ => wpAny (model X.prog X.w) (X.A.mark (some (.ref a))) (excMatches (.ref a) c) Q E s₁) E s
theorem name_runs {X : Cx} {x : Str} {c : Value} {np : Pos} (hc : Names X x c) {a : Addr} {pn : List (Addr × Obj)} {σ : L2.St} {H : Hp} {s : Shared} (I : Inv (X.suite a pn) [] σ H s) {Q : Value → Shared → Prop} {E : Value → Shared → Prop} (q : Q c s) :
    wpAny (model X.prog X.w) (X.A.mark (some (.ref a))) (eval (.Name x np) X.env) Q E s := by
  obtain ⟨g1, g2, g3 | ⟨g3, g4, g5⟩⟩ := hc
  · exact ld_glob (X := X.suite a pn) I g1 g3 q g2
  · exact ld_blt (X := X.suite a pn) I g1 g3 g4 q g5 g2
theorem test_name {X : Cx} {x : Str} {c : Value} {np : Pos} (hc : Names X x c) : TestR X (.Name x np) [c] := by
  intro a pn σ H s cls b Q E I LT hx q
  refine name_runs hc I ?_
  obtain ⟨b1, d1, x1, x2, e⟩ := PySem.W.exmAny_cons hx
  cases (show some false = some d1 from x2)
  rw [Bool.or_false] at e
  rw [e] at q
  exact (PySem.W.exm_one I.kIn LT x1).here (q s.heap fun _ _ h => h)
inductive NamesAll (X : Cx) : List Expr → List Value → Prop
  | nil : NamesAll X [] []
  | cons {x : Str} {c : Value} {np : Pos} {es : List Expr} {cs : List Value} : Names X x c → NamesAll X es cs → NamesAll X (.Name x np :: es) (c :: cs)
theorem names_run {X : Cx} {pos : Pos} {a : Addr} {pn : List (Addr × Obj)} {σ : L2.St} {H : Hp} {s : Shared} (I : Inv (X.suite a pn) [] σ H s) : ∀ {es : List Expr} {cs : List Value}, NamesAll X es cs → ∀ {Q : List Value → Shared → Prop} {E : Value → Shared → Prop}, Q cs s →
    wpAny (model X.prog X.w) (X.A.mark (some (.ref a))) (spliced (backTo pos (starEach es X.env))) Q E s
  | _, _, .nil, Q, E, q => Calls.spliced_nil q
  | _, _, .cons (x := x) (np := np) (es := es) hn hr, Q, E, q => by
    show wpAny _ _ (spliced ((false, eval (.Name x np) X.env) :: backTo pos (starEach es X.env))) _ _ s
    exact Calls.spliced_cons (name_runs hn I (names_run I hr q))
theorem test_tup {X : Cx} {es : List Expr} {cs : List Value} {k : Nat} {pos : Pos} (hn : NamesAll X es cs) (hl : cs.length ≤ sizeLine) : TestR X (.Tuple es k pos) cs := by
  intro a pn σ H s cls b Q E I LT hx q
  refine wpAny_Tuple_spliced (names_run I hn ⟨hl, ?_⟩)
  have kp : ∀ x o, s.heap.get? x = some o → (s.heap.push { cls := .type "tuple", data := .seq cs.toArray }).get? x = some o := fun x o e => Heap.get?_push_of_some _ e
  exact (exm_many (I.kIn.keeps kp) (LT.keeps kp) (Heap.get?_push_size _ rfl) rfl rfl hx).here (q _ kp)
/-- what the clauses wish of an exception of the body; slot i is the name's -/
def wAsMany (K : PySem.W.Frag) (Wout : WX) (i : Nat) (D : Ends) : List (List Value × (Addr → Value → Option Addr → TS)) → WX
  | [] => Wout
  | (cs, ts) :: r => fun cls d σ H => ∃ b, PySem.W.exmAny K cls cs = some b ∧
      (b = true → ∀ a, H a = none → ts a cls d { nx := fun σ' H' => D.nx (σ'.set i none) H', rt := D.rt, bk := fun σ' H' => D.bk (σ'.set i none) H', ct := fun σ' H' => D.ct (σ'.set i none) H' } (σ.set i (some (.ref a))) H) ∧
      (b = false → wAsMany K Wout i D r cls d σ H)
inductive HdsAs (X : Cx) (n : Str) : List ExceptHandler → List (List Value × (Addr → Value → Option Addr → TS)) → Prop
  | nil : HdsAs X n [] []
  | cons {t : Expr} {cs : List Value} {ts : Addr → Value → Option Addr → TS} {b₀ : Stmt} {suite : List Stmt} {pos' : Pos} {hds : List ExceptHandler} {l : List (List Value × (Addr → Value → Option Addr → TS))} (ht : TestR X t cs)
      (hsu : ∀ (a : Addr) (oe : Obj) (cls : Value) (d : Option Addr) (pn : List (Addr × Obj)), Zc cls d oe → (∃ vs, oe.data = .fields vs) → PSs (X.suite a ((a, oe) :: pn)) (b₀ :: suite) (ts a cls d)) (r : HdsAs X n hds l) :
      HdsAs X n (.ExceptHandler (some t) (some n) (b₀ :: suite) pos' :: hds) ((cs, ts) :: l)
theorem fly_kept {B h h' : Heap} {l : List Env} {a : Addr} {Z : Obj → Prop} (f : HandSPX.FlyingZ B l a Z h) (k : ∀ x o, h.get? x = some o → h'.get? x = some o) : HandSPX.FlyingZ B l a Z h' := by
  obtain ⟨f1, f2, f3, oe, vs, T, oT, ts, g1, g2, g3, g4, g5, g6, g7, g8, g9⟩ := f
  exact ⟨fun b o e => k _ _ (f1 b o e), f2, f3.of_keeps fun b o e _ => ⟨o, k b o e, rfl⟩, oe, vs, T, oT, ts, k _ _ g1, g2, g3, g4, g5, g6, k _ _ g7, g8, g9⟩
section
variable {X : Cx} {n : Str} {i : Nat} {body : List Stmt} {h₀ : ExceptHandler} {hds : List ExceptHandler} {l : List (List Value × (Addr → Value → Option Addr → TS))} {pos : Pos} {tb : WX → TS} {Wout : WX}
set_option maxHeartbeats 4000000 in
theorem ps_try_asMany (hs : X.stack = X.env :: X.outer) (hf : X.env.frame = some X.env.locals) (hN : X.N.Nodup) (hi : X.N[i]? = some n) (hln : X.env.kindOf n = some .local) (tk : Takes X Wout)
    (hb : ∀ (W : WX) (pn : List (Addr × Obj)) (xe : Value → Shared → Prop), Takes (X.tr pn xe) W → PassesOwn (model X.prog X.w) X.A X.env xe → PSs (X.tr pn xe) body (tb W))
    (hh : HdsAs X n (h₀ :: hds) l) : PS X (.Try body (h₀ :: hds) [] [] pos) (fun D σ H => tb (fun cls d σ' H' => σ'.length = X.N.length → wAsMany X.K Wout i D l cls d σ' H') D σ H) := by
  refine ⟨fun pins s σ H D I h => wpAny_Try_except ?_⟩
  have ok := I.ok
  have hfr : X.A.frames = some (X.env :: X.outer) := by rw [ok.frames, hs]
  refine wpAny_mono ((hb (fun cls d σ' H' => σ'.length = X.N.length → wAsMany X.K Wout i D l cls d σ' H') (X.pn ++ pins) _ (fun u s' xx => ?_) PassesOwn.looking).run [] s σ H D (I.toTry _) h) (fun f s1 hsp => ?_) (fun e s1 he => he)
  · obtain ⟨a, B, sI, pins', σ', H', cls, d, rfl, J', nb, up, sky, na, os, ag, wish⟩ := xx
    have J : Inv X pins σ' H' sI := J'.ofTry ok
    rw [show (X.tr (X.pn ++ pins) _).stack = X.env :: X.outer from hs] at sky
    refine Sky.land Zc.steady hfr hf sky fun h3 fl up3 => ?_
    have up4 := up.trans up3
    have apart : ∀ {g : Heap}, HandSPX.FlyingZ B (X.env :: X.outer) a (Zc cls d) g → a ∉ frs (X.env :: X.outer) := fun {g} fg hm => by
      obtain ⟨oe, vs, e1, _, e3⟩ := fg.there
      obtain ⟨_, o', e', hnf⟩ := fg.2.2.1.mem hm
      rw [e1] at e'
      cases e'
      exact hnf _ e3
    have nfr := apart fl
    have nL : a ≠ X.env.locals := fun z => nfr (List.mem_filterMap.mpr ⟨X.env, List.mem_cons_self, by rw [hf, z]⟩)
    have nF : a ∉ X.fs := fun hm => by
      obtain ⟨e, he, q⟩ := List.mem_filterMap.mp hm
      exact nfr (List.mem_filterMap.mpr ⟨e, List.mem_cons_of_mem _ he, q⟩)
    have go : ∀ {hds' : List ExceptHandler} {l' : List (List Value × (Addr → Value → Option Addr → TS))}, HdsAs X n hds' l' → ∀ h', HandSPX.FlyingZ B (X.env :: X.outer) a (Zc cls d) h' → sI.heap.UpToSlots h' → wAsMany X.K Wout i D l' cls d σ' H' →
        wpAny (model X.prog X.w) X.A (handleBy (.ref a) X.env hds') (SP X pins D) X.xe { s' with heap := h' } := by
      intro hds' l' hk
      induction hk with
      | nil =>
        intro h' fg ug wi
        refine wpAny_handleBy_nil ?_
        obtain ⟨_, _, _, oe, vs, T, oT, ts', he, hz, hd, h1, _⟩ := id fg
        unfold PySem.passOn
        refine wpAny_bind (wpAny_field he hd h1 ?_)
        rw [if_neg (show ¬ ((Value.ref T == Value.none) = true) by simp)]
        have fin : wpAny (model X.prog X.w) X.A (setFlight (.ref a) X.env.frame) (fun _ s4 => wpAny (model X.prog X.w) X.A (throw (.ref a) : Sem Flow) (SP X pins D) X.xe s4) X.xe { s' with heap := h' } := by
          rw [hf]
          refine HandSPX.setFlight_upZ fg fun h4 hh4 u4 => wpAny_throw (tk _ _ ⟨a, B, sI, pins, σ', H', cls, d, rfl, J, nb, ug.trans u4, .inr (.inr ?_), na, os, ag, wi⟩)
          rw [hs]
          exact hh4
        first
          | exact wpAny_bind (wpAny_pure (wpAny_bind fin))
          | exact wpAny_bind fin
      | @cons t cs ts b₀ suite pos' hds2 l2 ht hsu r ih =>
        intro h' fg ug wi
        obtain ⟨b, hb1, hyes, hno⟩ := wi
        have J3 : Inv X pins σ' H' { s' with heap := h' } := J.landed nb fg.1 ug os ag
        obtain ⟨oe3, vs3, he3, hz3, hd3⟩ := fg.there
        refine wpAny_handleBy_cons (codeAny_handlers_test ?_) (by intro q; cases q)
        refine ht a _ σ' H' _ cls b _ _ (J3.suite he3 hd3 na nL nF) (fun A Q E s k q => wpAny_typeOf_ref (k _ _ he3) (by rw [hz3.1]; exact q)) hb1 fun h5 k5 => ?_
        have f5 := fly_kept fg k5
        have u5 := ug.trans (Heap.UpToSlots.of_keeps k5)
        cases b with
        | false => exact ih h5 f5 u5 (hno rfl)
        | true =>
          refine codeAny_handlers_suite_as ?_
          refine HandSPX.lands_againZ f5 fun h6 f6 u6 => ?_
          have J6 : Inv X pins σ' H' { s' with heap := h6 } := J.landed nb f6.1 (u5.trans u6) os ag
          obtain ⟨oe6, vs6, he6, hz6, hd6⟩ := f6.there
          have S6 := J6.suite he6 hd6 na nL nF
          refine store_ok (X := X.suite a ((a, oe6) :: (X.pn ++ pins))) (v := .ref a) S6 hN hi (.inl hln) rfl (fun s7 S7 => ?_) (.inr hln)
          refine wpAny_mono ((hsu a oe6 cls d (X.pn ++ pins) hz6 ⟨_, hd6⟩).run [] s7 _ H' _ S7 (hyes rfl a na)) (fun f s8 hsp => ?_) (fun _ _ z => False.elim z)
          have gone : ∀ {σ8 : L2.St} {H8 : Hp} {Q : Shared → Prop}, Inv (X.suite a ((a, oe6) :: (X.pn ++ pins))) [] σ8 H8 s8 → (∀ s9, Inv X pins (σ8.set i none) H8 s9 → Q s9) →
              wpAny (model X.prog X.w) X.A (do bindName X.env n .none; unbindBehindTheSuite X.env n pos') (fun _ s9 => Q s9) X.xe s8 := fun {σ8 H8 Q} S8 hq => gone_ok (S8.unsuite ok) hN hi hln hq
          cases f with
          | ret u =>
            obtain ⟨v8, σ8, H8, S8, r8, q8⟩ := hsp
            exact gone S8 fun s9 J9 => ⟨_, _, _, J9, r8, q8⟩
          | next =>
            obtain ⟨σ8, H8, S8, q8⟩ := hsp
            exact gone S8 fun s9 J9 => ⟨_, _, J9, q8⟩
          | brk =>
            obtain ⟨σ8, H8, S8, q8⟩ := hsp
            exact gone S8 fun s9 J9 => ⟨_, _, J9, q8⟩
          | cont =>
            obtain ⟨σ8, H8, S8, q8⟩ := hsp
            exact gone S8 fun s9 J9 => ⟨_, _, J9, q8⟩
    exact go hh h3 fl up4 (wish J.len)
  · cases f with
    | ret u =>
      obtain ⟨v, σ2, H2, J2, r, q⟩ := hsp
      exact ⟨v, σ2, H2, J2.ofTry ok, r, q⟩
    | next =>
      obtain ⟨σ2, H2, J2, q⟩ := hsp
      exact wpAny_execs_nil ⟨σ2, H2, J2.ofTry ok, q⟩
    | brk =>
      obtain ⟨σ2, H2, J2, q⟩ := hsp
      exact ⟨σ2, H2, J2.ofTry ok, q⟩
    | cont =>
      obtain ⟨σ2, H2, J2, q⟩ := hsp
      exact ⟨σ2, H2, J2.ofTry ok, q⟩
end
/-! ### isinstance of an exception that is held, its class D; with a dict of its own or without -/
structure ExcD (K : PySem.W.Frag) (D : Addr) : Prop where
  hc : (PySem.W.clsIn K D).isSome = true
  hg : PySem.W.findIn K (.ref D) "__getattribute__" = some (some (.builtin "BaseException.__getattribute__"))
  hk : PySem.W.findIn K (.ref D) "__getattr__" = some none
  hs : PySem.W.subIn K (.ref D) (.type "BaseException") = some true
  ha : PySem.W.findIn K (.ref D) "__class__" = some (some (.builtin "object.__class__"))
  hn : PySem.W.specialIn K (.builtin "object.__class__") "__get__" = some (some (.builtin "getset_descriptor.__get__"))
  ht : PySem.W.takesIn K (.builtin "object.__class__") = some true
  hm : PySem.W.mroIn K D (.type "object") = some true
/-- the exception at a, held by a pin: an instance of D; its dict d, if it has one, is tracked -/
structure Held (X : Cx) (a D : Addr) (d : Option Addr) (oe : Obj) : Prop where
  pn : (a, oe) ∈ X.pn
  zc : Zc (.ref D) d oe
  fl : ∃ vs, oe.data = .fields vs
def DictOk (d : Option Addr) (H : Hp) : Prop := ∀ dd, d = some dd → ∃ fs, H dd = some (.xd fs)
section
variable {X : Cx} {K : PySem.W.Frag} {a D : Addr} {d : Option Addr} {oe : Obj}
theorem held_at (hh : Held X a D d oe) {pins : List (Addr × Obj)} {σ : L2.St} {H : Hp} {s : Shared} (I : Inv X pins σ H s) (hd : DictOk d H) : ∃ od, PySem.W.InstAt s.heap a oe D od := by
  have hg := (I.pin (a, oe) (List.mem_append_left _ hh.pn)).1
  obtain ⟨vs, hv⟩ := hh.fl
  obtain ⟨c1, c2⟩ := hh.zc
  have no : PySem.W.notCls oe = true := by
    obtain ⟨oc, odd, odt, osl⟩ := oe
    simp only at hv
    subst hv
    rfl
  cases d with
  | none => exact ⟨none, hg, c1, no, by rw [c2]; exact True.intro⟩
  | some dd =>
    obtain ⟨fs, hf⟩ := hd dd rfl
    obtain ⟨mA, ⟨o, es, ep, e1, _⟩, _⟩ := (show ObjOk X.prog X.w H s.heap dd (.xd fs) from I.hok dd _ hf)
    exact ⟨some o, hg, c1, no, by rw [c2]; exact e1⟩
def rIsH (K : PySem.W.Frag) (D a : Addr) (d : Option Addr) : List V → Hp → VK → Prop := fun xs H Q => ∃ (c : V) (cv : Value) (b : Bool), xs = [.ref a, c] ∧ ClsV c cv ∧ DictOk d H ∧ PySem.W.kitOne K (.ref D) cv = some b ∧ Q (.bl b) H
theorem isH (h : X.K = K) (C : ExcD K D) (hh : Held X a D d oe) : CallR X (.builtin "isinstance") (rIsH K D a d) := by
  subst h
  intro pins s σ H xs us Q I r q
  obtain ⟨c, cv, b, rfl, hc, hd, e, q⟩ := q
  obtain ⟨u1, u2, rfl, r1, r2⟩ := vals2 r
  cases (show u1 = Value.ref a from r1)
  have e2 := hc.eq r2
  subst e2
  obtain ⟨od, J⟩ := held_at hh I hd
  exact PySem.W.kia_one (PySem.W.kitx_exc (od := od) C.hc C.hg C.hk C.hs C.ha C.hn C.ht C.hm) I.kIn J e (fun z => nomatch z) fun tk => ⟨.bl b, H, I.tok tk, rfl, q⟩
def rIsHT (K : PySem.W.Frag) (D a : Addr) (d : Option Addr) : List V → Hp → VK → Prop := fun xs H Q => ∃ (tp : Addr) (cs : List V) (ws : List Value) (b : Bool), xs = [.ref a, .ref tp] ∧ H tp = some (.tup cs) ∧ Paired ClsV cs ws ∧ DictOk d H ∧ PySem.W.kitAny K (.ref D) ws = some b ∧ Q (.bl b) H
theorem isHT (h : X.K = K) (C : ExcD K D) (hh : Held X a D d oe) : CallR X (.builtin "isinstance") (rIsHT K D a d) := by
  subst h
  intro pins s σ H xs us Q I r q
  obtain ⟨tp, cs, ws, b, rfl, hT, k, hd, e, q⟩ := q
  obtain ⟨u1, u2, rfl, r1, r2⟩ := vals2 r
  cases (show u1 = Value.ref a from r1)
  cases (show u2 = Value.ref tp from r2)
  obtain ⟨od, J⟩ := held_at hh I hd
  obtain ⟨_, its, rv, o, h1, h2, n, h3⟩ := (show ObjOk X.prog X.w H s.heap tp (.tup cs) from I.hok tp _ hT)
  have e3 := ClsV.all k rv
  subst e3
  obtain ⟨oc, odd, dt, sl⟩ := o
  simp only at h2 h3
  subst h2 h3
  exact PySem.W.kia_tup (PySem.W.kitx_exc (od := od) C.hc C.hg C.hk C.hs C.ha C.hn C.ht C.hm) I.kIn J h1 e (fun z => nomatch z) fun tk => ⟨.bl b, H, I.tok tk, rfl, q⟩
/-! ### xs.count(True), a list of truths -/
def rCntB (K : PySem.W.Frag) : V → List V → Hp → VK → Prop := fun x xs H Q => ∃ (p : Addr) (bs : List Bool), x = .ref p ∧ xs = [.bl true] ∧ SqL K H p (bs.map V.bl) ∧ Q (.int (bs.count true : Nat)) H
def eqT (v : Value) : Bool := match v with
  | .bool b => b
  | _ => false
theorem bools_of : ∀ {bs : List Bool} {us : List Value}, Vals (bs.map V.bl) us → us = bs.map Value.bool
  | [], _, .nil => rfl
  | b :: r, _, .cons h t => by
    cases (show _ = Value.bool b from h)
    rw [bools_of t]
    rfl
theorem countT : ∀ bs : List Bool, (bs.map Value.bool).countP eqT = bs.count true
  | [] => rfl
  | b :: r => by
    rw [List.map_cons, List.countP_cons, countT r, List.count_cons]
    cases b <;> rfl
theorem cntB (h : X.K = K) : MtR X "list.count" (rCntB K) := by
  subst h
  intro pins s σ H x xs v us Q I rx rxs q
  obtain ⟨p, bs, rfl, rfl, hs, q⟩ := q
  cases (show v = Value.ref p from rx)
  obtain ⟨u, rfl, ru⟩ := vals1 rxs
  cases (show u = Value.bool true from ru)
  obtain ⟨its, rv, ⟨⟨cls, dd, data, sl⟩, n, ho, hc, hdn, hd⟩, hlen⟩ := I.list hs
  simp only at hc hd
  subst hc hd
  have eb := bools_of rv
  subst eb
  refine call_meets PySem.F.slot_list_count ⟨_, ho, rfl⟩ PySem.F.entry_list_count (PySem.F.args_list_count_2 _ _)
    (SeqAt.list_countAt p (bs.map Value.bool).toArray n dd sl (.bool true) eqT) ⟨ho, fun y hy => ?_, ?_⟩
  · have hy : y ∈ bs.map Value.bool := by simpa using hy
    obtain ⟨b, _, rfl⟩ := List.mem_map.mp hy
    have z := SeqAt.EqAt.bool_bool (A := X.A.in1) (s := s) b true
    have e : (b == true) = eqT (.bool b) := by cases b <;> rfl
    rw [e] at z
    exact z
  · refine ⟨.int (bs.count true : Nat), H, I.tok _, ⟨s.toks, ?_⟩, q⟩
    show Value.int (((bs.map Value.bool).toArray.toList.countP eqT : Nat) : Int) s.toks = _
    rw [List.toList_toArray, countT]
end
/-! ### a def called with the held exception -/
structure FnP (P : Program) (w : World) (K : PySem.W.Frag) (mg : Str → Option Value) (base : Heap) (CX : CXT) (k : Nat) (f : Addr) (fd : FuncData) (ps : List Str) (sp : Addr → Value → Option Addr → Sp) : Prop where
  len : ∀ a cls d vs H Q E, sp a cls d vs H Q E → vs.length = ps.length
  run : ∀ (A : Around) (outer : List Env) (s : Shared) (H : Hp) (args : Args) (us : List Value) (vs : List V) (Q : VK) (E : XK) (p : Addr × Obj) (cls : Value) (d : Option Addr), L2H.RoomH k A → L2H.PinOk outer H s p → Zc cls d p.2 → (∃ vs, p.2.data = .fields vs) → Env0 P w K mg base A outer s H → BindsTo s fd args (ps.zip us) → Vals vs us → sp p.1 cls d vs H Q E →
    codeAny (model P w) A (.call (.ref f) args) (CR CX outer P w H s Q E) s
theorem fnP_of {CX : CXT} {P : Program} {w : World} {K : PySem.W.Frag} {mg : Str → Option Value} {base : Heap} {k : Nat} {x qual : Str} {st : Stmt} {f : Addr} {fd : FuncData} {N ps : List Str} {sp : Addr → Value → Option Addr → Sp} (F : Fun K x qual st f fd) (S : FnScope N ps (defScope st))
    (len : ∀ a cls d vs H Q E, sp a cls d vs H Q E → vs.length = ps.length)
    (hbody : ∀ (cdv : Value) (A : Around) (outer : List Env) (s : Shared) (H : Hp) (vs : List V) (Q : VK) (E : XK) (p : Addr × Obj) (cls : Value) (d : Option Addr), L2H.RoomH k (A.deeper (envOfC qual (defScope st) s.heap.objs.size f cdv)) → Zc cls d p.2 → (∃ vs, p.2.data = .fields vs) → sp p.1 cls d vs H Q E →
      ∃ t, PSs (L2H.cxH CX P w K mg base N qual (defScope st) f cdv A outer s H E p) (defBody st) t ∧ t { nx := fun _ H' => Q .non H', rt := Q } (L2.start N vs) H) : FnP P w K mg base CX (k + 1) f fd ps sp := by
  obtain ⟨oc, od, kV, doc, pm, an, cdv, ct, osl, rfl, lk, hcd⟩ := F.ex
  refine ⟨len, fun A outer s H args us vs Q E p cls d hr hpin hz hfl e0 hb r hsp => ?_⟩
  have keepB : ∀ b o, base.get? b = some o → s.heap.get? b = some o := fun b o e => (e0.bs b o e).1
  have hkind : ∀ y ∈ ps.zip us, (defScope st).names.lookup y.1 = some .local ∨ ((defScope st).names.lookup y.1 = some .cell ∧ ((cellsFrom (s.heap.objs.size + 1) (defScope st).names []).lookup y.1).isSome = true) := by
    rintro ⟨n, v⟩ hy
    exact (S.par n (List.of_mem_zip hy).1).imp id fun q => ⟨q, PySem.W.cellsFrom_some _ _ _ (.inl q)⟩
  refine codeAny_call_function hr.depth (e0.mod.kin.keeps keepB _ _ lk) rfl S.co S.gen rfl (PySem.W.codeRec_of (e0.mod.kin.keeps keepB) hcd) (hb _ _ _ _ ?_)
  refine wpAny_newFunctionEnv_cells S.kind hkind fun env he s1 z => ?_
  subst he
  refine ⟨(e0.mod.nolimit.keeps keepB).keeps z.toInCall.keep, codeAny_func ?_⟩
  obtain ⟨t, ht, hq⟩ := hbody cdv A outer s H vs Q E p cls d (hr.deeper _) hz hfl hsp
  refine wpAny_mono (ht.run [] s1 (L2.start N vs) H _ (L2H.inv_startH S hpin e0 (len _ _ _ _ _ _ _ hsp) r z) hq) (fun fl s' hs => ?_) fun e s' hs => hs
  cases fl with
  | ret u =>
    obtain ⟨v, σ', H', J, rv, q⟩ := hs
    exact ⟨v, H', J.os, J.bare, J.base, J.hok, rv, q⟩
  | next =>
    obtain ⟨σ', H', J, q⟩ := hs
    exact ⟨.non, H', J.os, J.bare, J.base, J.hok, rfl, q⟩
  | brk =>
    obtain ⟨_, _, _, q⟩ := hs
    exact False.elim q
  | cont =>
    obtain ⟨_, _, _, q⟩ := hs
    exact False.elim q
def tCallP (sp : Addr → Value → Option Addr → Sp) (a : Addr) (cls : Value) (d : Option Addr) (t : TA) : TE := fun σ H Q => t σ H fun vs H1 => sp a cls d vs H1 Q E0
theorem pe_callP {X : Cx} {k : Nat} {f : Addr} {fd : FuncData} {ps : List Str} {sp : Addr → Value → Option Addr → Sp} {x : Str} {q pos : Pos} {e : Expr} {es : List Expr} {t : TA} {p : Addr × Obj} {cls : Value} {d : Option Addr} (F : FnP X.prog X.w X.K X.mg X.base CX0 k f fd ps sp) (hr : L2H.RoomH k X.A) (hp : p ∈ X.pn) (hz : Zc cls d p.2) (hfl : ∃ vs, p.2.data = .fields vs)
    (hg : Gl X x) (hm : X.mg x = some (.ref f)) (hk : PySem.W.keepIn X.K (.ref f) = true) (hb : Binds X.K fd ps []) (ha : PA X (e :: es) t) (hdb : (x == ("__debug__" : Str)) = false := by decide)
    (he : starEach (e :: es) X.env = (false, eval e X.env) :: starEach es X.env := by rfl) (hpl : (backTo pos (starEach es X.env)).any (·.1) = false := by rfl) : PE X (.Call (.Name x q) (e :: es) [] pos) (tCallP sp p.1 cls d t) := by
  refine ⟨fun pins s σ H Q I h => wpAny_Call_Name_kw (ld_glob I hg hm ?_ hdb)⟩
  refine PySem.W.callWith_K (h₀ := X.base) I.ok.mod.kin hk (thn (ha.run pos pins s σ H _ I h) fun us s1 ⟨vs, H1, I1, r, z⟩ => ⟨I1.kIn, ?_⟩) he hpl
  have hl : us.length = ps.length := by rw [← r.length]; exact F.len _ _ _ _ _ _ _ z
  have b := hb s1 us I1.kIn (by rw [List.append_nil]; exact hl)
  rw [List.append_nil] at b
  have P1 := I1.pin p (List.mem_append_left _ hp)
  refine wpAny_call (codeAny_mono (F.run X.A X.stack s1 H1 ⟨us, []⟩ us vs Q E0 p cls d hr ⟨P1.1, P1.2.1, fun hm => (List.mem_cons.mp (I1.stkSub p.1 hm)).elim P1.2.2.1 P1.2.2.2.1, P1.2.2.2.2⟩ hz hfl I1.env0 b r z) fun rr s' hq => ?_)
  cases rr with
  | error e => exact (show False from hq).elim
  | ok fl =>
    cases fl with
    | ret u => exact I1.after hq
    | next => exact False.elim hq
    | brk => exact False.elim hq
    | cont => exact False.elim hq
/-! ### a def whose code object is known by its place -/
structure FunC (K : PySem.W.Frag) (x qual : Str) (st : Stmt) (f : Addr) (fd : FuncData) (c : Addr) : Prop where
  ex : ∃ (oc : Value) (od : Option Addr) (kV doc pm : Value) (an : Option Addr) (ct : Value) (osl : Array (Option Value)),
    fd = PySem.W.fnOf x qual (defArgs st) (defBody st) (defScope st) .none kV doc pm an (.ref c) ct ∧ K.lookup f = some ⟨oc, od, .func fd, osl⟩ ∧ PySem.W.codeIn K (.ref c) qual = true
  kp : PySem.W.keepIn K (.ref f) = true
theorem FunC.fn {K : PySem.W.Frag} {x qual : Str} {st : Stmt} {f : Addr} {fd : FuncData} {c : Addr} (F : FunC K x qual st f fd c) : Fun K x qual st f fd := by
  obtain ⟨oc, od, kV, doc, pm, an, ct, osl, h1, h2, h3⟩ := F.ex
  exact ⟨⟨oc, od, kV, doc, pm, an, .ref c, ct, osl, h1, h2, h3⟩, F.kp⟩
theorem FunC.ok {P : Program} {w : World} {K : PySem.W.Frag} {mg : Str → Option Value} {base : Heap} {x qual : Str} {st : Stmt} {f : Addr} {fd : FuncData} {c : Addr} {N ps : List Str} {k : Nat} {sp : Sp} (F : FunC K x qual st f fd c) (S : FnScope N ps (defScope st))
    (len : ∀ vs H Q E, sp vs H Q E → vs.length = ps.length)
    (hbody : ∀ (A : Around) (outer : List Env) (s : Shared) (H : Hp) (vs : List V) (Q : VK) (E : XK), Room k (A.deeper (envOfC qual (defScope st) s.heap.objs.size f (.ref c))) → sp vs H Q E →
      ∃ t, PSs (cxOf CX0 P w K mg base N qual (defScope st) f (.ref c) A outer s H E).nox (defBody st) t ∧ t { nx := fun _ H' => Q .non H', rt := Q } (start N vs) H) : FnOk P w K mg base CX0 (k + 1) f fd ps sp := by
  obtain ⟨oc, od, kV, doc, pm, an, ct, osl, rfl, lk, hcd⟩ := F.ex
  refine fn_of lk hcd S len fun A outer s H vs Q E hr hsp => ?_
  obtain ⟨t, h, q⟩ := hbody A outer s H vs Q E hr hsp
  exact ⟨t, h.nox, q⟩
/-! ### the classes of refusals -/
def excDB (K : PySem.W.Frag) (D : Addr) : Bool := (PySem.W.clsIn K D).isSome && (decide (PySem.W.findIn K (.ref D) "__getattribute__" = some (some (.builtin "BaseException.__getattribute__"))) && (decide (PySem.W.findIn K (.ref D) "__getattr__" = some none) &&
  (decide (PySem.W.subIn K (.ref D) (.type "BaseException") = some true) && (decide (PySem.W.findIn K (.ref D) "__class__" = some (some (.builtin "object.__class__"))) && (decide (PySem.W.specialIn K (.builtin "object.__class__") "__get__" = some (some (.builtin "getset_descriptor.__get__"))) &&
  (decide (PySem.W.takesIn K (.builtin "object.__class__") = some true) && decide (PySem.W.mroIn K D (.type "object") = some true)))))))
theorem excD_of {K : PySem.W.Frag} {D : Addr} (h : excDB K D = true) : ExcD K D := by
  unfold excDB at h
  simp only [Bool.and_eq_true, decide_eq_true_eq] at h
  obtain ⟨h1, h2, h3, h4, h5, h6, h7, h8⟩ := h
  exact ⟨h1, h2, h3, h4, h5, h6, h7, h8⟩
/-- the classes that the law's helpers name, by their places -/
structure HowC where
  five : List Addr
  wrong : Addr
  two : List Addr
  all : List Addr
/-- C is the i-th class under Wrong, one without a field at -/
def plainB (K : PySem.W.Frag) (hc : HowC) (C : Addr) (i : Nat) : Bool := excDB K C && (decide (PySem.W.exmAny K (.ref C) (hc.five.map Value.ref) = some false) && (decide (PySem.W.exmAny K (.ref C) [.ref hc.wrong] = some true) &&
  (decide ((hc.all.map fun D => PySem.W.kitOne K (.ref C) (.ref D)) = (List.range hc.all.length).map fun j => some (decide (j = i))) && (decide (PySem.W.kitOne K (.ref C) (.type "ValueError") = some true) && decide (PySem.W.kitAny K (.ref C) (hc.two.map Value.ref) = some false)))))
structure Plain (K : PySem.W.Frag) (hc : HowC) (C : Addr) (i : Nat) : Prop where
  ec : ExcD K C
  e5 : PySem.W.exmAny K (.ref C) (hc.five.map Value.ref) = some false
  ew : PySem.W.exmAny K (.ref C) [.ref hc.wrong] = some true
  k : (hc.all.map fun D => PySem.W.kitOne K (.ref C) (.ref D)) = (List.range hc.all.length).map fun j => some (decide (j = i))
  kv : PySem.W.kitOne K (.ref C) (.type "ValueError") = some true
  k2 : PySem.W.kitAny K (.ref C) (hc.two.map Value.ref) = some false
theorem plain_of {K : PySem.W.Frag} {hc : HowC} {C : Addr} {i : Nat} (h : plainB K hc C i = true) : Plain K hc C i := by
  unfold plainB at h
  simp only [Bool.and_eq_true, decide_eq_true_eq] at h
  obtain ⟨h1, h2, h3, h4, h5, h6⟩ := h
  exact ⟨excD_of h1, h2, h3, h4, h5, h6⟩
theorem Plain.at {K : PySem.W.Frag} {hc : HowC} {C : Addr} {i j : Nat} {D : Addr} (h : Plain K hc C i) (hj : hc.all[j]? = some D) : PySem.W.kitOne K (.ref C) (.ref D) = some (decide (j = i)) := by
  have e := congrArg (fun l => l[j]?) h.k
  have hl : j < hc.all.length := (List.getElem?_eq_some_iff.mp hj).1
  simp only [List.getElem?_map, hj, List.getElem?_range hl, Option.map_some] at e
  exact Option.some.inj e
theorem DictOk.ex {d : Option Addr} {H H' : Hp} (h : DictOk d H) (e : Ex H H') : DictOk d H' := fun dd hd => by
  obtain ⟨fs, hf⟩ := h dd hd
  exact ⟨fs, e _ _ hf⟩
def kindNames : List Str := ["code", "deed", "entries", "lengths", "name", "number", "pages", "queries", "query", "text of query", "row", "shelf", "size", "text", "word", "taken"]
def hot16 (i : Nat) : List Bool := [decide (0 = i), decide (1 = i), decide (2 = i), decide (3 = i)] ++ [decide (4 = i), decide (5 = i), decide (6 = i), decide (7 = i)] ++ [decide (8 = i), decide (9 = i), decide (10 = i), decide (11 = i)] ++ [decide (12 = i), decide (13 = i), decide (14 = i), decide (15 = i)]
theorem hot16_count : ∀ i, i < 16 → (hot16 i).count true = 1 := by decide
theorem hot16_at : ∀ i, i < 16 → (hot16 i)[i]? = some true := by decide
theorem hot16_ahead : ∀ i, i < 16 → ∀ m, m < i → (hot16 i)[m]? = some false := by decide
end My
namespace K05
open PySem PySem.Spec PyProof.Rows L2 Evl My TL
def topS (i : Nat) : Stmt := PySem.Challenge.pw_blocksearch_k05_pages_refused.main.body.getD i (.Pass ⟨0, 0, 0, 0⟩)
abbrev N_wall : List Str := ["k"]
theorem sc_wall : FnScope N_wall ["k"] (defScope (topS 0)) := ⟨rfl, rfl, rfl, by decide +kernel, rfl, by decide +kernel, by decide +kernel⟩
abbrev N_is_whole : List Str := ["thing"]
theorem sc_is_whole : FnScope N_is_whole ["thing"] (defScope (topS 22)) := ⟨rfl, rfl, rfl, by decide +kernel, rfl, by decide +kernel, by decide +kernel⟩
abbrev N_is_within : List Str := ["thing", "least", "most"]
theorem sc_is_within : FnScope N_is_within ["thing", "least", "most"] (defScope (topS 23)) := ⟨rfl, rfl, rfl, by decide +kernel, rfl, by decide +kernel, by decide +kernel⟩
abbrev N_is_word : List Str := ["thing", "sign"]
theorem sc_is_word : FnScope N_is_word ["thing"] (defScope (topS 27)) := ⟨rfl, rfl, rfl, by decide +kernel, rfl, by decide +kernel, by decide +kernel⟩
abbrev N_are_words : List Str := ["things", "thing"]
theorem sc_are_words : FnScope N_are_words ["things"] (defScope (topS 28)) := ⟨rfl, rfl, rfl, by decide +kernel, rfl, by decide +kernel, by decide +kernel⟩
abbrev N_check_word : List Str := ["word"]
theorem sc_check_word : FnScope N_check_word ["word"] (defScope (topS 29)) := ⟨rfl, rfl, rfl, by decide +kernel, rfl, by decide +kernel, by decide +kernel⟩
abbrev N_words_of : List Str := ["text", "words"]
theorem sc_words_of : FnScope N_words_of ["text"] (defScope (topS 30)) := ⟨rfl, rfl, rfl, by decide +kernel, rfl, by decide +kernel, by decide +kernel⟩
abbrev N_check_words : List Str := ["words"]
theorem sc_check_words : FnScope N_check_words ["words"] (defScope (topS 31)) := ⟨rfl, rfl, rfl, by decide +kernel, rfl, by decide +kernel, by decide +kernel⟩
abbrev N_check_page_number : List Str := ["number"]
theorem sc_check_page_number : FnScope N_check_page_number ["number"] (defScope (topS 35)) := ⟨rfl, rfl, rfl, by decide +kernel, rfl, by decide +kernel, by decide +kernel⟩
abbrev N_l_pool : List Str := ["_law_script", "_law_at", "_law_cell", "_law_far"]
theorem sc_l_pool : FnScope N_l_pool ["_law_script", "_law_at"] (defScope (topS 37)) := ⟨rfl, rfl, rfl, by decide +kernel, rfl, by decide +kernel, by decide +kernel⟩
abbrev N_l_take : List Str := ["_law_pool_here", "_law_many", "_law_digit", "_law_turn", "_law_one", "_law_other"]
theorem sc_l_take : FnScope N_l_take ["_law_pool_here", "_law_many"] (defScope (topS 38)) := ⟨rfl, rfl, rfl, by decide +kernel, rfl, by decide +kernel, by decide +kernel⟩
abbrev N_l_is_word : List Str := ["_law_thing", "_law_sign"]
theorem sc_l_is_word : FnScope N_l_is_word ["_law_thing"] (defScope (topS 39)) := ⟨rfl, rfl, rfl, by decide +kernel, rfl, by decide +kernel, by decide +kernel⟩
abbrev N_l_letters : List Str := []
theorem sc_l_letters : FnScope N_l_letters [] (defScope (topS 40)) := ⟨rfl, rfl, rfl, by decide +kernel, rfl, by decide +kernel, by decide +kernel⟩
abbrev N_l_kinds : List Str := ["_law_pool_here", "_law_some", "_law_start"]
theorem sc_l_kinds : FnScope N_l_kinds ["_law_pool_here"] (defScope (topS 41)) := ⟨rfl, rfl, rfl, by decide +kernel, rfl, by decide +kernel, by decide +kernel⟩
abbrev N_l_words : List Str := ["_law_pool_here", "_law_kinds_here", "_law_most", "_law_k"]
theorem sc_l_words : FnScope N_l_words ["_law_pool_here", "_law_kinds_here", "_law_most"] (defScope (topS 42)) := ⟨rfl, rfl, rfl, by decide +kernel, rfl, by decide +kernel, by decide +kernel⟩
abbrev N_l_whole : List Str := ["_law_thing"]
theorem sc_l_whole : FnScope N_l_whole ["_law_thing"] (defScope (topS 43)) := ⟨rfl, rfl, rfl, by decide +kernel, rfl, by decide +kernel, by decide +kernel⟩
abbrev N_l_kind : List Str := ["_law_e", "_law_names", "_law_some"]
theorem sc_l_kind : FnScope N_l_kind ["_law_e"] (defScope (topS 44)) := ⟨rfl, rfl, rfl, by decide +kernel, rfl, by decide +kernel, by decide +kernel⟩
abbrev N_l_how : List Str := ["_law_deed", "_law_e"]
theorem sc_l_how : FnScope N_l_how ["_law_deed"] (defScope (topS 45)) := ⟨rfl, rfl, rfl, by decide +kernel, rfl, by decide +kernel, by decide +kernel⟩
abbrev N_l_number : List Str := ["_law_pool_here", "_law_some"]
theorem sc_l_number : FnScope N_l_number ["_law_pool_here"] (defScope (topS 46)) := ⟨rfl, rfl, rfl, by decide +kernel, rfl, by decide +kernel, by decide +kernel⟩
abbrev N_l_text : List Str := ["_law_pool_here", "_law_told_text", "_law_sort", "_law_at", "_law_some"]
theorem sc_l_text : FnScope N_l_text ["_law_pool_here", "_law_told_text"] (defScope (topS 47)) := ⟨rfl, rfl, rfl, by decide +kernel, rfl, by decide +kernel, by decide +kernel⟩
abbrev N_l_due : List Str := ["_law_mark", "_law_told_text", "_law_pieces", "_law_piece"]
theorem sc_l_due : FnScope N_l_due ["_law_mark", "_law_told_text"] (defScope (topS 48)) := ⟨rfl, rfl, rfl, by decide +kernel, rfl, by decide +kernel, by decide +kernel⟩
abbrev N_law : List Str := ["_law_script", "_law_k", "_law_pool_here", "_law_mark", "_law_told_text", "_law_good", "_law_one", "_law_two", "_law_due_here"]
theorem sc_law : FnScope N_law ["_law_script"] (defScope (topS 49)) := ⟨rfl, rfl, rfl, by decide +kernel, rfl, by decide +kernel, by decide +kernel⟩
abbrev N_Page_init : List Str := ["self", "number", "text"]
theorem sc_Page_init : FnScope N_Page_init ["self", "number", "text"] (defScope (inClass (topS 34) 0)) := ⟨rfl, rfl, rfl, by decide +kernel, rfl, by decide +kernel, by decide +kernel⟩
def howC (A : Nat → Addr) : HowC := ⟨[A 10, A 12, A 14, A 13, A 11], A 2, [A 19, A 20], [A 10, A 17, A 12, A 7, A 9, A 5, A 14, A 15, A 8, A 13, A 11, A 16, A 6, A 4, A 3, A 18]⟩
/-- what the top has left: A the defs' places, FD their data, TK the constants' tokens -/
structure TX (K : PySem.W.Frag) (mg : Str → Option Value) (A : Nat → Addr) (FD : Nat → FuncData) (TK : Nat → Tok) (CC : Nat → Addr) : Prop where
  f_wall : Fun K "_wall" "_wall" (topS 0) (A 0) (FD 0)
  b_wall : Binds K (FD 0) ["k"] []
  g_wall : mg "_wall" = some (.ref (A 0))
  f_is_whole : Fun K "is_whole" "is_whole" (topS 22) (A 22) (FD 22)
  b_is_whole : Binds K (FD 22) ["thing"] []
  g_is_whole : mg "is_whole" = some (.ref (A 22))
  f_is_within : Fun K "is_within" "is_within" (topS 23) (A 23) (FD 23)
  b_is_within : Binds K (FD 23) ["thing", "least", "most"] []
  g_is_within : mg "is_within" = some (.ref (A 23))
  f_is_word : Fun K "is_word" "is_word" (topS 27) (A 27) (FD 27)
  b_is_word : Binds K (FD 27) ["thing"] []
  g_is_word : mg "is_word" = some (.ref (A 27))
  f_are_words : Fun K "are_words" "are_words" (topS 28) (A 28) (FD 28)
  b_are_words : Binds K (FD 28) ["things"] []
  g_are_words : mg "are_words" = some (.ref (A 28))
  f_check_word : Fun K "check_word" "check_word" (topS 29) (A 29) (FD 29)
  b_check_word : Binds K (FD 29) ["word"] []
  g_check_word : mg "check_word" = some (.ref (A 29))
  f_words_of : Fun K "words_of" "words_of" (topS 30) (A 30) (FD 30)
  b_words_of : Binds K (FD 30) ["text"] []
  g_words_of : mg "words_of" = some (.ref (A 30))
  f_check_words : Fun K "check_words" "check_words" (topS 31) (A 31) (FD 31)
  b_check_words : Binds K (FD 31) ["words"] []
  g_check_words : mg "check_words" = some (.ref (A 31))
  f_check_page_number : Fun K "check_page_number" "check_page_number" (topS 35) (A 35) (FD 35)
  b_check_page_number : Binds K (FD 35) ["number"] []
  g_check_page_number : mg "check_page_number" = some (.ref (A 35))
  f_l_pool : Fun K "_law_pool" "_law_pool" (topS 37) (A 37) (FD 37)
  b_l_pool : Binds K (FD 37) ["_law_script", "_law_at"] []
  g_l_pool : mg "_law_pool" = some (.ref (A 37))
  f_l_take : Fun K "_law_take" "_law_take" (topS 38) (A 38) (FD 38)
  b_l_take : Binds K (FD 38) ["_law_pool_here", "_law_many"] []
  g_l_take : mg "_law_take" = some (.ref (A 38))
  f_l_is_word : Fun K "_law_is_word" "_law_is_word" (topS 39) (A 39) (FD 39)
  b_l_is_word : Binds K (FD 39) ["_law_thing"] []
  g_l_is_word : mg "_law_is_word" = some (.ref (A 39))
  f_l_letters : Fun K "_law_letters" "_law_letters" (topS 40) (A 40) (FD 40)
  b_l_letters : Binds K (FD 40) [] []
  g_l_letters : mg "_law_letters" = some (.ref (A 40))
  f_l_kinds : Fun K "_law_kinds" "_law_kinds" (topS 41) (A 41) (FD 41)
  b_l_kinds : Binds K (FD 41) ["_law_pool_here"] []
  g_l_kinds : mg "_law_kinds" = some (.ref (A 41))
  f_l_words : Fun K "_law_words" "_law_words" (topS 42) (A 42) (FD 42)
  b_l_words : Binds K (FD 42) ["_law_pool_here", "_law_kinds_here", "_law_most"] []
  g_l_words : mg "_law_words" = some (.ref (A 42))
  f_l_whole : Fun K "_law_whole" "_law_whole" (topS 43) (A 43) (FD 43)
  b_l_whole : Binds K (FD 43) ["_law_thing"] []
  g_l_whole : mg "_law_whole" = some (.ref (A 43))
  f_l_kind : Fun K "_law_kind" "_law_kind" (topS 44) (A 44) (FD 44)
  b_l_kind : Binds K (FD 44) ["_law_e"] []
  g_l_kind : mg "_law_kind" = some (.ref (A 44))
  f_l_how : Fun K "_law_how" "_law_how" (topS 45) (A 45) (FD 45)
  b_l_how : Binds K (FD 45) ["_law_deed"] []
  g_l_how : mg "_law_how" = some (.ref (A 45))
  f_l_number : Fun K "_law_number" "_law_number" (topS 46) (A 46) (FD 46)
  b_l_number : Binds K (FD 46) ["_law_pool_here"] []
  g_l_number : mg "_law_number" = some (.ref (A 46))
  f_l_text : Fun K "_law_text" "_law_text" (topS 47) (A 47) (FD 47)
  b_l_text : Binds K (FD 47) ["_law_pool_here", "_law_told_text"] []
  g_l_text : mg "_law_text" = some (.ref (A 47))
  f_l_due : Fun K "_law_due" "_law_due" (topS 48) (A 48) (FD 48)
  b_l_due : Binds K (FD 48) ["_law_mark", "_law_told_text"] []
  g_l_due : mg "_law_due" = some (.ref (A 48))
  F_law : FunC K "law" "law" (topS 49) (A 49) (FD 49) (CC 49)
  f_law : Fun K "law" "law" (topS 49) (A 49) (FD 49)
  b_law : Binds K (FD 49) ["_law_script"] []
  g_law : mg "law" = some (.ref (A 49))
  m_ValueError : mg "ValueError" = none
  m_abs : mg "abs" = none
  m_all : mg "all" = none
  m_bool : mg "bool" = none
  m_int : mg "int" = none
  m_isinstance : mg "isinstance" = none
  m_len : mg "len" = none
  m_max : mg "max" = none
  m_min : mg "min" = none
  m_range : mg "range" = none
  m_str : mg "str" = none
  m_tuple : mg "tuple" = none
  c_MOST_LETTERS : mg "MOST_LETTERS" = some (.int 12 (TK 25))
  c_MOST_WORDS : mg "MOST_WORDS" = some (.int 120 (TK 26))
  c_MOST_NUMBER : mg "MOST_NUMBER" = some (.int 9999 (TK 33))
  k_Wrong : mg "Wrong" = some (.ref (A 2))
  k_NoWord : mg "NoWord" = some (.ref (A 3))
  k_NoText : mg "NoText" = some (.ref (A 4))
  k_NoNumber : mg "NoNumber" = some (.ref (A 5))
  k_NoSize : mg "NoSize" = some (.ref (A 6))
  k_NoLengths : mg "NoLengths" = some (.ref (A 7))
  k_NoQuery : mg "NoQuery" = some (.ref (A 8))
  k_NoName : mg "NoName" = some (.ref (A 9))
  k_NoCode : mg "NoCode" = some (.ref (A 10))
  k_NoRow : mg "NoRow" = some (.ref (A 11))
  k_NoEntries : mg "NoEntries" = some (.ref (A 12))
  k_NoQueryText : mg "NoQueryText" = some (.ref (A 13))
  k_NoPages : mg "NoPages" = some (.ref (A 14))
  k_NoQueries : mg "NoQueries" = some (.ref (A 15))
  k_NoShelf : mg "NoShelf" = some (.ref (A 16))
  k_NoDeed : mg "NoDeed" = some (.ref (A 17))
  k_Taken : mg "Taken" = some (.ref (A 18))
  k_NoPlace : mg "NoPlace" = some (.ref (A 19))
  k_NoSlot : mg "NoSlot" = some (.ref (A 20))
  k_Page : mg "Page" = some (.ref (A 34))
  cl_Page : Cls K (A 34)
  n_Page_number : NoAttr K (A 34) "number"
  n_Page_in_turn : NoAttr K (A 34) "in_turn"
  f_Page_init : FunD K "__init__" "Page.__init__" (defArgs (inClass (topS 34) 0)) (defBody (inClass (topS 34) 0)) (defScope (inClass (topS 34) 0)) [.str ""] [] (A 50) (FD 50)
  M_Page : Mk K (A 34) (A 50)
  x_NoText : PySem.W.excIn K (A 4) [.type "ValueError", .type "Exception", .type "BaseException", .type "object"] "ValueError.__new__" = true
  kc_NoText : PySem.W.keepIn K (.ref (A 4)) = true
  br_NoText : PySem.W.subIn K (.ref (A 4)) (.type "BaseException") = some true
  ty_NoText : PySem.W.typeIn K (.ref (A 4)) = some (.type "type")
  h_NoText : Plain K (howC A) (A 4) 13
  x_NoNumber : PySem.W.excIn K (A 5) [.type "ValueError", .type "Exception", .type "BaseException", .type "object"] "ValueError.__new__" = true
  kc_NoNumber : PySem.W.keepIn K (.ref (A 5)) = true
  br_NoNumber : PySem.W.subIn K (.ref (A 5)) (.type "BaseException") = some true
  ty_NoNumber : PySem.W.typeIn K (.ref (A 5)) = some (.type "type")
  h_NoNumber : Plain K (howC A) (A 5) 5
section
variable {P : Program} {w : World} {K : PySem.W.Frag} {mg : Str → Option Value} {base : Heap} {A : Nat → Addr} {FD : Nat → FuncData} {TK : Nat → Tok} {CC : Nat → Addr}
/-! ### _law_take -/
def spTake : Sp := fun vs H Q _ => ∃ (p : Addr) (m : Int) (c : Nat), vs = [.ref p, .int m] ∧ Pl H p c ∧ 0 < m ∧ m < 1073741824 ∧ c < 1000000 ∧
  ∀ (d : Int) (H' : Hp), 0 ≤ d → d < m → Pl H' p (c + 1) → Fx p H H' → Q (.int d) H'
set_option maxHeartbeats 4000000 in
theorem ok_l_take (T : TX K mg A FD TK CC) : FnOk P w K mg base CX0 1 (A 38) (FD 38) ["_law_pool_here", "_law_many"] spTake := by
  refine T.f_l_take.ok sc_l_take (fun vs H Q E h => ?_) (fun cdv A' outer s H vs Q E hr h => ?_)
  · obtain ⟨p, m, c, rfl, _⟩ := h
    rfl
  · obtain ⟨p, m, c, rfl, ⟨g, b, k, hp, hg, hb, hb2, hk⟩, hm, hm2, hc, q⟩ := h
    refine ⟨_, (pss_cons (ps_if (pt_cmpR op_gt (pe_ix (ixLK (K := K) rfl) (pv 0) pe_int (fun _ _ => rfl)) pe_int (nomark _))
      (pss_cons (ps_set (i := 2) sc_l_take.nd rfl (.inl rfl) (pe_op op_mod (pe_ix (ixLK (K := K) rfl) (pv 0) pe_int (fun _ _ => rfl)) (pv 1)))
      (pss_cons (ps_asg (pe_op op_fdiv (pe_ix (ixLK (K := K) rfl) (pv 0) pe_int (fun _ _ => rfl)) (pv 1)) (pg_sub (pv 0) pe_int set_list))
      (pss_one (ps_ret (pv 2)))))
      pss_nil)
      (pss_cons (ps_asg (pe_op op_add (pe_ix (ixLK (K := K) rfl) (pv 0) pe_int (fun _ _ => rfl)) pe_int) (pg_sub (pv 0) pe_int set_list))
      (pss_cons (ps_set (i := 3) sc_l_take.nd rfl (.inl rfl) (pe_ix (ixLK (K := K) rfl) (pv 0) pe_int (fun _ _ => rfl)))
      (pss_cons (ps_set (i := 4) sc_l_take.nd rfl (.inl rfl) (pe_op op_mod (pe_op op_pow (pe_op op_add (pe_op op_add (pe_ix (ixLK (K := K) rfl) (pv 0) pe_int (fun _ _ => rfl)) (pe_op op_mul (pe_op op_mul pe_int (pv 3)) (pv 3))) pe_int) pe_int) pe_int))
      (pss_cons (ps_set (i := 5) sc_l_take.nd rfl (.inl rfl) (pe_op op_mod (pe_op op_add (pe_op op_pow (pv 4) pe_int) (pe_op op_mul pe_int (pv 3))) pe_int))
      (pss_one (ps_ret (pe_op op_mod (pe_op op_fdiv (pe_op op_add (pe_op op_mul (pv 4) pe_int) (pe_op op_mul (pv 5) (pv 5))) pe_int) (pv 1))))))))), ?_⟩
    refine ⟨.ref p, rfl, p, _, 0, .int g, rfl, rfl, SqL.of hp, atI_nat (j := 0) rfl, g, 0, rfl, rfl, _, rfl, ite2 (fun e => ?_) (fun e => ?_)⟩
    · refine ⟨.ref p, rfl, p, _, 0, .int g, rfl, rfl, SqL.of hp, atI_nat (j := 0) rfl, .int m, rfl, g, m, rfl, rfl, hm, ?_⟩
      refine ⟨.ref p, rfl, p, _, 0, .int g, rfl, rfl, SqL.of hp, atI_nat (j := 0) rfl, .int m, rfl, g, m, rfl, rfl, ⟨hm, hm2⟩, .ref p, rfl, p, _, 0, 0, rfl, rfl, hp, rfl, ?_⟩
      refine ⟨.int (g % m), rfl, ?_⟩
      exact q _ _ (Int.emod_nonneg _ (by omega)) (Int.emod_lt_of_pos _ hm) ⟨g / m, b, k, upd_same, Int.ediv_nonneg hg (by omega), hb, hb2, by omega⟩ Fx.upd
    · have hp1 : (upd H p (.lst [.int g, .int b, .int ((k : Int) + 1)])) p = some (.lst [.int g, .int b, .int ((k : Int) + 1)]) := upd_same
      refine ⟨.ref p, rfl, p, _, 2, .int k, rfl, rfl, SqL.of hp, atI_nat (j := 2) rfl, k, 1, rfl, rfl, .ref p, rfl, p, _, 2, 2, rfl, rfl, hp, rfl, ?_⟩
      refine ⟨.ref p, rfl, p, _, 2, .int ((k : Int) + 1), rfl, rfl, SqL.of hp1, atI_nat (j := 2) rfl, ?_⟩
      have t0 : (0 : Int) ≤ (k : Int) + 1 := by omega
      have t1 : (k : Int) + 1 ≤ 1000000 := by omega
      have s1 : 0 ≤ 69621 * ((k : Int) + 1) ∧ 69621 * ((k : Int) + 1) ≤ 69621000000 := by omega
      have s2 : 0 ≤ 69621 * ((k : Int) + 1) * ((k : Int) + 1) := mul_nn s1.1 t0
      have s3 : 69621 * ((k : Int) + 1) * ((k : Int) + 1) ≤ 69621000000 * 1000000 := mul_le s1.1 s1.2 t0 t1
      refine ⟨.ref p, rfl, p, _, 1, .int b, rfl, rfl, SqL.of hp1, atI_nat (j := 1) rfl, .int ((k : Int) + 1), rfl, 69621, (k : Int) + 1, rfl, rfl, .inl ⟨by decide, by decide⟩, .int ((k : Int) + 1), rfl, 69621 * ((k : Int) + 1), (k : Int) + 1, rfl, rfl, .inl ⟨by omega, by omega⟩,
        b, 69621 * ((k : Int) + 1) * ((k : Int) + 1), rfl, rfl, b + 69621 * ((k : Int) + 1) * ((k : Int) + 1), 3, rfl, rfl, b + 69621 * ((k : Int) + 1) * ((k : Int) + 1) + 3, 3, rfl, rfl, ⟨by decide, by decide, natAbs_lt (by omega) (by omega)⟩,
        _, 2147483629, rfl, rfl, (show (0 : Int) < 2147483629 by decide), ?_⟩
      have o0 : 0 ≤ (b + 69621 * ((k : Int) + 1) * ((k : Int) + 1) + 3) ^ Int.toNat 3 % 2147483629 := Int.emod_nonneg _ (by decide)
      have o1 : (b + 69621 * ((k : Int) + 1) * ((k : Int) + 1) + 3) ^ Int.toNat 3 % 2147483629 < 2147483629 := Int.emod_lt_of_pos _ (by decide)
      dsimp only
      generalize (b + 69621 * ((k : Int) + 1) * ((k : Int) + 1) + 3) ^ Int.toNat 3 % 2147483629 = one at o0 o1 ⊢
      refine ⟨.int one, rfl, one, 3, rfl, rfl, ⟨by decide, by decide, natAbs_lt o0 (by omega)⟩, .int ((k : Int) + 1), rfl, 30011, (k : Int) + 1, rfl, rfl, .inl ⟨by decide, by decide⟩, _, _, rfl, rfl, _, 998244353, rfl, rfl, (show (0 : Int) < 998244353 by decide), ?_⟩
      have r0 : 0 ≤ (one ^ Int.toNat 3 + 30011 * ((k : Int) + 1)) % 998244353 := Int.emod_nonneg _ (by decide)
      have r1 : (one ^ Int.toNat 3 + 30011 * ((k : Int) + 1)) % 998244353 < 998244353 := Int.emod_lt_of_pos _ (by decide)
      dsimp only
      generalize (one ^ Int.toNat 3 + 30011 * ((k : Int) + 1)) % 998244353 = other at r0 r1 ⊢
      refine ⟨.int one, rfl, one, 998244353, rfl, rfl, .inl ⟨by omega, by omega⟩, .int other, rfl, .int other, rfl, other, other, rfl, rfl, .inl ⟨by omega, by omega⟩, _, _, rfl, rfl, _, 1013, rfl, rfl, (show (0 : Int) < 1013 ∧ (1013 : Int) < 1073741824 by decide), .int m, rfl, _, m, rfl, rfl, hm, ?_⟩
      exact q _ _ (Int.emod_nonneg _ (by omega)) (Int.emod_lt_of_pos _ hm) ⟨g, b, k + 1, upd_same, hg, hb, hb2, by omega⟩ Fx.upd

/-! ### _law_pool -/
def spPool (K : PySem.W.Frag) : Sp := fun vs H Q _ => ∃ (a : Addr) (ns : List Int) (j : Nat), vs = [.ref a, .int (j : Int)] ∧ SqL K H a (ns.map V.int) ∧ ns.length ≤ 63 ∧ j ≤ 1000 ∧
  ∀ (p : Addr) (H' : Hp), H p = none → Ex H H' → Pl H' p 0 → Q (.ref p) H'
set_option maxHeartbeats 4000000 in
theorem ok_l_pool (T : TX K mg A FD TK CC) : FnOk P w K mg base CX0 1 (A 37) (FD 37) ["_law_script", "_law_at"] (spPool K) := by
  refine T.f_l_pool.ok sc_l_pool (fun vs H Q E h => ?_) (fun cdv A' outer s H vs Q E hr h => ?_)
  · obtain ⟨a, ns, j, rfl, _⟩ := h
    rfl
  · obtain ⟨a, ns, j, rfl, hS, hn, hj, q⟩ := h
    refine ⟨_, (pss_cons (ps_set (i := 2) sc_l_pool.nd rfl (.inl rfl) pe_int)
      (pss_cut (ps_if (pt_cmpR op_lt (pv 1) (pe_callB (lenK (K := K) rfl) (by rfl) T.m_len (by decide +kernel) (pa_cons (pv 0) pa_nil)) (nomark _))
      (pss_one (ps_set (i := 2) sc_l_pool.nd rfl (.inl rfl) (pe_ix (ixLK (K := K) rfl) (pv 0) (pv 1) (fun _ _ => rfl))))
      pss_nil)
      (pss_cons (ps_set (i := 3) sc_l_pool.nd rfl (.inl rfl) (pe_callB call_abs (by rfl) T.m_abs (by decide +kernel) (pa_cons (pv 2) pa_nil)))
      (pss_one (ps_ret (pe_lst (pa_cons (pe_op op_mul (pv 3) (pe_callTy call_int1 (by rfl) T.m_int (by decide +kernel) (pa_cons (pe_cmpR op_ge (pv 3) (pe_op op_pow pe_int pe_int) (nomark _)) pa_nil))) (pa_cons (pe_op op_add (pe_op op_add (pe_op op_mul (pe_op op_mod (pv 2) pe_int) pe_int) (pe_op op_mul pe_int (pv 1))) pe_int) (pa_cons pe_int pa_nil))))))))), ?_⟩
    refine ⟨fun σ' H' => H' = H ∧ ∃ z : Int, σ' = [some (.ref a), some (.int (j : Int)), some (.int z), none], ?_, ?_⟩
    · refine ⟨.int (j : Int), rfl, .ref a, rfl, a, _, rfl, .inl hS, _, _, rfl, rfl, _, rfl, ite2 (fun e => ?_) (fun e => ?_)⟩
      · have e0 : (j : Int) < ((ns.map V.int).length : Int) := of_decide_eq_true e
        have e1 : j < ns.length := by
          rw [List.length_map] at e0
          omega
        refine ⟨.ref a, rfl, .int (j : Int), rfl, a, _, _, .int ns[j], rfl, rfl, hS, atI_nat (j := j) ?_, rfl, ns[j], rfl⟩
        rw [List.getElem?_map, List.getElem?_eq_getElem e1]
        rfl
      · exact ⟨rfl, 0, rfl⟩
    · rintro σ' H' ⟨rfl, z, rfl⟩
      refine ⟨.int z, rfl, z, rfl, ?_⟩
      have f0 : 0 ≤ (if z < 0 then -z else z) := by split <;> omega
      generalize (if z < 0 then -z else z) = far at f0 ⊢
      refine ⟨.int far, rfl, .int far, rfl, 10, 18, rfl, rfl, ⟨by decide, by decide, by decide⟩, far, _, rfl, rfl, .inr ⟨_, rfl, ?_⟩⟩
      generalize hd : decide ((10 : Int) ^ Int.toNat 18 ≤ far) = big
      have m0 : 0 ≤ z % 2147483647 := Int.emod_nonneg _ (by decide)
      have m1 : z % 2147483647 < 2147483647 := Int.emod_lt_of_pos _ (by decide)
      refine ⟨far, _, rfl, rfl, .inr ⟨?_, ?_⟩, ?_⟩
      · cases big <;> decide
      · cases big <;> decide
      refine ⟨.int z, rfl, z, 2147483647, rfl, rfl, (show (0 : Int) < 2147483647 by decide), ?_⟩
      dsimp only
      generalize z % 2147483647 = y at m0 m1 ⊢
      refine ⟨y, 48271, rfl, rfl, .inl ⟨by omega, by omega⟩, .int (j : Int), rfl, 7919, (j : Int), rfl, rfl, .inl ⟨by decide, by decide⟩, _, _, rfl, rfl, _, 31, rfl, rfl, (by show 3 ≤ sizeLine; decide), fun p np => ?_⟩
      refine q p _ np (ex_upd np) ⟨_, _, 0, upd_same, ?_, ?_, ?_, Nat.le_refl _⟩
      · cases big
        · show (0 : Int) ≤ far * 0
          omega
        · show (0 : Int) ≤ far * 1
          omega
      · omega
      · omega

/-! ### _law_kind, _law_how -/
def spKind (K : PySem.W.Frag) (A : Nat → Addr) : Addr → Value → Option Addr → Sp := fun a cls d vs H Q _ => ∃ (C : Addr) (i : Nat) (nm : Str), vs = [.ref a] ∧ cls = .ref C ∧ Plain K (howC A) C i ∧ kindNames[i]? = some nm ∧ DictOk d H ∧ RetV (.str nm) H Q
theorem no_if {b : Bool} {X Y : Prop} (h : b = false) (y : Y) : if b = true then X else Y := by
  rw [h]
  exact y
set_option maxHeartbeats 16000000 in
theorem ok_l_kind (T : TX K mg A FD TK CC) : FnP P w K mg base CX0 1 (A 44) (FD 44) ["_law_e"] (spKind K A) := by
  refine fnP_of (k := 0) T.f_l_kind sc_l_kind (fun a cls d vs H Q E h => ?_) (fun cdv A' outer s H vs Q E p cls d hr hz hfl h => ?_)
  · obtain ⟨C, i, nm, rfl, _⟩ := h
    rfl
  · obtain ⟨C, i, nm, rfl, rfl, hp, hn, hd, q⟩ := h
    have EC := hp.ec
    have HH : Held (L2H.cxH CX0 P w K mg base N_l_kind "_law_kind" (defScope (topS 44)) (A 44) cdv A' outer s H E p) p.1 C d p.2 := ⟨List.mem_singleton.mpr rfl, hz, hfl⟩
    have hi : i < 16 := (List.getElem?_eq_some_iff.mp hn).1
    refine ⟨_, (pss_cons (ps_set (i := 1) sc_l_kind.nd rfl (.inl rfl) (pe_lst (pa_cons pe_str (pa_cons pe_str (pa_cons pe_str (pa_cons pe_str (pa_cons pe_str (pa_cons pe_str (pa_cons pe_str (pa_cons pe_str (pa_cons pe_str pa_nil)))))))))))
      (pss_cons (ps_set (i := 1) sc_l_kind.nd rfl (.inl rfl) (pe_op op_cat (pv 1) (pe_lst (pa_cons pe_str (pa_cons pe_str (pa_cons pe_str (pa_cons pe_str (pa_cons pe_str (pa_cons pe_str (pa_cons pe_str pa_nil))))))))))
      (pss_cons (ps_set (i := 2) sc_l_kind.nd rfl (.inl rfl) (pe_lst (pa_cons (pe_callB (isH (K := K) rfl EC HH) (by rfl) T.m_isinstance (by decide +kernel) (pa_cons (pv 0) (pa_cons (pe_glob (v := .ref (A 10)) (by rfl) T.k_NoCode rfl) pa_nil))) (pa_cons (pe_callB (isH (K := K) rfl EC HH) (by rfl) T.m_isinstance (by decide +kernel) (pa_cons (pv 0) (pa_cons (pe_glob (v := .ref (A 17)) (by rfl) T.k_NoDeed rfl) pa_nil))) (pa_cons (pe_callB (isH (K := K) rfl EC HH) (by rfl) T.m_isinstance (by decide +kernel) (pa_cons (pv 0) (pa_cons (pe_glob (v := .ref (A 12)) (by rfl) T.k_NoEntries rfl) pa_nil))) (pa_cons (pe_callB (isH (K := K) rfl EC HH) (by rfl) T.m_isinstance (by decide +kernel) (pa_cons (pv 0) (pa_cons (pe_glob (v := .ref (A 7)) (by rfl) T.k_NoLengths rfl) pa_nil))) pa_nil))))))
      (pss_cons (ps_set (i := 2) sc_l_kind.nd rfl (.inl rfl) (pe_op op_cat (pv 2) (pe_lst (pa_cons (pe_callB (isH (K := K) rfl EC HH) (by rfl) T.m_isinstance (by decide +kernel) (pa_cons (pv 0) (pa_cons (pe_glob (v := .ref (A 9)) (by rfl) T.k_NoName rfl) pa_nil))) (pa_cons (pe_callB (isH (K := K) rfl EC HH) (by rfl) T.m_isinstance (by decide +kernel) (pa_cons (pv 0) (pa_cons (pe_glob (v := .ref (A 5)) (by rfl) T.k_NoNumber rfl) pa_nil))) (pa_cons (pe_callB (isH (K := K) rfl EC HH) (by rfl) T.m_isinstance (by decide +kernel) (pa_cons (pv 0) (pa_cons (pe_glob (v := .ref (A 14)) (by rfl) T.k_NoPages rfl) pa_nil))) (pa_cons (pe_callB (isH (K := K) rfl EC HH) (by rfl) T.m_isinstance (by decide +kernel) (pa_cons (pv 0) (pa_cons (pe_glob (v := .ref (A 15)) (by rfl) T.k_NoQueries rfl) pa_nil))) pa_nil)))))))
      (pss_cons (ps_set (i := 2) sc_l_kind.nd rfl (.inl rfl) (pe_op op_cat (pv 2) (pe_lst (pa_cons (pe_callB (isH (K := K) rfl EC HH) (by rfl) T.m_isinstance (by decide +kernel) (pa_cons (pv 0) (pa_cons (pe_glob (v := .ref (A 8)) (by rfl) T.k_NoQuery rfl) pa_nil))) (pa_cons (pe_callB (isH (K := K) rfl EC HH) (by rfl) T.m_isinstance (by decide +kernel) (pa_cons (pv 0) (pa_cons (pe_glob (v := .ref (A 13)) (by rfl) T.k_NoQueryText rfl) pa_nil))) (pa_cons (pe_callB (isH (K := K) rfl EC HH) (by rfl) T.m_isinstance (by decide +kernel) (pa_cons (pv 0) (pa_cons (pe_glob (v := .ref (A 11)) (by rfl) T.k_NoRow rfl) pa_nil))) (pa_cons (pe_callB (isH (K := K) rfl EC HH) (by rfl) T.m_isinstance (by decide +kernel) (pa_cons (pv 0) (pa_cons (pe_glob (v := .ref (A 16)) (by rfl) T.k_NoShelf rfl) pa_nil))) pa_nil)))))))
      (pss_cons (ps_set (i := 2) sc_l_kind.nd rfl (.inl rfl) (pe_op op_cat (pv 2) (pe_lst (pa_cons (pe_callB (isH (K := K) rfl EC HH) (by rfl) T.m_isinstance (by decide +kernel) (pa_cons (pv 0) (pa_cons (pe_glob (v := .ref (A 6)) (by rfl) T.k_NoSize rfl) pa_nil))) (pa_cons (pe_callB (isH (K := K) rfl EC HH) (by rfl) T.m_isinstance (by decide +kernel) (pa_cons (pv 0) (pa_cons (pe_glob (v := .ref (A 4)) (by rfl) T.k_NoText rfl) pa_nil))) (pa_cons (pe_callB (isH (K := K) rfl EC HH) (by rfl) T.m_isinstance (by decide +kernel) (pa_cons (pv 0) (pa_cons (pe_glob (v := .ref (A 3)) (by rfl) T.k_NoWord rfl) pa_nil))) (pa_cons (pe_callB (isH (K := K) rfl EC HH) (by rfl) T.m_isinstance (by decide +kernel) (pa_cons (pv 0) (pa_cons (pe_glob (v := .ref (A 18)) (by rfl) T.k_Taken rfl) pa_nil))) pa_nil)))))))
      (pss_cons (ps_if (PW.pt (pw_or (pt_cmpR op_ne (pe_bm PySem.F.plainAttrs_list PySem.F.slot_list_count PySem.F.type_list_count (cntB (K := K) rfl) (pv 2) (pa_cons pe_bl pa_nil)) pe_int (nomark _)) (pw_or (pt_not (pt_val (pe_callB (isH (K := K) rfl EC HH) (by rfl) T.m_isinstance (by decide +kernel) (pa_cons (pv 0) (pa_cons (pe_bltn (v := .ty "ValueError") (by rfl) T.m_ValueError (by decide +kernel) rfl) pa_nil))))) (pw_or1 (pt_val (pe_callB (isHT (K := K) rfl EC HH) (by rfl) T.m_isinstance (by decide +kernel) (pa_cons (pv 0) (pa_cons (pe_tup (pa_cons (pe_glob (v := .ref (A 19)) (by rfl) T.k_NoPlace rfl) (pa_cons (pe_glob (v := .ref (A 20)) (by rfl) T.k_NoSlot rfl) pa_nil))) pa_nil))))))))
      (pss_one (ps_ret pe_str))
      pss_nil)
      (pss_one (ps_ret (pe_ix (ixLK (K := K) rfl) (pv 1) (pe_bm PySem.F.plainAttrs_list PySem.F.slot_list_index PySem.F.type_list_index (indexK (K := K) rfl) (pv 2) (pa_cons pe_bl pa_nil)) (fun _ _ => rfl))))))))))), ?_⟩
    refine ⟨by show 9 ≤ sizeLine; decide, fun l0 n0 => ?_⟩
    have e0 := Ex.new (o := .lst [V.str "code", .str "deed", .str "entries", .str "lengths", .str "name", .str "number", .str "pages", .str "queries", .str "query"]) n0
    refine ⟨.ref l0, rfl, by show 7 ≤ sizeLine; decide, fun l1 n1 => ?_⟩
    have e1 := e0.trans (Ex.new (o := .lst [V.str "text of query", .str "row", .str "shelf", .str "size", .str "text", .str "word", .str "taken"]) n1)
    refine ⟨l0, l1, _, _, rfl, rfl, Ex.new n1 _ _ upd_same, upd_same, by show 16 ≤ sizeLine; decide, fun l2 n2 => ?_⟩
    have e2 := e1.trans (Ex.new (o := .lst (kindNames.map V.str)) n2)
    have hN : (upd (upd (upd H l0 (.lst [V.str "code", .str "deed", .str "entries", .str "lengths", .str "name", .str "number", .str "pages", .str "queries", .str "query"])) l1 (.lst [V.str "text of query", .str "row", .str "shelf", .str "size", .str "text", .str "word", .str "taken"])) l2 (.lst (kindNames.map V.str))) l2 = some (.lst (kindNames.map V.str)) := upd_same
    show tSeq _ _ _ _ (upd (upd (upd H l0 (.lst [V.str "code", .str "deed", .str "entries", .str "lengths", .str "name", .str "number", .str "pages", .str "queries", .str "query"])) l1 (.lst [V.str "text of query", .str "row", .str "shelf", .str "size", .str "text", .str "word", .str "taken"])) l2 (.lst (kindNames.map V.str)))
    generalize (upd (upd (upd H l0 (.lst [V.str "code", .str "deed", .str "entries", .str "lengths", .str "name", .str "number", .str "pages", .str "queries", .str "query"])) l1 (.lst [V.str "text of query", .str "row", .str "shelf", .str "size", .str "text", .str "word", .str "taken"])) l2 (.lst (kindNames.map V.str))) = H2 at e2 hN ⊢
    have d2 := hd.ex e2
    refine ⟨.ref p.1, rfl, .ref (A 10), .ref (A 10), _, rfl, .own _, d2, hp.at (j := 0) rfl, .ref p.1, rfl, .ref (A 17), .ref (A 17), _, rfl, .own _, d2, hp.at (j := 1) rfl, .ref p.1, rfl, .ref (A 12), .ref (A 12), _, rfl, .own _, d2, hp.at (j := 2) rfl, .ref p.1, rfl, .ref (A 7), .ref (A 7), _, rfl, .own _, d2, hp.at (j := 3) rfl, by show 4 ≤ sizeLine; decide, fun m0 k0 => ?_⟩
    have x0 : Ex H2 _ := Ex.new (o := .lst [V.bl (decide (0 = i)), V.bl (decide (1 = i)), V.bl (decide (2 = i)), V.bl (decide (3 = i))]) k0
    have h0 : (upd H2 m0 (.lst [V.bl (decide (0 = i)), V.bl (decide (1 = i)), V.bl (decide (2 = i)), V.bl (decide (3 = i))])) m0 = some (.lst [V.bl (decide (0 = i)), V.bl (decide (1 = i)), V.bl (decide (2 = i)), V.bl (decide (3 = i))]) := upd_same
    generalize (upd H2 m0 (.lst [V.bl (decide (0 = i)), V.bl (decide (1 = i)), V.bl (decide (2 = i)), V.bl (decide (3 = i))])) = G0 at x0 h0 ⊢
    have c0 := d2.ex x0
    refine ⟨.ref m0, rfl, .ref p.1, rfl, .ref (A 9), .ref (A 9), _, rfl, .own _, c0, hp.at (j := 4) rfl, .ref p.1, rfl, .ref (A 5), .ref (A 5), _, rfl, .own _, c0, hp.at (j := 5) rfl, .ref p.1, rfl, .ref (A 14), .ref (A 14), _, rfl, .own _, c0, hp.at (j := 6) rfl, .ref p.1, rfl, .ref (A 15), .ref (A 15), _, rfl, .own _, c0, hp.at (j := 7) rfl, by show 4 ≤ sizeLine; decide, fun n1' j1 => ?_⟩
    have y1 : Ex G0 (upd G0 n1' (.lst [V.bl (decide (4 = i)), V.bl (decide (5 = i)), V.bl (decide (6 = i)), V.bl (decide (7 = i))])) := Ex.new j1
    refine ⟨m0, n1', _, _, rfl, rfl, y1 _ _ h0, upd_same, by show 8 ≤ sizeLine; decide, fun m1 k1 => ?_⟩
    have x1 : Ex G0 (upd (upd G0 n1' (.lst [V.bl (decide (4 = i)), V.bl (decide (5 = i)), V.bl (decide (6 = i)), V.bl (decide (7 = i))])) m1 (.lst ([V.bl (decide (0 = i)), V.bl (decide (1 = i)), V.bl (decide (2 = i)), V.bl (decide (3 = i))] ++ [V.bl (decide (4 = i)), V.bl (decide (5 = i)), V.bl (decide (6 = i)), V.bl (decide (7 = i))]))) := y1.trans (Ex.new k1)
    have h1 : (upd (upd G0 n1' (.lst [V.bl (decide (4 = i)), V.bl (decide (5 = i)), V.bl (decide (6 = i)), V.bl (decide (7 = i))])) m1 (.lst ([V.bl (decide (0 = i)), V.bl (decide (1 = i)), V.bl (decide (2 = i)), V.bl (decide (3 = i))] ++ [V.bl (decide (4 = i)), V.bl (decide (5 = i)), V.bl (decide (6 = i)), V.bl (decide (7 = i))]))) m1 = some (.lst ([V.bl (decide (0 = i)), V.bl (decide (1 = i)), V.bl (decide (2 = i)), V.bl (decide (3 = i))] ++ [V.bl (decide (4 = i)), V.bl (decide (5 = i)), V.bl (decide (6 = i)), V.bl (decide (7 = i))])) := upd_same
    generalize (upd (upd G0 n1' (.lst [V.bl (decide (4 = i)), V.bl (decide (5 = i)), V.bl (decide (6 = i)), V.bl (decide (7 = i))])) m1 (.lst ([V.bl (decide (0 = i)), V.bl (decide (1 = i)), V.bl (decide (2 = i)), V.bl (decide (3 = i))] ++ [V.bl (decide (4 = i)), V.bl (decide (5 = i)), V.bl (decide (6 = i)), V.bl (decide (7 = i))]))) = G1 at x1 h1 ⊢
    have c1 := c0.ex x1
    refine ⟨.ref m1, rfl, .ref p.1, rfl, .ref (A 8), .ref (A 8), _, rfl, .own _, c1, hp.at (j := 8) rfl, .ref p.1, rfl, .ref (A 13), .ref (A 13), _, rfl, .own _, c1, hp.at (j := 9) rfl, .ref p.1, rfl, .ref (A 11), .ref (A 11), _, rfl, .own _, c1, hp.at (j := 10) rfl, .ref p.1, rfl, .ref (A 16), .ref (A 16), _, rfl, .own _, c1, hp.at (j := 11) rfl, by show 4 ≤ sizeLine; decide, fun n2' j2 => ?_⟩
    have y2 : Ex G1 (upd G1 n2' (.lst [V.bl (decide (8 = i)), V.bl (decide (9 = i)), V.bl (decide (10 = i)), V.bl (decide (11 = i))])) := Ex.new j2
    refine ⟨m1, n2', _, _, rfl, rfl, y2 _ _ h1, upd_same, by show 12 ≤ sizeLine; decide, fun m2 k2 => ?_⟩
    have x2 : Ex G1 (upd (upd G1 n2' (.lst [V.bl (decide (8 = i)), V.bl (decide (9 = i)), V.bl (decide (10 = i)), V.bl (decide (11 = i))])) m2 (.lst (([V.bl (decide (0 = i)), V.bl (decide (1 = i)), V.bl (decide (2 = i)), V.bl (decide (3 = i))] ++ [V.bl (decide (4 = i)), V.bl (decide (5 = i)), V.bl (decide (6 = i)), V.bl (decide (7 = i))]) ++ [V.bl (decide (8 = i)), V.bl (decide (9 = i)), V.bl (decide (10 = i)), V.bl (decide (11 = i))]))) := y2.trans (Ex.new k2)
    have h2 : (upd (upd G1 n2' (.lst [V.bl (decide (8 = i)), V.bl (decide (9 = i)), V.bl (decide (10 = i)), V.bl (decide (11 = i))])) m2 (.lst (([V.bl (decide (0 = i)), V.bl (decide (1 = i)), V.bl (decide (2 = i)), V.bl (decide (3 = i))] ++ [V.bl (decide (4 = i)), V.bl (decide (5 = i)), V.bl (decide (6 = i)), V.bl (decide (7 = i))]) ++ [V.bl (decide (8 = i)), V.bl (decide (9 = i)), V.bl (decide (10 = i)), V.bl (decide (11 = i))]))) m2 = some (.lst (([V.bl (decide (0 = i)), V.bl (decide (1 = i)), V.bl (decide (2 = i)), V.bl (decide (3 = i))] ++ [V.bl (decide (4 = i)), V.bl (decide (5 = i)), V.bl (decide (6 = i)), V.bl (decide (7 = i))]) ++ [V.bl (decide (8 = i)), V.bl (decide (9 = i)), V.bl (decide (10 = i)), V.bl (decide (11 = i))])) := upd_same
    generalize (upd (upd G1 n2' (.lst [V.bl (decide (8 = i)), V.bl (decide (9 = i)), V.bl (decide (10 = i)), V.bl (decide (11 = i))])) m2 (.lst (([V.bl (decide (0 = i)), V.bl (decide (1 = i)), V.bl (decide (2 = i)), V.bl (decide (3 = i))] ++ [V.bl (decide (4 = i)), V.bl (decide (5 = i)), V.bl (decide (6 = i)), V.bl (decide (7 = i))]) ++ [V.bl (decide (8 = i)), V.bl (decide (9 = i)), V.bl (decide (10 = i)), V.bl (decide (11 = i))]))) = G2 at x2 h2 ⊢
    have c2 := c1.ex x2
    refine ⟨.ref m2, rfl, .ref p.1, rfl, .ref (A 6), .ref (A 6), _, rfl, .own _, c2, hp.at (j := 12) rfl, .ref p.1, rfl, .ref (A 4), .ref (A 4), _, rfl, .own _, c2, hp.at (j := 13) rfl, .ref p.1, rfl, .ref (A 3), .ref (A 3), _, rfl, .own _, c2, hp.at (j := 14) rfl, .ref p.1, rfl, .ref (A 18), .ref (A 18), _, rfl, .own _, c2, hp.at (j := 15) rfl, by show 4 ≤ sizeLine; decide, fun n3' j3 => ?_⟩
    have y3 : Ex G2 (upd G2 n3' (.lst [V.bl (decide (12 = i)), V.bl (decide (13 = i)), V.bl (decide (14 = i)), V.bl (decide (15 = i))])) := Ex.new j3
    refine ⟨m2, n3', _, _, rfl, rfl, y3 _ _ h2, upd_same, by show 16 ≤ sizeLine; decide, fun m3 k3 => ?_⟩
    have x3 : Ex G2 (upd (upd G2 n3' (.lst [V.bl (decide (12 = i)), V.bl (decide (13 = i)), V.bl (decide (14 = i)), V.bl (decide (15 = i))])) m3 (.lst ((([V.bl (decide (0 = i)), V.bl (decide (1 = i)), V.bl (decide (2 = i)), V.bl (decide (3 = i))] ++ [V.bl (decide (4 = i)), V.bl (decide (5 = i)), V.bl (decide (6 = i)), V.bl (decide (7 = i))]) ++ [V.bl (decide (8 = i)), V.bl (decide (9 = i)), V.bl (decide (10 = i)), V.bl (decide (11 = i))]) ++ [V.bl (decide (12 = i)), V.bl (decide (13 = i)), V.bl (decide (14 = i)), V.bl (decide (15 = i))]))) := y3.trans (Ex.new k3)
    have h3 : (upd (upd G2 n3' (.lst [V.bl (decide (12 = i)), V.bl (decide (13 = i)), V.bl (decide (14 = i)), V.bl (decide (15 = i))])) m3 (.lst ((([V.bl (decide (0 = i)), V.bl (decide (1 = i)), V.bl (decide (2 = i)), V.bl (decide (3 = i))] ++ [V.bl (decide (4 = i)), V.bl (decide (5 = i)), V.bl (decide (6 = i)), V.bl (decide (7 = i))]) ++ [V.bl (decide (8 = i)), V.bl (decide (9 = i)), V.bl (decide (10 = i)), V.bl (decide (11 = i))]) ++ [V.bl (decide (12 = i)), V.bl (decide (13 = i)), V.bl (decide (14 = i)), V.bl (decide (15 = i))]))) m3 = some (.lst ((([V.bl (decide (0 = i)), V.bl (decide (1 = i)), V.bl (decide (2 = i)), V.bl (decide (3 = i))] ++ [V.bl (decide (4 = i)), V.bl (decide (5 = i)), V.bl (decide (6 = i)), V.bl (decide (7 = i))]) ++ [V.bl (decide (8 = i)), V.bl (decide (9 = i)), V.bl (decide (10 = i)), V.bl (decide (11 = i))]) ++ [V.bl (decide (12 = i)), V.bl (decide (13 = i)), V.bl (decide (14 = i)), V.bl (decide (15 = i))])) := upd_same
    generalize (upd (upd G2 n3' (.lst [V.bl (decide (12 = i)), V.bl (decide (13 = i)), V.bl (decide (14 = i)), V.bl (decide (15 = i))])) m3 (.lst ((([V.bl (decide (0 = i)), V.bl (decide (1 = i)), V.bl (decide (2 = i)), V.bl (decide (3 = i))] ++ [V.bl (decide (4 = i)), V.bl (decide (5 = i)), V.bl (decide (6 = i)), V.bl (decide (7 = i))]) ++ [V.bl (decide (8 = i)), V.bl (decide (9 = i)), V.bl (decide (10 = i)), V.bl (decide (11 = i))]) ++ [V.bl (decide (12 = i)), V.bl (decide (13 = i)), V.bl (decide (14 = i)), V.bl (decide (15 = i))]))) = G3 at x3 h3 ⊢
    have c3 := c2.ex x3
    have xN : Ex H2 G3 := ((x0.trans x1).trans x2).trans x3
    have hm : G3 m3 = some (.lst ((hot16 i).map V.bl)) := h3
    refine ⟨.ref m3, rfl, .inl ⟨rfl, _, SqL.of hm⟩, m3, hot16 i, rfl, rfl, SqL.of hm, rfl, _, rfl, no_if (by rw [hot16_count i hi]; decide) ?_⟩
    refine ⟨.ref p.1, rfl, .ty "ValueError", .type "ValueError", true, rfl, .ty _, c3, hp.kv, true, rfl, ?_⟩
    refine ⟨.ref p.1, rfl, by show 2 ≤ sizeLine; decide, fun tp ntp => ?_⟩
    have xT : Ex G3 (upd G3 tp (.tup [.ref (A 19), .ref (A 20)])) := Ex.new ntp
    refine ⟨tp, _, _, false, rfl, upd_same, .cons (.own _) (.cons (.own _) .nil), c3.ex xT, hp.k2, false, rfl, ?_⟩
    refine ⟨.ref l2, rfl, .ref m3, rfl, .inl ⟨rfl, _, SqL.of (xT _ _ hm)⟩, m3, (hot16 i).map V.bl, .bl true, i, .bl true, rfl, rfl, SqL.of (xT _ _ hm), rfl, ?_, ?_, rfl, ?_, ?_⟩
    · rw [List.all_eq_true]
      intro x hx
      obtain ⟨b, _, rfl⟩ := List.mem_map.mp hx
      rfl
    · rw [List.getElem?_map, hot16_at i hi]
      rfl
    · intro m z hm' hz
      rw [List.getElem?_map, hot16_ahead i hi m hm'] at hz
      cases hz
      rfl
    · refine ⟨l2, _, i, .str nm, rfl, rfl, SqL.of ((xN.trans xT) _ _ hN), atI_nat ?_, q.go ((e2.trans xN).trans xT)⟩
      rw [List.getElem?_map, hn]
      rfl
/-- what the law's _law_how makes of a deed: its refusal's kind, or told -/
def TTHow (K : PySem.W.Frag) (A : Nat → Addr) : (XK → Hp → VK → Prop) → Hp → VK → Prop := fun tl H Q =>
  tl (fun cls d H' => ∃ (C : Addr) (i : Nat) (nm : Str), cls = .ref C ∧ Plain K (howC A) C i ∧ kindNames[i]? = some nm ∧ DictOk d H' ∧ RetV (.str nm) H' Q) H (fun _ H' => Q (.str "told") H')
set_option maxHeartbeats 16000000 in
theorem how_gives {X : Cx} (T : TX X.K X.mg A FD TK CC) {k : Nat} (hr : Room (k + 2) X.A) (cdg : Value) (qn : Str) :
    LamX.GivesTo X N_l_how "_law_how" (defScope (topS 45)) (A 45) cdg (defBody (topS 45)) "_law_deed" qn (TTHow X.K A) := by
  intro f c' s H Q tl act hc h
  have GK := ok_l_kind (P := X.prog) (w := X.w) (base := X.base) T
  have rm : ∀ a : Addr, L2H.RoomH 1 ((X.A.deeper (envOfC "_law_how" (defScope (topS 45)) s.heap.objs.size (A 45) cdg)).mark (some (.ref a))) := fun a =>
    let r := L2H.roomH_of ((hr.deeper (envOfC "_law_how" (defScope (topS 45)) s.heap.objs.size (A 45) cdg)).mono (show 1 ≤ k + 1 by omega))
    ⟨r.dp, r.un⟩
  refine ⟨_, pss_cons (ps_try_asMany (X := (cxOf C8.CX0 X.prog X.w X.K X.mg X.base N_l_how "_law_how" (defScope (topS 45)) (A 45) cdg X.A X.stack s H C8.E0).nox) (n := "_law_e") (i := 1)
      (tb := fun W D σ H => ∃ Ech : XK, (∀ cls d σ' H', Ech cls d H' → W cls d σ' H') ∧ σ[0]? = some (some (.ref f)) ∧ H c' = some (LamX.CodeO c' qn) ∧ tl Ech H (fun _ H' => D.nx σ H')) rfl rfl sc_l_how.nd rfl rfl takes0 (fun W pn xe tk _ => ?_)
      (HdsAs.cons (test_tup (.cons ⟨rfl, by decide, .inl T.k_NoCode⟩ (.cons ⟨rfl, by decide, .inl T.k_NoEntries⟩ (.cons ⟨rfl, by decide, .inl T.k_NoPages⟩ (.cons ⟨rfl, by decide, .inl T.k_NoQueryText⟩ (.cons ⟨rfl, by decide, .inl T.k_NoRow⟩ .nil))))) (by show 5 ≤ sizeLine; decide)) (fun _ _ _ _ _ _ _ => pss_never)
      (HdsAs.cons (ts := fun a cls d => tRet (tCallP (spKind X.K A) a cls d (tCons (tVar 1) tNil))) (test_name ⟨rfl, by decide, .inl T.k_Wrong⟩) (fun a oe cls d pn hz hf => pss_one (ps_ret (pe_callP (X := ((cxOf C8.CX0 X.prog X.w X.K X.mg X.base N_l_how "_law_how" (defScope (topS 45)) (A 45) cdg X.A X.stack s H C8.E0).nox).suite a ((a, oe) :: pn)) (p := (a, oe)) GK (rm a) (List.mem_cons_self ..) hz hf (by rfl) T.g_l_kind T.f_l_kind.kp T.b_l_kind (pa_cons (pv 1) pa_nil))))
      (HdsAs.cons (test_tup (.cons ⟨rfl, by decide, .inl T.k_NoPlace⟩ (.cons ⟨rfl, by decide, .inl T.k_NoSlot⟩ .nil)) (by show 2 ≤ sizeLine; decide)) (fun _ _ _ _ _ _ _ => pss_never) HdsAs.nil))))
    (pss_one (ps_ret pe_str)), ?_⟩
  · refine ⟨fun pins s' σ H' D I h' => ?_⟩
    obtain ⟨Ech, hW, h1, h2, h3⟩ := h'
    exact (pss_one (ps_expr (act W pn xe Ech _ _ tk hW))).run pins s' σ H' D I ⟨h1, h2, h3⟩
  · refine ⟨_, fun cls d σ' H' hE hl => ?_, rfl, hc, h⟩
    obtain ⟨C, i, nm, rfl, hp, hn, hd, q⟩ := hE
    refine ⟨false, hp.e5, (fun z => Bool.noConfusion z), fun _ => ⟨true, hp.ew, fun _ a na => ?_, fun z => Bool.noConfusion z⟩⟩
    match σ', hl with
    | [x, y], _ => exact ⟨.ref a, rfl, C, i, nm, rfl, rfl, hp, hn, hd, q⟩
set_option maxHeartbeats 8000000 in
theorem pe_how {X : Cx} (T : TX X.K X.mg A FD TK CC) {c Pt : Addr} {k : Nat} {params : Arguments} {body : Expr} {scope : Scope} {t : XK → TE} {p lpos pos : Pos} {Tt : List (Addr × Str)} (TB : LamX.TabB X.base X.mg c Pt) (hcode : X.env.code = .ref c) (hmT : (Pt, X.env.qual ++ "<lambda>") ∈ Tt)
    (hu : ∀ q ∈ Tt, q.1 = Pt → q.2 = X.env.qual ++ "<lambda>") (hr : Room (k + 4) X.A) (L : LamX.LamS X.env.scope scope)
    (hbody : ∀ (A' : Around) (outer : List Env) (s : Shared) (H : Hp) (E : XK) (f c' : Addr), Room (k + 2) (A'.deeper (LamX.lamEnv X scope s.heap.objs.size f c')) → PE (LamX.lamCx X A' outer s H E scope f c') body (t E))
    (hg : Gl X "_law_how" := by rfl) (hdef : defaultsOf params X.env = ([], []) := by rfl)
    (hbind : ∀ (q : Str) (cl : List (Str × Addr)) (pm cv ctv : Value), bindArgs (PySem.W.kla_fn "<lambda>" q params body scope cl pm cv ctv) ⟨[], []⟩ = pure [] := by intros; rfl) :
    PE X (.Call (.Name "_law_how" p) [.Lambda params body scope lpos] [] pos) (LamX.tLam Tt (TTHow X.K A) t) := by
  have B := T.b_l_how
  obtain ⟨oc, od, kV, doc, pm, an, cdv, ct, osl, e, lk, hcd⟩ := T.f_l_how.ex
  rw [e] at B lk
  exact LamX.pe_lamcall (k := k + 2) hg T.g_l_how T.f_l_how.kp lk hcd B sc_l_how rfl (.inl rfl) (how_gives T (k := k) (hr.mono (show k + 2 ≤ k + 4 by omega)) cdv _) TB hcode hmT hu hr L hdef hbind hbody

/-! ### texts: words, pieces between blanks -/
/-- a word: one to twelve letters a to z -/
def isW (z : Str) : Bool := decide (1 ≤ z.cps.size) && decide (z.cps.size ≤ 12) && z.cps.toList.all fun c => decide (97 ≤ c) && decide (c ≤ 122)
def wordV : V → Bool
  | .str z => isW z
  | _ => false
/-- the things that are asked of -/
inductive Th (H : Hp) : V → Prop
  | str (z : Str) (h : z.length ≤ 100000) : Th H (.str z)
  | non : Th H .non
  | bl (b : Bool) : Th H (.bl b)
  | int (i : Int) : Th H (.int i)
  | lst {a : Addr} {xs : List V} (h : H a = some (.lst xs)) : Th H (.ref a)
  | tup {a : Addr} {xs : List V} (h : H a = some (.tup xs)) : Th H (.ref a)
theorem Th.ex {H H' : Hp} {v : V} (t : Th H v) (e : Ex H H') : Th H' v := by
  cases t with
  | str z h => exact .str z h
  | non => exact .non
  | bl b => exact .bl b
  | int i => exact .int i
  | lst h => exact .lst (e _ _ h)
  | tup h => exact .tup (e _ _ h)
theorem Th.exN {H H' : Hp} {v : V} (t : Th H v) (e : LamX.ExtN H H') : Th H' v := by
  cases t with
  | str z h => exact .str z h
  | non => exact .non
  | bl b => exact .bl b
  | int i => exact .int i
  | lst h => exact .lst (e _ _ h (by intro ps z; cases z))
  | tup h => exact .tup (e _ _ h (by intro ps z; cases z))
/-- a text, or a thing of another kind -/
theorem Th.kinds (K : PySem.W.Frag) {H : Hp} {v : V} (t : Th H v) : (∃ z, v = .str z ∧ z.length ≤ 100000) ∨ (∃ ty, TyX K H v (.type ty) ∧ kitB ty "str" = some false ∧ wordV v = false ∧ ∀ z, v ≠ .str z) := by
  cases t with
  | str z h => exact .inl ⟨z, rfl, h⟩
  | non => exact .inr ⟨_, .base .non, by decide +kernel, rfl, fun z e => by cases e⟩
  | bl b => exact .inr ⟨_, .base (.bl b), by decide +kernel, rfl, fun z e => by cases e⟩
  | int i => exact .inr ⟨_, .base (.int i), by decide +kernel, rfl, fun z e => by cases e⟩
  | lst h => exact .inr ⟨_, .base (.lst h), by decide +kernel, rfl, fun z e => by cases e⟩
  | tup h => exact .inr ⟨_, .base (.tup h), by decide +kernel, rfl, fun z e => by cases e⟩
theorem lt_one (a b : Nat) : decide (([a] : List Nat) < [b]) = decide (a < b) := by
  by_cases h : a < b
  · rw [decide_eq_true h]
    exact decide_eq_true (List.Lex.rel h)
  · rw [decide_eq_false h]
    refine decide_eq_false fun z => ?_
    cases z with
    | rel h' => exact h h'
    | cons h' => cases h'
theorem isW_len {z : Str} (h : isW z = true) : z.length ≤ 12 := by
  unfold isW at h
  rw [Bool.and_eq_true, Bool.and_eq_true, decide_eq_true_eq, decide_eq_true_eq] at h
  exact h.1.2
/-! ### split by a blank, joined again -/
theorem spl_len : ∀ (xs acc : List Nat), (spl [32] 0 acc xs).length ≤ xs.length + 1
  | [], acc => Nat.le_refl _
  | c :: r, acc => by
    rw [spl]
    split
    · have := spl_len r []
      show (spl [32] 0 [] r).length + 1 ≤ (c :: r).length + 1
      rw [List.length_cons]
      omega
    · have := spl_len r (acc ++ [c])
      rw [List.length_cons]
      omega
theorem spl_short : ∀ (xs acc : List Nat), ∀ p ∈ spl [32] 0 acc xs, p.length ≤ acc.length + xs.length
  | [], acc, p, h => by
    rw [spl, List.mem_singleton] at h
    rw [h]
    exact Nat.le_refl _
  | c :: r, acc, p, h => by
    rw [spl] at h
    split at h
    · rcases List.mem_cons.mp h with rfl | h
      · omega
      · have := spl_short r [] p h
        rw [List.length_nil] at this
        rw [List.length_cons]
        omega
    · have := spl_short r (acc ++ [c]) p h
      rw [List.length_append, List.length_cons, List.length_nil] at this
      rw [List.length_cons]
      omega
theorem spl_ne (xs acc : List Nat) : spl [32] 0 acc xs ≠ [] := by
  cases xs with
  | nil => rw [spl]; simp
  | cons c r =>
    rw [spl]
    split
    · simp
    · exact spl_ne r (acc ++ [c])
theorem joinL_cons {S p : List Nat} {q : List (List Nat)} (h : q ≠ []) : joinL S (p :: q) = p ++ (S ++ joinL S q) := by
  cases q with
  | nil => exact absurd rfl h
  | cons x r => rw [joinL]
theorem join_spl : ∀ (xs acc : List Nat), joinL [32] (spl [32] 0 acc xs) = acc ++ xs
  | [], acc => by
    rw [spl, joinL, List.append_nil]
  | c :: r, acc => by
    rw [spl]
    split
    · rename_i h
      have hc : c = 32 := by simpa [pre] using h
      show joinL [32] (acc :: spl [32] 0 [] r) = _
      rw [joinL_cons (spl_ne r []), join_spl r [], hc]
      simp
    · rw [join_spl r (acc ++ [c])]
      simp
theorem split_tl (z : Str) : (Txt.split z " ").map tl = spl [32] 0 [] (tl z) := split_spl z " " (by decide) (kind_ok (by decide +kernel))
theorem join_split (z : Str) : Txt.join " " (Txt.split z " ") = z := by
  refine ext_tl ?_
  rw [join_eq, tl_join, split_tl]
  exact (join_spl (tl z) []).trans (List.nil_append _)
theorem tl_len (z : Str) : (tl z).length = z.length := by
  show z.cps.toList.length = z.cps.size
  simp
theorem split_len (z : Str) : (Txt.split z " ").length ≤ z.length + 1 := by
  have h := spl_len (tl z) []
  rw [← split_tl, List.length_map, tl_len] at h
  exact h
theorem split_short {z p : Str} (h : p ∈ Txt.split z " ") : p.length ≤ z.length := by
  have h2 : tl p ∈ spl [32] 0 [] (tl z) := by
    rw [← split_tl]
    exact List.mem_map_of_mem h
  have h3 := spl_short _ _ _ h2
  rw [tl_len, tl_len, List.length_nil] at h3
  omega
/-- the words of a text, if it were one -/
def piecesOf (z : Str) : List Str := if z.length = 0 then [] else Txt.split z " "
def okP (ps : List Str) : Bool := decide (ps.length ≤ 120) && ps.all isW
theorem pieces_len (z : Str) : (piecesOf z).length ≤ z.length + 1 := by
  unfold piecesOf
  split
  · exact Nat.zero_le _
  · exact split_len z
theorem pieces_short {z p : Str} (h : p ∈ piecesOf z) : p.length ≤ z.length := by
  unfold piecesOf at h
  split at h
  · cases h
  · exact split_short h
theorem join_pieces (z : Str) : Txt.join " " (piecesOf z) = z := by
  unfold piecesOf
  split
  · rename_i h
    refine ext_tl ?_
    rw [join_eq, tl_join]
    have : tl z = [] := List.length_eq_zero_iff.mp (by rw [tl_len]; exact h)
    rw [this]
    rfl
  · exact join_split z
/-! ### lists of texts, compared -/
theorem isW_ok {z : Str} (h : isW z = true) : PyData.canLay0 (.str z) = true := by
  unfold isW at h
  rw [Bool.and_eq_true, List.all_eq_true] at h
  show z.cps.all (fun c => decide (c < 0x110000)) = true
  rw [← Array.all_toList, List.all_eq_true]
  intro c hc
  have := h.2 c hc
  rw [Bool.and_eq_true, decide_eq_true_eq, decide_eq_true_eq] at this
  exact decide_eq_true (by omega)
theorem dpS {K : PySem.W.Frag} {H : Hp} : ∀ zs : List Str, DpAll K H (zs.map V.str) (zs.map PyData.str)
  | [] => .nil
  | z :: r => .cons (.str z) (dpS r)
theorem shapeS {zs : List Str} (h : zs.all isW = true) : SeqAt.shaped (.list (zs.map PyData.str)) = true := by
  have h1 : ∀ zs : List Str, zs.all isW = true → PyData.canLayAll0 (zs.map PyData.str) = true := by
    intro zs
    induction zs with
    | nil => intro _; rfl
    | cons z r ih =>
      intro h
      rw [List.all_cons, Bool.and_eq_true] at h
      rw [List.map_cons, PyData.canLayAll0, isW_ok h.1, ih h.2]
      rfl
  have h2 : ∀ zs : List Str, PyData.depthAll (zs.map PyData.str) = 0 := by
    intro zs
    induction zs with
    | nil => rfl
    | cons z r ih =>
      rw [List.map_cons, PyData.depthAll, ih, PyData.depth]
      rfl
  unfold SeqAt.shaped
  rw [PyData.canLay0, PyData.depth, h1 zs h, h2 zs]
  rfl
theorem eqvS {zs : List Str} (h : zs.all isW = true) : PyData.eqv (.list (zs.map PyData.str)) (.list (zs.map PyData.str)) = true := by
  refine SeqAt.eqv_refl _ ?_
  have := shapeS h
  unfold SeqAt.shaped at this
  rw [Bool.and_eq_true] at this
  exact this.1
theorem no_str {x y : Str} {A B : Prop} (h : x ≠ y) (b : B) : if decide (V.str x = V.str y) = true then A else B := by
  rw [decide_eq_false fun z => h (V.str.inj z)]
  exact b
theorem yes_str {x : Str} {A B : Prop} (a : A) : if decide (V.str x = V.str x) = true then A else B := by
  rw [decide_eq_true rfl]
  exact a
theorem yes_le {c A B : Prop} [Decidable c] (h : c) (a : A) : if decide c = true then A else B := by
  rw [decide_eq_true h]
  exact a
theorem no_le {c A B : Prop} [Decidable c] (h : ¬ c) (b : B) : if decide c = true then A else B := by
  rw [decide_eq_false h]
  exact b
theorem joinL_len (S : List Nat) : ∀ ps : List (List Nat), (joinL S ps).length ≤ (ps.map List.length).sum + ps.length * S.length
  | [] => Nat.zero_le _
  | [p] => by
    rw [joinL, List.map_cons, List.sum_cons, List.map_nil, List.sum_nil]
    omega
  | p :: q :: r => by
    have ih := joinL_len S (q :: r)
    rw [joinL, List.length_append, List.length_append, List.map_cons, List.sum_cons, List.length_cons, Nat.add_mul, Nat.one_mul]
    omega
theorem join_len (y : Str) (ps : List Str) : (Txt.join y ps).length ≤ (ps.map (·.length)).sum + ps.length * y.length := by
  have h := joinL_len (tl y) (ps.map tl)
  rw [← tl_join, ← join_eq, tl_len, tl_len, List.length_map, List.map_map] at h
  rw [show (ps.map (·.length)) = ps.map (List.length ∘ tl) from List.map_congr_left fun p _ => (tl_len p).symm]
  exact h
theorem sum_le {ps : List Str} {n : Nat} (h : ∀ p ∈ ps, p.length ≤ n) : (ps.map (·.length)).sum ≤ ps.length * n := by
  induction ps with
  | nil => simp
  | cons p r ih =>
    have h1 := h p (List.mem_cons_self ..)
    have h2 := ih fun x hx => h x (List.mem_cons_of_mem _ hx)
    rw [List.map_cons, List.sum_cons, List.length_cons, Nat.add_mul, Nat.one_mul]
    omega

/-! ### the program's words: is_word, are_words, check_words, words_of, text_of -/
def spIsWord : Sp := fun vs H Q _ => ∃ v : V, vs = [v] ∧ Th H v ∧ RetV (.bl (wordV v)) H Q
set_option maxHeartbeats 4000000 in
theorem ok_is_word (T : TX K mg A FD TK CC) : FnOk P w K mg base CX0 1 (A 27) (FD 27) ["thing"] spIsWord := by
  refine T.f_is_word.ok sc_is_word (fun vs H Q E h => ?_) (fun cdv A' outer s H vs Q E hr h => ?_)
  · obtain ⟨v, rfl, _⟩ := h
    rfl
  · obtain ⟨v, rfl, ht, q⟩ := h
    refine ⟨_, (pss_cons (ps_if (PW.pt (pw_or (pt_not (pt_val (pe_callB (isiK (K := K) rfl) (by rfl) T.m_isinstance (by decide +kernel) (pa_cons (pv 0) (pa_cons (pe_bltn (v := .ty "str") (by rfl) T.m_str (by decide +kernel) rfl) pa_nil))))) (pw_or1 (pt_not (pt_chain op_le op_le pe_int (pe_callB call_len_str (by rfl) T.m_len (by decide +kernel) (pa_cons (pv 0) pa_nil)) (pe_glob (v := .int 12) (by rfl) T.c_MOST_LETTERS ⟨_, rfl⟩))))))
      (pss_one (ps_ret pe_bl))
      pss_nil)
      (pss_one (ps_ret (pe_callB (allK (K := K) rfl rfl) (by rfl) T.m_all (by decide +kernel) (pa_cons (pe_lc (own := [("sign", 1)])  rfl sc_is_word.nd (pi_str (pv 0)) (blkOk_by (own := [("sign", 1)]) (N := N_is_word) (sc := defScope (topS 27)) (by decide +kernel)) (fun _ _ _ _ _ => (pg_name (i := 1) sc_is_word.nd rfl (Or.inl rfl))) (fun _ _ _ _ _ => pts_nil) (fun _ _ _ _ _ => (pe_chain op_le_str op_le_str pe_str (pv 1) pe_str))) pa_nil))))), ?_⟩
    rcases ht.kinds K with ⟨z, rfl, hz⟩ | ⟨ty, t1, t2, t3, t4⟩
    · refine ⟨.str z, rfl, .str z, .ty "str", .type "str", .type "str", true, rfl, .ty _, .base (.str z), kit_ty (by decide +kernel), true, rfl, iteF ?_⟩
      have q : RetV (.bl (isW z)) H Q := q
      have no : ¬ (decide ((1 : Int) ≤ (z.length : Int)) = true ∧ decide ((z.length : Int) ≤ 12) = true) → isW z = false := fun h => by
        unfold isW
        have e : z.length = z.cps.size := rfl
        by_cases h1 : 1 ≤ z.cps.size
        · by_cases h2 : z.cps.size ≤ 12
          · exact absurd ⟨decide_eq_true (by omega), decide_eq_true (by omega)⟩ h
          · rw [decide_eq_false h2, Bool.and_false, Bool.false_and]
        · rw [decide_eq_false h1, Bool.false_and, Bool.false_and]
      refine ⟨.str z, rfl, z, rfl, sz hz, 1, (z.length : Int), rfl, rfl, _, rfl, ite2 (fun c1 => ?_) (fun c1 => ?_)⟩
      · refine ⟨(z.length : Int), 12, rfl, rfl, _, rfl, ?_⟩
        by_cases c2 : (z.length : Int) ≤ 12
        · rw [decide_eq_true c2]
          refine iteF ?_
          have e : z.length = z.cps.size := rfl
          have c1' : (1 : Int) ≤ (z.length : Int) := of_decide_eq_true c1
          refine ⟨.str z, rfl, z, rfl, fun D hD => ?_⟩
          refine lc_it (walk_str (z := z)) (fun i H' => Ex H H' ∧ H' D = some (.lst ((z.cps.toList.take i).map fun c => .bl (decide (97 ≤ c) && decide (c ≤ 122))))) ⟨Ex.new hD, upd_same⟩ (fun _ _ _ _ => True.intro) (fun i x H1 H2 hi p y => ?_) (fun H1 p => ?_)
          · obtain ⟨p1, p2⟩ := p
            obtain ⟨rfl, c, hc, rfl⟩ := y
            have g : z.cps.toList[i]? = some c := by
              rw [Array.getElem?_toList]
              exact hc
            have stepE : (z.cps.toList.take (i + 1)).map (fun c => V.bl (decide (97 ≤ c) && decide (c ≤ 122))) = (z.cps.toList.take i).map (fun c => V.bl (decide (97 ≤ c) && decide (c ≤ 122))) ++ [V.bl (decide (97 ≤ c) && decide (c ≤ 122))] := by
              rw [List.take_add_one, g, List.map_append]
              rfl
            have lenE : ((z.cps.toList.take i).map (fun c => V.bl (decide (97 ≤ c) && decide (c ≤ 122)))).length < sizeLine := by
              rw [List.length_map, List.length_take]
              refine sz_lt ?_
              have : z.cps.toList.length = z.cps.size := by simp
              omega
            refine ⟨rfl, .str ⟨#[c]⟩, rfl, _, _, rfl, rfl, _, rfl, ?_⟩
            have e1 : (!decide (((⟨#[c]⟩ : Str).cps.toList) < (Str.ofString "a").cps.toList)) = decide (97 ≤ c) := by
              show (!decide ([c] < [97])) = _
              rw [lt_one]
              by_cases h : 97 ≤ c
              · rw [decide_eq_true h, decide_eq_false (by omega)]
                rfl
              · rw [decide_eq_false h, decide_eq_true (by omega)]
                rfl
            have e2 : (!decide ((Str.ofString "z").cps.toList < (⟨#[c]⟩ : Str).cps.toList)) = decide (c ≤ 122) := by
              show (!decide ([122] < [c])) = _
              rw [lt_one]
              by_cases h : c ≤ 122
              · rw [decide_eq_true h, decide_eq_false (by omega)]
                rfl
              · rw [decide_eq_false h, decide_eq_true (by omega)]
                rfl
            refine ite2 (fun b1 => ?_) (fun b1 => ?_)
            · refine ⟨_, _, rfl, rfl, _, p2, lenE, Ex.mut p1 hD, ?_⟩
              rw [upd_same, stepE, ← e1, ← e2, b1, Bool.true_and]
            · refine ⟨_, p2, lenE, Ex.mut p1 hD, ?_⟩
              rw [upd_same, stepE, ← e1, Bool.eq_false_iff.mpr b1, Bool.false_and]
          · obtain ⟨p1, p2⟩ := p
            refine ⟨D, (z.cps.toList.map fun c => (decide (97 ≤ c) && decide (c ≤ 122))), rfl, SqL.of ?_, ?_⟩
            · rw [p2, List.take_of_length_le (by simp), List.map_map]
              rfl
            · have v := q.go p1
              have ev : isW z = ((z.cps.toList.map fun c => (decide (97 ≤ c) && decide (c ≤ 122))).all id) := by
                unfold isW
                rw [decide_eq_true (by omega), decide_eq_true (by omega), List.all_map]
                rfl
              rw [ev] at v
              exact v
        · rw [decide_eq_false c2]
          refine iteT ?_
          have v := ret_v q
          rw [no (fun h => c2 (of_decide_eq_true h.2))] at v
          exact v
      · have v := ret_v q
        rw [no (fun h => c1 h.1)] at v
        exact ⟨false, rfl, v⟩
    · rw [t3] at q
      exact ⟨v, rfl, v, .ty "str", .type ty, .type "str", false, rfl, .ty _, t1, kit_ty t2, false, rfl, ret_v q⟩
def spWordsL (K : PySem.W.Frag) : Sp := fun vs H Q _ => ∃ (a : Addr) (xs : List V), vs = [.ref a] ∧ SqL K H a xs ∧ xs.length ≤ 50000 ∧ (∀ x ∈ xs, Th H x) ∧ RetV (.bl (xs.all wordV)) H Q
set_option maxHeartbeats 4000000 in
theorem ok_are_words (T : TX K mg A FD TK CC) : FnOk P w K mg base CX0 2 (A 28) (FD 28) ["things"] (spWordsL K) := by
  have G_is_word := ok_is_word (P := P) (w := w) (base := base) T
  refine T.f_are_words.ok sc_are_words (fun vs H Q E h => ?_) (fun cdv A' outer s H vs Q E hr h => ?_)
  · obtain ⟨a, xs, rfl, _⟩ := h
    rfl
  · obtain ⟨a, xs, rfl, hS, hl, hz, q⟩ := h
    refine ⟨_, (pss_one (ps_ret (pe_callB (allK (K := K) rfl rfl) (by rfl) T.m_all (by decide +kernel) (pa_cons (pe_lc (own := [("thing", 1)])  rfl sc_are_words.nd (piLK (K := K) rfl (pv 0)) (blkOk_by (own := [("thing", 1)]) (N := N_are_words) (sc := defScope (topS 28)) (by decide +kernel)) (fun _ _ _ _ _ => (pg_name (i := 1) sc_are_words.nd rfl (Or.inl rfl))) (fun _ _ _ _ _ => pts_nil) (fun _ _ _ _ _ => (pe_call G_is_word hr (by rfl) T.g_is_word T.f_is_word.kp T.b_is_word .nil pass0 (pa_cons (pv 1) pa_nil)))) pa_nil)))), ?_⟩
    refine ⟨.ref a, rfl, a, rfl, ⟨_, hS⟩, fun D hD => ?_⟩
    refine lc_list (xs := xs) (fun i H' => Ex H H' ∧ H' D = some (.lst ((xs.take i).map fun z => .bl (wordV z)))) ⟨Ex.new hD, upd_same⟩ (fun i H' _ p => ex_l p.1 hS) (fun i x H1 hx p => ?_) (fun H1 p => ?_)
    · obtain ⟨p1, p2⟩ := p
      have hi : i < xs.length := (List.getElem?_eq_some_iff.mp hx).1
      refine ⟨rfl, x, rfl, x, rfl, (hz x (List.mem_of_getElem? hx)).ex p1, fun H2 e2 => ?_⟩
      refine ⟨_, e2 _ _ p2, ?_, Ex.mut (p1.trans e2) hD, ?_⟩
      · rw [List.length_map, List.length_take]
        exact sz_lt (by omega)
      · rw [upd_same, List.take_add_one, hx, List.map_append]
        rfl
    · obtain ⟨p1, p2⟩ := p
      refine ⟨D, xs.map wordV, rfl, SqL.of ?_, ?_⟩
      · rw [p2, List.take_of_length_le (Nat.le_refl _), List.map_map]
        rfl
      · have v := q.go p1
        rw [show ((xs.map wordV).all id) = xs.all wordV by rw [List.all_map]; rfl]
        exact v
/-- refused with the class at C -/
def RetE (C : Addr) (H : Hp) (E : XK) : Prop := ∀ H', Ex H H' → E (.ref C) none H'
def okX (xs : List V) : Bool := decide (xs.length ≤ 120) && xs.all wordV
def spCheck (K : PySem.W.Frag) (C : Addr) : Sp := fun vs H Q E => ∃ (a : Addr) (xs : List V), vs = [.ref a] ∧ SqL K H a xs ∧ xs.length ≤ 50000 ∧ (∀ x ∈ xs, Th H x) ∧ (okX xs = true → RetV .non H Q) ∧ (okX xs = false → RetE C H E)
set_option maxHeartbeats 4000000 in
theorem ok_check_words (T : TX K mg A FD TK CC) : FnOk P w K mg base (L2.CX P w) 3 (A 31) (FD 31) ["words"] (spCheck K (A 4)) := by
  have G_are_words := ok_are_words (P := P) (w := w) (base := base) T
  refine T.f_check_words.okX sc_check_words (fun vs H Q E h => ?_) (fun cdv A' outer s H vs Q E hr h => ?_)
  · obtain ⟨a, xs, rfl, _⟩ := h
    rfl
  · obtain ⟨a, xs, rfl, hS, hl, hz, q1, q2⟩ := h
    refine ⟨_, (pss_cons (ps_if (pt_cmpR op_gt (pe_callB (lenK (K := K) rfl) (by rfl) T.m_len (by decide +kernel) (pa_cons (pv 0) pa_nil)) (pe_glob (v := .int 120) (by rfl) T.c_MOST_WORDS ⟨_, rfl⟩) (nomark _))
      (pss_one (ps_raise rfl (takes_of rfl rfl rfl rfl) (pmk_own PySem.F.excBase_ValueError T.x_NoText T.k_NoText T.kc_NoText (raises_own T.br_NoText T.ty_NoText) rfl)))
      pss_nil)
      (pss_one (ps_if (pt_not (pt_val (pe_call G_are_words hr (by rfl) T.g_are_words T.f_are_words.kp T.b_are_words .nil pass0 (pa_cons (pv 0) pa_nil))))
      (pss_one (ps_raise rfl (takes_of rfl rfl rfl rfl) (pmk_own PySem.F.excBase_ValueError T.x_NoText T.k_NoText T.kc_NoText (raises_own T.br_NoText T.ty_NoText) rfl)))
      pss_nil))), ?_⟩
    refine ⟨.ref a, rfl, a, _, rfl, .inl hS, _, 120, rfl, rfl, _, rfl, ite2 (fun e => ?_) (fun e => ?_)⟩
    · have e : (120 : Int) < (xs.length : Int) := of_decide_eq_true e
      refine q2 ?_ H (Ex.refl H)
      unfold okX
      rw [decide_eq_false (by omega), Bool.false_and]
    · have e : ¬ (120 : Int) < (xs.length : Int) := fun z => e (decide_eq_true z)
      refine ⟨.ref a, rfl, a, xs, rfl, hS, hl, hz, fun H1 e1 => ⟨_, rfl, ?_⟩⟩
      have eo : okX xs = xs.all wordV := by
        unfold okX
        rw [decide_eq_true (by omega), Bool.true_and]
      cases hw : xs.all wordV with
      | true =>
        rw [hw] at eo
        exact (q1 eo).go e1
      | false =>
        rw [hw] at eo
        exact q2 eo H1 e1
theorem okX_str (ps : List Str) : okX (ps.map V.str) = okP ps := by
  unfold okX okP
  rw [List.length_map, List.all_map]
  rfl
/-- words_of: of a text that is one its words, else refused -/
def spWordsOf (C : Addr) : Sp := fun vs H Q E => ∃ v : V, vs = [v] ∧ Th H v ∧ (∀ z, v = .str z → z.length ≤ 20000 ∧ (okP (piecesOf z) = true → RetL ((piecesOf z).map V.str) H Q) ∧ (okP (piecesOf z) = false → RetE C H E)) ∧ ((∀ z, v ≠ .str z) → RetE C H E)
set_option maxHeartbeats 4000000 in
theorem ok_words_of (T : TX K mg A FD TK CC) : FnOk P w K mg base (L2.CX P w) 4 (A 30) (FD 30) ["text"] (spWordsOf (A 4)) := by
  have G_check_words := ok_check_words (P := P) (w := w) (base := base) T
  refine T.f_words_of.okX sc_words_of (fun vs H Q E h => ?_) (fun cdv A' outer s H vs Q E hr h => ?_)
  · obtain ⟨v, rfl, _⟩ := h
    rfl
  · obtain ⟨v, rfl, ht, q1, q2⟩ := h
    refine ⟨_, (pss_cons (ps_if (pt_not (pt_val (pe_callB (isiK (K := K) rfl) (by rfl) T.m_isinstance (by decide +kernel) (pa_cons (pv 0) (pa_cons (pe_bltn (v := .ty "str") (by rfl) T.m_str (by decide +kernel) rfl) pa_nil)))))
      (pss_one (ps_raise rfl (takes_of rfl rfl rfl rfl) (pmk_own PySem.F.excBase_ValueError T.x_NoText T.k_NoText T.kc_NoText (raises_own T.br_NoText T.ty_NoText) rfl)))
      pss_nil)
      (pss_cons (ps_set (i := 1) sc_words_of.nd rfl (.inl rfl) (pe_ifExp (pt_truth (pv 0) (by intro _; rfl)) (pe_split (pv 0) pe_str) (pe_lst pa_nil)))
      (pss_cons (ps_expr (pe_call G_check_words hr (by rfl) T.g_check_words T.f_check_words.kp T.b_check_words .nil (passes_call (takes_of rfl rfl rfl rfl) (fun _ _ _ _ h => h)) (pa_cons (pv 1) pa_nil)))
      (pss_one (ps_ret (pv 1)))))), ?_⟩
    rcases ht.kinds K with ⟨z, rfl, hz⟩ | ⟨ty, t1, t2, t3, t4⟩
    · obtain ⟨hl, q1, q3⟩ := q1 z rfl
      refine ⟨.str z, rfl, .str z, .ty "str", .type "str", .type "str", true, rfl, .ty _, .base (.str z), kit_ty (by decide +kernel), true, rfl, ?_⟩
      have fin : ∀ (p : Addr), H p = none → spCheck K (A 4) [.ref p] (upd H p (.lst ((piecesOf z).map V.str))) (fun _ H' => ∃ v : V, ([some (.str z), some (.ref p)] : L2.St)[1]? = some (some v) ∧ Q v H') E := fun p np => by
        have pl := pieces_len z
        refine ⟨p, _, rfl, SqL.of upd_same, by rw [List.length_map]; omega, fun x hx => ?_, fun ho H2 e2 => ?_, fun ho H2 e2 => ?_⟩
        · obtain ⟨y, hy, rfl⟩ := List.mem_map.mp hx
          exact .str y (by have := pieces_short hy; omega)
        · rw [okX_str] at ho
          exact ⟨.ref p, rfl, q1 ho p H2 np ((Ex.new np).trans e2) (e2 _ _ upd_same)⟩
        · rw [okX_str] at ho
          exact q3 ho H2 ((Ex.new np).trans e2)
      refine ⟨.str z, rfl, ((z.length : Int) != 0), ⟨sz (by omega), rfl⟩, ?_⟩
      by_cases h0 : z.length = 0
      · rw [show ((z.length : Int) != 0) = false by rw [h0]; rfl]
        refine ⟨Nat.zero_le _, fun p np => ?_⟩
        have f := fin p np
        rw [show piecesOf z = [] by unfold piecesOf; rw [if_pos h0]] at f
        exact ⟨.ref p, rfl, f⟩
      · rw [show ((z.length : Int) != 0) = true by simp [h0]]
        refine ⟨.str z, rfl, ⟨_, rfl⟩, z, " ", rfl, rfl, by decide +kernel, sz (by omega), fun p np => ?_⟩
        have f := fin p np
        rw [show piecesOf z = Txt.split z " " by unfold piecesOf; rw [if_neg h0]] at f
        exact ⟨.ref p, rfl, f⟩
    · refine ⟨v, rfl, v, .ty "str", .type ty, .type "str", false, rfl, .ty _, t1, kit_ty t2, false, rfl, ?_⟩
      exact q2 t4 H (Ex.refl H)
theorem len_sum (zs : List Str) (h : zs.all isW = true) : (zs.map (·.length)).sum ≤ 12 * zs.length := by
  induction zs with
  | nil => exact Nat.le_refl _
  | cons z r ih =>
    rw [List.all_cons, Bool.and_eq_true] at h
    have := ih h.2
    have := isW_len h.1
    rw [List.map_cons, List.sum_cons, List.length_cons]
    omega

/-! ### the law's own words -/
def alpha : Str := "abcdefghijklmnopqrstuvwxyz"
theorem alpha_in (c : Nat) : decide (c ∈ alpha.cps.toList) = (decide (97 ≤ c) && decide (c ≤ 122)) := by
  have h : alpha.cps.toList = List.range' 97 26 := by decide +kernel
  rw [h]
  by_cases h1 : 97 ≤ c
  · by_cases h2 : c ≤ 122
    · rw [decide_eq_true h1, decide_eq_true h2]
      exact decide_eq_true (List.mem_range'_1.mpr ⟨h1, by omega⟩)
    · rw [decide_eq_true h1, decide_eq_false h2]
      exact decide_eq_false fun z => h2 (by have := (List.mem_range'_1.mp z).2; omega)
  · rw [decide_eq_false h1]
    exact decide_eq_false fun z => h1 (List.mem_range'_1.mp z).1
def spLetters : Sp := fun vs H Q _ => vs = [] ∧ Q (.str alpha) H
theorem ok_l_letters (T : TX K mg A FD TK CC) : FnOk P w K mg base CX0 1 (A 40) (FD 40) [] spLetters := by
  refine T.f_l_letters.ok sc_l_letters (fun vs H Q E h => ?_) (fun cdv A' outer s H vs Q E hr h => ?_)
  · obtain ⟨rfl, _⟩ := h
    rfl
  · obtain ⟨rfl, q⟩ := h
    exact ⟨_, (pss_one (ps_ret pe_str)), q⟩
set_option maxHeartbeats 4000000 in
theorem ok_l_is_word (T : TX K mg A FD TK CC) : FnOk P w K mg base CX0 2 (A 39) (FD 39) ["_law_thing"] spIsWord := by
  have G_l_letters := ok_l_letters (P := P) (w := w) (base := base) T
  refine T.f_l_is_word.ok (k := 1) sc_l_is_word (fun vs H Q E h => ?_) (fun cdv A' outer s H vs Q E hr h => ?_)
  · obtain ⟨v, rfl, _⟩ := h
    rfl
  · obtain ⟨v, rfl, ht, q⟩ := h
    refine ⟨_, (pss_one (ps_ret (pe_and (pe_callB (isiK (K := K) rfl) (by rfl) T.m_isinstance (by decide +kernel) (pa_cons (pv 0) (pa_cons (pe_bltn (v := .ty "str") (by rfl) T.m_str (by decide +kernel) rfl) pa_nil))) (pe_and (pe_chain op_le op_le pe_int (pe_callB call_len_str (by rfl) T.m_len (by decide +kernel) (pa_cons (pv 0) pa_nil)) pe_int) (pe_one (pe_callB (allK (K := K) rfl rfl) (by rfl) T.m_all (by decide +kernel) (pa_cons (pe_lc (own := [("_law_sign", 1)])  rfl sc_l_is_word.nd (pi_str (pv 0)) (blkOk_by (own := [("_law_sign", 1)]) (N := N_l_is_word) (sc := defScope (topS 39)) (by decide +kernel)) (fun _ _ _ _ _ => (pg_name (i := 1) sc_l_is_word.nd rfl (Or.inl rfl))) (fun _ _ _ _ _ => pts_nil) (fun _ _ _ _ _ => (pe_cmpR op_in_sign (pv 1) (pe_call0 G_l_letters hr (by rfl) T.g_l_letters T.f_l_letters.kp T.b_l_letters .nil pass0) (by rfl)))) pa_nil))))))), ?_⟩
    rcases ht.kinds K with ⟨z, rfl, hz⟩ | ⟨ty, t1, t2, t3, t4⟩
    · have q : RetV (.bl (isW z)) H Q := q
      refine ⟨.str z, rfl, .str z, .ty "str", .type "str", .type "str", true, rfl, .ty _, .base (.str z), kit_ty (by decide +kernel), true, rfl, ?_⟩
      have e : z.length = z.cps.size := rfl
      refine ⟨.str z, rfl, z, rfl, sz hz, 1, (z.length : Int), rfl, rfl, _, rfl, ite2 (fun c1 => ?_) (fun c1 => ?_)⟩
      · have c1' : (1 : Int) ≤ (z.length : Int) := of_decide_eq_true c1
        refine ⟨(z.length : Int), 12, rfl, rfl, _, rfl, ite2 (fun c2 => ?_) (fun c2 => ?_)⟩
        · have c2' : (z.length : Int) ≤ 12 := of_decide_eq_true c2
          refine ⟨.str z, rfl, z, rfl, fun D hD => ?_⟩
          refine lc_it (walk_str (z := z)) (fun i H' => Ex H H' ∧ H' D = some (.lst ((z.cps.toList.take i).map fun c => .bl (decide (97 ≤ c) && decide (c ≤ 122))))) ⟨Ex.new hD, upd_same⟩ (fun _ _ _ _ => True.intro) (fun i x H1 H2 hi p y => ?_) (fun H1 p => ?_)
          · obtain ⟨p1, p2⟩ := p
            obtain ⟨rfl, c, hc, rfl⟩ := y
            have g : z.cps.toList[i]? = some c := by
              rw [Array.getElem?_toList]
              exact hc
            refine ⟨rfl, .str ⟨#[c]⟩, rfl, rfl, c, alpha, rfl, rfl, _, p2, ?_, Ex.mut p1 hD, ?_⟩
            · rw [List.length_map, List.length_take]
              refine sz_lt ?_
              have : z.cps.toList.length = z.cps.size := by simp
              omega
            · rw [upd_same, alpha_in, List.take_add_one, g, List.map_append]
              rfl
          · obtain ⟨p1, p2⟩ := p
            refine ⟨D, (z.cps.toList.map fun c => (decide (97 ≤ c) && decide (c ≤ 122))), rfl, SqL.of ?_, ?_⟩
            · rw [p2, List.take_of_length_le (by simp), List.map_map]
              rfl
            · have v := q.go p1
              have ev : isW z = ((z.cps.toList.map fun c => (decide (97 ≤ c) && decide (c ≤ 122))).all id) := by
                unfold isW
                rw [decide_eq_true (by omega), decide_eq_true (by omega), List.all_map]
                rfl
              rw [ev] at v
              exact v
        · have c2' : ¬ (z.length : Int) ≤ 12 := fun h => c2 (decide_eq_true h)
          have v := ret_v q
          rw [show isW z = false by unfold isW; rw [decide_eq_false (show ¬ z.cps.size ≤ 12 by omega), Bool.and_false, Bool.false_and]] at v
          exact v
      · have c1' : ¬ (1 : Int) ≤ (z.length : Int) := fun h => c1 (decide_eq_true h)
        have v := ret_v q
        rw [show isW z = false by unfold isW; rw [decide_eq_false (show ¬ 1 ≤ z.cps.size by omega), Bool.false_and, Bool.false_and]] at v
        exact ⟨false, rfl, v⟩
    · rw [t3] at q
      exact ⟨v, rfl, v, .ty "str", .type ty, .type "str", false, rfl, .ty _, t1, kit_ty t2, false, rfl, ret_v q⟩

/-! ### _law_kinds -/
def nine : List Str := ["a", "b", "ab", "ba", "aa", "bab", "abcdefghijkl", "z", "aab"]
theorem nineW : (nine ++ nine).all isW = true := by decide +kernel
theorem nine_cut (j k : Nat) (hj : j < 9) (hk : k < 5) : ∃ zs : List Str, cutV (nine.map V.str ++ nine.map V.str) (some (j : Int)) (some ((j : Int) + 1 + (k : Int))) = zs.map V.str ∧ 1 ≤ zs.length ∧ zs.length ≤ 5 ∧ zs.all isW = true := by
  refine ⟨((nine ++ nine).drop j).take (1 + k), ?_, ?_, ?_, ?_⟩
  · unfold cutV
    rw [show ((j : Int) + 1 + (k : Int)) = ((j + 1 + k : Nat) : Int) by omega, HT.sIx_nat, HT.sIx_nat, ← List.map_append, List.length_map]
    rw [show (nine ++ nine).length = 18 from rfl, show min j 18 = j by omega, show min (j + 1 + k) 18 - j = 1 + k by omega, List.map_take, List.map_drop]
  · rw [List.length_take, List.length_drop, show (nine ++ nine).length = 18 from rfl]
    omega
  · rw [List.length_take, List.length_drop, show (nine ++ nine).length = 18 from rfl]
    omega
  · rw [List.all_eq_true]
    intro x hx
    exact List.all_eq_true.mp nineW x (List.mem_of_mem_drop (List.mem_of_mem_take hx))
/-- a list of one to five words at a -/
def Kn (H : Hp) (a : Addr) (zs : List Str) : Prop := H a = some (.lst (zs.map V.str)) ∧ 1 ≤ zs.length ∧ zs.length ≤ 5 ∧ zs.all isW = true
theorem Kn.ne {H : Hp} {a p : Addr} {zs : List Str} {c : Nat} (h : Kn H a zs) (hp : Pl H p c) : a ≠ p := by
  obtain ⟨g, b, k, h1, _⟩ := hp
  obtain ⟨h2, h3, _⟩ := h
  refine ne_of h2 h1 fun z => ?_
  cases zs with
  | nil => simp at h3
  | cons x r =>
    injection z with z
    rw [List.map_cons] at z
    injection z with z _
    cases z
theorem Kn.fx {H H' : Hp} {a p : Addr} {zs : List Str} {c : Nat} (h : Kn H a zs) (hp : Pl H p c) (f : Fx p H H') : Kn H' a zs := ⟨f a _ (h.ne hp) h.1, h.2⟩
theorem Kn.ex {H H' : Hp} {a : Addr} {zs : List Str} (h : Kn H a zs) (e : Ex H H') : Kn H' a zs := ⟨e _ _ h.1, h.2⟩
def spKinds : Sp := fun vs H Q _ => ∃ (p : Addr) (c : Nat), vs = [.ref p] ∧ Pl H p c ∧ c < 900000 ∧ ∀ (l : Addr) (zs : List Str) (H' : Hp), H l = none → Kn H' l zs → Pl H' p (c + 2) → Fx p H H' → Q (.ref l) H'
set_option maxHeartbeats 8000000 in
theorem ok_l_kinds (T : TX K mg A FD TK CC) : FnOk P w K mg base CX0 2 (A 41) (FD 41) ["_law_pool_here"] spKinds := by
  have G_l_take := ok_l_take (P := P) (w := w) (base := base) T
  refine T.f_l_kinds.ok (k := 1) sc_l_kinds (fun vs H Q E h => ?_) (fun cdv A' outer s H vs Q E hr h => ?_)
  · obtain ⟨p, c, rfl, _⟩ := h
    rfl
  · obtain ⟨p, c, rfl, hp, hc, q⟩ := h
    refine ⟨_, (pss_cons (ps_set (i := 1) sc_l_kinds.nd rfl (.inl rfl) (pe_lst (pa_cons pe_str (pa_cons pe_str (pa_cons pe_str (pa_cons pe_str (pa_cons pe_str (pa_cons pe_str (pa_cons pe_str (pa_cons pe_str (pa_cons pe_str pa_nil)))))))))))
      (pss_cons (ps_set (i := 2) sc_l_kinds.nd rfl (.inl rfl) (pe_call G_l_take hr (by rfl) T.g_l_take T.f_l_take.kp T.b_l_take .nil pass0 (pa_cons (pv 0) (pa_cons pe_int pa_nil))))
      (pss_one (ps_ret (pe_slice (slLK (K := K) rfl) (pe_op op_cat (pv 1) (pv 1)) (po_some (pv 2)) (po_some (pe_op op_add (pe_op op_add (pv 2) pe_int) (pe_call G_l_take hr (by rfl) T.g_l_take T.f_l_take.kp T.b_l_take .nil pass0 (pa_cons (pv 0) (pa_cons pe_int pa_nil)))))))))), ?_⟩
    refine ⟨by show 9 ≤ sizeLine; decide, fun s0 n0 => ?_⟩
    have e1 : Ex H (upd H s0 (.lst (nine.map V.str))) := Ex.new n0
    have hs1 : (upd H s0 (.lst (nine.map V.str))) s0 = some (.lst (nine.map V.str)) := upd_same
    have nsp : s0 ≠ p := by
      obtain ⟨xs, hx⟩ := hp.some
      exact (ne_of_none hx n0).symm
    refine ⟨.ref p, rfl, p, 9, c, rfl, hp.ex e1, by decide, by decide, by omega, fun d H2 d0 d1 hp2 f2 => ?_⟩
    have hs2 : H2 s0 = some (.lst (nine.map V.str)) := f2 _ _ nsp hs1
    refine ⟨.ref s0, rfl, .ref s0, rfl, s0, s0, _, _, rfl, rfl, hs2, hs2, by show 18 ≤ sizeLine; decide, fun r nr => ?_⟩
    have e3 : Ex H2 (upd H2 r (.lst (nine.map V.str ++ nine.map V.str))) := Ex.new nr
    have hr3 : (upd H2 r (.lst (nine.map V.str ++ nine.map V.str))) r = some (.lst (nine.map V.str ++ nine.map V.str)) := upd_same
    have nrp : r ≠ p := by
      obtain ⟨xs, hx⟩ := hp2.some
      exact (ne_of_none hx nr).symm
    refine ⟨.int d, rfl, d, rfl, .int d, rfl, d, 1, rfl, rfl, .ref p, rfl, p, 5, c + 1, rfl, hp2.ex e3, by decide, by decide, by omega, fun k H4 k0 k1 hp4 f4 => ?_⟩
    refine ⟨d + 1, k, rfl, rfl, d + 1 + k, rfl, r, _, rfl, SqL.of (f4 _ _ nrp hr3), fun l nl => ?_⟩
    obtain ⟨j, rfl⟩ := Int.eq_ofNat_of_zero_le d0
    obtain ⟨i, rfl⟩ := Int.eq_ofNat_of_zero_le k0
    obtain ⟨zs, ez, l1, l5, hw⟩ := nine_cut j i (by omega) (by omega)
    have fr : Fx p H H4 := ((Fx.ex e1).trans f2).trans ((Fx.ex e3).trans f4)
    refine q l zs _ (fx_free fr hp4 nl) ⟨?_, l1, l5, hw⟩ (hp4.ex (Ex.new nl)) (fr.trans (Fx.ex (Ex.new nl)))
    rw [upd_same, ez]

/-! ### whole numbers -/
def wholeV : V → Bool
  | .int _ => true
  | _ => false
def within (v : V) (lo hi : Int) : Bool :=
  match v with
  | .int i => decide (lo ≤ i) && decide (i ≤ hi)
  | _ => false
theorem Th.whole (K : PySem.W.Frag) {H : Hp} {v : V} (t : Th H v) : (∃ i, v = .int i) ∨ (∃ b, v = .bl b) ∨ (∃ ty, TyX K H v (.type ty) ∧ kitB ty "int" = some false ∧ wholeV v = false) := by
  cases t with
  | str z h => exact .inr (.inr ⟨_, .base (.str z), by decide +kernel, rfl⟩)
  | non => exact .inr (.inr ⟨_, .base .non, by decide +kernel, rfl⟩)
  | bl b => exact .inr (.inl ⟨b, rfl⟩)
  | int i => exact .inl ⟨i, rfl⟩
  | lst h => exact .inr (.inr ⟨_, .base (.lst h), by decide +kernel, rfl⟩)
  | tup h => exact .inr (.inr ⟨_, .base (.tup h), by decide +kernel, rfl⟩)
def spWhole : Sp := fun vs H Q _ => ∃ v : V, vs = [v] ∧ Th H v ∧ Q (.bl (wholeV v)) H
set_option maxHeartbeats 4000000 in
theorem ok_is_whole (T : TX K mg A FD TK CC) : FnOk P w K mg base CX0 1 (A 22) (FD 22) ["thing"] spWhole := by
  refine T.f_is_whole.ok sc_is_whole (fun vs H Q E h => ?_) (fun cdv A' outer s H vs Q E hr h => ?_)
  · obtain ⟨v, rfl, _⟩ := h
    rfl
  · obtain ⟨v, rfl, ht, q⟩ := h
    refine ⟨_, (pss_one (ps_ret (pe_and (pe_callB (isiK (K := K) rfl) (by rfl) T.m_isinstance (by decide +kernel) (pa_cons (pv 0) (pa_cons (pe_bltn (v := .ty "int") (by rfl) T.m_int (by decide +kernel) rfl) pa_nil))) (pe_one (pe_not (pe_callB (isiK (K := K) rfl) (by rfl) T.m_isinstance (by decide +kernel) (pa_cons (pv 0) (pa_cons (pe_bltn (v := .ty "bool") (by rfl) T.m_bool (by decide +kernel) rfl) pa_nil)))))))), ?_⟩
    rcases ht.whole K with ⟨i, rfl⟩ | ⟨b, rfl⟩ | ⟨ty, t1, t2, t3⟩
    · refine ⟨.int i, rfl, .int i, .ty "int", .type "int", .type "int", true, rfl, .ty _, .base (.int i), kit_ty (by decide +kernel), true, rfl, ?_⟩
      exact ⟨.int i, rfl, .int i, .ty "bool", .type "int", .type "bool", false, rfl, .ty _, .base (.int i), kit_ty (by decide +kernel), false, rfl, q⟩
    · refine ⟨.bl b, rfl, .bl b, .ty "int", .type "bool", .type "int", true, rfl, .ty _, .base (.bl b), kit_ty (by decide +kernel), true, rfl, ?_⟩
      exact ⟨.bl b, rfl, .bl b, .ty "bool", .type "bool", .type "bool", true, rfl, .ty _, .base (.bl b), kit_ty (by decide +kernel), true, rfl, q⟩
    · rw [t3] at q
      exact ⟨v, rfl, v, .ty "int", .type ty, .type "int", false, rfl, .ty _, t1, kit_ty t2, false, rfl, q⟩
set_option maxHeartbeats 4000000 in
theorem ok_l_whole (T : TX K mg A FD TK CC) : FnOk P w K mg base CX0 1 (A 43) (FD 43) ["_law_thing"] spWhole := by
  refine T.f_l_whole.ok sc_l_whole (fun vs H Q E h => ?_) (fun cdv A' outer s H vs Q E hr h => ?_)
  · obtain ⟨v, rfl, _⟩ := h
    rfl
  · obtain ⟨v, rfl, ht, q⟩ := h
    refine ⟨_, (pss_one (ps_ret (pe_and (pe_callB (isiK (K := K) rfl) (by rfl) T.m_isinstance (by decide +kernel) (pa_cons (pv 0) (pa_cons (pe_bltn (v := .ty "int") (by rfl) T.m_int (by decide +kernel) rfl) pa_nil))) (pe_one (pe_not (pe_callB (isiK (K := K) rfl) (by rfl) T.m_isinstance (by decide +kernel) (pa_cons (pv 0) (pa_cons (pe_bltn (v := .ty "bool") (by rfl) T.m_bool (by decide +kernel) rfl) pa_nil)))))))), ?_⟩
    rcases ht.whole K with ⟨i, rfl⟩ | ⟨b, rfl⟩ | ⟨ty, t1, t2, t3⟩
    · refine ⟨.int i, rfl, .int i, .ty "int", .type "int", .type "int", true, rfl, .ty _, .base (.int i), kit_ty (by decide +kernel), true, rfl, ?_⟩
      exact ⟨.int i, rfl, .int i, .ty "bool", .type "int", .type "bool", false, rfl, .ty _, .base (.int i), kit_ty (by decide +kernel), false, rfl, q⟩
    · refine ⟨.bl b, rfl, .bl b, .ty "int", .type "bool", .type "int", true, rfl, .ty _, .base (.bl b), kit_ty (by decide +kernel), true, rfl, ?_⟩
      exact ⟨.bl b, rfl, .bl b, .ty "bool", .type "bool", .type "bool", true, rfl, .ty _, .base (.bl b), kit_ty (by decide +kernel), true, rfl, q⟩
    · rw [t3] at q
      exact ⟨v, rfl, v, .ty "int", .type ty, .type "int", false, rfl, .ty _, t1, kit_ty t2, false, rfl, q⟩
def spWithin : Sp := fun vs H Q _ => ∃ (v : V) (lo hi : Int), vs = [v, .int lo, .int hi] ∧ Th H v ∧ Q (.bl (within v lo hi)) H
set_option maxHeartbeats 4000000 in
theorem ok_is_within (T : TX K mg A FD TK CC) : FnOk P w K mg base CX0 2 (A 23) (FD 23) ["thing", "least", "most"] spWithin := by
  have G_is_whole := ok_is_whole (P := P) (w := w) (base := base) T
  refine T.f_is_within.ok (k := 1) sc_is_within (fun vs H Q E h => ?_) (fun cdv A' outer s H vs Q E hr h => ?_)
  · obtain ⟨v, lo, hi, rfl, _⟩ := h
    rfl
  · obtain ⟨v, lo, hi, rfl, ht, q⟩ := h
    refine ⟨_, (pss_one (ps_ret (pe_and (pe_call G_is_whole hr (by rfl) T.g_is_whole T.f_is_whole.kp T.b_is_whole .nil pass0 (pa_cons (pv 0) pa_nil)) (pe_one (pe_chain op_le op_le (pv 1) (pv 0) (pv 2)))))), ?_⟩
    refine ⟨v, rfl, v, rfl, ht, ?_⟩
    cases v with
    | int i =>
      have q : Q (.bl (decide (lo ≤ i) && decide (i ≤ hi))) H := q
      refine ⟨true, rfl, .int lo, rfl, .int i, rfl, lo, i, rfl, rfl, _, rfl, ite2 (fun c => ?_) (fun c => ?_)⟩
      · rw [c, Bool.true_and] at q
        exact ⟨.int hi, rfl, i, hi, rfl, rfl, q⟩
      · rw [Bool.eq_false_iff.mpr c, Bool.false_and] at q
        exact q
    | _ => exact ⟨false, rfl, q⟩

/-! ### Page(number, text) -/
def numOk (v : V) : Bool := within v 1 9999
def textOk : V → Bool
  | .str z => okP (piecesOf z)
  | _ => false
/-- all but x stays -/
def ExI (x : Addr) (H H' : Hp) : Prop := ∀ b o, b ≠ x → H b = some o → H' b = some o
theorem th_ins {H : Hp} {x C dx : Addr} {fs : List (Str × V)} {o : HO} {v : V} (h : H x = some (.ins C dx fs)) (t : Th H v) : Th (upd H x o) v := by
  cases t with
  | str z h => exact .str z h
  | non => exact .non
  | bl b => exact .bl b
  | int i => exact .int i
  | lst h' => exact .lst (by rw [upd_ne (ne_of h' h (by intro z; cases z))]; exact h')
  | tup h' => exact .tup (by rw [upd_ne (ne_of h' h (by intro z; cases z))]; exact h')
def spInit (C N X : Addr) : Sp := fun vs H Q E => ∃ (x dx : Addr) (n t : V), vs = [.ref x, n, t] ∧ H x = some (.ins C dx []) ∧ Th H n ∧ Th H t ∧ (∀ z, t = .str z → z.length ≤ 20000) ∧
  (numOk n = false → ∀ H', ExI x H H' → E (.ref N) none H') ∧ (numOk n = true → textOk t = false → ∀ H', ExI x H H' → E (.ref X) none H') ∧ (numOk n = true → textOk t = true → ∀ H', ExI x H H' → Q .non H')
def spCheckN (N : Addr) : Sp := fun vs H Q E => ∃ n : V, vs = [n] ∧ Th H n ∧ (numOk n = false → E (.ref N) none H) ∧ (numOk n = true → Q .non H)
set_option maxHeartbeats 4000000 in
theorem ok_check_page_number (T : TX K mg A FD TK CC) : FnOk P w K mg base (L2.CX P w) 3 (A 35) (FD 35) ["number"] (spCheckN (A 5)) := by
  have G_is_within := ok_is_within (P := P) (w := w) (base := base) T
  refine T.f_check_page_number.okX sc_check_page_number (fun vs H Q E h => ?_) (fun cdv A' outer s H vs Q E hr h => ?_)
  · obtain ⟨n, rfl, _⟩ := h
    rfl
  · obtain ⟨n, rfl, hn, q1, q2⟩ := h
    refine ⟨_, (pss_one (ps_if (pt_not (pt_val (pe_call G_is_within hr (by rfl) T.g_is_within T.f_is_within.kp T.b_is_within .nil pass0 (pa_cons (pv 0) (pa_cons pe_int (pa_cons (pe_glob (v := .int 9999) (by rfl) T.c_MOST_NUMBER ⟨_, rfl⟩) pa_nil))))))
      (pss_one (ps_raise rfl (takes_of rfl rfl rfl rfl) (pmk_own PySem.F.excBase_ValueError T.x_NoNumber T.k_NoNumber T.kc_NoNumber (raises_own T.br_NoNumber T.ty_NoNumber) rfl)))
      pss_nil)), ?_⟩
    refine ⟨n, rfl, n, 1, 9999, rfl, hn, _, rfl, ?_⟩
    cases hb : within n 1 9999 with
    | false => exact q1 hb
    | true => exact q2 hb
set_option maxHeartbeats 4000000 in
theorem ok_init (T : TX K mg A FD TK CC) : FnOk P w K mg base (L2.CX P w) 6 (A 50) (FD 50) ["self", "number", "text"] (spInit (A 34) (A 5) (A 4)) := by
  have G_check_page_number := (ok_check_page_number (P := P) (w := w) (base := base) T).mono (show 3 ≤ 5 by decide)
  have G_words_of := (ok_words_of (P := P) (w := w) (base := base) T).mono (show 4 ≤ 5 by decide)
  refine T.f_Page_init.ok (k := 5) sc_Page_init (fun vs H Q E h => ?_) (fun cdv A' outer s H vs Q E hr h => ?_)
  · obtain ⟨x, dx, n, t, rfl, _⟩ := h
    rfl
  · obtain ⟨x, dx, n, t, rfl, hx, hn, ht, hl, q1, q2, q3⟩ := h
    refine ⟨_, (pss_cons (ps_expr (pe_call G_check_page_number hr (by rfl) T.g_check_page_number T.f_check_page_number.kp T.b_check_page_number .nil (passes_call (takes_of rfl rfl rfl rfl) (fun _ _ _ _ h => h)) (pa_cons (pv 1) pa_nil)))
      (pss_cons (ps_fld (pv 0) (pv 1) rfl)
      (pss_one (ps_fld (pv 0) (pe_callTy (tupK (K := K) rfl) (by rfl) T.m_tuple (by decide +kernel) (pa_cons (pe_call G_words_of hr (by rfl) T.g_words_of T.f_words_of.kp T.b_words_of .nil (passes_call (takes_of rfl rfl rfl rfl) (fun _ _ _ _ h => h)) (pa_cons (pv 2) pa_nil)) pa_nil)) rfl)))), ?_⟩
    have i0 : ExI x H H := fun b o _ h => h
    refine ⟨n, rfl, n, rfl, hn, fun hb => q1 hb H i0, fun hb => ?_⟩
    · skip
      refine ⟨n, rfl, .ref x, rfl, x, A 34, dx, [], rfl, hx, T.cl_Page, T.n_Page_number, (by show 0 < 1000; decide), ?_⟩
      have i1 : ExI x H (upd H x (.ins (A 34) dx (putF "number" n []))) := fun b o nb h => by rw [upd_ne nb]; exact h
      have hx1 : (upd H x (.ins (A 34) dx (putF "number" n []))) x = some (.ins (A 34) dx (putF "number" n [])) := upd_same
      have ht1 : Th (upd H x (.ins (A 34) dx (putF "number" n []))) t := th_ins hx ht
      generalize (upd H x (.ins (A 34) dx (putF "number" n []))) = H1 at i1 hx1 ht1 ⊢
      have i2 : ∀ H2, Ex H1 H2 → ExI x H H2 := fun H2 e b o nb h => e _ _ (i1 b o nb h)
      refine ⟨t, rfl, t, rfl, ht1, fun z ez => ?_, fun hn => ?_⟩
      · subst ez
        refine ⟨hl z rfl, fun ho p H2 np e2 hp => ?_, fun ho => ?_⟩
        · refine ⟨p, _, rfl, .inl ⟨SqL.of hp, fun tt ntt => ?_⟩⟩
          have e3 := Ex.new (o := .tup ((piecesOf z).map V.str)) ntt
          refine ⟨.ref x, rfl, x, A 34, dx, _, rfl, e3 _ _ (e2 _ _ hx1), T.cl_Page, T.n_Page_in_turn, (by show 1 < 1000; decide), q3 hb ho _ fun b o nb h => ?_⟩
          rw [upd_ne nb]
          exact e3 _ _ (i2 H2 e2 b o nb h)
        · exact fun H2 e2 => q2 hb ho H2 (i2 H2 e2)
      · refine fun H2 e2 => q2 hb ?_ H2 (i2 H2 e2)
        cases t with
        | str z => exact absurd rfl (hn z)
        | _ => rfl

/-! ### _law_words, of any most -/
theorem pool_ne {H : Hp} {p a : Addr} {c : Nat} (h : Pl H p c) (n : H a = none) : a ≠ p := by
  obtain ⟨xs, hx⟩ := h.some
  exact (ne_of_none hx n).symm
theorem pl_upd {H : Hp} {p a : Addr} {c : Nat} {o : HO} (h : Pl H p c) (n : a ≠ p) : Pl (upd H a o) p c := by
  obtain ⟨g, b, k, x1, x2⟩ := h
  exact ⟨g, b, k, by rw [upd_ne n.symm]; exact x1, x2⟩
theorem at_word {zs : List Str} {d : Int} (h0 : 0 ≤ d) (h1 : d < (zs.length : Int)) (hw : zs.all isW = true) : ∃ z : Str, atI (zs.map V.str) d = some (.str z) ∧ isW z = true := by
  obtain ⟨j, rfl⟩ := Int.eq_ofNat_of_zero_le h0
  have hj : j < zs.length := by omega
  refine ⟨zs[j], atI_nat ?_, List.all_eq_true.mp hw _ (List.getElem_mem hj)⟩
  rw [List.getElem?_map, List.getElem?_eq_getElem hj]
  rfl
def spWordsK : Sp := fun vs H Q _ => ∃ (p kk : Addr) (zs : List Str) (c m : Nat), vs = [.ref p, .ref kk, .int (m : Int)] ∧ m ≤ 100 ∧ Pl H p c ∧ Kn H kk zs ∧ c < 900000 ∧ ∀ (l : Addr) (ys : List Str) (H' : Hp), l ≠ p → H l = none → H' l = some (.lst (ys.map V.str)) → ys.length ≤ m → ys.all isW = true → Pl H' p (c + 1 + m) → Fx p H H' → Q (.ref l) H'
set_option maxHeartbeats 8000000 in
theorem ok_l_words (T : TX K mg A FD TK CC) : FnOk P w K mg base CX0 2 (A 42) (FD 42) ["_law_pool_here", "_law_kinds_here", "_law_most"] spWordsK := by
  have G_l_take := ok_l_take (P := P) (w := w) (base := base) T
  refine T.f_l_words.ok (k := 1) sc_l_words (fun vs H Q E h => ?_) (fun cdv A' outer s H vs Q E hr h => ?_)
  · obtain ⟨p, kk, zs, c, m, rfl, _⟩ := h
    rfl
  · obtain ⟨p, kk, zs, c, m, rfl, hm, hp, hk, hc, q⟩ := h
    refine ⟨_, (pss_one (ps_ret (pe_lc (own := [("_law_k", 3)])  rfl sc_l_words.nd (pi_range1 (by rfl) T.m_range (pa_cons (pe_call G_l_take hr (by rfl) T.g_l_take T.f_l_take.kp T.b_l_take .nil pass0 (pa_cons (pv 0) (pa_cons (pe_op op_add (pv 2) pe_int) pa_nil))) pa_nil)) (blkOk_by (own := [("_law_k", 3)]) (N := N_l_words) (sc := defScope (topS 42)) (by decide +kernel)) (fun _ _ _ _ _ => (pg_name (i := 3) sc_l_words.nd rfl (Or.inl rfl))) (fun _ _ _ _ _ => pts_nil) (fun _ _ _ _ _ => (pe_ix (ixLK (K := K) rfl) (pv 1) (pe_call G_l_take hr (by rfl) T.g_l_take T.f_l_take.kp T.b_l_take .nil pass0 (pa_cons (pv 0) (pa_cons (pe_callB (lenK (K := K) rfl) (by rfl) T.m_len (by decide +kernel) (pa_cons (pv 1) pa_nil)) pa_nil))) (fun _ _ => rfl)))))), ?_⟩
    refine ⟨.ref p, rfl, .int (m : Int), rfl, (m : Int), 1, rfl, rfl, p, (m : Int) + 1, c, rfl, hp, by omega, by omega, by omega, fun n H2 n0 n1 hp2 f2 => ?_⟩
    refine ⟨n, rfl, by omega, by omega, fun D nD => ?_⟩
    have nDp := pool_ne hp2 nD
    have hk2 := hk.fx hp f2
    have nDk : D ≠ kk := (ne_of_none hk2.1 nD).symm
    refine lc_range (lo := 0) (n := n.toNat) (fun i H' => ∃ ys : List Str, ys.length = i ∧ ys.all isW = true ∧ H' D = some (.lst (ys.map V.str)) ∧ Pl H' p (c + 1 + i) ∧ Fx p H2 H') ⟨[], rfl, rfl, upd_same, hp2.ex (Ex.new nD), Fx.ex (Ex.new nD)⟩ (fun i H3 hi pv => ?_) (fun H3 pv => ?_)
    · obtain ⟨ys, yl, y1, hD, hp3, f3⟩ := pv
      have hk3 := hk2.fx hp2 f3
      refine ⟨rfl, .ref kk, rfl, .ref p, rfl, .ref kk, rfl, kk, _, rfl, .inl (SqL.of hk3.1), p, ((zs.map V.str).length : Int), c + 1 + i, rfl, hp3, ?_, ?_, by omega, fun e H4 e0 e1 hp4 f4 => ?_⟩
      · rw [List.length_map]
        have := hk3.2.1
        omega
      · rw [List.length_map]
        have := hk3.2.2.1
        omega
      rw [List.length_map] at e1
      have hk4 := hk3.fx hp3 f4
      obtain ⟨z, az, wz⟩ := at_word e0 e1 hk3.2.2.2
      refine ⟨kk, _, e, .str z, rfl, rfl, SqL.of hk4.1, az, _, f4 _ _ nDp hD, ?_, ys ++ [z], ?_, ?_, ?_, ?_, ?_⟩
      · rw [List.length_map]
        exact sz_lt (by omega)
      · rw [List.length_append, yl]
        rfl
      · rw [List.all_append, y1, List.all_cons, wz]
        rfl
      · rw [upd_same, List.map_append]
        rfl
      · exact pl_upd hp4 nDp
      · intro x o nx hx
        rw [upd_ne (ne_of_none hx nD)]
        exact f4 _ _ nx (f3 _ _ nx hx)
    · obtain ⟨ys, yl, y1, hD, hp3, f3⟩ := pv
      exact q D ys H3 nDp (fx_free f2 hp2 nD) hD (by omega) y1 (hp3.mono (by omega)) (f2.trans f3)

/-! ### the drawn numbers and texts -/
theorem rep_len (k : Nat) (a : Array Nat) : ∀ acc : Array Nat, ((List.replicate k a).foldl (· ++ ·) acc).size = acc.size + k * a.size := by
  induction k with
  | zero => intro acc; simp
  | succ k ih =>
    intro acc
    rw [List.replicate_succ, List.foldl_cons, ih, Array.size_append, Nat.add_mul, Nat.one_mul]
    omega
theorem op_rep_str {X : Cx} : OpR X (binaryOp .Mult) (fun x y H Q => ∃ z n, x = .str z ∧ y = .int n ∧ 2 ≤ n ∧ n ≤ 300 ∧ 1 ≤ z.length ∧ z.length ≤ 300 ∧ Q (.str ⟨(List.replicate n.toNat z.cps).foldl (· ++ ·) #[]⟩) H) := by
  intro pins s σ H x y v u Q I rx ry h
  obtain ⟨z, n, rfl, rfl, h1, h2, h3, h4, q⟩ := h
  obtain ⟨t, rfl⟩ := rx
  obtain ⟨t', rfl⟩ := ry
  have hb : z.length * n.toNat ≤ 300 * 300 := Nat.mul_le_mul h4 (by omega)
  refine PySem.P.mul_str ?_ (fun _ _ => ?_) (fun _ _ => ?_) ?_
  · rw [decide_eq_false (by omega), decide_eq_false (by omega)]
    rfl
  · have : (1000 : Int) ≤ (2 ^ 63 - 1) / n := by
      rw [Int.le_ediv_iff_mul_le (by omega)]
      omega
    omega
  · exact PyProof.Rows.short24 (by omega)
  · rw [if_neg (by omega), if_neg (by simp; omega)]
    refine ⟨?_, .str _, H, I.tok _, ⟨_, rfl⟩, q⟩
    show ((List.replicate n.toNat z.cps).foldl (· ++ ·) #[]).size ≤ sizeLine
    rw [rep_len, Nat.mul_comm]
    exact sz (show 0 + z.length * n.toNat ≤ 100000 by omega)
theorem th_fx2 {p : Addr} {H H' : Hp} {v : V} {c c' : Nat} (t : Th H v) (f : Fx p H H') (hp : Pl H p c) (hp' : Pl H' p c') : Th H' v := by
  cases t with
  | str z h => exact .str z h
  | non => exact .non
  | bl b => exact .bl b
  | int i => exact .int i
  | @lst a zs h' =>
    by_cases e : a = p
    · subst e
      obtain ⟨ws, hw⟩ := hp'.some
      exact .lst hw
    · exact .lst (f _ _ e h')
  | @tup a zs h' => exact .tup (f.tup hp h')
def spNumber : Sp := fun vs H Q _ => ∃ (p : Addr) (c : Nat), vs = [.ref p] ∧ Pl H p c ∧ c < 900000 ∧ ∀ (v : V) (H' : Hp), Th H' v → Pl H' p (c + 2) → Fx p H H' → Q v H'
set_option maxHeartbeats 8000000 in
theorem ok_l_number (T : TX K mg A FD TK CC) : FnOk P w K mg base CX0 2 (A 46) (FD 46) ["_law_pool_here"] spNumber := by
  have G_l_take := ok_l_take (P := P) (w := w) (base := base) T
  refine T.f_l_number.ok (k := 1) sc_l_number (fun vs H Q E h => ?_) (fun cdv A' outer s H vs Q E hr h => ?_)
  · obtain ⟨p, c, rfl, _⟩ := h
    rfl
  · obtain ⟨p, c, rfl, hp, hc, q⟩ := h
    refine ⟨_, (pss_cons (ps_set (i := 1) sc_l_number.nd rfl (.inl rfl) (pe_lst (pa_cons pe_int (pa_cons pe_int (pa_cons pe_int (pa_cons pe_int (pa_cons (pe_un un_neg pe_int) (pa_cons pe_bl (pa_cons pe_bl (pa_cons pe_non (pa_cons pe_str (pa_cons (pe_tup (pa_cons pe_int pa_nil)) (pa_cons (pe_lst (pa_cons pe_int pa_nil)) (pa_cons (pe_op op_pow pe_int pe_int) (pa_cons (pe_un un_neg (pe_op op_pow pe_int pe_int)) pa_nil)))))))))))))))
      (pss_cons (ps_if (pt_cmpR op_eq (pe_call G_l_take hr (by rfl) T.g_l_take T.f_l_take.kp T.b_l_take .nil pass0 (pa_cons (pv 0) (pa_cons pe_int pa_nil))) pe_int (nomark _))
      (pss_one (ps_ret (pe_op op_sub (pe_call G_l_take hr (by rfl) T.g_l_take T.f_l_take.kp T.b_l_take .nil pass0 (pa_cons (pv 0) (pa_cons pe_int pa_nil))) pe_int)))
      pss_nil)
      (pss_one (ps_ret (pe_ix (ixLK (K := K) rfl) (pv 1) (pe_call G_l_take hr (by rfl) T.g_l_take T.f_l_take.kp T.b_l_take .nil pass0 (pa_cons (pv 0) (pa_cons pe_int pa_nil))) (fun _ _ => rfl)))))), ?_⟩
    refine ⟨1, rfl, by show 1 ≤ sizeLine; decide, fun t1 nt1 => ⟨by show 1 ≤ sizeLine; decide, fun l1 nl1 => ⟨10, 40, rfl, rfl, ⟨by decide, by decide, by decide⟩, 10, 30, rfl, rfl, ⟨by decide, by decide, by decide⟩, _, rfl, by show 13 ≤ sizeLine; decide, fun l nl => ?_⟩⟩⟩
    have z1 := Ex.new (o := .tup [.int 3]) nt1
    have z2 := Ex.new (o := .lst [.int 3]) nl1
    have nt := pool_ne hp nt1
    have nl1' := pool_ne (hp.ex z1) nl1
    have nl' := pool_ne (hp.ex (z1.trans z2)) nl
    refine ⟨.ref p, rfl, p, 2, c, rfl, (hp.ex (z1.trans z2)).ex (Ex.new nl), by decide, by decide, by omega, fun d H2 d0 d1 hp2 f2 => ⟨rfl, _, rfl, ite2 (fun h => ?_) (fun h => ?_)⟩⟩
    · refine ⟨.ref p, rfl, p, 10005, c + 1, rfl, hp2, by decide, by decide, by omega, fun e H3 e0 e1 hp3 f3 => ⟨e, 2, rfl, rfl, q _ _ (.int _) hp3 ?_⟩⟩
      exact ((Fx.ex ((z1.trans z2).trans (Ex.new nl))).trans f2).trans f3
    · refine ⟨.ref l, rfl, .ref p, rfl, p, 13, c + 1, rfl, hp2, by decide, by decide, by omega, fun e H3 e0 e1 hp3 f3 => ?_⟩
      obtain ⟨j, rfl⟩ := Int.eq_ofNat_of_zero_le e0
      have F3 : Fx p H H3 := ((Fx.ex ((z1.trans z2).trans (Ex.new nl))).trans f2).trans f3
      have k_t := f3 _ _ nt (f2 _ _ nt (Ex.new nl _ _ (z2 _ _ (upd_same (H := H) (a := t1) (o := .tup [.int 3])))))
      have k_l := f3 _ _ nl1' (f2 _ _ nl1' (Ex.new nl _ _ (upd_same (H := upd H t1 (.tup [.int 3])) (a := l1) (o := .lst [.int 3]))))
      have hl := f3 _ _ nl' (f2 _ _ nl' (upd_same (a := l)))
      have hj : j < 13 := by omega
      have pick : ∀ (xs : List V), H3 l = some (.lst xs) → xs.length = 13 → (∀ x ∈ xs, Th H3 x) → ∃ v, atI xs (j : Int) = some v ∧ Th H3 v := fun xs _ hx ha => by
        have hj' : j < xs.length := by omega
        exact ⟨xs[j], atI_nat (List.getElem?_eq_getElem hj'), ha _ (List.getElem_mem hj')⟩
      obtain ⟨v, av, tv⟩ := pick _ hl rfl (fun x hx => by
        simp only [List.mem_cons, List.not_mem_nil, or_false] at hx
        rcases hx with rfl | rfl | rfl | rfl | rfl | rfl | rfl | rfl | rfl | rfl | rfl | rfl | rfl
        · exact .int _
        · exact .int _
        · exact .int _
        · exact .int _
        · exact .int _
        · exact .bl _
        · exact .bl _
        · exact .non
        · exact .str _ (by decide +kernel)
        · exact .tup k_t
        · exact .lst k_l
        · exact .int _
        · exact .int _)
      exact ⟨l, _, j, v, rfl, rfl, SqL.of hl, av, q v H3 tv hp3 F3⟩
def spText : Sp := fun vs H Q _ => ∃ (p : Addr) (z : Str) (c : Nat), vs = [.ref p, .str z] ∧ Pl H p c ∧ c < 900000 ∧ z.length ≤ 2000 ∧ ∀ (v : V) (H' : Hp), Th H' v → (∀ y, v = .str y → y.length ≤ 20000) → Pl H' p (c + 3) → Fx p H H' → Q v H'
theorem seven_at (d : Int) (h0 : 0 ≤ d) (h : d < 7) : ∃ c, atI (Str.ofString " aA-1_{").cps.toList d = some c := by
  obtain ⟨j, rfl⟩ := Int.eq_ofNat_of_zero_le h0
  have hj : j < (Str.ofString " aA-1_{").cps.toList.length := by
    rw [show (Str.ofString " aA-1_{").cps.toList.length = 7 by decide +kernel]
    omega
  exact ⟨_, atI_nat (List.getElem?_eq_getElem hj)⟩
set_option maxHeartbeats 8000000 in
theorem ok_l_text (T : TX K mg A FD TK CC) : FnOk P w K mg base CX0 2 (A 47) (FD 47) ["_law_pool_here", "_law_told_text"] spText := by
  have G_l_take := ok_l_take (P := P) (w := w) (base := base) T
  refine T.f_l_text.ok (k := 1) sc_l_text (fun vs H Q E h => ?_) (fun cdv A' outer s H vs Q E hr h => ?_)
  · obtain ⟨p, z, c, rfl, _⟩ := h
    rfl
  · obtain ⟨p, z, c, rfl, hp, hc, hz, q⟩ := h
    refine ⟨_, (pss_cons (ps_set (i := 2) sc_l_text.nd rfl (.inl rfl) (pe_call G_l_take hr (by rfl) T.g_l_take T.f_l_take.kp T.b_l_take .nil pass0 (pa_cons (pv 0) (pa_cons pe_int pa_nil))))
      (pss_cons (ps_set (i := 3) sc_l_text.nd rfl (.inl rfl) (pe_call G_l_take hr (by rfl) T.g_l_take T.f_l_take.kp T.b_l_take .nil pass0 (pa_cons (pv 0) (pa_cons (pe_op op_add (pe_callB call_len_str (by rfl) T.m_len (by decide +kernel) (pa_cons (pv 1) pa_nil)) pe_int) pa_nil))))
      (pss_cons (ps_if (pt_cmpR op_eq (pv 2) pe_int (nomark _))
      (pss_one (ps_ret (pe_op op_add_str (pe_op op_add_str (pe_slice sl_str (pv 1) po_none (po_some (pv 3))) (pe_ix ix_str pe_str (pe_call G_l_take hr (by rfl) T.g_l_take T.f_l_take.kp T.b_l_take .nil pass0 (pa_cons (pv 0) (pa_cons pe_int pa_nil))) (fun _ _ => rfl))) (pe_slice sl_str (pv 1) (po_some (pv 3)) po_none))))
      pss_nil)
      (pss_cons (ps_if (pt_cmpR op_eq (pv 2) pe_int (nomark _))
      (pss_one (ps_ret (pe_op op_add_str (pe_slice sl_str (pv 1) po_none (po_some (pv 3))) (pe_slice sl_str (pv 1) (po_some (pe_op op_add (pv 3) pe_int)) po_none))))
      pss_nil)
      (pss_cons (ps_if (pt_cmpR op_eq (pv 2) pe_int (nomark _))
      (pss_cons (ps_set (i := 4) sc_l_text.nd rfl (.inl rfl) (pe_lst (pa_cons pe_non (pa_cons pe_int (pa_cons pe_bl (pa_cons (pe_lst (pa_cons (pv 1) pa_nil)) (pa_cons (pe_tup (pa_cons (pv 1) pa_nil)) (pa_cons (pe_split (pv 1) pe_str) (pa_cons (pe_op op_add_str (pe_op op_rep_str pe_str pe_int) pe_str) (pa_cons (pe_op op_add_str (pe_op op_rep_str pe_str pe_int) pe_str) pa_nil))))))))))
      (pss_one (ps_ret (pe_ix (ixLK (K := K) rfl) (pv 4) (pe_call G_l_take hr (by rfl) T.g_l_take T.f_l_take.kp T.b_l_take .nil pass0 (pa_cons (pv 0) (pa_cons pe_int pa_nil))) (fun _ _ => rfl)))))
      pss_nil)
      (pss_one (ps_ret (pv 1)))))))), ?_⟩
    refine ⟨.ref p, rfl, p, 8, c, rfl, hp, by decide, by decide, by omega, fun d H2 d0 d1 hp2 f2 => ?_⟩
    refine ⟨.ref p, rfl, .str z, rfl, z, rfl, sz (by omega), _, 1, rfl, rfl, p, (z.length : Int) + 1, c + 1, rfl, hp2, by omega, by omega, by omega, fun e H3 e0 e1 hp3 f3 => ?_⟩
    have cl := fun lo hi => cutS_length z lo hi
    refine ⟨.int d, rfl, rfl, _, rfl, ite2 (fun h => ?_) (fun h => ?_)⟩
    · have c1 := cl none (some e)
      have c2 := cl (some e) none
      refine ⟨.str z, rfl, .int e, rfl, e, rfl, z, rfl, sz (by omega), .ref p, rfl, p, 7, c + 1 + 1, rfl, hp3, by decide, by decide, by omega, fun g H4 g0 g1 hp4 f4 => ?_⟩
      obtain ⟨cc, ac⟩ := seven_at g g0 g1
      have l1 : (⟨#[cc]⟩ : Str).length = 1 := rfl
      refine ⟨_, g, cc, rfl, rfl, sz (by decide +kernel), ac, _, _, rfl, rfl, sz (by omega), .str z, rfl, .int e, rfl, e, rfl, z, rfl, sz (by omega), _, _, rfl, rfl, ?_, q _ _ (.str _ ?_) (fun y ey => ?_) hp4 ((f2.trans f3).trans f4)⟩
      · rw [Str.length_append]
        exact sz (by omega)
      · rw [Str.length_append, Str.length_append]
        omega
      · cases ey
        rw [Str.length_append, Str.length_append]
        omega
    · refine ⟨.int d, rfl, rfl, _, rfl, ite2 (fun h => ?_) (fun h => ?_)⟩
      · have c1 := cl none (some e)
        have c2 := cl (some (e + 1)) none
        refine ⟨.str z, rfl, .int e, rfl, e, rfl, z, rfl, sz (by omega), .str z, rfl, .int e, rfl, e, 1, rfl, rfl, _, rfl, z, rfl, sz (by omega), _, _, rfl, rfl, sz (by omega), q _ _ (.str _ ?_) (fun y ey => ?_) (hp3.mono (by omega)) (f2.trans f3)⟩
        · rw [Str.length_append]
          omega
        · cases ey
          rw [Str.length_append]
          omega
      · refine ⟨.int d, rfl, rfl, _, rfl, ite2 (fun h => ?_) (fun h => ?_)⟩
        · refine ⟨.str z, rfl, by show 1 ≤ sizeLine; decide, fun l1 nl1 => ⟨.str z, rfl, by show 1 ≤ sizeLine; decide, fun t1 nt1 => ⟨.str z, rfl, ⟨_, rfl⟩, z, " ", rfl, rfl, by decide +kernel, sz (by omega), fun sp nsp => ?_⟩⟩⟩
          refine ⟨_, 120, rfl, rfl, by decide, by decide, by decide +kernel, by decide +kernel, _, _, rfl, rfl, sz (by decide +kernel), ?_⟩
          refine ⟨_, 119, rfl, rfl, by decide, by decide, by decide +kernel, by decide +kernel, _, _, rfl, rfl, sz (by decide +kernel), ?_⟩
          refine ⟨by show 8 ≤ sizeLine; decide, fun l nl => ?_⟩
          have z1 := Ex.new (o := .lst [.str z]) nl1
          have z2 := Ex.new (o := .tup [.str z]) nt1
          have z3 := Ex.new (o := .lst ((Txt.split z " ").map V.str)) nsp
          have k1 := z3 _ _ (z2 _ _ (upd_same (H := H3) (a := l1) (o := .lst [.str z])))
          have k2 := z3 _ _ (upd_same (a := t1) (o := .tup [.str z]))
          have k3 := upd_same (H := upd (upd H3 l1 (.lst [.str z])) t1 (.tup [.str z])) (a := sp) (o := .lst ((Txt.split z " ").map V.str))
          have zz := (z1.trans z2).trans z3
          have nlp := pool_ne (((hp3.ex z1).ex z2).ex z3) nl
          refine ⟨.ref l, rfl, .ref p, rfl, p, 8, c + 1 + 1, rfl, (hp3.ex zz).ex (Ex.new nl), by decide, by decide, by omega, fun g H4 g0 g1 hp4 f4 => ?_⟩
          obtain ⟨j, rfl⟩ := Int.eq_ofNat_of_zero_le g0
          have hl := f4 _ _ nlp (upd_same (a := l))
          have pick : ∀ (xs : List V), H4 l = some (.lst xs) → xs.length = 8 → (∀ x ∈ xs, Th H4 x ∧ ∀ y, x = .str y → y.length ≤ 20000) → ∃ v, atI xs (j : Int) = some v ∧ (Th H4 v ∧ ∀ y, v = .str y → y.length ≤ 20000) := fun xs _ hx ha => by
            have hj' : j < xs.length := by omega
            exact ⟨xs[j], atI_nat (List.getElem?_eq_getElem hj'), ha _ (List.getElem_mem hj')⟩
          have up : ∀ {v : V}, Th _ v → Th H4 v := fun t => th_fx2 (t.ex (Ex.new nl)) f4 ((hp3.ex zz).ex (Ex.new nl)) hp4
          obtain ⟨v, av, tv, lv⟩ := pick _ hl rfl (fun x hx => by
            simp only [List.mem_cons, List.not_mem_nil, or_false] at hx
            rcases hx with rfl | rfl | rfl | rfl | rfl | rfl | rfl | rfl
            · exact ⟨.non, fun y e => by cases e⟩
            · exact ⟨.int _, fun y e => by cases e⟩
            · exact ⟨.bl _, fun y e => by cases e⟩
            · exact ⟨up (.lst k1), fun y e => by cases e⟩
            · exact ⟨up (.tup k2), fun y e => by cases e⟩
            · exact ⟨up (.lst k3), fun y e => by cases e⟩
            · exact ⟨.str _ (by decide +kernel), fun y e => by cases e; decide +kernel⟩
            · exact ⟨.str _ (by decide +kernel), fun y e => by cases e; decide +kernel⟩)
          exact ⟨l, _, j, v, rfl, rfl, SqL.of hl, av, q v H4 tv lv hp4 ((f2.trans f3).trans ((Fx.ex (zz.trans (Ex.new nl))).trans f4))⟩
        · exact ⟨.str z, rfl, q _ _ (.str z (by omega)) (fun y ey => by cases ey; omega) (hp3.mono (by omega)) (f2.trans f3)⟩

/-! ### _law_due -/
def dueS (m t : V) : Str := if numOk m = true then (if textOk t = true then "told" else "text") else "number"
def spDue : Sp := fun vs H Q _ => ∃ m t : V, vs = [m, t] ∧ Th H m ∧ Th H t ∧ (∀ z, t = .str z → z.length ≤ 20000) ∧ RetV (.str (dueS m t)) H Q
theorem empty_iff (z : Str) : decide (V.str z = V.str "") = decide (z.length = 0) := by
  by_cases h : z.length = 0
  · rw [decide_eq_true h]
    refine decide_eq_true ?_
    have : z = "" := ext_tl (by
      have e : (tl z).length = 0 := by rw [tl_len]; exact h
      rw [List.length_eq_zero_iff.mp e]
      rfl)
    rw [this]
  · rw [decide_eq_false h]
    refine decide_eq_false fun e => h ?_
    rw [V.str.inj e]
    decide +kernel
theorem if_cut {tt : TT} {R y b : TS} {Ds : Ends} {σ : L2.St} {H : Hp} {C : Hp → Prop} (use : (∀ H', C H' → R { Ds with nx := b Ds } σ H') → tSeq (tIfS tt R y) b Ds σ H) (key : ∀ H', C H' → R { Ds with nx := b Ds } σ H') : tSeq (tIfS tt R y) b Ds σ H := use key
set_option maxHeartbeats 8000000 in
theorem ok_l_due (T : TX K mg A FD TK CC) : FnOk P w K mg base CX0 3 (A 48) (FD 48) ["_law_mark", "_law_told_text"] spDue := by
  have G_l_whole := (ok_l_whole (P := P) (w := w) (base := base) T).mono (show 1 ≤ 2 by decide)
  have G_l_is_word := ok_l_is_word (P := P) (w := w) (base := base) T
  refine T.f_l_due.ok (k := 2) sc_l_due (fun vs H Q E h => ?_) (fun cdv A' outer s H vs Q E hr h => ?_)
  · obtain ⟨m, t, rfl, _⟩ := h
    rfl
  · obtain ⟨m, t, rfl, hm, ht, hl, q⟩ := h
    refine ⟨_, (pss_cons (ps_if (PW.pt (pw_or (pt_not (pt_val (pe_call G_l_whole hr (by rfl) T.g_l_whole T.f_l_whole.kp T.b_l_whole .nil pass0 (pa_cons (pv 0) pa_nil)))) (pw_or1 (pt_not (pt_chain op_le op_le pe_int (pv 0) pe_int)))))
      (pss_one (ps_ret pe_str))
      pss_nil)
      (pss_cons (ps_if (pt_not (pt_val (pe_callB (isiK (K := K) rfl) (by rfl) T.m_isinstance (by decide +kernel) (pa_cons (pv 1) (pa_cons (pe_bltn (v := .ty "str") (by rfl) T.m_str (by decide +kernel) rfl) pa_nil)))))
      (pss_one (ps_ret pe_str))
      pss_nil)
      (pss_cons (ps_set (i := 2) sc_l_due.nd rfl (.inl rfl) (pe_split (pv 1) pe_str))
      (pss_cons (ps_if (PW.pt (pw_and (pt_cmpR op_ne (pv 1) pe_str (nomark _)) (pw_and1 (PW.pt (pw_or (pt_cmpR op_gt (pe_callB (lenK (K := K) rfl) (by rfl) T.m_len (by decide +kernel) (pa_cons (pv 2) pa_nil)) pe_int (nomark _)) (pw_or1 (pt_not (pt_val (pe_callB (allK (K := K) rfl rfl) (by rfl) T.m_all (by decide +kernel) (pa_cons (pe_lc (own := [("_law_piece", 3)])  rfl sc_l_due.nd (piLK (K := K) rfl (pv 2)) (blkOk_by (own := [("_law_piece", 3)]) (N := N_l_due) (sc := defScope (topS 48)) (by decide +kernel)) (fun _ _ _ _ _ => (pg_name (i := 3) sc_l_due.nd rfl (Or.inl rfl))) (fun _ _ _ _ _ => pts_nil) (fun _ _ _ _ _ => (pe_call G_l_is_word hr (by rfl) T.g_l_is_word T.f_l_is_word.kp T.b_l_is_word .nil pass0 (pa_cons (pv 3) pa_nil)))) pa_nil))))))))))
      (pss_one (ps_ret pe_str))
      pss_nil)
      (pss_one (ps_ret pe_str)))))), ?_⟩
    refine if_cut (C := fun H1 => H1 = H ∧ numOk m = false) (fun key => ?_) (fun H1 c => ?_)
    · refine ⟨m, rfl, m, rfl, hm, _, rfl, ?_⟩
      cases m with
      | int i =>
        refine ⟨.int i, rfl, 1, i, rfl, rfl, _, rfl, ite2 (fun c1 => ?_) (fun c1 => ?_)⟩
        · refine ⟨i, 9999, rfl, rfl, _, rfl, ?_⟩
          by_cases c2 : i ≤ 9999
          · rw [decide_eq_true c2]
            refine iteF ?_
            have hn : numOk (.int i) = true := by
              show (decide (1 ≤ i) && decide (i ≤ 9999)) = true
              rw [c1, decide_eq_true c2]
              rfl
            have told : textOk t = true → RetV (.str "told") H Q := fun h => by
              have v := q
              rw [show dueS (.int i) t = "told" by unfold dueS; rw [if_pos hn, if_pos h]] at v
              exact v
            have text : textOk t = false → RetV (.str "text") H Q := fun h => by
              have v := q
              rw [show dueS (.int i) t = "text" by unfold dueS; rw [if_pos hn, if_neg (by rw [h]; decide)]] at v
              exact v
            rcases ht.kinds K with ⟨z, rfl, hz⟩ | ⟨ty, t1, t2, t3, t4⟩
            · have hz := hl z rfl
              refine ⟨.str z, rfl, .str z, .ty "str", .type "str", .type "str", true, rfl, .ty _, .base (.str z), kit_ty (by decide +kernel), true, rfl, ?_⟩
              refine ⟨.str z, rfl, ⟨_, rfl⟩, z, " ", rfl, rfl, by decide +kernel, sz (by omega), fun p np => ?_⟩
              have e1 : Ex H (upd H p (.lst ((Txt.split z " ").map V.str))) := Ex.new np
              have hp1 : (upd H p (.lst ((Txt.split z " ").map V.str))) p = some (.lst ((Txt.split z " ").map V.str)) := upd_same
              generalize (upd H p (.lst ((Txt.split z " ").map V.str))) = H1 at e1 hp1 ⊢
              have sl := split_len z
              refine ⟨.str z, rfl, rfl, _, rfl, ?_⟩
              rw [empty_iff]
              by_cases h0 : z.length = 0
              · rw [decide_eq_true h0]
                have tk : textOk (.str z) = true := by
                  show okP (piecesOf z) = true
                  unfold piecesOf
                  rw [if_pos h0]
                  rfl
                exact told tk H1 e1
              · rw [decide_eq_false h0]
                have ep : piecesOf z = Txt.split z " " := by unfold piecesOf; rw [if_neg h0]
                refine ⟨.ref p, rfl, p, _, rfl, .inl (SqL.of hp1), _, 120, rfl, rfl, _, rfl, ite2 (fun c3 => ?_) (fun c3 => ?_)⟩
                · have c3 : (120 : Int) < (((Txt.split z " ").map V.str).length : Int) := of_decide_eq_true c3
                  rw [List.length_map] at c3
                  refine text ?_ H1 e1
                  show okP (piecesOf z) = false
                  unfold okP
                  rw [ep, decide_eq_false (by omega), Bool.false_and]
                · have c3 : ¬ (120 : Int) < (((Txt.split z " ").map V.str).length : Int) := fun h => c3 (decide_eq_true h)
                  rw [List.length_map] at c3
                  have eo : okP (piecesOf z) = (Txt.split z " ").all isW := by
                    unfold okP
                    rw [ep, decide_eq_true (by omega), Bool.true_and]
                  refine ⟨.ref p, rfl, p, rfl, ⟨_, SqL.of hp1⟩, fun D nD => ?_⟩
                  refine lc_list (K := K) (xs := (Txt.split z " ").map V.str) (fun i H' => Ex H1 H' ∧ H' D = some (.lst (((Txt.split z " ").take i).map fun y => .bl (isW y)))) ⟨Ex.new nD, upd_same⟩ (fun i H' _ p => SqL.of (p.1 _ _ hp1)) (fun i x H2 hx p2 => ?_) (fun H2 p2 => ?_)
                  · obtain ⟨g1, g2⟩ := p2
                    rw [List.getElem?_map] at hx
                    obtain ⟨y, gy, rfl⟩ := Option.map_eq_some_iff.mp hx
                    have hi : i < (Txt.split z " ").length := (List.getElem?_eq_some_iff.mp gy).1
                    refine ⟨rfl, .str y, rfl, .str y, rfl, .str y (by have := split_short (List.mem_of_getElem? gy); omega), fun H3 e3 => ?_⟩
                    refine ⟨_, e3 _ _ g2, ?_, Ex.mut (g1.trans e3) nD, ?_⟩
                    · rw [List.length_map, List.length_take]
                      exact sz_lt (by omega)
                    · rw [upd_same, List.take_add_one, gy, List.map_append]
                      rfl
                  · obtain ⟨g1, g2⟩ := p2
                    refine ⟨D, (Txt.split z " ").map isW, rfl, SqL.of ?_, _, rfl, ?_⟩
                    · rw [g2, List.take_of_length_le (by simp), List.map_map]
                      rfl
                    rw [show (((Txt.split z " ").map isW).all id) = (Txt.split z " ").all isW by rw [List.all_map]; rfl]
                    cases hw : (Txt.split z " ").all isW with
                    | true => exact told (eo.trans hw) H2 (e1.trans g1)
                    | false => exact text (eo.trans hw) H2 (e1.trans g1)
            · refine ⟨t, rfl, t, .ty "str", .type ty, .type "str", false, rfl, .ty _, t1, kit_ty t2, false, rfl, ?_⟩
              refine ret_v (text ?_)
              cases t with
              | str z => exact absurd rfl (t4 z)
              | _ => rfl
          · rw [decide_eq_false c2]
            refine iteT ?_
            refine key H ⟨rfl, ?_⟩
            show (decide (1 ≤ i) && decide (i ≤ 9999)) = false
            rw [decide_eq_false c2, Bool.and_false]
        · refine ⟨false, rfl, ?_⟩
          refine key H ⟨rfl, ?_⟩
          show (decide (1 ≤ i) && decide (i ≤ 9999)) = false
          rw [Bool.eq_false_iff.mpr c1, Bool.false_and]
      | _ => exact key H ⟨rfl, rfl⟩
    · obtain ⟨rfl, c⟩ := c
      have v := ret_v q
      rw [show dueS m t = "number" by unfold dueS; rw [c]; rfl] at v
      exact v

/-! ### the law -/
abbrev lamQ (n : Str) : Str := n ++ ".<locals>." ++ "<lambda>"
abbrev TabL (PR : Addr) : List (Addr × Str) := [(PR, lamQ "law")]
theorem fx_new {p : Addr} {H H1 H2 : Hp} (n : H p = none) (e : Ex H H1) (f : Fx p H1 H2) : Ex H H2 := fun a o h => f a o (ne_of_none h n) (e a o h)
theorem maxmin (n : Nat) : 1 ≤ (if (if (n : Int) < 8 then (n : Int) else 8) > 1 then (if (n : Int) < 8 then (n : Int) else 8) else 1) ∧ (if (if (n : Int) < 8 then (n : Int) else 8) > 1 then (if (n : Int) < 8 then (n : Int) else 8) else 1) ≤ 8 := by
  constructor
  · split <;> split <;> omega
  · split <;> split <;> omega
theorem lst_exN {H H' : Hp} {a : Addr} {xs : List V} (e : LamX.ExtN H H') (h : H a = some (.lst xs)) : H' a = some (.lst xs) := e _ _ h (by intro ps z; cases z)
theorem tup_exN {H H' : Hp} {a : Addr} {xs : List V} (e : LamX.ExtN H H') (h : H a = some (.tup xs)) : H' a = some (.tup xs) := e _ _ h (by intro ps z; cases z)
theorem sql_exN {K : PySem.W.Frag} {H H' : Hp} {a : Addr} {xs : List V} (e : LamX.ExtN H H') (h : SqL K H a xs) : SqL K H' a xs := by
  rcases h with (h | ⟨o, h⟩) | h
  · exact .inl (.inl (lst_exN e h))
  · exact .inl (.inr ⟨o, e _ _ h (by intro ps z; cases z)⟩)
  · exact .inr h
theorem vals_rev : ∀ {zs : List V} {ws : List Value}, Vals zs ws → Vals zs.reverse ws.reverse
  | _, _, .nil => .nil
  | _, _, .cons h t => by
    rw [List.reverse_cons, List.reverse_cons]
    exact (vals_rev t).append (.cons h .nil)
/-- what comes of Page(one, two) -/
theorem page_ok (T : TX K mg A FD TK CC) {H : Hp} {x dx : Addr} {one two : V} {Q : VK} (th1 : Th H one) (th2 : Th H two) (hl : ∀ z, two = .str z → z.length ≤ 20000) (nx : H x = none) (ndx : H dx = none) (fin : ∀ H', Ex H H' → Q (.str (dueS one two)) H') :
    spInit (A 34) (A 5) (A 4) [.ref x, one, two] (upd (upd H dx (.own x)) x (.ins (A 34) dx [])) (fun v H3 => v = .non ∧ Q (.str "told") H3)
      (fun cls d H' => ∃ (C : Addr) (i : Nat) (nm : Str), cls = .ref C ∧ Plain K (howC A) C i ∧ kindNames[i]? = some nm ∧ DictOk d H' ∧ RetV (.str nm) H' Q) := by
  have e1 : Ex H (upd (upd H dx (.own x)) x (.ins (A 34) dx [])) := fun b o h => by
    rw [upd_ne (ne_of_none h nx), upd_ne (ne_of_none h ndx)]
    exact h
  have e2 : ∀ {H'}, ExI x (upd (upd H dx (.own x)) x (.ins (A 34) dx [])) H' → Ex H H' := fun i b o h => i b o (ne_of_none h nx) (e1 b o h)
  refine ⟨x, dx, one, two, rfl, upd_same, th1.ex e1, th2.ex e1, hl, fun h H' i => ?_, fun h h2 H' i => ?_, fun h h2 H' i => ⟨rfl, ?_⟩⟩
  · have ed : dueS one two = "number" := by unfold dueS; rw [if_neg (by rw [h]; decide)]
    rw [ed] at fin
    exact ⟨_, 5, "number", rfl, T.h_NoNumber, rfl, (fun dd z => by cases z), fun H4 e4 => fin H4 ((e2 i).trans e4)⟩
  · have ed : dueS one two = "text" := by unfold dueS; rw [if_pos h, if_neg (by rw [h2]; decide)]
    rw [ed] at fin
    exact ⟨_, 13, "text", rfl, T.h_NoText, rfl, (fun dd z => by cases z), fun H4 e4 => fin H4 ((e2 i).trans e4)⟩
  · have ed : dueS one two = "told" := by unfold dueS; rw [if_pos h, if_pos h2]
    rw [ed] at fin
    exact fin H' (e2 i)
def spLaw (K : PySem.W.Frag) (Tt : List (Addr × Str)) : Sp := fun vs H Q _ => ∃ (a : Addr) (ns : List Int), vs = [.ref a] ∧ SqL K H a (ns.map V.int) ∧ ns.length ≤ 63 ∧ LamX.Tabs Tt H ∧ ∀ H', Q (.bl true) H'
set_option maxHeartbeats 16000000 in
theorem ok_law (T : TX K mg A FD TK CC) {PR : Addr} (TBL : LamX.TabB base mg (CC 49) PR) : FnOk P w K mg base CX0 12 (A 49) (FD 49) ["_law_script"] (spLaw K [(PR, lamQ "law")]) := by
  have G_l_pool := (ok_l_pool (P := P) (w := w) (base := base) T).mono (show 1 ≤ 11 by decide)
  have G_l_take := (ok_l_take (P := P) (w := w) (base := base) T).mono (show 1 ≤ 11 by decide)
  have G_l_kinds := (ok_l_kinds (P := P) (w := w) (base := base) T).mono (show 2 ≤ 11 by decide)
  have G_l_words := (ok_l_words (P := P) (w := w) (base := base) T).mono (show 2 ≤ 11 by decide)
  have G_l_number := (ok_l_number (P := P) (w := w) (base := base) T).mono (show 2 ≤ 11 by decide)
  have G_l_text := (ok_l_text (P := P) (w := w) (base := base) T).mono (show 2 ≤ 11 by decide)
  have G_l_due := (ok_l_due (P := P) (w := w) (base := base) T).mono (show 3 ≤ 11 by decide)
  have G_Page_lam := (ok_init (P := P) (w := w) (base := base) T).mono (show 6 ≤ 8 by decide)
  have hmL : (PR, lamQ "law") ∈ TabL PR := List.mem_cons_self ..
  have huL : ∀ q ∈ TabL PR, q.1 = PR → q.2 = lamQ "law" := fun q hq _ => by rw [List.mem_singleton.mp hq]
  obtain ⟨ds2, R2_Page, B2_Page⟩ := T.f_Page_init.binds1 (ps := ["self", "number", "text"]) 3 1 (by simp) rfl (fun _ _ _ _ _ _ _ us its hl1 hl2 => match us, its, hl1, hl2 with | [_, _, _], [_], _, _ => ⟨_, rfl, rfl⟩)
  obtain ⟨ds1, R1_Page, B1_Page⟩ := T.f_Page_init.binds1 (ps := ["self", "number", "text"]) 2 0 (by simp) rfl (fun _ _ _ _ _ _ _ us its hl1 hl2 => match us, its, hl1, hl2 with | [_, _], [_], _, _ => ⟨_, rfl, rfl⟩)
  obtain ⟨its3, KB_Page⟩ := T.f_Page_init.kbindsD (ps := ["self", "number", "text"]) 1 ["text", "number"] (fun us _ ws => us ++ ws.reverse) (by simp) (fun r1 _ r3 => r1.append (vals_rev r3)) (fun _ _ _ _ _ _ _ us its ws hl1 hl2 hl3 => match us, its, ws, hl1, hl2, hl3 with | [_], [_], [_, _], _, _, _ => ⟨_, rfl, rfl⟩)
  refine T.F_law.ok (k := 11) sc_law (fun vs H Q E h => ?_) (fun A' outer s H vs Q E hr h => ?_)
  · obtain ⟨a, ns, rfl, _⟩ := h
    rfl
  · obtain ⟨a, ns, rfl, hS, hn, hT, q⟩ := h
    refine ⟨_, (pss_cons (ps_for PassesOwn.never rfl (pi_range1 (by rfl) T.m_range (pa_cons (pe_callB (call_max2 rfl) (by rfl) T.m_max (by decide +kernel) (pa_cons pe_int (pa_cons (pe_callB (call_min2 rfl) (by rfl) T.m_min (by decide +kernel) (pa_cons pe_int (pa_cons (pe_callB (lenK (K := K) rfl) (by rfl) T.m_len (by decide +kernel) (pa_cons (pv 0) pa_nil)) pa_nil))) pa_nil))) pa_nil)) (pg_name (i := 1) sc_law.nd rfl (.inl rfl))
      (pss_cons (ps_set (i := 2) sc_law.nd rfl (.inl rfl) (pe_call G_l_pool hr (by rfl) T.g_l_pool T.f_l_pool.kp T.b_l_pool .nil pass0 (pa_cons (pv 0) (pa_cons (pv 1) pa_nil))))
      (pss_cons (ps_set (i := 3) sc_law.nd rfl (.inr rfl) (pe_call G_l_number hr (by rfl) T.g_l_number T.f_l_number.kp T.b_l_number .nil pass0 (pa_cons (pv 2) pa_nil)))
      (pss_cons (ps_set (i := 4) sc_law.nd rfl (.inl rfl) (pe_call G_l_text hr (by rfl) T.g_l_text T.f_l_text.kp T.b_l_text .nil pass0 (pa_cons (pv 2) (pa_cons (pe_join pe_str (pe_call G_l_words hr (by rfl) T.g_l_words T.f_l_words.kp T.b_l_words .nil pass0 (pa_cons (pv 2) (pa_cons (pe_call G_l_kinds hr (by rfl) T.g_l_kinds T.f_l_kinds.kp T.b_l_kinds .nil pass0 (pa_cons (pv 2) pa_nil)) (pa_cons pe_int pa_nil))))) pa_nil))))
      (pss_cons (ps_set (i := 5) sc_law.nd rfl (.inl rfl) (pe_op op_add pe_int (pe_call G_l_take hr (by rfl) T.g_l_take T.f_l_take.kp T.b_l_take .nil pass0 (pa_cons (pv 2) (pa_cons pe_int pa_nil)))))
      (pss_cons (ps_for PassesOwn.never rfl (piTK (K := K) rfl (pe_tup (pa_cons (pe_tup (pa_cons (pv 3) (pa_cons (pv 4) pa_nil))) (pa_cons (pe_tup (pa_cons (pv 5) (pa_cons (pv 4) pa_nil))) (pa_cons (pe_tup (pa_cons (pv 3) (pa_cons pe_str pa_nil))) (pa_cons (pe_tup (pa_cons (pv 3) (pa_cons pe_non pa_nil))) (pa_cons (pe_tup (pa_cons (pv 5) (pa_cons pe_str pa_nil))) pa_nil))))))) (pg_tup rfl (pgs_cons (pg_name (i := 6) sc_law.nd rfl (.inr rfl)) (pgs_cons (pg_name (i := 7) sc_law.nd rfl (.inr rfl)) pgs_nil)))
      (pss_cons (ps_set (i := 8) sc_law.nd rfl (.inl rfl) (pe_call G_l_due hr (by rfl) T.g_l_due T.f_l_due.kp T.b_l_due .nil pass0 (pa_cons (pv 6) (pa_cons (pv 7) pa_nil))))
      (pss_cons (ps_if (pt_cmpR op_ne (pe_how T TBL rfl hmL huL hr (LamX.lamS_by (sc := defScope (topS 49)) (by decide +kernel)) (fun _ _ _ _ E _ _ hr2 => (pe_make T.M_Page G_Page_lam hr2 (by rfl) T.k_Page B2_Page R2_Page (passes_call (takes_of rfl rfl rfl rfl) (fun _ _ _ _ h => h)) (pa_cons (pv 6) (pa_cons (pv 7) pa_nil))))) (pv 8) (nomark _))
      (pss_one (ps_ret pe_bl))
      pss_nil)
      (pss_one (ps_if (pt_cmpR op_ne (pe_how T TBL rfl hmL huL hr (LamX.lamS_by (sc := defScope (topS 49)) (by decide +kernel)) (fun _ _ _ _ E _ _ hr2 => (pe_makeK0 T.M_Page G_Page_lam hr2 (by rfl) T.k_Page KB_Page (passes_call (takes_of rfl rfl rfl rfl) (fun _ _ _ _ h => h)) (pk_cons (pv 7) (pk_cons (pv 6) pk_nil))))) (pv 8) (nomark _))
      (pss_one (ps_ret pe_bl))
      pss_nil)))))
      (pss_one (ps_if (pt_cmpR op_ne (pe_how T TBL rfl hmL huL hr (LamX.lamS_by (sc := defScope (topS 49)) (by decide +kernel)) (fun _ _ _ _ E _ _ hr2 => (pe_make T.M_Page G_Page_lam hr2 (by rfl) T.k_Page B1_Page R1_Page (passes_call (takes_of rfl rfl rfl rfl) (fun _ _ _ _ h => h)) (pa_cons (pv 3) pa_nil)))) (pe_call G_l_due hr (by rfl) T.g_l_due T.f_l_due.kp T.b_l_due .nil pass0 (pa_cons (pv 3) (pa_cons pe_str pa_nil))) (nomark _))
      (pss_one (ps_ret pe_bl))
      pss_nil))))))))
      (pss_one (ps_ret pe_bl))), ?_⟩
    refine ⟨.ref a, rfl, a, _, rfl, .inl hS, 8, _, rfl, 1, _, rfl, (if (if ((ns.map V.int).length : Int) < 8 then ((ns.map V.int).length : Int) else 8) > 1 then (if ((ns.map V.int).length : Int) < 8 then ((ns.map V.int).length : Int) else 8) else 1), rfl, ?_, ?_, ?_⟩
    · have := maxmin (ns.map V.int).length
      omega
    · have := maxmin (ns.map V.int).length
      omega
    have hmm := maxmin (ns.map V.int).length
    generalize (if (if ((ns.map V.int).length : Int) < 8 then ((ns.map V.int).length : Int) else 8) > 1 then (if ((ns.map V.int).length : Int) < 8 then ((ns.map V.int).length : Int) else 8) else 1) = n at hmm ⊢
    refine for_range (lo := 0) (n := n.toNat) (fun i σ' H' => ∃ y1 y2 y3 y4 y5 y6 y7 y8 : Option V, σ' = [some (.ref a), y1, y2, y3, y4, y5, y6, y7, y8] ∧ LamX.ExtN H H' ∧ LamX.Tabs (TabL PR) H') ⟨none, none, none, none, none, none, none, none, rfl, LamX.ExtN.refl H, hT⟩ (fun i σ' H' hi pv => ?_) (fun σ' H' pv => ?_)
    · obtain ⟨y1, y2, y3, y4, y5, y6, y7, y8, rfl, e0, T0⟩ := pv
      refine ⟨.ref a, rfl, .int ((0 : Int) + i), rfl, a, ns, i, ?_, sql_exN e0 hS, hn, by omega, fun p H1 np e1 hp1 => ?_⟩
      · show [V.ref a, V.int ((0 : Int) + i)] = [V.ref a, V.int (i : Int)]
        rw [Int.zero_add]
      refine ⟨.ref p, rfl, p, 0, rfl, hp1, by decide, fun mark H2 tm hp2 f2 => ?_⟩
      refine ⟨.ref p, rfl, ⟨_, rfl⟩, .ref p, rfl, .ref p, rfl, p, 2, rfl, hp2, by decide, fun kk zs H3 nk hk hp3 f3 => ?_⟩
      refine ⟨p, kk, zs, 4, 8, rfl, by decide, hp3, hk, by decide, fun l ys H4 nlp nl hl ly yw hp4 f4 => ?_⟩
      have jl := join_len " " ys
      have sl := len_sum ys yw
      rw [show (Str.ofString " ").length = 1 by decide +kernel] at jl
      refine ⟨" ", l, ys, rfl, rfl, .inl (SqL.of hl), ?_, p, Txt.join " " ys, 13, rfl, hp4, by decide, by omega, fun text H5 tt lt hp5 f5 => ?_⟩
      · rw [show (Str.ofString " ").length = 1 by decide +kernel]
        omega
      refine ⟨.ref p, rfl, p, 9999, 16, rfl, hp5, by decide, by decide, by omega, fun g H6 g0 g1 hp6 f6 => ⟨1, g, rfl, rfl, ?_⟩⟩
      have x6 : Ex H' H6 := fx_new np e1 ((((f2.trans f3).trans f4).trans f5).trans f6)
      have tm6 : Th H6 mark := th_fx2 (th_fx2 (th_fx2 (th_fx2 tm f3 hp2 hp3) f4 hp3 hp4) f5 hp4 hp5) f6 hp5 hp6
      have tt6 : Th H6 text := th_fx2 tt f6 hp5 hp6
      have T6 := T0.ext x6
      have n6 := e0.trans (LamX.ExtN.of x6)
      refine ⟨mark, rfl, text, rfl, by show 2 ≤ sizeLine; decide, fun t1 n1 => ⟨.int (1 + g), rfl, text, rfl, by show 2 ≤ sizeLine; decide, fun t2 n2 => ⟨mark, rfl, by show 2 ≤ sizeLine; decide, fun t3 n3 => ⟨mark, rfl, by show 2 ≤ sizeLine; decide, fun t4 n4 => ⟨.int (1 + g), rfl, by show 2 ≤ sizeLine; decide, fun t5 n5 => ⟨by show 5 ≤ sizeLine; decide, fun t6 nt6 => ?_⟩⟩⟩⟩⟩⟩
      have z1 := Ex.new (o := .tup [mark, text]) n1
      have z2 := Ex.new (o := .tup [.int (1 + g), text]) n2
      have z3 := Ex.new (o := .tup [mark, .str "a b"]) n3
      have z4 := Ex.new (o := .tup [mark, .non]) n4
      have z5 := Ex.new (o := .tup [.int (1 + g), .str ""]) n5
      have z6 := Ex.new (o := .tup [.ref t1, .ref t2, .ref t3, .ref t4, .ref t5]) nt6
      have k5 := z6 _ _ (upd_same (a := t5) (o := .tup [.int (1 + g), .str ""]))
      have k4 := z6 _ _ (z5 _ _ (upd_same (a := t4) (o := .tup [mark, .non])))
      have k3 := z6 _ _ (z5 _ _ (z4 _ _ (upd_same (a := t3) (o := .tup [mark, .str "a b"]))))
      have k2 := z6 _ _ (z5 _ _ (z4 _ _ (z3 _ _ (upd_same (a := t2) (o := .tup [.int (1 + g), text])))))
      have k1 := z6 _ _ (z5 _ _ (z4 _ _ (z3 _ _ (z2 _ _ (upd_same (H := H6) (a := t1) (o := .tup [mark, text]))))))
      have zz := ((((z1.trans z2).trans z3).trans z4).trans z5).trans z6
      have tm7 := tm6.ex zz
      have tt7 := tt6.ex zz
      have T7 := T6.ext zz
      have n7 := n6.trans (LamX.ExtN.of zz)
      refine ⟨t6, rfl, ⟨_, SqT.of upd_same⟩, ?_⟩
      refine for_tup (K := K) (xs := [.ref t1, .ref t2, .ref t3, .ref t4, .ref t5]) (fun j σ2 Hm => ∃ y6 y7 y8 : Option V, σ2 = [some (.ref a), some (.int ((0 : Int) + i)), some (.ref p), some mark, some text, some (.int (1 + g)), y6, y7, y8] ∧ LamX.ExtN _ Hm ∧ LamX.Tabs (TabL PR) Hm) ⟨y6, y7, y8, rfl, LamX.ExtN.refl _, T7⟩ (fun j σ2 Hm _ pj => ?_) (fun j x σ2 Hm gx pj => ?_) (fun σ2 Hm pj => ?_)
      · obtain ⟨_, _, _, _, em, _⟩ := pj
        exact SqT.of (tup_exN em upd_same)
      · obtain ⟨y6, y7, y8, rfl, em, Tm⟩ := pj
        obtain ⟨tj, one, two, rfl, hj, to, tw, lw⟩ : ∃ (tj : Addr) (one two : V), x = .ref tj ∧ Hm tj = some (.tup [one, two]) ∧ Th Hm one ∧ Th Hm two ∧ ∀ z, two = .str z → z.length ≤ 20000 := by
          have hx := List.mem_of_getElem? gx
          simp only [List.mem_cons, List.not_mem_nil, or_false] at hx
          have tmm := tm7.exN em
          have ttm := tt7.exN em
          rcases hx with rfl | rfl | rfl | rfl | rfl
          · exact ⟨_, _, _, rfl, tup_exN em k1, tmm, ttm, lt⟩
          · exact ⟨_, _, _, rfl, tup_exN em k2, .int _, ttm, lt⟩
          · exact ⟨_, _, _, rfl, tup_exN em k3, tmm, .str _ (by decide +kernel), fun z e => by cases e; decide +kernel⟩
          · exact ⟨_, _, _, rfl, tup_exN em k4, tmm, .non, fun z e => by cases e⟩
          · exact ⟨_, _, _, rfl, tup_exN em k5, .int _, .str _ (by decide +kernel), fun z e => by cases e; decide +kernel⟩
        refine ⟨tj, _, rfl, SqT.of hj, rfl, ?_⟩
        refine ⟨one, _, rfl, two, _, rfl, rfl, one, rfl, two, rfl, one, two, rfl, to, tw, lw, fun H8 e8 => ?_⟩
        have fin : ∀ (H9 : Hp), LamX.ExtN H8 H9 → LamX.Tabs (TabL PR) H9 → True := fun _ _ _ => True.intro
        refine ⟨Tm.ext e8, fun H9 n9 T9 => ?_⟩
        refine ⟨one, rfl, two, rfl, fun x dx nx ndx _ => ?_⟩
        have to9 := (to.ex e8).exN n9
        have tw9 := (tw.ex e8).exN n9
        refine page_ok T to9 tw9 lw nx ndx fun Ha ea => ?_
        refine ⟨.str (dueS one two), rfl, rfl, _, rfl, ?_⟩
        rw [show (!decide (V.str (dueS one two) = V.str (dueS one two))) = false by rw [decide_eq_true rfl]; rfl]
        refine ⟨T9.ext ea, fun Hb nb Tb => ?_⟩
        refine ⟨two, rfl, one, rfl, rfl, rfl, fun x dx nx ndx _ => ?_⟩
        refine page_ok T ((to9.ex ea).exN nb) ((tw9.ex ea).exN nb) lw nx ndx fun Hc ec => ?_
        refine ⟨.str (dueS one two), rfl, rfl, _, rfl, ?_⟩
        rw [show (!decide (V.str (dueS one two) = V.str (dueS one two))) = false by rw [decide_eq_true rfl]; rfl]
        exact ⟨some one, some two, some (.str (dueS one two)), rfl, em.trans ((LamX.ExtN.of e8).trans (n9.trans ((LamX.ExtN.of ea).trans (nb.trans (LamX.ExtN.of ec))))), Tb.ext ec⟩
      · obtain ⟨y6, y7, y8, rfl, em, Tm⟩ := pj
        refine ⟨Tm, fun H9 n9 T9 => ?_⟩
        refine ⟨mark, rfl, fun x dx nx ndx _ => ?_⟩
        have tm9 := (tm7.exN em).exN n9
        refine page_ok T (two := .str "") tm9 (.str _ (by decide +kernel)) (fun z e => by cases e; decide +kernel) nx ndx fun Ha ea => ?_
        refine ⟨mark, rfl, mark, .str "", rfl, tm9.ex ea, .str _ (by decide +kernel), (fun z e => by cases e; decide +kernel), fun Hb eb => ?_⟩
        refine ⟨rfl, _, rfl, ?_⟩
        rw [show (!decide (V.str (dueS mark (.str "")) = V.str (dueS mark (.str "")))) = false by rw [decide_eq_true rfl]; rfl]
        have ef := ea.trans eb
        exact ⟨_, _, _, _, _, _, _, _, rfl, n7.trans (em.trans (n9.trans (LamX.ExtN.of ef))), T9.ext ef⟩
    · exact q _

end
set_option maxHeartbeats 8000000 in
theorem all_mk {l : PySem.W.OpenLaw} {w : World} {K : PySem.W.Frag} {h : Heap} {mg : Str → Option Value} {fa : Addr} (X : K.In h) (G : h.Ns mainGlobals mg) (hfa : mg "law" = some (.ref fa))
    {f0 : Addr} {od0 an0 : Option Addr} {sl0 : Array (Option Value)} {oc0 kV0 dc0 pm0 cd0 ct0 : Value}
    (a0 : PySem.W.nsIn K mainGlobals "_wall" = some (some (.ref f0))) (l0 : K.lookup f0 = some ⟨oc0, od0, .func (PySem.W.fnOf "_wall" "_wall" (defArgs (topS 0)) (defBody (topS 0)) (defScope (topS 0)) .none kV0 dc0 pm0 an0 cd0 ct0), sl0⟩) (c0 : PySem.W.codeIn K cd0 "_wall" = true) (k0 : PySem.W.keepIn K (.ref f0) = true)
    {f22 : Addr} {od22 an22 : Option Addr} {sl22 : Array (Option Value)} {oc22 kV22 dc22 pm22 cd22 ct22 : Value}
    (a22 : PySem.W.nsIn K mainGlobals "is_whole" = some (some (.ref f22))) (l22 : K.lookup f22 = some ⟨oc22, od22, .func (PySem.W.fnOf "is_whole" "is_whole" (defArgs (topS 22)) (defBody (topS 22)) (defScope (topS 22)) .none kV22 dc22 pm22 an22 cd22 ct22), sl22⟩) (c22 : PySem.W.codeIn K cd22 "is_whole" = true) (k22 : PySem.W.keepIn K (.ref f22) = true)
    {f23 : Addr} {od23 an23 : Option Addr} {sl23 : Array (Option Value)} {oc23 kV23 dc23 pm23 cd23 ct23 : Value}
    (a23 : PySem.W.nsIn K mainGlobals "is_within" = some (some (.ref f23))) (l23 : K.lookup f23 = some ⟨oc23, od23, .func (PySem.W.fnOf "is_within" "is_within" (defArgs (topS 23)) (defBody (topS 23)) (defScope (topS 23)) .none kV23 dc23 pm23 an23 cd23 ct23), sl23⟩) (c23 : PySem.W.codeIn K cd23 "is_within" = true) (k23 : PySem.W.keepIn K (.ref f23) = true)
    {f27 : Addr} {od27 an27 : Option Addr} {sl27 : Array (Option Value)} {oc27 kV27 dc27 pm27 cd27 ct27 : Value}
    (a27 : PySem.W.nsIn K mainGlobals "is_word" = some (some (.ref f27))) (l27 : K.lookup f27 = some ⟨oc27, od27, .func (PySem.W.fnOf "is_word" "is_word" (defArgs (topS 27)) (defBody (topS 27)) (defScope (topS 27)) .none kV27 dc27 pm27 an27 cd27 ct27), sl27⟩) (c27 : PySem.W.codeIn K cd27 "is_word" = true) (k27 : PySem.W.keepIn K (.ref f27) = true)
    {f28 : Addr} {od28 an28 : Option Addr} {sl28 : Array (Option Value)} {oc28 kV28 dc28 pm28 cd28 ct28 : Value}
    (a28 : PySem.W.nsIn K mainGlobals "are_words" = some (some (.ref f28))) (l28 : K.lookup f28 = some ⟨oc28, od28, .func (PySem.W.fnOf "are_words" "are_words" (defArgs (topS 28)) (defBody (topS 28)) (defScope (topS 28)) .none kV28 dc28 pm28 an28 cd28 ct28), sl28⟩) (c28 : PySem.W.codeIn K cd28 "are_words" = true) (k28 : PySem.W.keepIn K (.ref f28) = true)
    {f29 : Addr} {od29 an29 : Option Addr} {sl29 : Array (Option Value)} {oc29 kV29 dc29 pm29 cd29 ct29 : Value}
    (a29 : PySem.W.nsIn K mainGlobals "check_word" = some (some (.ref f29))) (l29 : K.lookup f29 = some ⟨oc29, od29, .func (PySem.W.fnOf "check_word" "check_word" (defArgs (topS 29)) (defBody (topS 29)) (defScope (topS 29)) .none kV29 dc29 pm29 an29 cd29 ct29), sl29⟩) (c29 : PySem.W.codeIn K cd29 "check_word" = true) (k29 : PySem.W.keepIn K (.ref f29) = true)
    {f30 : Addr} {od30 an30 : Option Addr} {sl30 : Array (Option Value)} {oc30 kV30 dc30 pm30 cd30 ct30 : Value}
    (a30 : PySem.W.nsIn K mainGlobals "words_of" = some (some (.ref f30))) (l30 : K.lookup f30 = some ⟨oc30, od30, .func (PySem.W.fnOf "words_of" "words_of" (defArgs (topS 30)) (defBody (topS 30)) (defScope (topS 30)) .none kV30 dc30 pm30 an30 cd30 ct30), sl30⟩) (c30 : PySem.W.codeIn K cd30 "words_of" = true) (k30 : PySem.W.keepIn K (.ref f30) = true)
    {f31 : Addr} {od31 an31 : Option Addr} {sl31 : Array (Option Value)} {oc31 kV31 dc31 pm31 cd31 ct31 : Value}
    (a31 : PySem.W.nsIn K mainGlobals "check_words" = some (some (.ref f31))) (l31 : K.lookup f31 = some ⟨oc31, od31, .func (PySem.W.fnOf "check_words" "check_words" (defArgs (topS 31)) (defBody (topS 31)) (defScope (topS 31)) .none kV31 dc31 pm31 an31 cd31 ct31), sl31⟩) (c31 : PySem.W.codeIn K cd31 "check_words" = true) (k31 : PySem.W.keepIn K (.ref f31) = true)
    {f35 : Addr} {od35 an35 : Option Addr} {sl35 : Array (Option Value)} {oc35 kV35 dc35 pm35 cd35 ct35 : Value}
    (a35 : PySem.W.nsIn K mainGlobals "check_page_number" = some (some (.ref f35))) (l35 : K.lookup f35 = some ⟨oc35, od35, .func (PySem.W.fnOf "check_page_number" "check_page_number" (defArgs (topS 35)) (defBody (topS 35)) (defScope (topS 35)) .none kV35 dc35 pm35 an35 cd35 ct35), sl35⟩) (c35 : PySem.W.codeIn K cd35 "check_page_number" = true) (k35 : PySem.W.keepIn K (.ref f35) = true)
    {f37 : Addr} {od37 an37 : Option Addr} {sl37 : Array (Option Value)} {oc37 kV37 dc37 pm37 cd37 ct37 : Value}
    (a37 : PySem.W.nsIn K mainGlobals "_law_pool" = some (some (.ref f37))) (l37 : K.lookup f37 = some ⟨oc37, od37, .func (PySem.W.fnOf "_law_pool" "_law_pool" (defArgs (topS 37)) (defBody (topS 37)) (defScope (topS 37)) .none kV37 dc37 pm37 an37 cd37 ct37), sl37⟩) (c37 : PySem.W.codeIn K cd37 "_law_pool" = true) (k37 : PySem.W.keepIn K (.ref f37) = true)
    {f38 : Addr} {od38 an38 : Option Addr} {sl38 : Array (Option Value)} {oc38 kV38 dc38 pm38 cd38 ct38 : Value}
    (a38 : PySem.W.nsIn K mainGlobals "_law_take" = some (some (.ref f38))) (l38 : K.lookup f38 = some ⟨oc38, od38, .func (PySem.W.fnOf "_law_take" "_law_take" (defArgs (topS 38)) (defBody (topS 38)) (defScope (topS 38)) .none kV38 dc38 pm38 an38 cd38 ct38), sl38⟩) (c38 : PySem.W.codeIn K cd38 "_law_take" = true) (k38 : PySem.W.keepIn K (.ref f38) = true)
    {f39 : Addr} {od39 an39 : Option Addr} {sl39 : Array (Option Value)} {oc39 kV39 dc39 pm39 cd39 ct39 : Value}
    (a39 : PySem.W.nsIn K mainGlobals "_law_is_word" = some (some (.ref f39))) (l39 : K.lookup f39 = some ⟨oc39, od39, .func (PySem.W.fnOf "_law_is_word" "_law_is_word" (defArgs (topS 39)) (defBody (topS 39)) (defScope (topS 39)) .none kV39 dc39 pm39 an39 cd39 ct39), sl39⟩) (c39 : PySem.W.codeIn K cd39 "_law_is_word" = true) (k39 : PySem.W.keepIn K (.ref f39) = true)
    {f40 : Addr} {od40 an40 : Option Addr} {sl40 : Array (Option Value)} {oc40 kV40 dc40 pm40 cd40 ct40 : Value}
    (a40 : PySem.W.nsIn K mainGlobals "_law_letters" = some (some (.ref f40))) (l40 : K.lookup f40 = some ⟨oc40, od40, .func (PySem.W.fnOf "_law_letters" "_law_letters" (defArgs (topS 40)) (defBody (topS 40)) (defScope (topS 40)) .none kV40 dc40 pm40 an40 cd40 ct40), sl40⟩) (c40 : PySem.W.codeIn K cd40 "_law_letters" = true) (k40 : PySem.W.keepIn K (.ref f40) = true)
    {f41 : Addr} {od41 an41 : Option Addr} {sl41 : Array (Option Value)} {oc41 kV41 dc41 pm41 cd41 ct41 : Value}
    (a41 : PySem.W.nsIn K mainGlobals "_law_kinds" = some (some (.ref f41))) (l41 : K.lookup f41 = some ⟨oc41, od41, .func (PySem.W.fnOf "_law_kinds" "_law_kinds" (defArgs (topS 41)) (defBody (topS 41)) (defScope (topS 41)) .none kV41 dc41 pm41 an41 cd41 ct41), sl41⟩) (c41 : PySem.W.codeIn K cd41 "_law_kinds" = true) (k41 : PySem.W.keepIn K (.ref f41) = true)
    {f42 : Addr} {od42 an42 : Option Addr} {sl42 : Array (Option Value)} {oc42 kV42 dc42 pm42 cd42 ct42 : Value}
    (a42 : PySem.W.nsIn K mainGlobals "_law_words" = some (some (.ref f42))) (l42 : K.lookup f42 = some ⟨oc42, od42, .func (PySem.W.fnOf "_law_words" "_law_words" (defArgs (topS 42)) (defBody (topS 42)) (defScope (topS 42)) .none kV42 dc42 pm42 an42 cd42 ct42), sl42⟩) (c42 : PySem.W.codeIn K cd42 "_law_words" = true) (k42 : PySem.W.keepIn K (.ref f42) = true)
    {f43 : Addr} {od43 an43 : Option Addr} {sl43 : Array (Option Value)} {oc43 kV43 dc43 pm43 cd43 ct43 : Value}
    (a43 : PySem.W.nsIn K mainGlobals "_law_whole" = some (some (.ref f43))) (l43 : K.lookup f43 = some ⟨oc43, od43, .func (PySem.W.fnOf "_law_whole" "_law_whole" (defArgs (topS 43)) (defBody (topS 43)) (defScope (topS 43)) .none kV43 dc43 pm43 an43 cd43 ct43), sl43⟩) (c43 : PySem.W.codeIn K cd43 "_law_whole" = true) (k43 : PySem.W.keepIn K (.ref f43) = true)
    {f44 : Addr} {od44 an44 : Option Addr} {sl44 : Array (Option Value)} {oc44 kV44 dc44 pm44 cd44 ct44 : Value}
    (a44 : PySem.W.nsIn K mainGlobals "_law_kind" = some (some (.ref f44))) (l44 : K.lookup f44 = some ⟨oc44, od44, .func (PySem.W.fnOf "_law_kind" "_law_kind" (defArgs (topS 44)) (defBody (topS 44)) (defScope (topS 44)) .none kV44 dc44 pm44 an44 cd44 ct44), sl44⟩) (c44 : PySem.W.codeIn K cd44 "_law_kind" = true) (k44 : PySem.W.keepIn K (.ref f44) = true)
    {f45 : Addr} {od45 an45 : Option Addr} {sl45 : Array (Option Value)} {oc45 kV45 dc45 pm45 cd45 ct45 : Value}
    (a45 : PySem.W.nsIn K mainGlobals "_law_how" = some (some (.ref f45))) (l45 : K.lookup f45 = some ⟨oc45, od45, .func (PySem.W.fnOf "_law_how" "_law_how" (defArgs (topS 45)) (defBody (topS 45)) (defScope (topS 45)) .none kV45 dc45 pm45 an45 cd45 ct45), sl45⟩) (c45 : PySem.W.codeIn K cd45 "_law_how" = true) (k45 : PySem.W.keepIn K (.ref f45) = true)
    {f46 : Addr} {od46 an46 : Option Addr} {sl46 : Array (Option Value)} {oc46 kV46 dc46 pm46 cd46 ct46 : Value}
    (a46 : PySem.W.nsIn K mainGlobals "_law_number" = some (some (.ref f46))) (l46 : K.lookup f46 = some ⟨oc46, od46, .func (PySem.W.fnOf "_law_number" "_law_number" (defArgs (topS 46)) (defBody (topS 46)) (defScope (topS 46)) .none kV46 dc46 pm46 an46 cd46 ct46), sl46⟩) (c46 : PySem.W.codeIn K cd46 "_law_number" = true) (k46 : PySem.W.keepIn K (.ref f46) = true)
    {f47 : Addr} {od47 an47 : Option Addr} {sl47 : Array (Option Value)} {oc47 kV47 dc47 pm47 cd47 ct47 : Value}
    (a47 : PySem.W.nsIn K mainGlobals "_law_text" = some (some (.ref f47))) (l47 : K.lookup f47 = some ⟨oc47, od47, .func (PySem.W.fnOf "_law_text" "_law_text" (defArgs (topS 47)) (defBody (topS 47)) (defScope (topS 47)) .none kV47 dc47 pm47 an47 cd47 ct47), sl47⟩) (c47 : PySem.W.codeIn K cd47 "_law_text" = true) (k47 : PySem.W.keepIn K (.ref f47) = true)
    {f48 : Addr} {od48 an48 : Option Addr} {sl48 : Array (Option Value)} {oc48 kV48 dc48 pm48 cd48 ct48 : Value}
    (a48 : PySem.W.nsIn K mainGlobals "_law_due" = some (some (.ref f48))) (l48 : K.lookup f48 = some ⟨oc48, od48, .func (PySem.W.fnOf "_law_due" "_law_due" (defArgs (topS 48)) (defBody (topS 48)) (defScope (topS 48)) .none kV48 dc48 pm48 an48 cd48 ct48), sl48⟩) (c48 : PySem.W.codeIn K cd48 "_law_due" = true) (k48 : PySem.W.keepIn K (.ref f48) = true)
    {f49 : Addr} {od49 an49 : Option Addr} {sl49 : Array (Option Value)} {oc49 kV49 dc49 pm49 ct49 : Value} {cc49 : Addr}
    (a49 : PySem.W.nsIn K mainGlobals "law" = some (some (.ref f49))) (l49 : K.lookup f49 = some ⟨oc49, od49, .func (PySem.W.fnOf "law" "law" (defArgs (topS 49)) (defBody (topS 49)) (defScope (topS 49)) .none kV49 dc49 pm49 an49 (.ref cc49) ct49), sl49⟩) (c49 : PySem.W.codeIn K (.ref cc49) "law" = true) (k49 : PySem.W.keepIn K (.ref f49) = true)
    (z_ValueError : PySem.W.nsIn K mainGlobals "ValueError" = some none)
    (z_abs : PySem.W.nsIn K mainGlobals "abs" = some none)
    (z_all : PySem.W.nsIn K mainGlobals "all" = some none)
    (z_bool : PySem.W.nsIn K mainGlobals "bool" = some none)
    (z_int : PySem.W.nsIn K mainGlobals "int" = some none)
    (z_isinstance : PySem.W.nsIn K mainGlobals "isinstance" = some none)
    (z_len : PySem.W.nsIn K mainGlobals "len" = some none)
    (z_max : PySem.W.nsIn K mainGlobals "max" = some none)
    (z_min : PySem.W.nsIn K mainGlobals "min" = some none)
    (z_range : PySem.W.nsIn K mainGlobals "range" = some none)
    (z_str : PySem.W.nsIn K mainGlobals "str" = some none)
    (z_tuple : PySem.W.nsIn K mainGlobals "tuple" = some none)
    {tk25 : Tok} (e25 : PySem.W.nsIn K mainGlobals "MOST_LETTERS" = some (some (.int 12 tk25)))
    {tk26 : Tok} (e26 : PySem.W.nsIn K mainGlobals "MOST_WORDS" = some (some (.int 120 tk26)))
    {tk33 : Tok} (e33 : PySem.W.nsIn K mainGlobals "MOST_NUMBER" = some (some (.int 9999 tk33)))
    {f2 : Addr} (a2 : PySem.W.nsIn K mainGlobals "Wrong" = some (some (.ref f2)))
    {f3 : Addr} (a3 : PySem.W.nsIn K mainGlobals "NoWord" = some (some (.ref f3)))
    {f4 : Addr} (a4 : PySem.W.nsIn K mainGlobals "NoText" = some (some (.ref f4)))
    {f5 : Addr} (a5 : PySem.W.nsIn K mainGlobals "NoNumber" = some (some (.ref f5)))
    {f6 : Addr} (a6 : PySem.W.nsIn K mainGlobals "NoSize" = some (some (.ref f6)))
    {f7 : Addr} (a7 : PySem.W.nsIn K mainGlobals "NoLengths" = some (some (.ref f7)))
    {f8 : Addr} (a8 : PySem.W.nsIn K mainGlobals "NoQuery" = some (some (.ref f8)))
    {f9 : Addr} (a9 : PySem.W.nsIn K mainGlobals "NoName" = some (some (.ref f9)))
    {f10 : Addr} (a10 : PySem.W.nsIn K mainGlobals "NoCode" = some (some (.ref f10)))
    {f11 : Addr} (a11 : PySem.W.nsIn K mainGlobals "NoRow" = some (some (.ref f11)))
    {f12 : Addr} (a12 : PySem.W.nsIn K mainGlobals "NoEntries" = some (some (.ref f12)))
    {f13 : Addr} (a13 : PySem.W.nsIn K mainGlobals "NoQueryText" = some (some (.ref f13)))
    {f14 : Addr} (a14 : PySem.W.nsIn K mainGlobals "NoPages" = some (some (.ref f14)))
    {f15 : Addr} (a15 : PySem.W.nsIn K mainGlobals "NoQueries" = some (some (.ref f15)))
    {f16 : Addr} (a16 : PySem.W.nsIn K mainGlobals "NoShelf" = some (some (.ref f16)))
    {f17 : Addr} (a17 : PySem.W.nsIn K mainGlobals "NoDeed" = some (some (.ref f17)))
    {f18 : Addr} (a18 : PySem.W.nsIn K mainGlobals "Taken" = some (some (.ref f18)))
    {f19 : Addr} (a19 : PySem.W.nsIn K mainGlobals "NoPlace" = some (some (.ref f19)))
    {f20 : Addr} (a20 : PySem.W.nsIn K mainGlobals "NoSlot" = some (some (.ref f20)))
    {f34 : Addr} (a34 : PySem.W.nsIn K mainGlobals "Page" = some (some (.ref f34)))
    (xx4 : PySem.W.excIn K f4 [.type "ValueError", .type "Exception", .type "BaseException", .type "object"] "ValueError.__new__" = true) (xk4 : PySem.W.keepIn K (.ref f4) = true) (xb4 : PySem.W.subIn K (.ref f4) (.type "BaseException") = some true) (xt4 : PySem.W.typeIn K (.ref f4) = some (.type "type"))
    (xh4 : plainB K ⟨[f10, f12, f14, f13, f11], f2, [f19, f20], [f10, f17, f12, f7, f9, f5, f14, f15, f8, f13, f11, f16, f6, f4, f3, f18]⟩ f4 13 = true)
    (xx5 : PySem.W.excIn K f5 [.type "ValueError", .type "Exception", .type "BaseException", .type "object"] "ValueError.__new__" = true) (xk5 : PySem.W.keepIn K (.ref f5) = true) (xb5 : PySem.W.subIn K (.ref f5) (.type "BaseException") = some true) (xt5 : PySem.W.typeIn K (.ref f5) = some (.type "type"))
    (xh5 : plainB K ⟨[f10, f12, f14, f13, f11], f2, [f19, f20], [f10, f17, f12, f7, f9, f5, f14, f15, f8, f13, f11, f16, f6, f4, f3, f18]⟩ f5 5 = true)
    (pg34 : PySem.W.plainGet K f34 Str.empty = true) (hd34 : PySem.W.hasDictIn K f34 = true) (po34 : PySem.W.plainOver K f34 = true) (sa34 : PySem.W.findIn K (.ref f34) "__setattr__" = some (some (.builtin "object.__setattr__"))) (mk34 : PySem.W.makesIn K f34 = true) (kc34 : PySem.W.keepIn K (.ref f34) = true)
    (na34_number : PySem.W.findIn K (.ref f34) "number" = some none)
    (na34_in_turn : PySem.W.findIn K (.ref f34) "in_turn" = some none)
    {f50 : Addr} {od50 an50 : Option Addr} {sl50 : Array (Option Value)} {oc50 kV50 dc50 pm50 cd50 ct50 : Value}
    (a50 : PySem.W.findIn K (.ref f34) "__init__" = some (some (.ref f50))) (i50 : PySem.W.isFn K (.ref f50) = true)
    {DT50 nd50 : Nat} {ocd50 : Value} {odd50 : Option Addr} {sld50 : Array (Option Value)} {td50_0 : Tok}
    (l50 : K.lookup f50 = some ⟨oc50, od50, .func (PySem.W.fnOf "__init__" "Page.__init__" (defArgs (inClass (topS 34) 0)) (defBody (inClass (topS 34) 0)) (defScope (inClass (topS 34) 0)) (.ref DT50) kV50 dc50 pm50 an50 cd50 ct50), sl50⟩) (c50 : PySem.W.codeIn K cd50 "Page.__init__" = true) (k50 : PySem.W.keepIn K (.ref f50) = true)
    (dt50 : K.lookup DT50 = some ⟨ocd50, odd50, .seq #[.str "" td50_0] nd50, sld50⟩)
    {P49 : Addr} (tb49 : h.get? P49 = some (PySem.W.tabObj #[])) (tn49 : K.lookup P49 = none) (th49 : PySem.W.codeHdIn K cc49 P49 = true)
    : LamX.LawAtS l w K CX0 12 63 "_law_script" mg fa h := by
  have e := hfa.symm.trans (PySem.W.mg_of X G a49)
  cases e
  let A : Nat → Addr := fun i => ([f0, 0, f2, f3, f4, f5, f6, f7, f8, f9, f10, f11, f12, f13, f14, f15, f16, f17, f18, f19, f20, 0, f22, f23, 0, 0, 0, f27, f28, f29, f30, f31, 0, 0, f34, f35, 0, f37, f38, f39, f40, f41, f42, f43, f44, f45, f46, f47, f48, fa, f50] : List Addr).getD i 0
  let FD : Nat → FuncData := fun i => ([PySem.W.fnOf "_wall" "_wall" (defArgs (topS 0)) (defBody (topS 0)) (defScope (topS 0)) .none kV0 dc0 pm0 an0 cd0 ct0, PySem.W.fnOf "law" "law" (defArgs (topS 49)) (defBody (topS 49)) (defScope (topS 49)) .none kV49 dc49 pm49 an49 (.ref cc49) ct49, PySem.W.fnOf "law" "law" (defArgs (topS 49)) (defBody (topS 49)) (defScope (topS 49)) .none kV49 dc49 pm49 an49 (.ref cc49) ct49, PySem.W.fnOf "law" "law" (defArgs (topS 49)) (defBody (topS 49)) (defScope (topS 49)) .none kV49 dc49 pm49 an49 (.ref cc49) ct49, PySem.W.fnOf "law" "law" (defArgs (topS 49)) (defBody (topS 49)) (defScope (topS 49)) .none kV49 dc49 pm49 an49 (.ref cc49) ct49, PySem.W.fnOf "law" "law" (defArgs (topS 49)) (defBody (topS 49)) (defScope (topS 49)) .none kV49 dc49 pm49 an49 (.ref cc49) ct49, PySem.W.fnOf "law" "law" (defArgs (topS 49)) (defBody (topS 49)) (defScope (topS 49)) .none kV49 dc49 pm49 an49 (.ref cc49) ct49, PySem.W.fnOf "law" "law" (defArgs (topS 49)) (defBody (topS 49)) (defScope (topS 49)) .none kV49 dc49 pm49 an49 (.ref cc49) ct49, PySem.W.fnOf "law" "law" (defArgs (topS 49)) (defBody (topS 49)) (defScope (topS 49)) .none kV49 dc49 pm49 an49 (.ref cc49) ct49, PySem.W.fnOf "law" "law" (defArgs (topS 49)) (defBody (topS 49)) (defScope (topS 49)) .none kV49 dc49 pm49 an49 (.ref cc49) ct49, PySem.W.fnOf "law" "law" (defArgs (topS 49)) (defBody (topS 49)) (defScope (topS 49)) .none kV49 dc49 pm49 an49 (.ref cc49) ct49, PySem.W.fnOf "law" "law" (defArgs (topS 49)) (defBody (topS 49)) (defScope (topS 49)) .none kV49 dc49 pm49 an49 (.ref cc49) ct49, PySem.W.fnOf "law" "law" (defArgs (topS 49)) (defBody (topS 49)) (defScope (topS 49)) .none kV49 dc49 pm49 an49 (.ref cc49) ct49, PySem.W.fnOf "law" "law" (defArgs (topS 49)) (defBody (topS 49)) (defScope (topS 49)) .none kV49 dc49 pm49 an49 (.ref cc49) ct49, PySem.W.fnOf "law" "law" (defArgs (topS 49)) (defBody (topS 49)) (defScope (topS 49)) .none kV49 dc49 pm49 an49 (.ref cc49) ct49, PySem.W.fnOf "law" "law" (defArgs (topS 49)) (defBody (topS 49)) (defScope (topS 49)) .none kV49 dc49 pm49 an49 (.ref cc49) ct49, PySem.W.fnOf "law" "law" (defArgs (topS 49)) (defBody (topS 49)) (defScope (topS 49)) .none kV49 dc49 pm49 an49 (.ref cc49) ct49, PySem.W.fnOf "law" "law" (defArgs (topS 49)) (defBody (topS 49)) (defScope (topS 49)) .none kV49 dc49 pm49 an49 (.ref cc49) ct49, PySem.W.fnOf "law" "law" (defArgs (topS 49)) (defBody (topS 49)) (defScope (topS 49)) .none kV49 dc49 pm49 an49 (.ref cc49) ct49, PySem.W.fnOf "law" "law" (defArgs (topS 49)) (defBody (topS 49)) (defScope (topS 49)) .none kV49 dc49 pm49 an49 (.ref cc49) ct49, PySem.W.fnOf "law" "law" (defArgs (topS 49)) (defBody (topS 49)) (defScope (topS 49)) .none kV49 dc49 pm49 an49 (.ref cc49) ct49, PySem.W.fnOf "law" "law" (defArgs (topS 49)) (defBody (topS 49)) (defScope (topS 49)) .none kV49 dc49 pm49 an49 (.ref cc49) ct49, PySem.W.fnOf "is_whole" "is_whole" (defArgs (topS 22)) (defBody (topS 22)) (defScope (topS 22)) .none kV22 dc22 pm22 an22 cd22 ct22, PySem.W.fnOf "is_within" "is_within" (defArgs (topS 23)) (defBody (topS 23)) (defScope (topS 23)) .none kV23 dc23 pm23 an23 cd23 ct23, PySem.W.fnOf "law" "law" (defArgs (topS 49)) (defBody (topS 49)) (defScope (topS 49)) .none kV49 dc49 pm49 an49 (.ref cc49) ct49, PySem.W.fnOf "law" "law" (defArgs (topS 49)) (defBody (topS 49)) (defScope (topS 49)) .none kV49 dc49 pm49 an49 (.ref cc49) ct49, PySem.W.fnOf "law" "law" (defArgs (topS 49)) (defBody (topS 49)) (defScope (topS 49)) .none kV49 dc49 pm49 an49 (.ref cc49) ct49, PySem.W.fnOf "is_word" "is_word" (defArgs (topS 27)) (defBody (topS 27)) (defScope (topS 27)) .none kV27 dc27 pm27 an27 cd27 ct27, PySem.W.fnOf "are_words" "are_words" (defArgs (topS 28)) (defBody (topS 28)) (defScope (topS 28)) .none kV28 dc28 pm28 an28 cd28 ct28, PySem.W.fnOf "check_word" "check_word" (defArgs (topS 29)) (defBody (topS 29)) (defScope (topS 29)) .none kV29 dc29 pm29 an29 cd29 ct29, PySem.W.fnOf "words_of" "words_of" (defArgs (topS 30)) (defBody (topS 30)) (defScope (topS 30)) .none kV30 dc30 pm30 an30 cd30 ct30, PySem.W.fnOf "check_words" "check_words" (defArgs (topS 31)) (defBody (topS 31)) (defScope (topS 31)) .none kV31 dc31 pm31 an31 cd31 ct31, PySem.W.fnOf "law" "law" (defArgs (topS 49)) (defBody (topS 49)) (defScope (topS 49)) .none kV49 dc49 pm49 an49 (.ref cc49) ct49, PySem.W.fnOf "law" "law" (defArgs (topS 49)) (defBody (topS 49)) (defScope (topS 49)) .none kV49 dc49 pm49 an49 (.ref cc49) ct49, PySem.W.fnOf "law" "law" (defArgs (topS 49)) (defBody (topS 49)) (defScope (topS 49)) .none kV49 dc49 pm49 an49 (.ref cc49) ct49, PySem.W.fnOf "check_page_number" "check_page_number" (defArgs (topS 35)) (defBody (topS 35)) (defScope (topS 35)) .none kV35 dc35 pm35 an35 cd35 ct35, PySem.W.fnOf "law" "law" (defArgs (topS 49)) (defBody (topS 49)) (defScope (topS 49)) .none kV49 dc49 pm49 an49 (.ref cc49) ct49, PySem.W.fnOf "_law_pool" "_law_pool" (defArgs (topS 37)) (defBody (topS 37)) (defScope (topS 37)) .none kV37 dc37 pm37 an37 cd37 ct37, PySem.W.fnOf "_law_take" "_law_take" (defArgs (topS 38)) (defBody (topS 38)) (defScope (topS 38)) .none kV38 dc38 pm38 an38 cd38 ct38, PySem.W.fnOf "_law_is_word" "_law_is_word" (defArgs (topS 39)) (defBody (topS 39)) (defScope (topS 39)) .none kV39 dc39 pm39 an39 cd39 ct39, PySem.W.fnOf "_law_letters" "_law_letters" (defArgs (topS 40)) (defBody (topS 40)) (defScope (topS 40)) .none kV40 dc40 pm40 an40 cd40 ct40, PySem.W.fnOf "_law_kinds" "_law_kinds" (defArgs (topS 41)) (defBody (topS 41)) (defScope (topS 41)) .none kV41 dc41 pm41 an41 cd41 ct41, PySem.W.fnOf "_law_words" "_law_words" (defArgs (topS 42)) (defBody (topS 42)) (defScope (topS 42)) .none kV42 dc42 pm42 an42 cd42 ct42, PySem.W.fnOf "_law_whole" "_law_whole" (defArgs (topS 43)) (defBody (topS 43)) (defScope (topS 43)) .none kV43 dc43 pm43 an43 cd43 ct43, PySem.W.fnOf "_law_kind" "_law_kind" (defArgs (topS 44)) (defBody (topS 44)) (defScope (topS 44)) .none kV44 dc44 pm44 an44 cd44 ct44, PySem.W.fnOf "_law_how" "_law_how" (defArgs (topS 45)) (defBody (topS 45)) (defScope (topS 45)) .none kV45 dc45 pm45 an45 cd45 ct45, PySem.W.fnOf "_law_number" "_law_number" (defArgs (topS 46)) (defBody (topS 46)) (defScope (topS 46)) .none kV46 dc46 pm46 an46 cd46 ct46, PySem.W.fnOf "_law_text" "_law_text" (defArgs (topS 47)) (defBody (topS 47)) (defScope (topS 47)) .none kV47 dc47 pm47 an47 cd47 ct47, PySem.W.fnOf "_law_due" "_law_due" (defArgs (topS 48)) (defBody (topS 48)) (defScope (topS 48)) .none kV48 dc48 pm48 an48 cd48 ct48, PySem.W.fnOf "law" "law" (defArgs (topS 49)) (defBody (topS 49)) (defScope (topS 49)) .none kV49 dc49 pm49 an49 (.ref cc49) ct49, PySem.W.fnOf "__init__" "Page.__init__" (defArgs (inClass (topS 34) 0)) (defBody (inClass (topS 34) 0)) (defScope (inClass (topS 34) 0)) (.ref DT50) kV50 dc50 pm50 an50 cd50 ct50] : List FuncData).getD i (PySem.W.fnOf "law" "law" (defArgs (topS 49)) (defBody (topS 49)) (defScope (topS 49)) .none kV49 dc49 pm49 an49 (.ref cc49) ct49)
  let TK : Nat → Tok := fun i => ([0, 0, 0, 0, 0, 0, 0, 0, 0, 0, 0, 0, 0, 0, 0, 0, 0, 0, 0, 0, 0, 0, 0, 0, 0, tk25, tk26, 0, 0, 0, 0, 0, 0, tk33] : List Tok).getD i 0
  let CC : Nat → Addr := fun i => ([0, 0, 0, 0, 0, 0, 0, 0, 0, 0, 0, 0, 0, 0, 0, 0, 0, 0, 0, 0, 0, 0, 0, 0, 0, 0, 0, 0, 0, 0, 0, 0, 0, 0, 0, 0, 0, 0, 0, 0, 0, 0, 0, 0, 0, 0, 0, 0, 0, cc49] : List Addr).getD i 0
  have T : TX K mg A FD TK CC := {
    f_wall := fun_mk (st := topS 0) l0 c0 k0
    b_wall := (fun_mk (st := topS 0) l0 c0 k0).binds (ps := ["k"]) fun _ _ _ _ _ _ us hl => match us, hl with | [_], _ => rfl
    g_wall := PySem.W.mg_of X G a0
    f_is_whole := fun_mk (st := topS 22) l22 c22 k22
    b_is_whole := (fun_mk (st := topS 22) l22 c22 k22).binds (ps := ["thing"]) fun _ _ _ _ _ _ us hl => match us, hl with | [_], _ => rfl
    g_is_whole := PySem.W.mg_of X G a22
    f_is_within := fun_mk (st := topS 23) l23 c23 k23
    b_is_within := (fun_mk (st := topS 23) l23 c23 k23).binds (ps := ["thing", "least", "most"]) fun _ _ _ _ _ _ us hl => match us, hl with | [_, _, _], _ => rfl
    g_is_within := PySem.W.mg_of X G a23
    f_is_word := fun_mk (st := topS 27) l27 c27 k27
    b_is_word := (fun_mk (st := topS 27) l27 c27 k27).binds (ps := ["thing"]) fun _ _ _ _ _ _ us hl => match us, hl with | [_], _ => rfl
    g_is_word := PySem.W.mg_of X G a27
    f_are_words := fun_mk (st := topS 28) l28 c28 k28
    b_are_words := (fun_mk (st := topS 28) l28 c28 k28).binds (ps := ["things"]) fun _ _ _ _ _ _ us hl => match us, hl with | [_], _ => rfl
    g_are_words := PySem.W.mg_of X G a28
    f_check_word := fun_mk (st := topS 29) l29 c29 k29
    b_check_word := (fun_mk (st := topS 29) l29 c29 k29).binds (ps := ["word"]) fun _ _ _ _ _ _ us hl => match us, hl with | [_], _ => rfl
    g_check_word := PySem.W.mg_of X G a29
    f_words_of := fun_mk (st := topS 30) l30 c30 k30
    b_words_of := (fun_mk (st := topS 30) l30 c30 k30).binds (ps := ["text"]) fun _ _ _ _ _ _ us hl => match us, hl with | [_], _ => rfl
    g_words_of := PySem.W.mg_of X G a30
    f_check_words := fun_mk (st := topS 31) l31 c31 k31
    b_check_words := (fun_mk (st := topS 31) l31 c31 k31).binds (ps := ["words"]) fun _ _ _ _ _ _ us hl => match us, hl with | [_], _ => rfl
    g_check_words := PySem.W.mg_of X G a31
    f_check_page_number := fun_mk (st := topS 35) l35 c35 k35
    b_check_page_number := (fun_mk (st := topS 35) l35 c35 k35).binds (ps := ["number"]) fun _ _ _ _ _ _ us hl => match us, hl with | [_], _ => rfl
    g_check_page_number := PySem.W.mg_of X G a35
    f_l_pool := fun_mk (st := topS 37) l37 c37 k37
    b_l_pool := (fun_mk (st := topS 37) l37 c37 k37).binds (ps := ["_law_script", "_law_at"]) fun _ _ _ _ _ _ us hl => match us, hl with | [_, _], _ => rfl
    g_l_pool := PySem.W.mg_of X G a37
    f_l_take := fun_mk (st := topS 38) l38 c38 k38
    b_l_take := (fun_mk (st := topS 38) l38 c38 k38).binds (ps := ["_law_pool_here", "_law_many"]) fun _ _ _ _ _ _ us hl => match us, hl with | [_, _], _ => rfl
    g_l_take := PySem.W.mg_of X G a38
    f_l_is_word := fun_mk (st := topS 39) l39 c39 k39
    b_l_is_word := (fun_mk (st := topS 39) l39 c39 k39).binds (ps := ["_law_thing"]) fun _ _ _ _ _ _ us hl => match us, hl with | [_], _ => rfl
    g_l_is_word := PySem.W.mg_of X G a39
    f_l_letters := fun_mk (st := topS 40) l40 c40 k40
    b_l_letters := (fun_mk (st := topS 40) l40 c40 k40).binds (ps := []) fun _ _ _ _ _ _ us hl => match us, hl with | [], _ => rfl
    g_l_letters := PySem.W.mg_of X G a40
    f_l_kinds := fun_mk (st := topS 41) l41 c41 k41
    b_l_kinds := (fun_mk (st := topS 41) l41 c41 k41).binds (ps := ["_law_pool_here"]) fun _ _ _ _ _ _ us hl => match us, hl with | [_], _ => rfl
    g_l_kinds := PySem.W.mg_of X G a41
    f_l_words := fun_mk (st := topS 42) l42 c42 k42
    b_l_words := (fun_mk (st := topS 42) l42 c42 k42).binds (ps := ["_law_pool_here", "_law_kinds_here", "_law_most"]) fun _ _ _ _ _ _ us hl => match us, hl with | [_, _, _], _ => rfl
    g_l_words := PySem.W.mg_of X G a42
    f_l_whole := fun_mk (st := topS 43) l43 c43 k43
    b_l_whole := (fun_mk (st := topS 43) l43 c43 k43).binds (ps := ["_law_thing"]) fun _ _ _ _ _ _ us hl => match us, hl with | [_], _ => rfl
    g_l_whole := PySem.W.mg_of X G a43
    f_l_kind := fun_mk (st := topS 44) l44 c44 k44
    b_l_kind := (fun_mk (st := topS 44) l44 c44 k44).binds (ps := ["_law_e"]) fun _ _ _ _ _ _ us hl => match us, hl with | [_], _ => rfl
    g_l_kind := PySem.W.mg_of X G a44
    f_l_how := fun_mk (st := topS 45) l45 c45 k45
    b_l_how := (fun_mk (st := topS 45) l45 c45 k45).binds (ps := ["_law_deed"]) fun _ _ _ _ _ _ us hl => match us, hl with | [_], _ => rfl
    g_l_how := PySem.W.mg_of X G a45
    f_l_number := fun_mk (st := topS 46) l46 c46 k46
    b_l_number := (fun_mk (st := topS 46) l46 c46 k46).binds (ps := ["_law_pool_here"]) fun _ _ _ _ _ _ us hl => match us, hl with | [_], _ => rfl
    g_l_number := PySem.W.mg_of X G a46
    f_l_text := fun_mk (st := topS 47) l47 c47 k47
    b_l_text := (fun_mk (st := topS 47) l47 c47 k47).binds (ps := ["_law_pool_here", "_law_told_text"]) fun _ _ _ _ _ _ us hl => match us, hl with | [_, _], _ => rfl
    g_l_text := PySem.W.mg_of X G a47
    f_l_due := fun_mk (st := topS 48) l48 c48 k48
    b_l_due := (fun_mk (st := topS 48) l48 c48 k48).binds (ps := ["_law_mark", "_law_told_text"]) fun _ _ _ _ _ _ us hl => match us, hl with | [_, _], _ => rfl
    g_l_due := PySem.W.mg_of X G a48
    F_law := ⟨⟨oc49, od49, kV49, dc49, pm49, an49, ct49, sl49, rfl, l49, c49⟩, k49⟩
    f_law := fun_mk (st := topS 49) l49 c49 k49
    b_law := (fun_mk (st := topS 49) l49 c49 k49).binds (ps := ["_law_script"]) fun _ _ _ _ _ _ us hl => match us, hl with | [_], _ => rfl
    g_law := PySem.W.mg_of X G a49
    m_ValueError := PySem.W.mg_none_of X G z_ValueError
    m_abs := PySem.W.mg_none_of X G z_abs
    m_all := PySem.W.mg_none_of X G z_all
    m_bool := PySem.W.mg_none_of X G z_bool
    m_int := PySem.W.mg_none_of X G z_int
    m_isinstance := PySem.W.mg_none_of X G z_isinstance
    m_len := PySem.W.mg_none_of X G z_len
    m_max := PySem.W.mg_none_of X G z_max
    m_min := PySem.W.mg_none_of X G z_min
    m_range := PySem.W.mg_none_of X G z_range
    m_str := PySem.W.mg_none_of X G z_str
    m_tuple := PySem.W.mg_none_of X G z_tuple
    c_MOST_LETTERS := PySem.W.mg_of X G e25
    c_MOST_WORDS := PySem.W.mg_of X G e26
    c_MOST_NUMBER := PySem.W.mg_of X G e33
    k_Wrong := PySem.W.mg_of X G a2
    k_NoWord := PySem.W.mg_of X G a3
    k_NoText := PySem.W.mg_of X G a4
    k_NoNumber := PySem.W.mg_of X G a5
    k_NoSize := PySem.W.mg_of X G a6
    k_NoLengths := PySem.W.mg_of X G a7
    k_NoQuery := PySem.W.mg_of X G a8
    k_NoName := PySem.W.mg_of X G a9
    k_NoCode := PySem.W.mg_of X G a10
    k_NoRow := PySem.W.mg_of X G a11
    k_NoEntries := PySem.W.mg_of X G a12
    k_NoQueryText := PySem.W.mg_of X G a13
    k_NoPages := PySem.W.mg_of X G a14
    k_NoQueries := PySem.W.mg_of X G a15
    k_NoShelf := PySem.W.mg_of X G a16
    k_NoDeed := PySem.W.mg_of X G a17
    k_Taken := PySem.W.mg_of X G a18
    k_NoPlace := PySem.W.mg_of X G a19
    k_NoSlot := PySem.W.mg_of X G a20
    k_Page := PySem.W.mg_of X G a34
    cl_Page := ⟨pg34, hd34, po34, sa34⟩
    n_Page_number := na34_number
    n_Page_in_turn := na34_in_turn
    f_Page_init := ⟨⟨oc50, od50, .ref DT50, kV50, dc50, pm50, an50, cd50, ct50, sl50, rfl, l50, c50, .inr ⟨by simp, DT50, _, [_], nd50, rfl, dt50, rfl, (.cons ⟨_, rfl⟩ .nil)⟩, .inl rfl⟩, k50⟩
    M_Page := ⟨mk34, a50, i50, kc34⟩
    x_NoText := xx4
    kc_NoText := xk4
    br_NoText := xb4
    ty_NoText := xt4
    h_NoText := plain_of xh4
    x_NoNumber := xx5
    kc_NoNumber := xk5
    br_NoNumber := xb5
    ty_NoNumber := xt5
    h_NoNumber := plain_of xh5 }
  refine ⟨FD 49, [(cc49, P49)], spLaw K [(P49, lamQ "law")], (fun p hp => by
      simp only [List.mem_cons, List.not_mem_nil, or_false] at hp
      subst hp
      exact tb49), (fun p hp => by
      simp only [List.mem_cons, List.not_mem_nil, or_false] at hp
      subst hp
      exact tn49), (fun p hp => by
      simp only [List.mem_cons, List.not_mem_nil, or_false] at hp
      subst hp
      exact PySem.W.codeHd_of_K X th49), fun s v => .of_eq rfl, fun H a ns hl _ hT hS => ⟨a, ns, rfl, hS, hl, ?_, fun _ => rfl⟩, fun base _ _ hB => ok_law T (hB (cc49, P49) (by simp))⟩
  intro p hp
  simp only [List.mem_cons, List.not_mem_nil, or_false] at hp
  subst hp
  exact LamX.TabS.nil (hT (cc49, P49) (by simp))
end K05
open PySem PySem.W PyProof.Rows
set_option maxHeartbeats 0 in
theorem PySem.Challenge.cw_blocksearch_k05_pages_refused_holds : PySem.Challenge.rw_blocksearch_k05_pages_refused.Holds := by
  w_on; o_law; k_head; (case hw => w_witness2)
  k_fill
  refine LamX.walk_ofTs (l := PySem.Challenge.rw_blocksearch_k05_pages_refused) (n := 63) (k := 12) (x := "_law_script") (CX := fun _ => L2.CX0) rfl (by decide) rfl ⟨rfl, by decide, by decide⟩ (fun w h Y => PySem.W.km_in_of Y) ?F (fun _ _ _ _ _ h => h)
  case F =>
    intro w mg fa h Y KX G hmg
    have hT8 := PySem.W.km_tabs_of Y
    refine' K05.all_mk KX G hmg ?a0 ?l0 ?c0 ?k0 ?a22 ?l22 ?c22 ?k22 ?a23 ?l23 ?c23 ?k23 ?a27 ?l27 ?c27 ?k27 ?a28 ?l28 ?c28 ?k28 ?a29 ?l29 ?c29 ?k29 ?a30 ?l30 ?c30 ?k30 ?a31 ?l31 ?c31 ?k31 ?a35 ?l35 ?c35 ?k35 ?a37 ?l37 ?c37 ?k37 ?a38 ?l38 ?c38 ?k38 ?a39 ?l39 ?c39 ?k39 ?a40 ?l40 ?c40 ?k40 ?a41 ?l41 ?c41 ?k41 ?a42 ?l42 ?c42 ?k42 ?a43 ?l43 ?c43 ?k43 ?a44 ?l44 ?c44 ?k44 ?a45 ?l45 ?c45 ?k45 ?a46 ?l46 ?c46 ?k46 ?a47 ?l47 ?c47 ?k47 ?a48 ?l48 ?c48 ?k48 ?a49 ?l49 ?c49 ?k49 ?z_ValueError ?z_abs ?z_all ?z_bool ?z_int ?z_isinstance ?z_len ?z_max ?z_min ?z_range ?z_str ?z_tuple ?e25 ?e26 ?e33 ?a2 ?a3 ?a4 ?a5 ?a6 ?a7 ?a8 ?a9 ?a10 ?a11 ?a12 ?a13 ?a14 ?a15 ?a16 ?a17 ?a18 ?a19 ?a20 ?a34 ?xx4 ?xk4 ?xb4 ?xt4 ?xh4 ?xx5 ?xk5 ?xb5 ?xt5 ?xh5 ?pg34 ?hd34 ?po34 ?sa34 ?mk34 ?kc34 ?na34_number ?na34_in_turn ?a50 ?i50 ?l50 ?c50 ?k50 ?dt50 ?tb49 ?tn49 ?th49
    (case a0 => k_is)
    (case l0 => k_is)
    (case c0 => k_is)
    (case k0 => k_is)
    (case a22 => k_is)
    (case l22 => k_is)
    (case c22 => k_is)
    (case k22 => k_is)
    (case a23 => k_is)
    (case l23 => k_is)
    (case c23 => k_is)
    (case k23 => k_is)
    (case a27 => k_is)
    (case l27 => k_is)
    (case c27 => k_is)
    (case k27 => k_is)
    (case a28 => k_is)
    (case l28 => k_is)
    (case c28 => k_is)
    (case k28 => k_is)
    (case a29 => k_is)
    (case l29 => k_is)
    (case c29 => k_is)
    (case k29 => k_is)
    (case a30 => k_is)
    (case l30 => k_is)
    (case c30 => k_is)
    (case k30 => k_is)
    (case a31 => k_is)
    (case l31 => k_is)
    (case c31 => k_is)
    (case k31 => k_is)
    (case a35 => k_is)
    (case l35 => k_is)
    (case c35 => k_is)
    (case k35 => k_is)
    (case a37 => k_is)
    (case l37 => k_is)
    (case c37 => k_is)
    (case k37 => k_is)
    (case a38 => k_is)
    (case l38 => k_is)
    (case c38 => k_is)
    (case k38 => k_is)
    (case a39 => k_is)
    (case l39 => k_is)
    (case c39 => k_is)
    (case k39 => k_is)
    (case a40 => k_is)
    (case l40 => k_is)
    (case c40 => k_is)
    (case k40 => k_is)
    (case a41 => k_is)
    (case l41 => k_is)
    (case c41 => k_is)
    (case k41 => k_is)
    (case a42 => k_is)
    (case l42 => k_is)
    (case c42 => k_is)
    (case k42 => k_is)
    (case a43 => k_is)
    (case l43 => k_is)
    (case c43 => k_is)
    (case k43 => k_is)
    (case a44 => k_is)
    (case l44 => k_is)
    (case c44 => k_is)
    (case k44 => k_is)
    (case a45 => k_is)
    (case l45 => k_is)
    (case c45 => k_is)
    (case k45 => k_is)
    (case a46 => k_is)
    (case l46 => k_is)
    (case c46 => k_is)
    (case k46 => k_is)
    (case a47 => k_is)
    (case l47 => k_is)
    (case c47 => k_is)
    (case k47 => k_is)
    (case a48 => k_is)
    (case l48 => k_is)
    (case c48 => k_is)
    (case k48 => k_is)
    (case a49 => k_is)
    (case l49 => k_is)
    (case c49 => k_is)
    (case k49 => k_is)
    (case z_ValueError => k_is)
    (case z_abs => k_is)
    (case z_all => k_is)
    (case z_bool => k_is)
    (case z_int => k_is)
    (case z_isinstance => k_is)
    (case z_len => k_is)
    (case z_max => k_is)
    (case z_min => k_is)
    (case z_range => k_is)
    (case z_str => k_is)
    (case z_tuple => k_is)
    (case e25 => k_is)
    (case e26 => k_is)
    (case e33 => k_is)
    (case a2 => k_is)
    (case a3 => k_is)
    (case a4 => k_is)
    (case a5 => k_is)
    (case a6 => k_is)
    (case a7 => k_is)
    (case a8 => k_is)
    (case a9 => k_is)
    (case a10 => k_is)
    (case a11 => k_is)
    (case a12 => k_is)
    (case a13 => k_is)
    (case a14 => k_is)
    (case a15 => k_is)
    (case a16 => k_is)
    (case a17 => k_is)
    (case a18 => k_is)
    (case a19 => k_is)
    (case a20 => k_is)
    (case a34 => k_is)
    (case xx4 => k_exc)
    (case xk4 => k_is)
    (case xb4 => k_is)
    (case xt4 => k_is)
    (case xh4 => kernel_rfl)
    (case xx5 => k_exc)
    (case xk5 => k_is)
    (case xb5 => k_is)
    (case xt5 => k_is)
    (case xh5 => kernel_rfl)
    (case pg34 => k_is)
    (case hd34 => k_is)
    (case po34 => k_is)
    (case sa34 => k_is)
    (case mk34 => k_is)
    (case kc34 => k_is)
    (case na34_number => k_is)
    (case na34_in_turn => k_is)
    (case a50 => k_is)
    (case i50 => k_is)
    (case l50 => k_is)
    (case c50 => k_is)
    (case k50 => k_is)
    (case dt50 => k_is)
    (case tb49 => exact hT8 _ (by first | exact List.mem_cons_self .. | exact List.mem_cons_of_mem _ (List.mem_cons_self ..)))
    (case tn49 => kernel_rfl)
    (case th49 => kernel_rfl)

