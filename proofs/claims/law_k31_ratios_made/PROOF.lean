import PyProof.Rows.All
import Wide.All
import OpenK.AllK
import Wide.FinOn
import HandS.ForMost
import HandS.Defaults
import HandS.IsInst
import HandS.Walk
import HandS.Evl
import HandS.More
import HandS.Wide
import HandS.MakeKw
import HandS.Codes
import HandS.HeadWalk
import HandS.EndTab
import HandS.Lambda
import HandS.WideBits
import HandS.StrMore
import HandS.Rev
import HandS.OwnEq
import KE.KCallOwn
import HandS.Exc
import HandS.TryOnly
import HandS.ExcOwn
import HandS.WordsExc
import HandS.ExcIs
import HandS.HotCalls
import HandS.MakeKwOnly
import HandS.Text
import KE.KExcIs
import KE.KNestM
import HandS.FStr
import HandS.HeadEnd
import HandS.Head2
import HandS.HeadHook4
import KE.KStateDown
import PySem.Challenge.RW_blocksearch_k31_ratios_made
set_option Elab.async false
set_option linter.all false
set_option maxRecDepth 100000
/-! words of my own: the drawn pool, heaps that grow beside it, small facts -/
namespace My
open PySem PySem.Spec PyProof.Rows L2 Evl

/-- the pool at p: three ints, at most c draws mixed so far -/
def Pl (H : Hp) (p : Addr) (c : Nat) : Prop := ∃ (g b : Int) (k : Nat), H p = some (.lst [.int g, .int b, .int (k : Int)]) ∧ 0 ≤ g ∧ 0 ≤ b ∧ b < 1237940039285380274899124224 ∧ k ≤ c
/-- all but p stays -/
def Fx (p : Addr) (H H' : Hp) : Prop := ∀ a o, a ≠ p → H a = some o → H' a = some o
theorem Fx.refl (p : Addr) (H : Hp) : Fx p H H := fun _ _ _ h => h
theorem Fx.trans {p : Addr} {H H1 H2 : Hp} (a : Fx p H H1) (b : Fx p H1 H2) : Fx p H H2 := fun x o n h => b x o n (a x o n h)
theorem Fx.ex {p : Addr} {H H' : Hp} (e : Ex H H') : Fx p H H' := fun a o _ h => e a o h
theorem Fx.upd {p : Addr} {H : Hp} {o : HO} : Fx p H (L2.upd H p o) := fun a u n h => by
  rw [upd_ne n]
  exact h
theorem Pl.mono {H : Hp} {p : Addr} {c c' : Nat} (h : Pl H p c) (l : c ≤ c') : Pl H p c' := by
  obtain ⟨g, b, k, h1, h2, h3, h4, h5⟩ := h
  exact ⟨g, b, k, h1, h2, h3, h4, Nat.le_trans h5 l⟩
theorem Pl.ex {H H' : Hp} {p : Addr} {c : Nat} (h : Pl H p c) (e : Ex H H') : Pl H' p c := by
  obtain ⟨g, b, k, h1, h2⟩ := h
  exact ⟨g, b, k, e _ _ h1, h2⟩
theorem Pl.some {H : Hp} {p : Addr} {c : Nat} (h : Pl H p c) : ∃ xs, H p = some (.lst xs) := by
  obtain ⟨g, b, k, h1, _⟩ := h
  exact ⟨_, h1⟩
/-- what is free behind was free ahead -/
theorem fx_free {p a : Addr} {H H' : Hp} {c : Nat} (f : Fx p H H') (h : Pl H' p c) (e : H' a = none) : H a = none := by
  cases q : H a with
  | none => rfl
  | some o =>
    have n : a ≠ p := fun z => by
      obtain ⟨xs, hx⟩ := h.some
      rw [z, hx] at e
      cases e
    rw [f a o n q] at e
    cases e
/-- a tuple is not the pool -/
theorem Fx.tup {p a : Addr} {H H' : Hp} {xs : List V} {c : Nat} (f : Fx p H H') (hp : Pl H p c) (h : H a = some (.tup xs)) : H' a = some (.tup xs) := by
  obtain ⟨ys, hy⟩ := hp.some
  exact f a _ (ne_of h hy (by intro z; cases z)) h
theorem Fx.sqt {K : PySem.W.Frag} {p a : Addr} {H H' : Hp} {xs : List V} {c : Nat} (f : Fx p H H') (hp : Pl H p c) (h : SqT K H a xs) : SqT K H' a xs := by
  obtain ⟨ys, hy⟩ := hp.some
  rcases h with (h | ⟨o, h⟩) | h
  · exact .inl (.inl (f a _ (ne_of h hy (by intro z; cases z)) h))
  · exact .inl (.inr ⟨o, f a _ (ne_of h hy (by intro z; cases z)) h⟩)
  · exact .inr h
theorem Fx.lst {p a : Addr} {H H' : Hp} {xs : List V} (f : Fx p H H') (n : a ≠ p) (h : H a = some (.lst xs)) : H' a = some (.lst xs) := f a _ n h
theorem ex_upd {H : Hp} {p : Addr} {o : HO} (h : H p = none) : Ex H (L2.upd H p o) := Ex.new h
theorem ret_v {v : V} {H : Hp} {Q : VK} (q : RetV v H Q) : Q v H := q H (Ex.refl H)
theorem sz {n : Nat} (h : n ≤ 100000) : n ≤ sizeLine := sz_of h
theorem natAbs_lt {z : Int} {n : Nat} (h0 : 0 ≤ z) (h : z < (n : Int)) : z.natAbs < n := by omega
/-- a * b ≤ A * B -/
theorem mul_le {a b A B : Int} (h0 : 0 ≤ a) (h1 : a ≤ A) (h2 : 0 ≤ b) (h3 : b ≤ B) : a * b ≤ A * B := Int.mul_le_mul h1 h3 h2 (Int.le_trans h0 h1)
theorem mul_nn {a b : Int} (h0 : 0 ≤ a) (h1 : 0 ≤ b) : 0 ≤ a * b := Int.mul_nonneg h0 h1
/-! the rules with the written part said, for blocks of comprehensions -/
section
variable {X : Cx} {K : PySem.W.Frag}
theorem lenK (h : X.K = K) : CallR X (.builtin "len") (rLenS K) := by subst h; exact call_len_seq
theorem listK (h : X.K = K) : CallR X (.type "list") (rListS K) := by subst h; exact call_list_of
def rTupS (K : PySem.W.Frag) : List V → Hp → VK → Prop := fun xs H Q => ∃ p ys, xs = [.ref p] ∧ ((SqL K H p ys ∧ ∀ l, H l = none → Q (.ref l) (L2.upd H l (.tup ys))) ∨ (SqT K H p ys ∧ Q (.ref p) H))
theorem tupK (h : X.K = K) : CallR X (.type "tuple") (rTupS K) := by subst h; exact call_tuple_of
theorem ixLK (h : X.K = K) : IxR X (rIxL K) := by subst h; exact ix_list
theorem ixTK (h : X.K = K) : IxR X (rIxT K) := by subst h; exact ix_tup
theorem slLK (h : X.K = K) : SlR X (rSlL K) := by subst h; exact sl_list
theorem slTK (h : X.K = K) : SlR X (rSlT K) := by subst h; exact sl_tup
theorem catTK (h : X.K = K) : OpR X (binaryOp .Add) (rCatT K) := by subst h; exact op_catT
theorem inK (h : X.K = K) : OpR X (compareOp .In) (rIn K false) := by subst h; exact op_in_seq
theorem notInK (h : X.K = K) : OpR X (compareOp .NotIn) (rIn K true) := by subst h; exact op_notIn_seq
theorem isiK (h : X.K = K) : CallR X (.builtin "isinstance") (rIsi K) := by subst h; exact call_isi
theorem isiTK (h : X.K = K) : CallR X (.builtin "isinstance") (rIsiT K) := by subst h; exact call_isiT
theorem allK (h : X.K = K) (hc : X.calm = true) : CallR X (.builtin "all") (rAll K) := by subst h; exact cr_all hc
theorem anyK (h : X.K = K) (hc : X.calm = true) : CallR X (.builtin "any") (rAny K) := by subst h; exact cr_any hc
theorem sumK (h : X.K = K) (hc : X.calm = true) : CallR X (.builtin "sum") (rSum K) := by subst h; exact cr_sum hc
theorem maxK (h : X.K = K) (hc : X.calm = true) : CallR X (.builtin "max") (rMax K) := by subst h; exact cr_max hc
theorem minK (h : X.K = K) (hc : X.calm = true) : CallR X (.builtin "min") (rMin K) := by subst h; exact cr_min hc
theorem fldK {e : Expr} {f : Str} {pos : Pos} {ta : TE} (h : X.K = K) (he : PE X e ta) (hb : attributeBase e f X.env (eval e X.env) = eval e X.env) : PE X (.Attribute e f pos) (tFld K ta f) := by subst h; exact pe_fld he hb
theorem tupGK {es : List Expr} {k : Nat} {t : TGs} {n : Nat} {pos : Pos} (h : X.K = K) (hc : X.calm = true) (hg : PGs X es t) (hn : (assignEach es X.env).length = n := by rfl) (hst : (assignEach es X.env).findIdx? (·.1) = none := by rfl) : PG X (.Tuple es k pos) (gTup K n t) := by subst h; exact pg_tup hc hg hn hst
theorem eqDK (h : X.K = K) (hu : X.A.units + 64 < cLine) : OpR X (compareOp .Eq) (rEqD K) := by subst h; exact op_eqD hu
theorem neDK (h : X.K = K) (hu : X.A.units + 64 < cLine) : OpR X (compareOp .NotEq) (rNeD K) := by subst h; exact op_neD hu
theorem indexK (h : X.K = K) : MtR X "list.index" (rIndex K) := by subst h; exact mt_index
theorem piOr {tg e : Expr} {w1 w2 : TI} (h1 : PI X tg e w1) (h2 : PI X tg e w2) : PI X tg e (fun σ H R => w1 σ H R ∨ w2 σ H R) := ⟨fun pins s σ H R I h => h.elim (fun h => h1.run pins s σ H R I h) (fun h => h2.run pins s σ H R I h)⟩
theorem piLK {tg l : Expr} {tl : TE} (h : X.K = K) (hl : PE X l tl) : PI X tg l (iList K tl) := by subst h; exact pi_list hl
theorem piTK {tg l : Expr} {tl : TE} (h : X.K = K) (hl : PE X l tl) : PI X tg l (iTup K tl) := by subst h; exact pi_tup hl
end
end My
/-! several except clauses with a name, each over one class or a tuple of them -/
namespace My
open PySem PySem.Spec PyProof.Rows L2 Evl
/-- the matching of an exception with the classes of a tuple -/
theorem loop_all {M : Model} {A : Around} {E : Value → Shared → Prop} {s : Shared} {f : Value → PUnit → Sem (ForInStep PUnit)} : ∀ {cs : List Value}, (∀ c ∈ cs, ∀ Q : ForInStep PUnit → Shared → Prop, Q (.yield ()) s → wpAny M A (f c ()) Q E s) →
    ∀ {Q : PUnit → Shared → Prop}, Q () s → wpAny M A (forIn cs PUnit.unit f) Q E s
  | [], _, Q, q => by
    rw [List.forIn_nil]
    exact wpAny_pure q
  | c :: r, hf, Q, q => by
    rw [List.forIn_cons]
    exact wpAny_bind (hf c (List.mem_cons_self ..) _ (loop_all (fun x hx => hf x (List.mem_cons_of_mem _ hx)) q))
theorem loop_any {M : Model} {A : Around} {E : Value → Shared → Prop} {s : Shared} {K : PySem.W.Frag} {cls : Value} {f : Value → Option Bool × PUnit → Sem (ForInStep (Option Bool × PUnit))} :
    ∀ {cs : List Value} {b : Bool}, PySem.W.exmAny K cls cs = some b →
      (∀ c b1, PySem.W.exmOne K cls c = some b1 → ∀ Q : ForInStep (Option Bool × PUnit) → Shared → Prop, Q (if b1 then .done (some true, ()) else .yield (none, ())) s → wpAny M A (f c (none, ())) Q E s) →
    ∀ {Q : Option Bool × PUnit → Shared → Prop}, Q (if b then some true else none, ()) s → wpAny M A (forIn cs ((none, ()) : Option Bool × PUnit) f) Q E s
  | [], b, hx, _, Q, q => by
    rw [List.forIn_nil]
    cases (show some false = some b from hx)
    exact wpAny_pure q
  | c :: r, b, hx, hf, Q, q => by
    obtain ⟨b1, d1, x1, x2, e⟩ := PySem.W.exmAny_cons hx
    rw [List.forIn_cons]
    refine wpAny_bind (hf c b1 x1 _ ?_)
    cases b1 with
    | true =>
      rw [e] at q
      exact wpAny_pure q
    | false =>
      rw [e] at q
      exact loop_any x2 hf q
theorem exm_in {K : PySem.W.Frag} {cls : Value} : ∀ {cs : List Value} {b : Bool}, PySem.W.exmAny K cls cs = some b → ∀ c ∈ cs, ∃ b1, PySem.W.exmOne K cls c = some b1
  | [], _, _, c, h => absurd h (by simp)
  | x :: r, b, hx, c, h => by
    obtain ⟨b1, d1, x1, x2, e⟩ := PySem.W.exmAny_cons hx
    rcases List.mem_cons.mp h with rfl | h
    · exact ⟨b1, x1⟩
    · exact exm_in x2 c h
theorem exm_many {M : Model} {K : PySem.W.Frag} {cls : Value} {e tp : Addr} {b : Bool} {h : Heap} {cs : List Value} {o : Obj} {n : Nat} (KX : K.In h) (LT : PySem.W.Looks M h (typeOf (.ref e)) cls)
    (ho : h.get? tp = some o) (hc : o.cls = .type "tuple") (hd : o.data = .seq cs.toArray n) (hx : PySem.W.exmAny K cls cs = some b) : PySem.W.Looks M h (excMatches (.ref e) (.ref tp)) b := by
  have ty : PySem.W.Looks M h (isInstance (.ref tp) (.type "tuple")) true := by
    have l0 : PySem.W.Looks M h (typeOf (.ref tp)) (.type "tuple") := fun A Q E s k q => wpAny_typeOf_ref (k _ _ ho) (by rw [hc]; exact q)
    exact l0.andThen (PySem.W.Looks.of_pure isSubtype_tuple_tuple)
  intro A Q E s k q
  unfold excMatches
  refine wpAny_bind ((ty.keeps k).here ?_)
  rw [if_pos rfl]
  refine wpAny_bind (wpAny_seqItems (k _ _ ho) hd ?_)
  refine wpAny_bind (wpAny_pure ?_)
  refine wpAny_bind (loop_all (fun c hm Q' q' => ?_) ?_)
  · obtain ⟨b1, x1⟩ := exm_in hx c (by simpa using hm)
    obtain ⟨l1, _⟩ := PySem.W.exm_cls (M := M) KX x1
    refine wpAny_bind ((l1.keeps k).here ?_)
    exact wpAny_pure q'
  · refine wpAny_bind ((LT.keeps k).here (wpAny_bind (loop_any (cs := cs) hx (fun c b1 x1 Q' q' => ?_) ?_)))
    · obtain ⟨_, l2⟩ := PySem.W.exm_cls (M := M) KX x1
      refine wpAny_bind ((l2.keeps k).here ?_)
      cases b1 with
      | true => exact wpAny_pure q'
      | false => exact wpAny_pure q'
    · cases b with
      | true => exact wpAny_pure q
      | false => exact wpAny_pure q
/-- what a clause's classes are: the test is run in the suite's context, it may lay a tuple -/
def TestR (X : Cx) (t : Expr) (cs : List Value) : Prop := ∀ (a : Addr) (pn : List (Addr × Obj)) (σ : L2.St) (H : Hp) (s : Shared) (cls : Value) (b : Bool) (Q : Bool → Shared → Prop) (E : Value → Shared → Prop),
  Inv (X.suite a pn) [] σ H s → PySem.W.Looks (model X.prog X.w) s.heap (typeOf (.ref a)) cls → PySem.W.exmAny X.K cls cs = some b →
    (∀ h', (∀ x o, s.heap.get? x = some o → h'.get? x = some o) → Q b { s with heap := h' }) →
    wpAny (model X.prog X.w) (X.A.mark (some (.ref a))) (eval t X.env) (fun c s₁ => wpAny (model X.prog X.w) (X.A.mark (some (.ref a))) (excMatches (.ref a) c) Q E s₁) E s
theorem name_runs {X : Cx} {x : Str} {c : Value} {np : Pos} (hc : Names X x c) {a : Addr} {pn : List (Addr × Obj)} {σ : L2.St} {H : Hp} {s : Shared} (I : Inv (X.suite a pn) [] σ H s) {Q : Value → Shared → Prop} {E : Value → Shared → Prop} (q : Q c s) :
    wpAny (model X.prog X.w) (X.A.mark (some (.ref a))) (eval (.Name x np) X.env) Q E s := by
  obtain ⟨g1, g2, g3 | ⟨g3, g4, g5⟩⟩ := hc
  · exact ld_glob (X := X.suite a pn) I g1 g3 q g2
  · exact ld_blt (X := X.suite a pn) I g1 g3 g4 q g5 g2
theorem test_name {X : Cx} {x : Str} {c : Value} {np : Pos} (hc : Names X x c) : TestR X (.Name x np) [c] := by
  intro a pn σ H s cls b Q E I LT hx q
  refine name_runs hc I ?_
  obtain ⟨b1, d1, x1, x2, e⟩ := PySem.W.exmAny_cons hx
  cases (show some false = some d1 from x2)
  rw [Bool.or_false] at e
  rw [e] at q
  exact (PySem.W.exm_one I.kIn LT x1).here (q s.heap fun _ _ h => h)
inductive NamesAll (X : Cx) : List Expr → List Value → Prop
  | nil : NamesAll X [] []
  | cons {x : Str} {c : Value} {np : Pos} {es : List Expr} {cs : List Value} : Names X x c → NamesAll X es cs → NamesAll X (.Name x np :: es) (c :: cs)
theorem names_run {X : Cx} {pos : Pos} {a : Addr} {pn : List (Addr × Obj)} {σ : L2.St} {H : Hp} {s : Shared} (I : Inv (X.suite a pn) [] σ H s) : ∀ {es : List Expr} {cs : List Value}, NamesAll X es cs → ∀ {Q : List Value → Shared → Prop} {E : Value → Shared → Prop}, Q cs s →
    wpAny (model X.prog X.w) (X.A.mark (some (.ref a))) (spliced (backTo pos (starEach es X.env))) Q E s
  | _, _, .nil, Q, E, q => Calls.spliced_nil q
  | _, _, .cons (x := x) (np := np) (es := es) hn hr, Q, E, q => by
    show wpAny _ _ (spliced ((false, eval (.Name x np) X.env) :: backTo pos (starEach es X.env))) _ _ s
    exact Calls.spliced_cons (name_runs hn I (names_run I hr q))
theorem test_tup {X : Cx} {es : List Expr} {cs : List Value} {k : Nat} {pos : Pos} (hn : NamesAll X es cs) (hl : cs.length ≤ sizeLine) : TestR X (.Tuple es k pos) cs := by
  intro a pn σ H s cls b Q E I LT hx q
  refine wpAny_Tuple_spliced (names_run I hn ⟨hl, ?_⟩)
  have kp : ∀ x o, s.heap.get? x = some o → (s.heap.push { cls := .type "tuple", data := .seq cs.toArray }).get? x = some o := fun x o e => Heap.get?_push_of_some _ e
  exact (exm_many (I.kIn.keeps kp) (LT.keeps kp) (Heap.get?_push_size _ rfl) rfl rfl hx).here (q _ kp)
/-- what the clauses wish of an exception of the body; slot i is the name's -/
def wAsMany (K : PySem.W.Frag) (Wout : WX) (i : Nat) (D : Ends) : List (List Value × (Addr → Value → Option Addr → TS)) → WX
  | [] => Wout
  | (cs, ts) :: r => fun cls d σ H => ∃ b, PySem.W.exmAny K cls cs = some b ∧
      (b = true → ∀ a, H a = none → ts a cls d { nx := fun σ' H' => D.nx (σ'.set i none) H', rt := D.rt, bk := fun σ' H' => D.bk (σ'.set i none) H', ct := fun σ' H' => D.ct (σ'.set i none) H' } (σ.set i (some (.ref a))) H) ∧
      (b = false → wAsMany K Wout i D r cls d σ H)
inductive HdsAs (X : Cx) (n : Str) : List ExceptHandler → List (List Value × (Addr → Value → Option Addr → TS)) → Prop
  | nil : HdsAs X n [] []
  | cons {t : Expr} {cs : List Value} {ts : Addr → Value → Option Addr → TS} {b₀ : Stmt} {suite : List Stmt} {pos' : Pos} {hds : List ExceptHandler} {l : List (List Value × (Addr → Value → Option Addr → TS))} (ht : TestR X t cs)
      (hsu : ∀ (a : Addr) (oe : Obj) (cls : Value) (d : Option Addr) (pn : List (Addr × Obj)), Zc cls d oe → (∃ vs, oe.data = .fields vs) → PSs (X.suite a ((a, oe) :: pn)) (b₀ :: suite) (ts a cls d)) (r : HdsAs X n hds l) :
      HdsAs X n (.ExceptHandler (some t) (some n) (b₀ :: suite) pos' :: hds) ((cs, ts) :: l)
theorem fly_kept {B h h' : Heap} {l : List Env} {a : Addr} {Z : Obj → Prop} (f : HandSPX.FlyingZ B l a Z h) (k : ∀ x o, h.get? x = some o → h'.get? x = some o) : HandSPX.FlyingZ B l a Z h' := by
  obtain ⟨f1, f2, f3, oe, vs, T, oT, ts, g1, g2, g3, g4, g5, g6, g7, g8, g9⟩ := f
  exact ⟨fun b o e => k _ _ (f1 b o e), f2, f3.of_keeps fun b o e _ => ⟨o, k b o e, rfl⟩, oe, vs, T, oT, ts, k _ _ g1, g2, g3, g4, g5, g6, k _ _ g7, g8, g9⟩
section
variable {X : Cx} {n : Str} {i : Nat} {body : List Stmt} {h₀ : ExceptHandler} {hds : List ExceptHandler} {l : List (List Value × (Addr → Value → Option Addr → TS))} {pos : Pos} {tb : WX → TS} {Wout : WX}
set_option maxHeartbeats 4000000 in
theorem ps_try_asMany (hs : X.stack = X.env :: X.outer) (hf : X.env.frame = some X.env.locals) (hN : X.N.Nodup) (hi : X.N[i]? = some n) (hln : X.env.kindOf n = some .local) (tk : Takes X Wout)
    (hb : ∀ (W : WX) (pn : List (Addr × Obj)) (xe : Value → Shared → Prop), Takes (X.tr pn xe) W → PassesOwn (model X.prog X.w) X.A X.env xe → PSs (X.tr pn xe) body (tb W))
    (hh : HdsAs X n (h₀ :: hds) l) : PS X (.Try body (h₀ :: hds) [] [] pos) (fun D σ H => tb (fun cls d σ' H' => σ'.length = X.N.length → wAsMany X.K Wout i D l cls d σ' H') D σ H) := by
  refine ⟨fun pins s σ H D I h => wpAny_Try_except ?_⟩
  have ok := I.ok
  have hfr : X.A.frames = some (X.env :: X.outer) := by rw [ok.frames, hs]
  refine wpAny_mono ((hb (fun cls d σ' H' => σ'.length = X.N.length → wAsMany X.K Wout i D l cls d σ' H') (X.pn ++ pins) _ (fun u s' xx => ?_) PassesOwn.looking).run [] s σ H D (I.toTry _) h) (fun f s1 hsp => ?_) (fun e s1 he => he)
  · obtain ⟨a, B, sI, pins', σ', H', cls, d, rfl, J', nb, up, sky, na, os, ag, wish⟩ := xx
    have J : Inv X pins σ' H' sI := J'.ofTry ok
    rw [show (X.tr (X.pn ++ pins) _).stack = X.env :: X.outer from hs] at sky
    refine Sky.land Zc.steady hfr hf sky fun h3 fl up3 => ?_
    have up4 := up.trans up3
    have apart : ∀ {g : Heap}, HandSPX.FlyingZ B (X.env :: X.outer) a (Zc cls d) g → a ∉ frs (X.env :: X.outer) := fun {g} fg hm => by
      obtain ⟨oe, vs, e1, _, e3⟩ := fg.there
      obtain ⟨_, o', e', hnf⟩ := fg.2.2.1.mem hm
      rw [e1] at e'
      cases e'
      exact hnf _ e3
    have nfr := apart fl
    have nL : a ≠ X.env.locals := fun z => nfr (List.mem_filterMap.mpr ⟨X.env, List.mem_cons_self, by rw [hf, z]⟩)
    have nF : a ∉ X.fs := fun hm => by
      obtain ⟨e, he, q⟩ := List.mem_filterMap.mp hm
      exact nfr (List.mem_filterMap.mpr ⟨e, List.mem_cons_of_mem _ he, q⟩)
    have go : ∀ {hds' : List ExceptHandler} {l' : List (List Value × (Addr → Value → Option Addr → TS))}, HdsAs X n hds' l' → ∀ h', HandSPX.FlyingZ B (X.env :: X.outer) a (Zc cls d) h' → sI.heap.UpToSlots h' → wAsMany X.K Wout i D l' cls d σ' H' →
        wpAny (model X.prog X.w) X.A (handleBy (.ref a) X.env hds') (SP X pins D) X.xe { s' with heap := h' } := by
      intro hds' l' hk
      induction hk with
      | nil =>
        intro h' fg ug wi
        refine wpAny_handleBy_nil ?_
        obtain ⟨_, _, _, oe, vs, T, oT, ts', he, hz, hd, h1, _⟩ := id fg
        unfold PySem.passOn
        refine wpAny_bind (wpAny_field he hd h1 ?_)
        rw [if_neg (show ¬ ((Value.ref T == Value.none) = true) by simp)]
        have fin : wpAny (model X.prog X.w) X.A (setFlight (.ref a) X.env.frame) (fun _ s4 => wpAny (model X.prog X.w) X.A (throw (.ref a) : Sem Flow) (SP X pins D) X.xe s4) X.xe { s' with heap := h' } := by
          rw [hf]
          refine HandSPX.setFlight_upZ fg fun h4 hh4 u4 => wpAny_throw (tk _ _ ⟨a, B, sI, pins, σ', H', cls, d, rfl, J, nb, ug.trans u4, .inr (.inr ?_), na, os, ag, wi⟩)
          rw [hs]
          exact hh4
        first
          | exact wpAny_bind (wpAny_pure (wpAny_bind fin))
          | exact wpAny_bind fin
      | @cons t cs ts b₀ suite pos' hds2 l2 ht hsu r ih =>
        intro h' fg ug wi
        obtain ⟨b, hb1, hyes, hno⟩ := wi
        have J3 : Inv X pins σ' H' { s' with heap := h' } := J.landed nb fg.1 ug os ag
        obtain ⟨oe3, vs3, he3, hz3, hd3⟩ := fg.there
        refine wpAny_handleBy_cons (codeAny_handlers_test ?_) (by intro q; cases q)
        refine ht a _ σ' H' _ cls b _ _ (J3.suite he3 hd3 na nL nF) (fun A Q E s k q => wpAny_typeOf_ref (k _ _ he3) (by rw [hz3.1]; exact q)) hb1 fun h5 k5 => ?_
        have f5 := fly_kept fg k5
        have u5 := ug.trans (Heap.UpToSlots.of_keeps k5)
        cases b with
        | false => exact ih h5 f5 u5 (hno rfl)
        | true =>
          refine codeAny_handlers_suite_as ?_
          refine HandSPX.lands_againZ f5 fun h6 f6 u6 => ?_
          have J6 : Inv X pins σ' H' { s' with heap := h6 } := J.landed nb f6.1 (u5.trans u6) os ag
          obtain ⟨oe6, vs6, he6, hz6, hd6⟩ := f6.there
          have S6 := J6.suite he6 hd6 na nL nF
          refine store_ok (X := X.suite a ((a, oe6) :: (X.pn ++ pins))) (v := .ref a) S6 hN hi (.inl hln) rfl (fun s7 S7 => ?_) (.inr hln)
          refine wpAny_mono ((hsu a oe6 cls d (X.pn ++ pins) hz6 ⟨_, hd6⟩).run [] s7 _ H' _ S7 (hyes rfl a na)) (fun f s8 hsp => ?_) (fun _ _ z => False.elim z)
          have gone : ∀ {σ8 : L2.St} {H8 : Hp} {Q : Shared → Prop}, Inv (X.suite a ((a, oe6) :: (X.pn ++ pins))) [] σ8 H8 s8 → (∀ s9, Inv X pins (σ8.set i none) H8 s9 → Q s9) →
              wpAny (model X.prog X.w) X.A (do bindName X.env n .none; unbindBehindTheSuite X.env n pos') (fun _ s9 => Q s9) X.xe s8 := fun {σ8 H8 Q} S8 hq => gone_ok (S8.unsuite ok) hN hi hln hq
          cases f with
          | ret u =>
            obtain ⟨v8, σ8, H8, S8, r8, q8⟩ := hsp
            exact gone S8 fun s9 J9 => ⟨_, _, _, J9, r8, q8⟩
          | next =>
            obtain ⟨σ8, H8, S8, q8⟩ := hsp
            exact gone S8 fun s9 J9 => ⟨_, _, J9, q8⟩
          | brk =>
            obtain ⟨σ8, H8, S8, q8⟩ := hsp
            exact gone S8 fun s9 J9 => ⟨_, _, J9, q8⟩
          | cont =>
            obtain ⟨σ8, H8, S8, q8⟩ := hsp
            exact gone S8 fun s9 J9 => ⟨_, _, J9, q8⟩
    exact go hh h3 fl up4 (wish J.len)
  · cases f with
    | ret u =>
      obtain ⟨v, σ2, H2, J2, r, q⟩ := hsp
      exact ⟨v, σ2, H2, J2.ofTry ok, r, q⟩
    | next =>
      obtain ⟨σ2, H2, J2, q⟩ := hsp
      exact wpAny_execs_nil ⟨σ2, H2, J2.ofTry ok, q⟩
    | brk =>
      obtain ⟨σ2, H2, J2, q⟩ := hsp
      exact ⟨σ2, H2, J2.ofTry ok, q⟩
    | cont =>
      obtain ⟨σ2, H2, J2, q⟩ := hsp
      exact ⟨σ2, H2, J2.ofTry ok, q⟩
end
/-! ### isinstance of an exception that is held, its class D; with a dict of its own or without -/
structure ExcD (K : PySem.W.Frag) (D : Addr) : Prop where
  hc : (PySem.W.clsIn K D).isSome = true
  hg : PySem.W.findIn K (.ref D) "__getattribute__" = some (some (.builtin "BaseException.__getattribute__"))
  hk : PySem.W.findIn K (.ref D) "__getattr__" = some none
  hs : PySem.W.subIn K (.ref D) (.type "BaseException") = some true
  ha : PySem.W.findIn K (.ref D) "__class__" = some (some (.builtin "object.__class__"))
  hn : PySem.W.specialIn K (.builtin "object.__class__") "__get__" = some (some (.builtin "getset_descriptor.__get__"))
  ht : PySem.W.takesIn K (.builtin "object.__class__") = some true
  hm : PySem.W.mroIn K D (.type "object") = some true
/-- the exception at a, held by a pin: an instance of D; its dict d, if it has one, is tracked -/
structure Held (X : Cx) (a D : Addr) (d : Option Addr) (oe : Obj) : Prop where
  pn : (a, oe) ∈ X.pn
  zc : Zc (.ref D) d oe
  fl : ∃ vs, oe.data = .fields vs
def DictOk (d : Option Addr) (H : Hp) : Prop := ∀ dd, d = some dd → ∃ fs, H dd = some (.xd fs)
section
variable {X : Cx} {K : PySem.W.Frag} {a D : Addr} {d : Option Addr} {oe : Obj}
theorem held_at (hh : Held X a D d oe) {pins : List (Addr × Obj)} {σ : L2.St} {H : Hp} {s : Shared} (I : Inv X pins σ H s) (hd : DictOk d H) : ∃ od, PySem.W.InstAt s.heap a oe D od := by
  have hg := (I.pin (a, oe) (List.mem_append_left _ hh.pn)).1
  obtain ⟨vs, hv⟩ := hh.fl
  obtain ⟨c1, c2⟩ := hh.zc
  have no : PySem.W.notCls oe = true := by
    obtain ⟨oc, odd, odt, osl⟩ := oe
    simp only at hv
    subst hv
    rfl
  cases d with
  | none => exact ⟨none, hg, c1, no, by rw [c2]; exact True.intro⟩
  | some dd =>
    obtain ⟨fs, hf⟩ := hd dd rfl
    obtain ⟨mA, ⟨o, es, ep, e1, _⟩, _⟩ := (show ObjOk X.prog X.w H s.heap dd (.xd fs) from I.hok dd _ hf)
    exact ⟨some o, hg, c1, no, by rw [c2]; exact e1⟩
def rIsH (K : PySem.W.Frag) (D a : Addr) (d : Option Addr) : List V → Hp → VK → Prop := fun xs H Q => ∃ (c : V) (cv : Value) (b : Bool), xs = [.ref a, c] ∧ ClsV c cv ∧ DictOk d H ∧ PySem.W.kitOne K (.ref D) cv = some b ∧ Q (.bl b) H
theorem isH (h : X.K = K) (C : ExcD K D) (hh : Held X a D d oe) : CallR X (.builtin "isinstance") (rIsH K D a d) := by
  subst h
  intro pins s σ H xs us Q I r q
  obtain ⟨c, cv, b, rfl, hc, hd, e, q⟩ := q
  obtain ⟨u1, u2, rfl, r1, r2⟩ := vals2 r
  cases (show u1 = Value.ref a from r1)
  have e2 := hc.eq r2
  subst e2
  obtain ⟨od, J⟩ := held_at hh I hd
  exact PySem.W.kia_one (PySem.W.kitx_exc (od := od) C.hc C.hg C.hk C.hs C.ha C.hn C.ht C.hm) I.kIn J e (fun z => nomatch z) fun tk => ⟨.bl b, H, I.tok tk, rfl, q⟩
def rIsHT (K : PySem.W.Frag) (D a : Addr) (d : Option Addr) : List V → Hp → VK → Prop := fun xs H Q => ∃ (tp : Addr) (cs : List V) (ws : List Value) (b : Bool), xs = [.ref a, .ref tp] ∧ H tp = some (.tup cs) ∧ Paired ClsV cs ws ∧ DictOk d H ∧ PySem.W.kitAny K (.ref D) ws = some b ∧ Q (.bl b) H
theorem isHT (h : X.K = K) (C : ExcD K D) (hh : Held X a D d oe) : CallR X (.builtin "isinstance") (rIsHT K D a d) := by
  subst h
  intro pins s σ H xs us Q I r q
  obtain ⟨tp, cs, ws, b, rfl, hT, k, hd, e, q⟩ := q
  obtain ⟨u1, u2, rfl, r1, r2⟩ := vals2 r
  cases (show u1 = Value.ref a from r1)
  cases (show u2 = Value.ref tp from r2)
  obtain ⟨od, J⟩ := held_at hh I hd
  obtain ⟨_, its, rv, o, h1, h2, n, h3⟩ := (show ObjOk X.prog X.w H s.heap tp (.tup cs) from I.hok tp _ hT)
  have e3 := ClsV.all k rv
  subst e3
  obtain ⟨oc, odd, dt, sl⟩ := o
  simp only at h2 h3
  subst h2 h3
  exact PySem.W.kia_tup (PySem.W.kitx_exc (od := od) C.hc C.hg C.hk C.hs C.ha C.hn C.ht C.hm) I.kIn J h1 e (fun z => nomatch z) fun tk => ⟨.bl b, H, I.tok tk, rfl, q⟩
/-! ### xs.count(True), a list of truths -/
def rCntB (K : PySem.W.Frag) : V → List V → Hp → VK → Prop := fun x xs H Q => ∃ (p : Addr) (bs : List Bool), x = .ref p ∧ xs = [.bl true] ∧ SqL K H p (bs.map V.bl) ∧ Q (.int (bs.count true : Nat)) H
def eqT (v : Value) : Bool := match v with
  | .bool b => b
  | _ => false
theorem bools_of : ∀ {bs : List Bool} {us : List Value}, Vals (bs.map V.bl) us → us = bs.map Value.bool
  | [], _, .nil => rfl
  | b :: r, _, .cons h t => by
    cases (show _ = Value.bool b from h)
    rw [bools_of t]
    rfl
theorem countT : ∀ bs : List Bool, (bs.map Value.bool).countP eqT = bs.count true
  | [] => rfl
  | b :: r => by
    rw [List.map_cons, List.countP_cons, countT r, List.count_cons]
    cases b <;> rfl
theorem cntB (h : X.K = K) : MtR X "list.count" (rCntB K) := by
  subst h
  intro pins s σ H x xs v us Q I rx rxs q
  obtain ⟨p, bs, rfl, rfl, hs, q⟩ := q
  cases (show v = Value.ref p from rx)
  obtain ⟨u, rfl, ru⟩ := vals1 rxs
  cases (show u = Value.bool true from ru)
  obtain ⟨its, rv, ⟨⟨cls, dd, data, sl⟩, n, ho, hc, hdn, hd⟩, hlen⟩ := I.list hs
  simp only at hc hd
  subst hc hd
  have eb := bools_of rv
  subst eb
  refine call_meets PySem.F.slot_list_count ⟨_, ho, rfl⟩ PySem.F.entry_list_count (PySem.F.args_list_count_2 _ _)
    (SeqAt.list_countAt p (bs.map Value.bool).toArray n dd sl (.bool true) eqT) ⟨ho, fun y hy => ?_, ?_⟩
  · have hy : y ∈ bs.map Value.bool := by simpa using hy
    obtain ⟨b, _, rfl⟩ := List.mem_map.mp hy
    have z := SeqAt.EqAt.bool_bool (A := X.A.in1) (s := s) b true
    have e : (b == true) = eqT (.bool b) := by cases b <;> rfl
    rw [e] at z
    exact z
  · refine ⟨.int (bs.count true : Nat), H, I.tok _, ⟨s.toks, ?_⟩, q⟩
    show Value.int (((bs.map Value.bool).toArray.toList.countP eqT : Nat) : Int) s.toks = _
    rw [List.toList_toArray, countT]
end
/-! ### a def called with the held exception -/
structure FnP (P : Program) (w : World) (K : PySem.W.Frag) (mg : Str → Option Value) (base : Heap) (CX : CXT) (k : Nat) (f : Addr) (fd : FuncData) (ps : List Str) (sp : Addr → Value → Option Addr → Sp) : Prop where
  len : ∀ a cls d vs H Q E, sp a cls d vs H Q E → vs.length = ps.length
  run : ∀ (A : Around) (outer : List Env) (s : Shared) (H : Hp) (args : Args) (us : List Value) (vs : List V) (Q : VK) (E : XK) (p : Addr × Obj) (cls : Value) (d : Option Addr), L2H.RoomH k A → L2H.PinOk outer H s p → Zc cls d p.2 → (∃ vs, p.2.data = .fields vs) → Env0 P w K mg base A outer s H → BindsTo s fd args (ps.zip us) → Vals vs us → sp p.1 cls d vs H Q E →
    codeAny (model P w) A (.call (.ref f) args) (CR CX outer P w H s Q E) s
theorem fnP_of {CX : CXT} {P : Program} {w : World} {K : PySem.W.Frag} {mg : Str → Option Value} {base : Heap} {k : Nat} {x qual : Str} {st : Stmt} {f : Addr} {fd : FuncData} {N ps : List Str} {sp : Addr → Value → Option Addr → Sp} (F : Fun K x qual st f fd) (S : FnScope N ps (defScope st))
    (len : ∀ a cls d vs H Q E, sp a cls d vs H Q E → vs.length = ps.length)
    (hbody : ∀ (cdv : Value) (A : Around) (outer : List Env) (s : Shared) (H : Hp) (vs : List V) (Q : VK) (E : XK) (p : Addr × Obj) (cls : Value) (d : Option Addr), L2H.RoomH k (A.deeper (envOfC qual (defScope st) s.heap.objs.size f cdv)) → Zc cls d p.2 → (∃ vs, p.2.data = .fields vs) → sp p.1 cls d vs H Q E →
      ∃ t, PSs (L2H.cxH CX P w K mg base N qual (defScope st) f cdv A outer s H E p) (defBody st) t ∧ t { nx := fun _ H' => Q .non H', rt := Q } (L2.start N vs) H) : FnP P w K mg base CX (k + 1) f fd ps sp := by
  obtain ⟨oc, od, kV, doc, pm, an, cdv, ct, osl, rfl, lk, hcd⟩ := F.ex
  refine ⟨len, fun A outer s H args us vs Q E p cls d hr hpin hz hfl e0 hb r hsp => ?_⟩
  have keepB : ∀ b o, base.get? b = some o → s.heap.get? b = some o := fun b o e => (e0.bs b o e).1
  have hkind : ∀ y ∈ ps.zip us, (defScope st).names.lookup y.1 = some .local ∨ ((defScope st).names.lookup y.1 = some .cell ∧ ((cellsFrom (s.heap.objs.size + 1) (defScope st).names []).lookup y.1).isSome = true) := by
    rintro ⟨n, v⟩ hy
    exact (S.par n (List.of_mem_zip hy).1).imp id fun q => ⟨q, PySem.W.cellsFrom_some _ _ _ (.inl q)⟩
  refine codeAny_call_function hr.depth (e0.mod.kin.keeps keepB _ _ lk) rfl S.co S.gen rfl (PySem.W.codeRec_of (e0.mod.kin.keeps keepB) hcd) (hb _ _ _ _ ?_)
  refine wpAny_newFunctionEnv_cells S.kind hkind fun env he s1 z => ?_
  subst he
  refine ⟨(e0.mod.nolimit.keeps keepB).keeps z.toInCall.keep, codeAny_func ?_⟩
  obtain ⟨t, ht, hq⟩ := hbody cdv A outer s H vs Q E p cls d (hr.deeper _) hz hfl hsp
  refine wpAny_mono (ht.run [] s1 (L2.start N vs) H _ (L2H.inv_startH S hpin e0 (len _ _ _ _ _ _ _ hsp) r z) hq) (fun fl s' hs => ?_) fun e s' hs => hs
  cases fl with
  | ret u =>
    obtain ⟨v, σ', H', J, rv, q⟩ := hs
    exact ⟨v, H', J.os, J.bare, J.base, J.hok, rv, q⟩
  | next =>
    obtain ⟨σ', H', J, q⟩ := hs
    exact ⟨.non, H', J.os, J.bare, J.base, J.hok, rfl, q⟩
  | brk =>
    obtain ⟨_, _, _, q⟩ := hs
    exact False.elim q
  | cont =>
    obtain ⟨_, _, _, q⟩ := hs
    exact False.elim q
def tCallP (sp : Addr → Value → Option Addr → Sp) (a : Addr) (cls : Value) (d : Option Addr) (t : TA) : TE := fun σ H Q => t σ H fun vs H1 => sp a cls d vs H1 Q E0
theorem pe_callP {X : Cx} {k : Nat} {f : Addr} {fd : FuncData} {ps : List Str} {sp : Addr → Value → Option Addr → Sp} {x : Str} {q pos : Pos} {e : Expr} {es : List Expr} {t : TA} {p : Addr × Obj} {cls : Value} {d : Option Addr} (F : FnP X.prog X.w X.K X.mg X.base CX0 k f fd ps sp) (hr : L2H.RoomH k X.A) (hp : p ∈ X.pn) (hz : Zc cls d p.2) (hfl : ∃ vs, p.2.data = .fields vs)
    (hg : Gl X x) (hm : X.mg x = some (.ref f)) (hk : PySem.W.keepIn X.K (.ref f) = true) (hb : Binds X.K fd ps []) (ha : PA X (e :: es) t) (hdb : (x == ("__debug__" : Str)) = false := by decide)
    (he : starEach (e :: es) X.env = (false, eval e X.env) :: starEach es X.env := by rfl) (hpl : (backTo pos (starEach es X.env)).any (·.1) = false := by rfl) : PE X (.Call (.Name x q) (e :: es) [] pos) (tCallP sp p.1 cls d t) := by
  refine ⟨fun pins s σ H Q I h => wpAny_Call_Name_kw (ld_glob I hg hm ?_ hdb)⟩
  refine PySem.W.callWith_K (h₀ := X.base) I.ok.mod.kin hk (thn (ha.run pos pins s σ H _ I h) fun us s1 ⟨vs, H1, I1, r, z⟩ => ⟨I1.kIn, ?_⟩) he hpl
  have hl : us.length = ps.length := by rw [← r.length]; exact F.len _ _ _ _ _ _ _ z
  have b := hb s1 us I1.kIn (by rw [List.append_nil]; exact hl)
  rw [List.append_nil] at b
  have P1 := I1.pin p (List.mem_append_left _ hp)
  refine wpAny_call (codeAny_mono (F.run X.A X.stack s1 H1 ⟨us, []⟩ us vs Q E0 p cls d hr ⟨P1.1, P1.2.1, fun hm => (List.mem_cons.mp (I1.stkSub p.1 hm)).elim P1.2.2.1 P1.2.2.2.1, P1.2.2.2.2⟩ hz hfl I1.env0 b r z) fun rr s' hq => ?_)
  cases rr with
  | error e => exact (show False from hq).elim
  | ok fl =>
    cases fl with
    | ret u => exact I1.after hq
    | next => exact False.elim hq
    | brk => exact False.elim hq
    | cont => exact False.elim hq
/-! ### a def whose code object is known by its place -/
structure FunC (K : PySem.W.Frag) (x qual : Str) (st : Stmt) (f : Addr) (fd : FuncData) (c : Addr) : Prop where
  ex : ∃ (oc : Value) (od : Option Addr) (kV doc pm : Value) (an : Option Addr) (ct : Value) (osl : Array (Option Value)),
    fd = PySem.W.fnOf x qual (defArgs st) (defBody st) (defScope st) .none kV doc pm an (.ref c) ct ∧ K.lookup f = some ⟨oc, od, .func fd, osl⟩ ∧ PySem.W.codeIn K (.ref c) qual = true
  kp : PySem.W.keepIn K (.ref f) = true
theorem FunC.fn {K : PySem.W.Frag} {x qual : Str} {st : Stmt} {f : Addr} {fd : FuncData} {c : Addr} (F : FunC K x qual st f fd c) : Fun K x qual st f fd := by
  obtain ⟨oc, od, kV, doc, pm, an, ct, osl, h1, h2, h3⟩ := F.ex
  exact ⟨⟨oc, od, kV, doc, pm, an, .ref c, ct, osl, h1, h2, h3⟩, F.kp⟩
theorem FunC.ok {P : Program} {w : World} {K : PySem.W.Frag} {mg : Str → Option Value} {base : Heap} {x qual : Str} {st : Stmt} {f : Addr} {fd : FuncData} {c : Addr} {N ps : List Str} {k : Nat} {sp : Sp} (F : FunC K x qual st f fd c) (S : FnScope N ps (defScope st))
    (len : ∀ vs H Q E, sp vs H Q E → vs.length = ps.length)
    (hbody : ∀ (A : Around) (outer : List Env) (s : Shared) (H : Hp) (vs : List V) (Q : VK) (E : XK), Room k (A.deeper (envOfC qual (defScope st) s.heap.objs.size f (.ref c))) → sp vs H Q E →
      ∃ t, PSs (cxOf CX0 P w K mg base N qual (defScope st) f (.ref c) A outer s H E).nox (defBody st) t ∧ t { nx := fun _ H' => Q .non H', rt := Q } (start N vs) H) : FnOk P w K mg base CX0 (k + 1) f fd ps sp := by
  obtain ⟨oc, od, kV, doc, pm, an, ct, osl, rfl, lk, hcd⟩ := F.ex
  refine fn_of lk hcd S len fun A outer s H vs Q E hr hsp => ?_
  obtain ⟨t, h, q⟩ := hbody A outer s H vs Q E hr hsp
  exact ⟨t, h.nox, q⟩
/-! ### the classes of refusals -/
def excDB (K : PySem.W.Frag) (D : Addr) : Bool := (PySem.W.clsIn K D).isSome && (decide (PySem.W.findIn K (.ref D) "__getattribute__" = some (some (.builtin "BaseException.__getattribute__"))) && (decide (PySem.W.findIn K (.ref D) "__getattr__" = some none) &&
  (decide (PySem.W.subIn K (.ref D) (.type "BaseException") = some true) && (decide (PySem.W.findIn K (.ref D) "__class__" = some (some (.builtin "object.__class__"))) && (decide (PySem.W.specialIn K (.builtin "object.__class__") "__get__" = some (some (.builtin "getset_descriptor.__get__"))) &&
  (decide (PySem.W.takesIn K (.builtin "object.__class__") = some true) && decide (PySem.W.mroIn K D (.type "object") = some true)))))))
theorem excD_of {K : PySem.W.Frag} {D : Addr} (h : excDB K D = true) : ExcD K D := by
  unfold excDB at h
  simp only [Bool.and_eq_true, decide_eq_true_eq] at h
  obtain ⟨h1, h2, h3, h4, h5, h6, h7, h8⟩ := h
  exact ⟨h1, h2, h3, h4, h5, h6, h7, h8⟩
/-- the classes that the law's helpers name, by their places -/
structure HowC where
  five : List Addr
  wrong : Addr
  two : List Addr
  all : List Addr
/-- C is the i-th class under Wrong, one without a field at -/
def plainB (K : PySem.W.Frag) (hc : HowC) (C : Addr) (i : Nat) : Bool := excDB K C && (decide (PySem.W.exmAny K (.ref C) (hc.five.map Value.ref) = some false) && (decide (PySem.W.exmAny K (.ref C) [.ref hc.wrong] = some true) &&
  (decide ((hc.all.map fun D => PySem.W.kitOne K (.ref C) (.ref D)) = (List.range hc.all.length).map fun j => some (decide (j = i))) && (decide (PySem.W.kitOne K (.ref C) (.type "ValueError") = some true) && decide (PySem.W.kitAny K (.ref C) (hc.two.map Value.ref) = some false)))))
structure Plain (K : PySem.W.Frag) (hc : HowC) (C : Addr) (i : Nat) : Prop where
  ec : ExcD K C
  e5 : PySem.W.exmAny K (.ref C) (hc.five.map Value.ref) = some false
  ew : PySem.W.exmAny K (.ref C) [.ref hc.wrong] = some true
  k : (hc.all.map fun D => PySem.W.kitOne K (.ref C) (.ref D)) = (List.range hc.all.length).map fun j => some (decide (j = i))
  kv : PySem.W.kitOne K (.ref C) (.type "ValueError") = some true
  k2 : PySem.W.kitAny K (.ref C) (hc.two.map Value.ref) = some false
theorem plain_of {K : PySem.W.Frag} {hc : HowC} {C : Addr} {i : Nat} (h : plainB K hc C i = true) : Plain K hc C i := by
  unfold plainB at h
  simp only [Bool.and_eq_true, decide_eq_true_eq] at h
  obtain ⟨h1, h2, h3, h4, h5, h6⟩ := h
  exact ⟨excD_of h1, h2, h3, h4, h5, h6⟩
theorem Plain.at {K : PySem.W.Frag} {hc : HowC} {C : Addr} {i j : Nat} {D : Addr} (h : Plain K hc C i) (hj : hc.all[j]? = some D) : PySem.W.kitOne K (.ref C) (.ref D) = some (decide (j = i)) := by
  have e := congrArg (fun l => l[j]?) h.k
  have hl : j < hc.all.length := (List.getElem?_eq_some_iff.mp hj).1
  simp only [List.getElem?_map, hj, List.getElem?_range hl, Option.map_some] at e
  exact Option.some.inj e
theorem DictOk.ex {d : Option Addr} {H H' : Hp} (h : DictOk d H) (e : Ex H H') : DictOk d H' := fun dd hd => by
  obtain ⟨fs, hf⟩ := h dd hd
  exact ⟨fs, e _ _ hf⟩
def kindNames : List Str := ["code", "deed", "entries", "lengths", "name", "number", "pages", "queries", "query", "text of query", "row", "shelf", "size", "text", "word", "taken"]
def hot16 (i : Nat) : List Bool := [decide (0 = i), decide (1 = i), decide (2 = i), decide (3 = i)] ++ [decide (4 = i), decide (5 = i), decide (6 = i), decide (7 = i)] ++ [decide (8 = i), decide (9 = i), decide (10 = i), decide (11 = i)] ++ [decide (12 = i), decide (13 = i), decide (14 = i), decide (15 = i)]
theorem hot16_count : ∀ i, i < 16 → (hot16 i).count true = 1 := by decide
theorem hot16_at : ∀ i, i < 16 → (hot16 i)[i]? = some true := by decide
theorem hot16_ahead : ∀ i, i < 16 → ∀ m, m < i → (hot16 i)[m]? = some false := by decide
end My
/-! a class under IndexError, the second of the two; isinstance of an exception whose class is not known ahead -/
namespace My
open PySem PySem.Spec PyProof.Rows L2
def placeB (K : PySem.W.Frag) (hc : HowC) (C : Addr) : Bool := excDB K C && (decide (PySem.W.exmAny K (.ref C) (hc.five.map Value.ref) = some false) && (decide (PySem.W.exmAny K (.ref C) [.ref hc.wrong] = some false) &&
  (decide (PySem.W.exmAny K (.ref C) (hc.two.map Value.ref) = some true) && (decide (PySem.W.kitOne K (.ref C) (.type "IndexError") = some true) && decide ((hc.two.map fun D => PySem.W.kitOne K (.ref C) (.ref D)) = [some true, some false])))))
structure PlaceC (K : PySem.W.Frag) (hc : HowC) (C : Addr) : Prop where
  ec : ExcD K C
  e5 : PySem.W.exmAny K (.ref C) (hc.five.map Value.ref) = some false
  ew : PySem.W.exmAny K (.ref C) [.ref hc.wrong] = some false
  e2 : PySem.W.exmAny K (.ref C) (hc.two.map Value.ref) = some true
  ki : PySem.W.kitOne K (.ref C) (.type "IndexError") = some true
  k2 : (hc.two.map fun D => PySem.W.kitOne K (.ref C) (.ref D)) = [some true, some false]
theorem place_of {K : PySem.W.Frag} {hc : HowC} {C : Addr} (h : placeB K hc C = true) : PlaceC K hc C := by
  unfold placeB at h
  simp only [Bool.and_eq_true, decide_eq_true_eq] at h
  obtain ⟨h1, h2, h3, h4, h5, h6⟩ := h
  exact ⟨excD_of h1, h2, h3, h4, h5, h6⟩
section
variable {X : Cx} {K : PySem.W.Frag} {a : Addr} {d : Option Addr} {cls : Value} {oe : Obj}
def rIsE (K : PySem.W.Frag) (cls : Value) (a : Addr) (d : Option Addr) : List V → Hp → VK → Prop := fun xs H Q => ∃ D : Addr, cls = .ref D ∧ ExcD K D ∧ rIsH K D a d xs H Q
theorem isE (h : X.K = K) (hp : (a, oe) ∈ X.pn) (hz : Zc cls d oe) (hf : ∃ vs, oe.data = .fields vs) : CallR X (.builtin "isinstance") (rIsE K cls a d) := by
  intro pins s σ H xs us Q I r q
  obtain ⟨D, rfl, EC, q⟩ := q
  exact isH h EC ⟨hp, hz, hf⟩ pins s σ H xs us Q I r q
end
end My
/-! ==, !=, len, str, repr of an instance of the program's own class, by its own def -/
namespace Own
open PySem PySem.Spec PyProof.Rows L2
section
variable {X : Cx} {K : PySem.W.Frag} {pins : List (Addr × Obj)} {s : Shared} {σ : L2.St} {H : Hp} {CX : CXT} {C f : Addr} {fd : FuncData} {ps : List Str} {sp : Sp} {E : XK} {n : Nat}
/-- the def at f is run on us, somewhere below the running body -/
theorem run_own {A : Around} {vs : List V} {us : List Value} {Q : VK} (F : FnOk X.prog X.w X.K X.mg X.base CX n f fd ps sp) (hb : Binds X.K fd ps []) (hx : Passes CX X E) (sb : Sub X n A) (I : Inv X pins σ H s) (r : Vals vs us) (h : sp vs H Q E) :
    wpAny (model X.prog X.w) A (call (.ref f) us) (EP X pins σ Q) X.xe s := by
  have e0 : Env0 X.prog X.w X.K X.mg X.base A X.stack s H := by
    have e := I.env0
    exact ⟨by rw [sb.fr]; exact e.frames, e.mod, e.bs, e.bsz, e.funs, e.frf, e.hok, e.bare⟩
  have hl := F.len _ _ _ _ h
  have hl2 := r.length
  refine wpAny_call (codeAny_mono (F.run A X.stack s H ⟨us, []⟩ us vs _ E sb.room e0 (by
    have z := hb s us I.kIn (by simp; omega)
    simpa using z) r h) fun q s' hq => ?_)
  cases q with
  | error e => exact hx pins σ H s e s' I hq
  | ok fl =>
    cases fl with
    | ret w => exact I.after hq
    | next => exact False.elim hq
    | brk => exact False.elim hq
    | cont => exact False.elim hq
/-- len(o) -/
def rLenO (C : Addr) (sp : Sp) (E : XK) : List V → Hp → VK → Prop := fun xs H Q => ∃ a dx fs, xs = [.ref a] ∧ H a = some (.ins C dx fs) ∧ sp [.ref a] H (fun v H' => ∃ i : Int, v = .int i ∧ (0 ≤ i ∧ i < 2 ^ 63) ∧ Q (.int i) H') E
theorem cr_lenO (F : FnOk X.prog X.w X.K X.mg X.base CX n f fd ps sp) (m : Meth X.K C "__len__" f) (hb : Binds X.K fd ps []) (hx : Passes CX X E) (hr : Room (n + 1) X.A) : CallR X (.builtin "len") (rLenO C sp E) := by
  intro pins s σ H xs us Q I r h
  obtain ⟨a, dx, fs, rfl, ha, h⟩ := h
  cases r with
  | cons r1 rr =>
    cases rr
    cases r1
    obtain ⟨mA, J, _⟩ := ins_get I.hok ha
    obtain ⟨od, J, _⟩ := J.look
    obtain ⟨mm, hF⟩ := I.fr
    refine PySem.W.len_K hF I.ok.mod.kin J m.at_ m.fn (wpAny_mono (run_own F hb hx ⟨hr.in1, rfl⟩ I (vs := [.ref a]) (.cons rfl .nil) h) (fun v s' q => ?_) fun _ _ z => z)
    obtain ⟨z, H', I', rz, i, rfl, hi, q⟩ := q
    obtain ⟨t, rfl⟩ := rz
    exact ⟨hi, .int i, H', I'.tok _, ⟨_, rfl⟩, q⟩
/-- repr(o), str(o) -/
def rStrO (C : Addr) (sp : Sp) (E : XK) : List V → Hp → VK → Prop := fun xs H Q => ∃ a dx fs, xs = [.ref a] ∧ H a = some (.ins C dx fs) ∧ sp [.ref a] H (fun v H' => ∃ z : Str, v = .str z ∧ Q (.str z) H') E
theorem cr_reprO (F : FnOk X.prog X.w X.K X.mg X.base CX n f fd ps sp) (m : Meth X.K C "__repr__" f) (hb : Binds X.K fd ps []) (hx : Passes CX X E) (hr : Room (n + 1) X.A) : CallR X (.builtin "repr") (rStrO C sp E) := by
  intro pins s σ H xs us Q I r h
  obtain ⟨a, dx, fs, rfl, ha, h⟩ := h
  cases r with
  | cons r1 rr =>
    cases rr
    cases r1
    obtain ⟨mA, J, _⟩ := ins_get I.hok ha
    obtain ⟨od, J, _⟩ := J.look
    obtain ⟨mm, hF⟩ := I.fr
    refine PySem.W.repr_K hr.in1.units0 hF I.ok.mod.kin J m.at_ m.fn (wpAny_mono (run_own F hb hx ⟨hr.in1, rfl⟩ I (vs := [.ref a]) (.cons rfl .nil) h) (fun v s' q => ?_) fun _ _ z => z)
    obtain ⟨z, H', I', rz, y, rfl, q⟩ := q
    obtain ⟨t, rfl⟩ := rz
    exact ⟨.str y, H', I', ⟨_, rfl⟩, q⟩
theorem cr_strO (F : FnOk X.prog X.w X.K X.mg X.base CX n f fd ps sp) (m : Meth X.K C "__str__" f) (hb : Binds X.K fd ps []) (hx : Passes CX X E) (hr : Room (n + 2) X.A) : CallR X (.type "str") (rStrO C sp E) := by
  intro pins s σ H xs us Q I r h
  obtain ⟨a, dx, fs, rfl, ha, h⟩ := h
  cases r with
  | cons r1 rr =>
    cases rr
    cases r1
    obtain ⟨mA, J, _⟩ := ins_get I.hok ha
    obtain ⟨od, J, _⟩ := J.look
    refine PySem.W.kso_call hr.in1.in1.units0 I.kIn J m.at_ m.fn (wpAny_mono (run_own F hb hx ⟨hr.in1.in1, rfl⟩ I (vs := [.ref a]) (.cons rfl .nil) h) (fun v s' q => ?_) fun _ _ z => z)
    obtain ⟨z, H', I', rz, y, rfl, q⟩ := q
    obtain ⟨t, rfl⟩ := rz
    exact ⟨.str y, H', I', ⟨_, rfl⟩, q⟩
/-- x == y by x's own def: y is an instance of the same class, or of a type that doesn't go first -/
def OthK (K : PySem.W.Frag) (C : Addr) (H : Hp) (y : V) : Prop := (∃ b dy gs, y = .ref b ∧ H b = some (.ins C dy gs)) ∨ ∃ T, TyX K H y (.type T) ∧ PySem.W.notFirst K C (.type T) = true
def rEqO (K : PySem.W.Frag) (C : Addr) (sp : Sp) (E : XK) : R2 := fun x y H Q => ∃ a dx fs, x = .ref a ∧ H a = some (.ins C dx fs) ∧ OthK K C H y ∧ sp [x, y] H (fun v H' => ∃ b : Bool, v = .bl b ∧ Q (.bl b) H') E
theorem oth_looks {y : V} {u : Value} (I : Inv X pins σ H s) (ry : RelV y u) (h : OthK X.K C H y) : ∃ tb, PySem.W.Looks (model X.prog X.w) s.heap (typeOf u) tb ∧ PySem.W.notFirst X.K C tb = true := by
  rcases h with ⟨b, dy, gs, rfl, hb⟩ | ⟨T, ty, nf⟩
  · cases ry
    obtain ⟨mB, J, _⟩ := ins_get I.hok hb
    obtain ⟨od, J, _⟩ := J.look
    exact ⟨_, J.type, by simp [PySem.W.notFirst]⟩
  · obtain ⟨P, Z, p, _⟩ := kit_of I ry ty
    exact ⟨_, Z.ty _ _ I.kIn p, nf⟩
theorem op_eqO (F : FnOk X.prog X.w X.K X.mg X.base CX n f fd ps sp) (m : Meth X.K C "__eq__" f) (hb : Binds X.K fd ps []) (hx : Passes CX X E) (hr : Room n X.A) (hK : X.K = K) : OpR X (compareOp .Eq) (rEqO K C sp E) := by
  subst hK
  intro pins s σ H x y v u Q I rx ry h
  obtain ⟨a, dx, fs, rfl, ha, ho, h⟩ := h
  cases rx
  obtain ⟨mA, J, _⟩ := ins_get I.hok ha
  obtain ⟨od, J, _⟩ := J.look
  obtain ⟨mm, hF⟩ := I.fr
  obtain ⟨tb, ht, hn⟩ := oth_looks I ry ho
  show wpAny (model X.prog X.w) X.A (richCompare .Eq (.ref a) u) (EP X pins σ Q) X.xe s
  refine PySem.W.cmp_K (op := .Eq) hr.units0 hF I.ok.mod.kin J ht hn m.at_ m.fn (wpAny_mono (run_own F hb hx ⟨hr, rfl⟩ I (vs := [.ref a, y]) (.cons rfl (.cons ry .nil)) h) (fun v s' q => ?_) fun _ _ z => z)
  obtain ⟨z, H', I', rz, b, rfl, q⟩ := q
  cases rz
  exact ⟨.bl b, H', I', rfl, q⟩
section
variable {M : Model} {prog : Program} {w : World} {A : Around} {E : Value → Shared → Prop} {s : Shared} {x : Addr} {ox : Obj} {od : Option Obj}
theorem ifBound_ne {args : List Value} {Q : Option Value → Shared → Prop} (Z : K.In s.heap) (I : PySem.W.InstAt s.heap x ox C od) (hs : PySem.W.findIn K (.ref C) "__ne__" = some (some (.builtin "object.__ne__")))
    (h : wpAny M A (call (.builtin "object.__ne__") (.ref x :: args)) (fun v => Q (some v)) E s) : wpAny M A (callSpecialIfBound? (.ref x) "__ne__" args) Q E s := by
  have fin : wpAny M A (call (.builtin "object.__ne__") ([.ref x] ++ args) >>= fun v => pure (some v)) Q E s := wpAny_bind (wpAny_mono h (fun v s' z => wpAny_pure z) fun _ _ z => z)
  simp only [callSpecialIfBound?, bindSpecialIfBound?]
  refine wpAny_holding (wpAny_bind (wpAny_bind (wpAny_bind (I.type.here ((PySem.W.looks_findIn Z hs).here (wpAny_bind (wpAny_askSetting (wpAny_ite ?_))))))))
  split
  · exact wpAny_bind (wpAny_of_eq (F.cmp_object.ne.bind _) (wpAny_pure fin))
  · exact wpAny_tryCatch (wpAny_bind (wpAny_of_eq (F.cmp_object.ne.bind _) (wpAny_pure fin)))
theorem call_ne {u : Value} {f : Addr} {Q : Value → Shared → Prop} (hu : A.in1.units < cLine) (Z : K.In s.heap) (I : PySem.W.InstAt s.heap x ox C od) (hm : PySem.W.mroIn K C (.type "object") = some true) (hs : PySem.W.findIn K (.ref C) "__eq__" = some (some (.ref f))) (hf : PySem.W.isFn K (.ref f) = true)
    (h : wpAny (model prog w) A.in1 (call (.ref f) [.ref x, u]) (fun v s' => ∃ b, v = .bool b ∧ Q (.bool (!b)) s') E s) : wpAny (model prog w) A (call (.builtin "object.__ne__") [.ref x, u]) Q E s := by
  refine wpAny_call (codeAny_call_builtin F.cmp_object.ne.plain F.cmpEntry_ne (PySem.W.check_slot F.cmpKind_ne F.cmpSplit_ne (I.type.andThen (PySem.W.looks_mroIn Z hm)) (F.cmpArgs_ne _ _) ?_))
  unfold Builtin.«object.__ne__»
  refine wpAny_bind (m := slotArgs "__ne__" 1 _) (wpAny_pure ?_)
  refine wpAny_bind (wpAny_cRoomFor hu ?_)
  refine wpAny_bind (m := callSpecialIfBound? (.ref x) (Str.ofString "__eq__") _) (PySem.W.ifBound_K Z I hs hf (wpAny_mono h (fun v s' z => ?_) fun _ _ z => z))
  obtain ⟨b, rfl, q⟩ := z
  exact wpAny_bind (wpAny_truthy_bool (wpAny_pure q))
end
/-- x != y by x's own == -/
def rNeO (K : PySem.W.Frag) (C : Addr) (sp : Sp) (E : XK) : R2 := fun x y H Q => ∃ a dx fs, x = .ref a ∧ H a = some (.ins C dx fs) ∧ OthK K C H y ∧ sp [x, y] H (fun v H' => ∃ b : Bool, v = .bl b ∧ Q (.bl (!b)) H') E
theorem op_neO (F : FnOk X.prog X.w X.K X.mg X.base CX n f fd ps sp) (m : Meth X.K C "__eq__" f) (hb : Binds X.K fd ps []) (hx : Passes CX X E) (hr : Room (n + 1) X.A) (hne : PySem.W.findIn X.K (.ref C) "__ne__" = some (some (.builtin "object.__ne__"))) (hm : PySem.W.mroIn X.K C (.type "object") = some true) (hK : X.K = K) : OpR X (compareOp .NotEq) (rNeO K C sp E) := by
  subst hK
  intro pins s σ H x y v u Q I rx ry h
  obtain ⟨a, dx, fs, rfl, ha, ho, h⟩ := h
  cases rx
  obtain ⟨mA, J, _⟩ := ins_get I.hok ha
  obtain ⟨od, J, _⟩ := J.look
  obtain ⟨tb, ht, hn⟩ := oth_looks I ry ho
  have one : wpAny (model X.prog X.w) X.A (tryCompare (.ref a) "__ne__" u) (fun r s' => ∃ v, r = some v ∧ EP X pins σ Q v s') X.xe s := by
    unfold tryCompare
    refine wpAny_bind (ifBound_ne I.kIn J hne (call_ne hr.in1.units0 I.kIn J hm m.at_ m.fn (wpAny_mono (run_own F hb hx ⟨hr.in1, rfl⟩ I (vs := [.ref a, y]) (.cons rfl (.cons ry .nil)) h) (fun v s' q => ?_) fun _ _ z => z)))
    obtain ⟨z, H', I', rz, b, rfl, q⟩ := q
    cases rz
    exact ⟨b, rfl, wpAny_pure ⟨_, rfl, .bl (!b), H', I', rfl, q⟩⟩
  show wpAny (model X.prog X.w) X.A (richCompare .NotEq (.ref a) u) (EP X pins σ Q) X.xe s
  unfold richCompare
  simp only [oneThing_ref]
  refine wpAny_holding (wpAny_bind (wpAny_cRoomFor hr.units0 (wpAny_bind (J.type.here (wpAny_bind (ht.here ?_))))))
  split
  · rename_i q
    have e : PySem.W.subIn X.K tb (.ref C) = some false := by
      rcases Bool.or_eq_true_iff.mp hn with e | e
      · rw [beq_iff_eq.mp e] at q; simp at q
      · exact beq_iff_eq.mp e
    refine wpAny_bind ((PySem.W.looks_subIn I.kIn e).here ?_)
    simp only [Bool.false_eq_true, if_false]
    refine wpAny_bind (wpAny_mono one (fun r s' z => ?_) fun _ _ e => e)
    obtain ⟨v, rfl, hq⟩ := z
    exact wpAny_pure hq
  · refine wpAny_bind (wpAny_pure ?_)
    simp only [Bool.false_eq_true, if_false]
    refine wpAny_bind (wpAny_mono one (fun r s' z => ?_) fun _ _ e => e)
    obtain ⟨v, rfl, hq⟩ := z
    exact wpAny_pure hq
/-- a built-in type doesn't go first -/
theorem nf {T : String} {ts : List Value} (e : fastBuiltinMro T = some ts) (h : ts.all (fun t => match t with | .type _ => true | _ => false) = true) : PySem.W.notFirst K C (.type T) = true := by
  have z : PySem.W.subIn K (.type T) (.ref C) = some false := by
    show (fastBuiltinMro T).map (·.contains (.ref C)) = some false
    rw [e]
    refine congrArg some (Bool.eq_false_iff.mpr fun q => ?_)
    have := List.all_eq_true.mp h _ (List.contains_iff_mem.mp q)
    exact absurd this (by simp)
  unfold PySem.W.notFirst
  rw [z]
  simp
end
end Own
/-! ### sep.join(reversed(a list of texts)) -/
namespace JnR
open PySem PySem.Spec PyProof.Rows L2 RT
open Builtin Builtin.Str Builtin.Int
theorem call_join_rev {prog : Program} {w : World} {A : Around} {E : Value → Shared → Prop} {s : Shared} {x : Str} {t : Tok} {it l : Addr} {items : Array Value} {Q : Value → Shared → Prop} (hh : A.handled = none)
    (hit : s.heap.IsRevIter it l ((items.size : Int) - 1)) (hl : s.heap.IsList l items) (hne : l ≠ it) (hn : items.size ≤ sizeLine) (hstr : ∀ v ∈ items.toList, ∃ y u, v = Value.str y u)
    (hq : ∀ (h' : Heap) (tk : Nat) (ls : List (Str × Tok)), (∀ b o, b ≠ it → s.heap.get? b = some o → h'.get? b = some o) → ItemsOf (fun i v => items[items.size - 1 - i]? = some v) (strValues ls).toArray items.size →
      JoinOk x (ls.map (·.1)) = true ∧ ∀ t' k, Q (.str (Txt.join x (ls.map (·.1))) t') { s with heap := h', toks := k }) :
    wpAny (model prog w) A (call (.builtin "str.join") [.str x t, .ref it]) Q E s := by
  refine wpAny_call (codeAny_call_builtin F.slot_str_join.plain F.entry_str_join (F.slot_str_join.check _ _ _ _ _ _ _ _ (typeIs_str _ _ _) (F.args_str_join_2 _ _) ?_))
  rw [join_tree_other]
  refine wpAny_bind (wpAny_typeOf hit.typeIs ?_)
  show wpAny _ A.in1 ((pyIter (.ref it)).tryCatch _ >>= fun it => collect it >>= fun items => joinTail x items) _ _ s
  refine wpAny_bind (wpAny_tryCatch (wpAny_pyIter_revIter hit ?_))
  refine wpAny_bind (collect_rev (A := A.in1) hh hit hl hne hn fun h' tk acc hk hacc => ?_)
  obtain ⟨ls, hls⟩ := exists_strValues acc.toList fun v hv => by
    obtain ⟨j, hj, rfl⟩ := Array.mem_iff_getElem.mp (Array.mem_toList_iff.mp hv)
    have e := hacc.2 j _ (Array.getElem?_eq_getElem hj)
    exact hstr _ (by rw [Array.mem_toList_iff]; exact Array.mem_of_getElem? e)
  rw [← hls]
  have hacc' : ItemsOf (fun i v => items[items.size - 1 - i]? = some v) (strValues ls).toArray items.size := by rw [hls]; simpa using hacc
  obtain ⟨hok, hpost⟩ := hq h' tk ls hk hacc'
  unfold JoinOk at hok
  rw [Bool.not_eq_true'] at hok
  have g : Gives (joinTail x (strValues ls)) (joinMade x ls) := by
    have g0 := gives_joinTail x ls hok
    cases ls with
    | nil => exact g0
    | cons p r => cases r with
      | nil => exact g0
      | cons q r' => exact g0
  exact g prog w A (wants Q E) { s with heap := h', toks := tk } (post_join ls ⟨joinFit_length hok, fun t' k => hpost t' k⟩)
def tJoinRev (K : PySem.W.Frag) (to te : TE) : TE := fun σ H Q => to σ H fun x H1 => (∃ a, x = .str a) ∧ te σ H1 fun v H2 => ∃ (a : Str) (q : Addr) (ys : List Str), x = .str a ∧ v = .ref q ∧ SqL K H2 q (ys.map V.str) ∧ (ys.map (·.length)).sum + ys.length * a.length ≤ 16777216 ∧ Q (.str (Txt.join a ys.reverse)) H2
theorem strs_vals : ∀ {ys : List Str} {its : List Value}, Vals (ys.map V.str) its → its.length = ys.length ∧ ∀ (i : Nat) (v : Value), its[i]? = some v → ∃ y u, ys[i]? = some y ∧ v = Value.str y u
  | [], its, h => by
    cases h
    exact ⟨rfl, fun i v g => by simp at g⟩
  | y :: ys, its, h => by
    cases h with
    | cons a r =>
      obtain ⟨u, rfl⟩ := a
      have ih := strs_vals r
      refine ⟨by simp [ih.1], fun i v g => ?_⟩
      cases i with
      | zero => cases g; exact ⟨y, u, rfl, rfl⟩
      | succ i => exact ih.2 i v (by simpa using g)
theorem pe_joinRev {X : Cx} {o e : Expr} {to te : TE} {apos pos p2 pos2 : Pos} (hc : X.calm = true) (ho : PE X o to) (hg2 : Gl X "reversed") (hm2 : X.mg "reversed" = none) (he : PE X e te)
    (hs1 : starEach [.Call (.Name "reversed" p2) [e] [] pos2] X.env = [(false, eval (.Call (.Name "reversed" p2) [e] [] pos2) X.env)] := by rfl) (hs : starEach [e] X.env = (false, eval e X.env) :: starEach [] X.env := by rfl)
    (hbase : attributeBase o "join" X.env (eval o X.env) = eval o X.env := by rfl) (hline : (apos.endLine == pos.line) = true := by rfl) :
    PE X (.Call (.Attribute o "join" apos) [.Call (.Name "reversed" p2) [e] [] pos2] [] pos) (tJoinRev X.K to te) := by
  refine ⟨fun pins s σ H Q I h => ?_⟩
  refine PySem.Call_method1 hbase hs1 hline (thn (ho.run pins s σ H _ I h) fun v s1 ⟨x, H1, I1, r1, q1⟩ => ?_)
  obtain ⟨⟨a, rfl⟩, q1⟩ := q1
  obtain ⟨t, rfl⟩ := _root_.id r1
  refine ⟨"str", _, F.plainAttrs_str, F.slot_str_join, F.type_str_join, typeIs_str _ _ _, (fun _ e => nomatch e), Calls.callWith_builtin rfl (Calls.evalArgs_plain (Calls.spliced_cons ?_))⟩
  refine Call_ (ld_blt I1 hg2 hm2 PyProof.Rows.boot_reversed (PyProof.Rows.callWith_type1 (args_cons (thn (he.run pins s1 σ H1 _ I1 q1) fun u s2 ⟨v2, H2, I2, r2, q2⟩ => args_nil ?_) hs) hs rfl))
  obtain ⟨a', q, ys, ea, ev, hq, hz, q2⟩ := q2
  cases ea
  subst ev
  obtain rfl : u = Value.ref q := r2
  obtain ⟨its, rv, p', hsz⟩ := I2.list hq
  obtain ⟨yl, yv⟩ := strs_vals rv
  refine call_reversed_list p'.isList (Calls.spliced_nil ?_)
  have k0 : ∀ b o, s2.heap.get? b = some o → (s2.heap.push (revObj q ((its.toArray.size : Int) - 1))).get? b = some o := fun b o e => Heap.get?_push_of_some _ e
  have I3 : Inv X pins σ H2 { s2 with heap := s2.heap.push (revObj q ((its.toArray.size : Int) - 1)) } := I2.kept (t' := s2.toks) k0
  obtain ⟨f0, f1, f2, f3, f4, f5⟩ := I2.fpOk (H' := H2) (b := s2.heap.objs.size) (Nat.le_refl _) (I2.hok.fresh (Nat.le_refl _))
  have hl := p'.isList
  obtain ⟨ol, hol, _⟩ := _root_.id hl
  have hne : q ≠ s2.heap.objs.size := Nat.ne_of_lt (Heap.lt_size hol)
  have hn : its.toArray.size ≤ sizeLine := by rw [List.size_toArray, ← rv.length]; exact hsz
  refine call_join_rev (s := { s2 with heap := s2.heap.push (revObj q ((its.toArray.size : Int) - 1)) }) (I2.ok.hd hc) ⟨_, Heap.get?_push_size _ rfl, rfl, rfl⟩ (hl.push _) hne hn (fun v hv => ?_) fun h' tk ls hk hi => ?_
  · obtain ⟨i, hi⟩ := List.mem_iff_getElem?.mp hv
    obtain ⟨y, u, _, e⟩ := yv i v (by simpa using hi)
    exact ⟨y, u, e⟩
  · have el : ls.map (·.1) = ys.reverse := by
      have hz1 : ls.length = ys.length := by
        have e1 := hi.1
        rw [List.size_toArray, List.size_toArray, yl] at e1
        unfold strValues at e1
        rwa [List.length_map] at e1
      refine List.ext_getElem? fun i => ?_
      rw [List.getElem?_map]
      by_cases c : i < ls.length
      · have e1 : ls[i]? = some ls[i] := List.getElem?_eq_getElem c
        have e2 : (strValues ls).toArray[i]? = some (.str ls[i].1 ls[i].2) := by
          rw [List.getElem?_toArray]
          unfold strValues
          rw [List.getElem?_map, e1]
          rfl
        have e3 := hi.2 i _ e2
        rw [List.size_toArray, yl, List.getElem?_toArray] at e3
        obtain ⟨y, u, e4, e5⟩ := yv _ _ e3
        injection e5 with e5
        rw [List.getElem?_reverse (by omega), e4, e1, ← e5]
        rfl
      · rw [List.getElem?_eq_none (by omega), List.getElem?_eq_none (by rw [List.length_reverse]; omega)]
        rfl
    rw [el]
    refine ⟨joinOk_of ?_, fun t' k => ?_⟩
    · rw [List.map_reverse, List.sum_reverse, List.length_reverse]
      exact hz
    · exact ⟨.str _, H2, I3.turned (t' := k) (fun b o hb e => hk b o hb e) f0 f1 f3 f4 f5, ⟨t', rfl⟩, q2⟩
end JnR
/-! the head by one kernel run: what the top has left is read off the tree, at places that are said as numbers -/
namespace HX
open PySem PySem.Spec PyProof.Rows L2
abbrev FnZ : Type := Option (Str × Str × Arguments × FuncBody × Scope × Addr × List (Str × Addr) × Addr)
def rv : Option Addr → Value
  | none => .none
  | some a => .ref a
def vB : Option Addr → Value → Bool
  | none, .none => true
  | some a, .ref b => Nat.beq a b
  | _, _ => false
theorem vB_ok {o : Option Addr} {v : Value} (h : vB o v = true) : v = rv o := by
  cases o with
  | none => cases v <;> first | rfl | cases h
  | some a =>
    cases v with
    | ref b =>
      have e : a = b := Nat.eq_of_beq_eq_true h
      rw [e]
      rfl
    | _ => cases h
/-- one def: its place, name, qualified name, parameters, body, scope, cells, the places of its defaults and its code -/
structure FD where
  a : Addr
  name : Str
  qual : Str
  params : Arguments
  body : List Stmt
  scope : Scope
  cl : List (Str × Addr)
  dV : Option Addr
  kV : Option Addr
  cd : Option Addr
def fnY (K : PySem.W.Frag) (a : Addr) : FnZ := match K.lookup a with
  | some ⟨_, _, .func fd, _⟩ => some (fd.name, fd.qualname, fd.params, fd.body, fd.scope, fd.globals, fd.closure, fd.builtins)
  | _ => none
def FD.val (d : FD) : FnZ := some (d.name, d.qual, d.params, .stmts d.body, d.scope, mainGlobals, d.cl, builtinsNs)
def FD.ok (K : PySem.W.Frag) (d : FD) : Bool := (match K.lookup d.a with
  | some ⟨_, _, .func fd, _⟩ => vB d.dV fd.defaults && (vB d.kV fd.kwdefaults && vB d.cd fd.code)
  | _ => false) && PySem.W.codeIn K (rv d.cd) d.qual
theorem FD.told {K : PySem.W.Frag} {d : FD} (e : fnY K d.a = d.val) (c : d.ok K = true) :
    ∃ (oc : Value) (od : Option Addr) (doc pm : Value) (an : Option Addr) (ct : Value) (sl : Array (Option Value)), K.lookup d.a = some ⟨oc, od, .func { name := d.name, qualname := d.qual, params := d.params, body := .stmts d.body, scope := d.scope, globals := mainGlobals, closure := d.cl, defaults := rv d.dV, kwdefaults := rv d.kV, doc, pyModule := pm, annotations := an, code := rv d.cd, closureTuple := ct, builtins := builtinsNs }, sl⟩ ∧ PySem.W.codeIn K (rv d.cd) d.qual = true := by
  obtain ⟨c1, c2⟩ := He.ba c
  unfold fnY at e
  cases q : K.lookup d.a with
  | none =>
    rw [q] at e
    cases e
  | some o =>
    obtain ⟨oc, od, dt, osl⟩ := o
    rw [q] at e c1
    cases dt with
    | func fd =>
      obtain ⟨n1, n2, n3, n4, n5, n6, n7, n8, n9, n10, n11, n12, n13, n14, n15⟩ := fd
      have e2 : (some (n1, n2, n3, n4, n5, n6, n7, n15) : FnZ) = some (d.name, d.qual, d.params, .stmts d.body, d.scope, mainGlobals, d.cl, builtinsNs) := e
      simp only [Option.some.injEq, Prod.mk.injEq] at e2
      obtain ⟨h1, h2, h3, h4, h5, h6, h7, h8⟩ := e2
      have c3 : (vB d.dV n8 && (vB d.kV n9 && vB d.cd n13)) = true := c1
      obtain ⟨k1, k2⟩ := He.ba c3
      obtain ⟨k3, k4⟩ := He.ba k2
      have g1 := vB_ok k1
      have g2 := vB_ok k3
      have g3 := vB_ok k4
      subst h1 h2 h3 h4 h5 h6 h7 h8 g1 g2 g3
      exact ⟨oc, od, n10, n11, n12, n14, osl, rfl, c2⟩
    | _ => cases e
/-! facts -/
def refB (v : Option (Option Value)) (a : Addr) : Bool := match v with
  | some (some (.ref b)) => Nat.beq b a
  | _ => false
theorem refB_ok {v : Option (Option Value)} {a : Addr} (h : refB v a = true) : v = some (some (.ref a)) := by
  unfold refB at h
  split at h
  · rename_i b
    have e : b = a := Nat.eq_of_beq_eq_true h
    rw [e]
  · cases h
def noB (v : Option (Option Value)) : Bool := match v with
  | some none => true
  | _ => false
theorem noB_ok {v : Option (Option Value)} (h : noB v = true) : v = some none := by
  unfold noB at h
  split at h
  · rfl
  · cases h
def litB (v : Option (Option Value)) (u : V) : Bool := match v with
  | some (some x) => He.relB u x
  | _ => false
theorem litB_ok {v : Option (Option Value)} {u : V} (h : litB v u = true) : ∃ x, v = some (some x) ∧ RelV u x := by
  unfold litB at h
  split at h
  · exact ⟨_, rfl, He.relB_ok h⟩
  · cases h
theorem litInt {v : Option (Option Value)} {i : Int} (h : litB v (.int i) = true) : ∃ t, v = some (some (.int i t)) := by
  obtain ⟨x, e, t, rfl⟩ := litB_ok h
  exact ⟨t, e⟩
theorem litStr {v : Option (Option Value)} {z : Str} (h : litB v (.str z) = true) : ∃ t, v = some (some (.str z t)) := by
  obtain ⟨x, e, t, rfl⟩ := litB_ok h
  exact ⟨t, e⟩
theorem litBl {v : Option (Option Value)} {b : Bool} (h : litB v (.bl b) = true) : v = some (some (.bool b)) := by
  obtain ⟨x, e, rfl⟩ := litB_ok h
  exact e
theorem litNon {v : Option (Option Value)} (h : litB v .non = true) : v = some (some .none) := by
  obtain ⟨x, e, rfl⟩ := litB_ok h
  exact e
def cellB (K : PySem.W.Frag) (cc C : Addr) : Bool := match K.lookup cc with
  | some ⟨_, _, .cell (some (.ref b)), _⟩ => Nat.beq b C
  | _ => false
theorem cellB_ok {K : PySem.W.Frag} {cc C : Addr} (h : cellB K cc C = true) : ∃ cl cld csl, K.lookup cc = some ⟨cl, cld, .cell (some (.ref C)), csl⟩ := by
  unfold cellB at h
  split at h
  · rename_i b _ q
    have e : b = C := Nat.eq_of_beq_eq_true h
    rw [e] at q
    exact ⟨_, _, _, q⟩
  · cases h
def fileB (K : PySem.W.Frag) (cda : Addr) (file : Str) : Bool := match K.lookup cda with
  | some ⟨_, _, .fields vs, _⟩ => (match (vs[2]? : Option Value) with
    | some (.str f _) => file == f
    | _ => false)
  | _ => false
theorem fileB_ok {K : PySem.W.Frag} {cda : Addr} {file : Str} (h : fileB K cda file = true) : ∃ (ccl : Value) (cdd : Option Addr) (cvs : Array Value) (ccs : Array (Option Value)) (fil : Str) (tf : Tok), K.lookup cda = some ⟨ccl, cdd, .fields cvs, ccs⟩ ∧ cvs[2]? = some (.str fil tf) ∧ (file == fil) = true := by
  unfold fileB at h
  split at h
  · rename_i vs _ q
    split at h
    · rename_i f t q2
      exact ⟨_, _, vs, _, f, t, q, q2, h⟩
    · cases h
  · cases h
def seqB (K : PySem.W.Frag) (a : Addr) (vs : List V) : Bool := match K.lookup a with
  | some ⟨_, _, .seq its _, _⟩ => He.relAll vs its.toList
  | _ => false
theorem seqB_ok {K : PySem.W.Frag} {a : Addr} {vs : List V} (h : seqB K a vs = true) : ∃ (oc : Value) (od : Option Addr) (us : List Value) (n : Nat) (sl : Array (Option Value)), K.lookup a = some ⟨oc, od, .seq us.toArray n, sl⟩ ∧ Vals vs us := by
  unfold seqB at h
  split at h
  · rename_i its n _ q
    obtain ⟨us⟩ := its
    exact ⟨_, _, us, n, _, q, He.relAll_ok h⟩
  · cases h
def tupB (K : PySem.W.Frag) (a : Addr) (vs : List V) : Bool := match K.lookup a with
  | some ⟨.type c, _, .seq its _, _⟩ => decide (c = "tuple") && He.relAll vs its.toList
  | _ => false
theorem tupB_ok {K : PySem.W.Frag} {a : Addr} {vs : List V} (h : tupB K a vs = true) : ∃ (od : Option Addr) (us : List Value) (n : Nat) (sl : Array (Option Value)), K.lookup a = some ⟨.type "tuple", od, .seq us.toArray n, sl⟩ ∧ Vals vs us := by
  unfold tupB at h
  split at h
  · rename_i c _ its n _ q
    obtain ⟨us⟩ := its
    obtain ⟨h1, h2⟩ := He.ba h
    have e := of_decide_eq_true h1
    subst e
    exact ⟨_, us, n, _, q, He.relAll_ok h2⟩
  · cases h
/-! a part of the heap, at places that are said -/
theorem frG_none {g : Addr → Option Obj} {t : Addr} : ∀ {as : List Addr}, (as.all fun b => !(Nat.beq t b)) = true → (He.frG g as).lookup t = none
  | [], _ => rfl
  | b :: r, h => by
    obtain ⟨h1, h2⟩ := He.ba (show ((!(Nat.beq t b)) && r.all fun b => !(Nat.beq t b)) = true from h)
    have ih := frG_none (g := g) h2
    have ne : (t == b) = false := by
      cases q : (t == b) with
      | false => rfl
      | true =>
        have e : t = b := beq_iff_eq.mp q
        subst e
        have z : Nat.beq t t = true := Nat.beq_refl t
        rw [z] at h1
        cases h1
    unfold He.frG at ih ⊢
    rw [List.filterMap_cons]
    cases hb : g b with
    | none => exact ih
    | some o =>
      show List.lookup t ((b, o) :: _) = none
      rw [List.lookup_cons, ne]
      exact ih
def tabsB (g : Addr → Option Obj) (as ts : List Addr) : Bool := ts.all fun t => (as.all fun b => !(Nat.beq t b)) && (match g t with
  | some o => He.emptyTab o
  | none => false)
abbrev AlY : Type := List FnZ × Bool
def obsY (as ts : List Addr) (fn : List FD) (fs : List (List (PySem.W.Frag → Bool))) (g : Addr → Option Obj) : AlY :=
  (fn.map fun d => fnY (He.frG g as) d.a, (fn.all fun d => d.ok (He.frG g as)) && ((fs.all fun l => l.all fun f => f (He.frG g as)) && tabsB g as ts))
def valY (fn : List FD) : AlY := (fn.map FD.val, true)
structure SaysY (ts : List Addr) (fn : List FD) (fs : List (List (PySem.W.Frag → Bool))) (h : Heap) (K : PySem.W.Frag) : Prop where
  fns : fn.map (fun d => fnY K d.a) = fn.map FD.val
  oks : ∀ d ∈ fn, d.ok K = true
  fcs : ∀ l ∈ fs, ∀ f ∈ l, f K = true
  out : ∀ t ∈ ts, K.lookup t = none
  empty : ∀ t ∈ ts, h.get? t = some (PySem.W.tabObj #[])
theorem saysY_of {as ts : List Addr} {fn : List FD} {fs : List (List (PySem.W.Frag → Bool))} {h : Heap} (e : obsY as ts fn fs h.get? = valY fn) : SaysY ts fn fs h (He.frG h.get? as) := by
  have e1 : fn.map (fun d => fnY (He.frG h.get? as) d.a) = fn.map FD.val := congrArg (fun z : AlY => z.1) e
  have e2 : ((fn.all fun d => d.ok (He.frG h.get? as)) && ((fs.all fun l => l.all fun f => f (He.frG h.get? as)) && tabsB h.get? as ts)) = true := congrArg (fun z : AlY => z.2) e
  obtain ⟨h1, h2⟩ := He.ba e2
  obtain ⟨h3, h4⟩ := He.ba h2
  have key : ∀ t ∈ ts, (as.all fun b => !(Nat.beq t b)) = true ∧ ∃ o, h.get? t = some o ∧ He.emptyTab o = true := fun t ht => by
    obtain ⟨h5, h6⟩ := He.ba (List.all_eq_true.mp h4 t ht)
    refine ⟨h5, ?_⟩
    cases q : h.get? t with
    | none =>
      rw [q] at h6
      cases h6
    | some o =>
      rw [q] at h6
      exact ⟨o, rfl, h6⟩
  exact ⟨e1, fun d hd => List.all_eq_true.mp h1 d hd, fun l hl f hf => List.all_eq_true.mp (List.all_eq_true.mp h3 l hl) f hf, fun t ht => frG_none (key t ht).1, fun t ht => by
    obtain ⟨_, o, q, z⟩ := key t ht
    rw [q, He.emptyTab_eq z]⟩
def hookY (as ts : List Addr) (fn : List FD) (fs : List (List (PySem.W.Frag → Bool))) : PySem.W.Hook where
  α := AlY
  obs := fun s => obsY as ts fn fs s.heap.get?
  val := fun _ => valY fn
  says := fun _ h => ∃ K : PySem.W.Frag, K.In h ∧ SaysY ts fn fs h K
  of := fun _ _ e => ⟨_, He.frG_in, saysY_of e⟩
  keeps := fun _ _ _ ⟨K, hK, c⟩ k => ⟨K, PySem.W.Frag.In.keeps hK k, ⟨c.fns, c.oks, c.fcs, c.out, fun t ht => k _ _ (c.empty t ht)⟩⟩
theorem obsY_eq {as ts : List Addr} {fn : List FD} {fs : List (List (PySem.W.Frag → Bool))} {g : Addr → Option Obj} {s : Shared} (h : ∀ a, g a = s.heap.get? a) : obsY as ts fn fs g = (hookY as ts fn fs).obs s := by
  have e : g = s.heap.get? := funext h
  rw [e] <;> rfl
section
variable {ts : List Addr} {fn : List FD} {fs : List (List (PySem.W.Frag → Bool))} {h : Heap} {K : PySem.W.Frag}
theorem SaysY.fact (c : SaysY ts fn fs h K) (i j : Nat) {l : List (PySem.W.Frag → Bool)} {f : PySem.W.Frag → Bool} (hi : fs[i]? = some l := by rfl) (hj : l[j]? = some f := by rfl) : f K = true := c.fcs l (List.mem_of_getElem? hi) f (List.mem_of_getElem? hj)
theorem SaysY.def_ (c : SaysY ts fn fs h K) (i : Nat) {d : FD} (hi : fn[i]? = some d := by rfl) :
    ∃ (oc : Value) (od : Option Addr) (doc pm : Value) (an : Option Addr) (ct : Value) (sl : Array (Option Value)), K.lookup d.a = some ⟨oc, od, .func { name := d.name, qualname := d.qual, params := d.params, body := .stmts d.body, scope := d.scope, globals := mainGlobals, closure := d.cl, defaults := rv d.dV, kwdefaults := rv d.kV, doc, pyModule := pm, annotations := an, code := rv d.cd, closureTuple := ct, builtins := builtinsNs }, sl⟩ ∧ PySem.W.codeIn K (rv d.cd) d.qual = true := by
  have e2 : (fn.map fun d => fnY K d.a)[i]? = (fn.map FD.val)[i]? := by rw [c.fns]
  rw [List.getElem?_map, List.getElem?_map, hi] at e2
  exact FD.told (Option.some.inj e2) (c.oks d (List.mem_of_getElem? hi))
end
/-! .. and dicts of the module with text keys -/
abbrev DT : Type := Addr × List Str
abbrev AlZ : Type := AlY × List (Option (List (Option (Str × Int))))
def obsZ (as ts : List Addr) (fn : List FD) (fs : List (List (PySem.W.Frag → Bool))) (ds : List DT) (g : Addr → Option Obj) : AlZ := (obsY as ts fn fs g, ds.map fun d => He.dicW (He.frG g as) d.1)
def valZ (fn : List FD) (ds : List DT) (w : World) : AlZ := (valY fn, ds.map fun d => some (He.keysIn w.params d.2))
structure SaysZ (ts : List Addr) (fn : List FD) (fs : List (List (PySem.W.Frag → Bool))) (ds : List DT) (w : World) (h : Heap) (K : PySem.W.Frag) : Prop where
  y : SaysY ts fn fs h K
  t : (ds.map fun d => He.dicW K d.1) = ds.map fun d => some (He.keysIn w.params d.2)
def hookZ (as ts : List Addr) (fn : List FD) (fs : List (List (PySem.W.Frag → Bool))) (ds : List DT) : PySem.W.Hook where
  α := AlZ
  obs := fun s => obsZ as ts fn fs ds s.heap.get?
  val := fun w => valZ fn ds w
  says := fun w h => ∃ K : PySem.W.Frag, K.In h ∧ SaysZ ts fn fs ds w h K
  of := fun _ _ e => ⟨_, He.frG_in, saysY_of (congrArg (fun z : AlZ => z.1) e), congrArg (fun z : AlZ => z.2) e⟩
  keeps := fun _ _ _ ⟨K, hK, c⟩ k => ⟨K, PySem.W.Frag.In.keeps hK k, ⟨c.y.fns, c.y.oks, c.y.fcs, c.y.out, fun t ht => k _ _ (c.y.empty t ht)⟩, c.t⟩
theorem obsZ_eq {as ts : List Addr} {fn : List FD} {fs : List (List (PySem.W.Frag → Bool))} {ds : List DT} {g : Addr → Option Obj} {s : Shared} (h : ∀ a, g a = s.heap.get? a) : obsZ as ts fn fs ds g = (hookZ as ts fn fs ds).obs s := by
  have e : g = s.heap.get? := funext h
  rw [e] <;> rfl
theorem SaysZ.tab {ts : List Addr} {fn : List FD} {fs : List (List (PySem.W.Frag → Bool))} {ds : List DT} {w : World} {h : Heap} {K : PySem.W.Frag} (c : SaysZ ts fn fs ds w h K) (i : Nat) {d : DT} (hd : ds[i]? = some d := by rfl) : ∃ es n, L2.KDict K w d.1 es n := by
  have e2 : (ds.map fun t => He.dicW K t.1)[i]? = (ds.map fun t => some (He.keysIn w.params t.2))[i]? := by rw [c.t]
  rw [List.getElem?_map, List.getElem?_map, hd] at e2
  exact He.dicW_ok (Option.some.inj e2)
end HX
namespace K31
open PySem PySem.Spec PyProof.Rows L2 Evl My TL
def topS (i : Nat) : Stmt := PySem.Challenge.pw_blocksearch_k31_ratios_made.main.body.getD i (.Pass ⟨0, 0, 0, 0⟩)
abbrev N_is_whole : List Str := ["thing"]
theorem sc_is_whole : FnScope N_is_whole ["thing"] (defScope (topS 22)) := ⟨rfl, rfl, rfl, by decide +kernel, rfl, by decide +kernel, by decide +kernel⟩
abbrev N_lowest : List Str := ["top", "bottom", "divisor", "rest"]
theorem sc_lowest : FnScope N_lowest ["top", "bottom"] (defScope (topS 28)) := ⟨rfl, rfl, rfl, by decide +kernel, rfl, by decide +kernel, by decide +kernel⟩
abbrev N_check_figures : List Str := ["number"]
theorem sc_check_figures : FnScope N_check_figures ["number"] (defScope (topS 29)) := ⟨rfl, rfl, rfl, by decide +kernel, rfl, by decide +kernel, by decide +kernel⟩
abbrev N_figures_of : List Str := ["number", "texts", "rest", "part"]
theorem sc_figures_of : FnScope N_figures_of ["number"] (defScope (topS 30)) := ⟨rfl, rfl, rfl, by decide +kernel, rfl, by decide +kernel, by decide +kernel⟩
abbrev N_l_purse : List Str := ["_law_script", "_law_at", "_law_cell", "_law_great"]
theorem sc_l_purse : FnScope N_l_purse ["_law_script", "_law_at"] (defScope (topS 32)) := ⟨rfl, rfl, rfl, by decide +kernel, rfl, by decide +kernel, by decide +kernel⟩
abbrev N_l_take : List Str := ["_law_purse_here", "_law_many", "_law_digit", "_law_one"]
theorem sc_l_take : FnScope N_l_take ["_law_purse_here", "_law_many"] (defScope (topS 33)) := ⟨rfl, rfl, rfl, by decide +kernel, rfl, by decide +kernel, by decide +kernel⟩
abbrev N_l_low : List Str := ["_law_upper", "_law_lower", "_law_one", "_law_other"]
theorem sc_l_low : FnScope N_l_low ["_law_upper", "_law_lower"] (defScope (topS 34)) := ⟨rfl, rfl, rfl, by decide +kernel, rfl, by decide +kernel, by decide +kernel⟩
abbrev N_l_is_ratio : List Str := ["_law_told", "_law_due", "_law_number"]
theorem sc_l_is_ratio : FnScope N_l_is_ratio ["_law_told", "_law_due"] (defScope (topS 35)) := ⟨rfl, rfl, rfl, by decide +kernel, rfl, by decide +kernel, by decide +kernel⟩
abbrev N_l_kind : List Str := ["_law_e", "_law_got", "_law_names"]
theorem sc_l_kind : FnScope N_l_kind ["_law_e"] (defScope (topS 36)) := ⟨rfl, rfl, rfl, by decide +kernel, rfl, by decide +kernel, by decide +kernel⟩
abbrev N_l_how : List Str := ["_law_deed", "_law_e"]
theorem sc_l_how : FnScope N_l_how ["_law_deed"] (defScope (topS 37)) := ⟨rfl, rfl, rfl, by decide +kernel, rfl, by decide +kernel, by decide +kernel⟩
abbrev N_l_far : List Str := ["_law_purse_here", "_law_small", "_law_sign", "_law_got", "_law_nth"]
theorem sc_l_far : FnScope N_l_far ["_law_purse_here"] (defScope (topS 38)) := ⟨rfl, rfl, rfl, by decide +kernel, rfl, by decide +kernel, by decide +kernel⟩
abbrev N_l_shown : List Str := ["_law_due"]
theorem sc_l_shown : FnScope N_l_shown ["_law_due"] (defScope (topS 39)) := ⟨rfl, rfl, rfl, by decide +kernel, rfl, by decide +kernel, by decide +kernel⟩
abbrev N_l_right : List Str := ["_law_upper", "_law_lower", "_law_due", "_law_told"]
theorem sc_l_right : FnScope N_l_right ["_law_upper", "_law_lower"] (defScope (topS 40)) := ⟨rfl, rfl, rfl, by decide +kernel, rfl, by decide +kernel, by decide +kernel⟩
abbrev N_law : List Str := ["_law_script", "_law_at", "_law_purse_here", "_law_great", "_law_odd", "_law_by", "_law_upper", "_law_lower"]
theorem sc_law : FnScope N_law ["_law_script"] (defScope (topS 41)) := ⟨rfl, rfl, rfl, by decide +kernel, rfl, by decide +kernel, by decide +kernel⟩
abbrev N_Ratio_init : List Str := ["self", "top", "bottom"]
theorem sc_Ratio_init : FnScope N_Ratio_init ["self", "top", "bottom"] (defScope (inClass (topS 27) 0)) := ⟨rfl, rfl, rfl, by decide +kernel, rfl, by decide +kernel, by decide +kernel⟩
abbrev N_Ratio_eq : List Str := ["self", "other"]
theorem sc_Ratio_eq : FnScope N_Ratio_eq ["self", "other"] (defScope (inClass (topS 27) 1)) := ⟨rfl, rfl, rfl, by decide +kernel, rfl, by decide +kernel, by decide +kernel⟩
abbrev N_Ratio_str : List Str := ["self"]
theorem sc_Ratio_str : FnScope N_Ratio_str ["self"] (defScope (inClass (topS 27) 2)) := ⟨rfl, rfl, rfl, by decide +kernel, rfl, by decide +kernel, by decide +kernel⟩
abbrev N_Ratio_repr : List Str := ["self"]
theorem sc_Ratio_repr : FnScope N_Ratio_repr ["self"] (defScope (inClass (topS 27) 3)) := ⟨rfl, rfl, rfl, by decide +kernel, rfl, by decide +kernel, by decide +kernel⟩
/-- what the top has left: A the defs' places, FD their data, TK the constants' tokens -/
structure TX (K : PySem.W.Frag) (mg : Str → Option Value) (A : Nat → Addr) (FD : Nat → FuncData) (TK : Nat → Tok) (CC : Nat → Addr) : Prop where
  f_is_whole : Fun K "is_whole" "is_whole" (topS 22) (A 22) (FD 22)
  b_is_whole : Binds K (FD 22) ["thing"] []
  g_is_whole : mg "is_whole" = some (.ref (A 22))
  f_lowest : Fun K "lowest" "lowest" (topS 28) (A 28) (FD 28)
  b_lowest : Binds K (FD 28) ["top", "bottom"] []
  g_lowest : mg "lowest" = some (.ref (A 28))
  f_check_figures : Fun K "check_figures" "check_figures" (topS 29) (A 29) (FD 29)
  b_check_figures : Binds K (FD 29) ["number"] []
  g_check_figures : mg "check_figures" = some (.ref (A 29))
  f_figures_of : Fun K "figures_of" "figures_of" (topS 30) (A 30) (FD 30)
  b_figures_of : Binds K (FD 30) ["number"] []
  g_figures_of : mg "figures_of" = some (.ref (A 30))
  f_l_purse : Fun K "_law_purse" "_law_purse" (topS 32) (A 32) (FD 32)
  b_l_purse : Binds K (FD 32) ["_law_script", "_law_at"] []
  g_l_purse : mg "_law_purse" = some (.ref (A 32))
  f_l_take : Fun K "_law_take" "_law_take" (topS 33) (A 33) (FD 33)
  b_l_take : Binds K (FD 33) ["_law_purse_here", "_law_many"] []
  g_l_take : mg "_law_take" = some (.ref (A 33))
  f_l_low : Fun K "_law_low" "_law_low" (topS 34) (A 34) (FD 34)
  b_l_low : Binds K (FD 34) ["_law_upper", "_law_lower"] []
  g_l_low : mg "_law_low" = some (.ref (A 34))
  f_l_is_ratio : Fun K "_law_is_ratio" "_law_is_ratio" (topS 35) (A 35) (FD 35)
  b_l_is_ratio : Binds K (FD 35) ["_law_told", "_law_due"] []
  g_l_is_ratio : mg "_law_is_ratio" = some (.ref (A 35))
  f_l_kind : Fun K "_law_kind" "_law_kind" (topS 36) (A 36) (FD 36)
  b_l_kind : Binds K (FD 36) ["_law_e"] []
  g_l_kind : mg "_law_kind" = some (.ref (A 36))
  f_l_how : Fun K "_law_how" "_law_how" (topS 37) (A 37) (FD 37)
  b_l_how : Binds K (FD 37) ["_law_deed"] []
  g_l_how : mg "_law_how" = some (.ref (A 37))
  f_l_far : Fun K "_law_far" "_law_far" (topS 38) (A 38) (FD 38)
  b_l_far : Binds K (FD 38) ["_law_purse_here"] []
  g_l_far : mg "_law_far" = some (.ref (A 38))
  f_l_shown : Fun K "_law_shown" "_law_shown" (topS 39) (A 39) (FD 39)
  b_l_shown : Binds K (FD 39) ["_law_due"] []
  g_l_shown : mg "_law_shown" = some (.ref (A 39))
  f_l_right : Fun K "_law_right" "_law_right" (topS 40) (A 40) (FD 40)
  b_l_right : Binds K (FD 40) ["_law_upper", "_law_lower"] []
  g_l_right : mg "_law_right" = some (.ref (A 40))
  F_law : FunC K "law" "law" (topS 41) (A 41) (FD 41) (CC 41)
  f_law : Fun K "law" "law" (topS 41) (A 41) (FD 41)
  b_law : Binds K (FD 41) ["_law_script"] []
  g_law : mg "law" = some (.ref (A 41))
  m_IndexError : mg "IndexError" = none
  m_KeyError : mg "KeyError" = none
  m_ValueError : mg "ValueError" = none
  m_ZeroDivisionError : mg "ZeroDivisionError" = none
  m_abs : mg "abs" = none
  m_bool : mg "bool" = none
  m_divmod : mg "divmod" = none
  m_int : mg "int" = none
  m_isinstance : mg "isinstance" = none
  m_len : mg "len" = none
  m_max : mg "max" = none
  m_min : mg "min" = none
  m_range : mg "range" = none
  m_repr : mg "repr" = none
  m_reversed : mg "reversed" = none
  m_str : mg "str" = none
  c_TOO_GREAT : mg "TOO_GREAT" = some (.int 1000000000000000000000000000000000000000000000000000000000000000000000000000000000000000000000000000000000000000000000000000000000000000000000000000000000000000000000000000000000000000000000000000000000000000000000000000000000000000000000000000000000000000000000000000000000000000000000000000000000000 (TK 24))
  c_FIGURES_AT_ONCE : mg "FIGURES_AT_ONCE" = some (.int 60 (TK 25))
  c_ONE_BEYOND : mg "ONE_BEYOND" = some (.int 1000000000000000000000000000000000000000000000000000000000000 (TK 26))
  k_Wrong : mg "Wrong" = some (.ref (A 2))
  k_NoWord : mg "NoWord" = some (.ref (A 3))
  k_NoText : mg "NoText" = some (.ref (A 4))
  k_NoNumber : mg "NoNumber" = some (.ref (A 5))
  k_NoSize : mg "NoSize" = some (.ref (A 6))
  k_NoLengths : mg "NoLengths" = some (.ref (A 7))
  k_NoQuery : mg "NoQuery" = some (.ref (A 8))
  k_NoCode : mg "NoCode" = some (.ref (A 9))
  k_NoRow : mg "NoRow" = some (.ref (A 10))
  k_NoEntries : mg "NoEntries" = some (.ref (A 11))
  k_NoQueryText : mg "NoQueryText" = some (.ref (A 12))
  k_NoPages : mg "NoPages" = some (.ref (A 13))
  k_NoQueries : mg "NoQueries" = some (.ref (A 14))
  k_NoShelf : mg "NoShelf" = some (.ref (A 15))
  k_NoPlace : mg "NoPlace" = some (.ref (A 16))
  k_NoSlot : mg "NoSlot" = some (.ref (A 17))
  k_NoRatio : mg "NoRatio" = some (.ref (A 18))
  k_Gone : mg "Gone" = some (.ref (A 19))
  k_Held : mg "Held" = some (.ref (A 20))
  k_Ratio : mg "Ratio" = some (.ref (A 27))
  cl_Ratio : Cls K (A 27)
  n_Ratio_top : NoAttr K (A 27) "top"
  n_Ratio_bottom : NoAttr K (A 27) "bottom"
  f_Ratio_init : FunD K "__init__" "Ratio.__init__" (defArgs (inClass (topS 27) 0)) (defBody (inClass (topS 27) 0)) (defScope (inClass (topS 27) 0)) [.int 1] [] (A 42) (FD 42)
  M_Ratio : Mk K (A 27) (A 42)
  f_Ratio_eq : Fun K "__eq__" "Ratio.__eq__" (inClass (topS 27) 1) (A 43) (FD 43)
  b_Ratio_eq : Binds K (FD 43) ["self", "other"] []
  M_Ratio_eq : Meth K (A 27) "__eq__" (A 43)
  f_Ratio_str : Fun K "__str__" "Ratio.__str__" (inClass (topS 27) 2) (A 44) (FD 44)
  b_Ratio_str : Binds K (FD 44) ["self"] []
  M_Ratio_str : Meth K (A 27) "__str__" (A 44)
  f_Ratio_repr : Fun K "__repr__" "Ratio.__repr__" (inClass (topS 27) 3) (A 45) (FD 45)
  b_Ratio_repr : Binds K (FD 45) ["self"] []
  M_Ratio_repr : Meth K (A 27) "__repr__" (A 45)
  x_NoNumber : PySem.W.excIn K (A 5) [.type "ValueError", .type "Exception", .type "BaseException", .type "object"] "ValueError.__new__" = true
  kc_NoNumber : PySem.W.keepIn K (.ref (A 5)) = true
  br_NoNumber : PySem.W.subIn K (.ref (A 5)) (.type "BaseException") = some true
  ty_NoNumber : PySem.W.typeIn K (.ref (A 5)) = some (.type "type")
  x_NoRatio : PySem.W.excIn K (A 18) [.type "ZeroDivisionError", .type "ArithmeticError", .type "Exception", .type "BaseException", .type "object"] "ZeroDivisionError.__new__" = true
  kc_NoRatio : PySem.W.keepIn K (.ref (A 18)) = true
  br_NoRatio : PySem.W.subIn K (.ref (A 18)) (.type "BaseException") = some true
  ty_NoRatio : PySem.W.typeIn K (.ref (A 18)) = some (.type "type")
  cs : PySem.W.specialIn K (.builtin "object.__class__") "__get__" = some (some (.builtin "getset_descriptor.__get__"))
  ct : PySem.W.takesIn K (.builtin "object.__class__") = some true
  ciQ : PySem.W.findIn K (.ref (A 27)) "__class__" = some (some (.builtin "object.__class__"))
  moQ : PySem.W.mroIn K (A 27) (.type "object") = some true
  kQ : PySem.W.kitOne K (.ref (A 27)) (.ref (A 27)) = some true
  neQ : PySem.W.findIn K (.ref (A 27)) "__ne__" = some (some (.builtin "object.__ne__"))
  kint : PySem.W.kitOne K (.type "int") (.ref (A 27)) = some false
  ktuple : PySem.W.kitOne K (.type "tuple") (.ref (A 27)) = some false
  kstr : PySem.W.kitOne K (.type "str") (.ref (A 27)) = some false
  ec_NoNumber : excDB K (A 5) = true
  ew_NoNumber : PySem.W.exmAny K (.ref (A 5)) [.ref (A 2)] = some true
  e2_NoNumber : PySem.W.exmAny K (.ref (A 5)) [.ref (A 16), .ref (A 17)] = some false
  er_NoNumber : PySem.W.exmAny K (.ref (A 5)) [.ref (A 18)] = some false
  kb_NoNumber : PySem.W.kitOne K (.ref (A 5)) (.type "ValueError") = some true
  k_NoNumber_NoWord : PySem.W.kitOne K (.ref (A 5)) (.ref (A 3)) = some false
  k_NoNumber_NoText : PySem.W.kitOne K (.ref (A 5)) (.ref (A 4)) = some false
  k_NoNumber_NoNumber : PySem.W.kitOne K (.ref (A 5)) (.ref (A 5)) = some true
  k_NoNumber_NoSize : PySem.W.kitOne K (.ref (A 5)) (.ref (A 6)) = some false
  k_NoNumber_NoLengths : PySem.W.kitOne K (.ref (A 5)) (.ref (A 7)) = some false
  k_NoNumber_NoQuery : PySem.W.kitOne K (.ref (A 5)) (.ref (A 8)) = some false
  k_NoNumber_NoCode : PySem.W.kitOne K (.ref (A 5)) (.ref (A 9)) = some false
  k_NoNumber_NoRow : PySem.W.kitOne K (.ref (A 5)) (.ref (A 10)) = some false
  k_NoNumber_NoEntries : PySem.W.kitOne K (.ref (A 5)) (.ref (A 11)) = some false
  k_NoNumber_NoQueryText : PySem.W.kitOne K (.ref (A 5)) (.ref (A 12)) = some false
  k_NoNumber_NoPages : PySem.W.kitOne K (.ref (A 5)) (.ref (A 13)) = some false
  k_NoNumber_NoShelf : PySem.W.kitOne K (.ref (A 5)) (.ref (A 15)) = some false
  k_NoNumber_NoQueries : PySem.W.kitOne K (.ref (A 5)) (.ref (A 14)) = some false
  k_NoNumber_NoPlace : PySem.W.kitOne K (.ref (A 5)) (.ref (A 16)) = some false
  k_NoNumber_NoSlot : PySem.W.kitOne K (.ref (A 5)) (.ref (A 17)) = some false
  k_NoNumber_NoRatio : PySem.W.kitOne K (.ref (A 5)) (.ref (A 18)) = some false
  k_NoNumber_Held : PySem.W.kitOne K (.ref (A 5)) (.ref (A 20)) = some false
  k_NoNumber_Gone : PySem.W.kitOne K (.ref (A 5)) (.ref (A 19)) = some false
  ec_NoRatio : excDB K (A 18) = true
  ew_NoRatio : PySem.W.exmAny K (.ref (A 18)) [.ref (A 2)] = some false
  e2_NoRatio : PySem.W.exmAny K (.ref (A 18)) [.ref (A 16), .ref (A 17)] = some false
  er_NoRatio : PySem.W.exmAny K (.ref (A 18)) [.ref (A 18)] = some true
  kb_NoRatio : PySem.W.kitOne K (.ref (A 18)) (.type "ZeroDivisionError") = some true
  k_NoRatio_NoWord : PySem.W.kitOne K (.ref (A 18)) (.ref (A 3)) = some false
  k_NoRatio_NoText : PySem.W.kitOne K (.ref (A 18)) (.ref (A 4)) = some false
  k_NoRatio_NoNumber : PySem.W.kitOne K (.ref (A 18)) (.ref (A 5)) = some false
  k_NoRatio_NoSize : PySem.W.kitOne K (.ref (A 18)) (.ref (A 6)) = some false
  k_NoRatio_NoLengths : PySem.W.kitOne K (.ref (A 18)) (.ref (A 7)) = some false
  k_NoRatio_NoQuery : PySem.W.kitOne K (.ref (A 18)) (.ref (A 8)) = some false
  k_NoRatio_NoCode : PySem.W.kitOne K (.ref (A 18)) (.ref (A 9)) = some false
  k_NoRatio_NoRow : PySem.W.kitOne K (.ref (A 18)) (.ref (A 10)) = some false
  k_NoRatio_NoEntries : PySem.W.kitOne K (.ref (A 18)) (.ref (A 11)) = some false
  k_NoRatio_NoQueryText : PySem.W.kitOne K (.ref (A 18)) (.ref (A 12)) = some false
  k_NoRatio_NoPages : PySem.W.kitOne K (.ref (A 18)) (.ref (A 13)) = some false
  k_NoRatio_NoShelf : PySem.W.kitOne K (.ref (A 18)) (.ref (A 15)) = some false
  k_NoRatio_NoQueries : PySem.W.kitOne K (.ref (A 18)) (.ref (A 14)) = some false
  k_NoRatio_NoPlace : PySem.W.kitOne K (.ref (A 18)) (.ref (A 16)) = some false
  k_NoRatio_NoSlot : PySem.W.kitOne K (.ref (A 18)) (.ref (A 17)) = some false
  k_NoRatio_NoRatio : PySem.W.kitOne K (.ref (A 18)) (.ref (A 18)) = some true
  k_NoRatio_Held : PySem.W.kitOne K (.ref (A 18)) (.ref (A 20)) = some false
  k_NoRatio_Gone : PySem.W.kitOne K (.ref (A 18)) (.ref (A 19)) = some false
end K31
namespace K31
open PySem PySem.Spec PyProof.Rows L2 My
def hd22 : HX.FD := ⟨352, "is_whole", "is_whole", defArgs (topS 22), defBody (topS 22), defScope (topS 22), [], none, none, (some 351)⟩
def hd28 : HX.FD := ⟨423, "lowest", "lowest", defArgs (topS 28), defBody (topS 28), defScope (topS 28), [], none, none, (some 422)⟩
def hd29 : HX.FD := ⟨430, "check_figures", "check_figures", defArgs (topS 29), defBody (topS 29), defScope (topS 29), [], none, none, (some 429)⟩
def hd30 : HX.FD := ⟨437, "figures_of", "figures_of", defArgs (topS 30), defBody (topS 30), defScope (topS 30), [], none, none, (some 436)⟩
def hd32 : HX.FD := ⟨444, "_law_purse", "_law_purse", defArgs (topS 32), defBody (topS 32), defScope (topS 32), [], none, none, (some 443)⟩
def hd33 : HX.FD := ⟨451, "_law_take", "_law_take", defArgs (topS 33), defBody (topS 33), defScope (topS 33), [], none, none, (some 450)⟩
def hd34 : HX.FD := ⟨458, "_law_low", "_law_low", defArgs (topS 34), defBody (topS 34), defScope (topS 34), [], none, none, (some 457)⟩
def hd35 : HX.FD := ⟨465, "_law_is_ratio", "_law_is_ratio", defArgs (topS 35), defBody (topS 35), defScope (topS 35), [], none, none, (some 464)⟩
def hd36 : HX.FD := ⟨472, "_law_kind", "_law_kind", defArgs (topS 36), defBody (topS 36), defScope (topS 36), [], none, none, (some 471)⟩
def hd37 : HX.FD := ⟨479, "_law_how", "_law_how", defArgs (topS 37), defBody (topS 37), defScope (topS 37), [], none, none, (some 478)⟩
def hd38 : HX.FD := ⟨486, "_law_far", "_law_far", defArgs (topS 38), defBody (topS 38), defScope (topS 38), [], none, none, (some 485)⟩
def hd39 : HX.FD := ⟨493, "_law_shown", "_law_shown", defArgs (topS 39), defBody (topS 39), defScope (topS 39), [], none, none, (some 492)⟩
def hd40 : HX.FD := ⟨500, "_law_right", "_law_right", defArgs (topS 40), defBody (topS 40), defScope (topS 40), [], none, none, (some 499)⟩
def hd41 : HX.FD := ⟨507, "law", "law", defArgs (topS 41), defBody (topS 41), defScope (topS 41), [], none, none, (some 506)⟩
def hd42 : HX.FD := ⟨367, "__init__", "Ratio.__init__", defArgs (inClass (topS 27) 0), defBody (inClass (topS 27) 0), defScope (inClass (topS 27) 0), [], (some 360), none, (some 366)⟩
def hd43 : HX.FD := ⟨374, "__eq__", "Ratio.__eq__", defArgs (inClass (topS 27) 1), defBody (inClass (topS 27) 1), defScope (inClass (topS 27) 1), [], none, none, (some 373)⟩
def hd44 : HX.FD := ⟨381, "__str__", "Ratio.__str__", defArgs (inClass (topS 27) 2), defBody (inClass (topS 27) 2), defScope (inClass (topS 27) 2), [], none, none, (some 380)⟩
def hd45 : HX.FD := ⟨388, "__repr__", "Ratio.__repr__", defArgs (inClass (topS 27) 3), defBody (inClass (topS 27) 3), defScope (inClass (topS 27) 3), [], none, none, (some 387)⟩
def hfn0 : List HX.FD := [hd22, hd28, hd29, hd30, hd32, hd33, hd34, hd35, hd36, hd37, hd38, hd39, hd40, hd41, hd42, hd43, hd44, hd45]
def hfn : List HX.FD := hfn0
def hfs0 : List (PySem.W.Frag → Bool) := [
  fun K => HX.refB (PySem.W.nsIn K mainGlobals "is_whole") 352,
  fun K => PySem.W.keepIn K (.ref 352),
  fun K => HX.refB (PySem.W.nsIn K mainGlobals "lowest") 423,
  fun K => PySem.W.keepIn K (.ref 423),
  fun K => HX.refB (PySem.W.nsIn K mainGlobals "check_figures") 430,
  fun K => PySem.W.keepIn K (.ref 430),
  fun K => HX.refB (PySem.W.nsIn K mainGlobals "figures_of") 437,
  fun K => PySem.W.keepIn K (.ref 437),
  fun K => HX.refB (PySem.W.nsIn K mainGlobals "_law_purse") 444,
  fun K => PySem.W.keepIn K (.ref 444),
  fun K => HX.refB (PySem.W.nsIn K mainGlobals "_law_take") 451,
  fun K => PySem.W.keepIn K (.ref 451),
  fun K => HX.refB (PySem.W.nsIn K mainGlobals "_law_low") 458,
  fun K => PySem.W.keepIn K (.ref 458),
  fun K => HX.refB (PySem.W.nsIn K mainGlobals "_law_is_ratio") 465,
  fun K => PySem.W.keepIn K (.ref 465),
  fun K => HX.refB (PySem.W.nsIn K mainGlobals "_law_kind") 472,
  fun K => PySem.W.keepIn K (.ref 472),
  fun K => HX.refB (PySem.W.nsIn K mainGlobals "_law_how") 479,
  fun K => PySem.W.keepIn K (.ref 479),
  fun K => HX.refB (PySem.W.nsIn K mainGlobals "_law_far") 486,
  fun K => PySem.W.keepIn K (.ref 486),
  fun K => HX.refB (PySem.W.nsIn K mainGlobals "_law_shown") 493,
  fun K => PySem.W.keepIn K (.ref 493),
  fun K => HX.refB (PySem.W.nsIn K mainGlobals "_law_right") 500,
  fun K => PySem.W.keepIn K (.ref 500),
  fun K => HX.refB (PySem.W.nsIn K mainGlobals "law") 507,
  fun K => PySem.W.keepIn K (.ref 507),
  fun K => HX.noB (PySem.W.nsIn K mainGlobals "IndexError"),
  fun K => HX.noB (PySem.W.nsIn K mainGlobals "KeyError")]
def hfs1 : List (PySem.W.Frag → Bool) := [
  fun K => HX.noB (PySem.W.nsIn K mainGlobals "ValueError"),
  fun K => HX.noB (PySem.W.nsIn K mainGlobals "ZeroDivisionError"),
  fun K => HX.noB (PySem.W.nsIn K mainGlobals "abs"),
  fun K => HX.noB (PySem.W.nsIn K mainGlobals "bool"),
  fun K => HX.noB (PySem.W.nsIn K mainGlobals "divmod"),
  fun K => HX.noB (PySem.W.nsIn K mainGlobals "int"),
  fun K => HX.noB (PySem.W.nsIn K mainGlobals "isinstance"),
  fun K => HX.noB (PySem.W.nsIn K mainGlobals "len"),
  fun K => HX.noB (PySem.W.nsIn K mainGlobals "max"),
  fun K => HX.noB (PySem.W.nsIn K mainGlobals "min"),
  fun K => HX.noB (PySem.W.nsIn K mainGlobals "range"),
  fun K => HX.noB (PySem.W.nsIn K mainGlobals "repr"),
  fun K => HX.noB (PySem.W.nsIn K mainGlobals "reversed"),
  fun K => HX.noB (PySem.W.nsIn K mainGlobals "str"),
  fun K => HX.litB (PySem.W.nsIn K mainGlobals "TOO_GREAT") (.int 1000000000000000000000000000000000000000000000000000000000000000000000000000000000000000000000000000000000000000000000000000000000000000000000000000000000000000000000000000000000000000000000000000000000000000000000000000000000000000000000000000000000000000000000000000000000000000000000000000000000000),
  fun K => HX.litB (PySem.W.nsIn K mainGlobals "FIGURES_AT_ONCE") (.int 60),
  fun K => HX.litB (PySem.W.nsIn K mainGlobals "ONE_BEYOND") (.int 1000000000000000000000000000000000000000000000000000000000000),
  fun K => HX.refB (PySem.W.nsIn K mainGlobals "Wrong") 31,
  fun K => HX.refB (PySem.W.nsIn K mainGlobals "NoWord") 44,
  fun K => HX.refB (PySem.W.nsIn K mainGlobals "NoText") 56,
  fun K => HX.refB (PySem.W.nsIn K mainGlobals "NoNumber") 68,
  fun K => HX.refB (PySem.W.nsIn K mainGlobals "NoSize") 80,
  fun K => HX.refB (PySem.W.nsIn K mainGlobals "NoLengths") 92,
  fun K => HX.refB (PySem.W.nsIn K mainGlobals "NoQuery") 104,
  fun K => HX.refB (PySem.W.nsIn K mainGlobals "NoCode") 126,
  fun K => HX.refB (PySem.W.nsIn K mainGlobals "NoRow") 148,
  fun K => HX.refB (PySem.W.nsIn K mainGlobals "NoEntries") 170,
  fun K => HX.refB (PySem.W.nsIn K mainGlobals "NoQueryText") 192,
  fun K => HX.refB (PySem.W.nsIn K mainGlobals "NoPages") 214,
  fun K => HX.refB (PySem.W.nsIn K mainGlobals "NoQueries") 236]
def hfs2 : List (PySem.W.Frag → Bool) := [
  fun K => HX.refB (PySem.W.nsIn K mainGlobals "NoShelf") 258,
  fun K => HX.refB (PySem.W.nsIn K mainGlobals "NoPlace") 270,
  fun K => HX.refB (PySem.W.nsIn K mainGlobals "NoSlot") 283,
  fun K => HX.refB (PySem.W.nsIn K mainGlobals "NoRatio") 296,
  fun K => HX.refB (PySem.W.nsIn K mainGlobals "Gone") 319,
  fun K => HX.refB (PySem.W.nsIn K mainGlobals "Held") 342,
  fun K => HX.refB (PySem.W.nsIn K mainGlobals "Ratio") 412,
  fun K => PySem.W.excIn K 68 [.type "ValueError", .type "Exception", .type "BaseException", .type "object"] "ValueError.__new__",
  fun K => PySem.W.keepIn K (.ref 68),
  fun K => decide (PySem.W.subIn K (.ref 68) (.type "BaseException") = some true),
  fun K => decide (PySem.W.typeIn K (.ref 68) = some (.type "type")),
  fun K => PySem.W.excIn K 296 [.type "ZeroDivisionError", .type "ArithmeticError", .type "Exception", .type "BaseException", .type "object"] "ZeroDivisionError.__new__",
  fun K => PySem.W.keepIn K (.ref 296),
  fun K => decide (PySem.W.subIn K (.ref 296) (.type "BaseException") = some true),
  fun K => decide (PySem.W.typeIn K (.ref 296) = some (.type "type")),
  fun K => PySem.W.plainGet K 412 Str.empty,
  fun K => PySem.W.hasDictIn K 412,
  fun K => PySem.W.plainOver K 412,
  fun K => He.eqO (PySem.W.findIn K (.ref 412) "__setattr__") (some (some (.builtin "object.__setattr__"))),
  fun K => PySem.W.makesIn K 412,
  fun K => PySem.W.keepIn K (.ref 412),
  fun K => HX.noB (PySem.W.findIn K (.ref 412) "top"),
  fun K => HX.noB (PySem.W.findIn K (.ref 412) "bottom"),
  fun K => HX.refB (PySem.W.findIn K (.ref 412) "__init__") 367,
  fun K => PySem.W.isFn K (.ref 367),
  fun K => PySem.W.keepIn K (.ref 367),
  fun K => HX.seqB K 360 [.int 1],
  fun K => HX.refB (PySem.W.findIn K (.ref 412) "__eq__") 374,
  fun K => PySem.W.isFn K (.ref 374),
  fun K => PySem.W.keepIn K (.ref 374)]
def hfs3 : List (PySem.W.Frag → Bool) := [
  fun K => HX.refB (PySem.W.findIn K (.ref 412) "__str__") 381,
  fun K => PySem.W.isFn K (.ref 381),
  fun K => PySem.W.keepIn K (.ref 381),
  fun K => HX.refB (PySem.W.findIn K (.ref 412) "__repr__") 388,
  fun K => PySem.W.isFn K (.ref 388),
  fun K => PySem.W.keepIn K (.ref 388),
  fun K => decide (PySem.W.specialIn K (.builtin "object.__class__") "__get__" = some (some (.builtin "getset_descriptor.__get__"))),
  fun K => decide (PySem.W.takesIn K (.builtin "object.__class__") = some true),
  fun K => decide (PySem.W.findIn K (.ref 412) "__class__" = some (some (.builtin "object.__class__"))),
  fun K => decide (PySem.W.mroIn K 412 (.type "object") = some true),
  fun K => decide (PySem.W.kitOne K (.ref 412) (.ref 412) = some true),
  fun K => decide (PySem.W.findIn K (.ref 412) "__ne__" = some (some (.builtin "object.__ne__"))),
  fun K => decide (PySem.W.kitOne K (.type "int") (.ref 412) = some false),
  fun K => decide (PySem.W.kitOne K (.type "tuple") (.ref 412) = some false),
  fun K => decide (PySem.W.kitOne K (.type "str") (.ref 412) = some false),
  fun K => excDB K 68,
  fun K => decide (PySem.W.exmAny K (.ref 68) [.ref 31] = some true),
  fun K => decide (PySem.W.exmAny K (.ref 68) [.ref 270, .ref 283] = some false),
  fun K => decide (PySem.W.exmAny K (.ref 68) [.ref 296] = some false),
  fun K => decide (PySem.W.kitOne K (.ref 68) (.type "ValueError") = some true),
  fun K => decide (PySem.W.kitOne K (.ref 68) (.ref 44) = some false),
  fun K => decide (PySem.W.kitOne K (.ref 68) (.ref 56) = some false),
  fun K => decide (PySem.W.kitOne K (.ref 68) (.ref 68) = some true),
  fun K => decide (PySem.W.kitOne K (.ref 68) (.ref 80) = some false),
  fun K => decide (PySem.W.kitOne K (.ref 68) (.ref 92) = some false),
  fun K => decide (PySem.W.kitOne K (.ref 68) (.ref 104) = some false),
  fun K => decide (PySem.W.kitOne K (.ref 68) (.ref 126) = some false),
  fun K => decide (PySem.W.kitOne K (.ref 68) (.ref 148) = some false),
  fun K => decide (PySem.W.kitOne K (.ref 68) (.ref 170) = some false),
  fun K => decide (PySem.W.kitOne K (.ref 68) (.ref 192) = some false)]
def hfs4 : List (PySem.W.Frag → Bool) := [
  fun K => decide (PySem.W.kitOne K (.ref 68) (.ref 214) = some false),
  fun K => decide (PySem.W.kitOne K (.ref 68) (.ref 258) = some false),
  fun K => decide (PySem.W.kitOne K (.ref 68) (.ref 236) = some false),
  fun K => decide (PySem.W.kitOne K (.ref 68) (.ref 270) = some false),
  fun K => decide (PySem.W.kitOne K (.ref 68) (.ref 283) = some false),
  fun K => decide (PySem.W.kitOne K (.ref 68) (.ref 296) = some false),
  fun K => decide (PySem.W.kitOne K (.ref 68) (.ref 342) = some false),
  fun K => decide (PySem.W.kitOne K (.ref 68) (.ref 319) = some false),
  fun K => excDB K 296,
  fun K => decide (PySem.W.exmAny K (.ref 296) [.ref 31] = some false),
  fun K => decide (PySem.W.exmAny K (.ref 296) [.ref 270, .ref 283] = some false),
  fun K => decide (PySem.W.exmAny K (.ref 296) [.ref 296] = some true),
  fun K => decide (PySem.W.kitOne K (.ref 296) (.type "ZeroDivisionError") = some true),
  fun K => decide (PySem.W.kitOne K (.ref 296) (.ref 44) = some false),
  fun K => decide (PySem.W.kitOne K (.ref 296) (.ref 56) = some false),
  fun K => decide (PySem.W.kitOne K (.ref 296) (.ref 68) = some false),
  fun K => decide (PySem.W.kitOne K (.ref 296) (.ref 80) = some false),
  fun K => decide (PySem.W.kitOne K (.ref 296) (.ref 92) = some false),
  fun K => decide (PySem.W.kitOne K (.ref 296) (.ref 104) = some false),
  fun K => decide (PySem.W.kitOne K (.ref 296) (.ref 126) = some false),
  fun K => decide (PySem.W.kitOne K (.ref 296) (.ref 148) = some false),
  fun K => decide (PySem.W.kitOne K (.ref 296) (.ref 170) = some false),
  fun K => decide (PySem.W.kitOne K (.ref 296) (.ref 192) = some false),
  fun K => decide (PySem.W.kitOne K (.ref 296) (.ref 214) = some false),
  fun K => decide (PySem.W.kitOne K (.ref 296) (.ref 258) = some false),
  fun K => decide (PySem.W.kitOne K (.ref 296) (.ref 236) = some false),
  fun K => decide (PySem.W.kitOne K (.ref 296) (.ref 270) = some false),
  fun K => decide (PySem.W.kitOne K (.ref 296) (.ref 283) = some false),
  fun K => decide (PySem.W.kitOne K (.ref 296) (.ref 296) = some true),
  fun K => decide (PySem.W.kitOne K (.ref 296) (.ref 342) = some false)]
def hfs5 : List (PySem.W.Frag → Bool) := [
  fun K => decide (PySem.W.kitOne K (.ref 296) (.ref 319) = some false),
  fun K => PySem.W.codeHdIn K 506 502]
def hfs : List (List (PySem.W.Frag → Bool)) := [hfs0, hfs1, hfs2, hfs3, hfs4, hfs5]
def has0 : List Addr := [2, 3, 352, 351, 423, 422, 430, 429, 437, 436, 444, 443, 451, 450, 458, 457, 465, 464, 472, 471, 479, 478, 486, 485, 493, 492, 500, 499, 507, 506]
def has1 : List Addr := [31, 30, 44, 43, 56, 55, 68, 67, 80, 79, 92, 91, 104, 103, 126, 125, 148, 147, 170, 169, 192, 191, 214, 213, 236, 235, 258, 257, 270, 269]
def has2 : List Addr := [283, 282, 296, 295, 319, 318, 342, 341, 412, 411, 367, 366, 360, 374, 373, 381, 380, 388, 387]
def has : List Addr := has0 ++ has1 ++ has2
def hts : List Addr := [502]
def hloose0 : List PySem.Str := [PySem.Str.ofString "_wall", PySem.Str.ofString "Wrong", PySem.Str.ofString "NoWord", PySem.Str.ofString "NoText", PySem.Str.ofString "NoNumber", PySem.Str.ofString "NoSize", PySem.Str.ofString "NoLengths", PySem.Str.ofString "NoQuery", PySem.Str.ofString "NoCode", PySem.Str.ofString "NoRow", PySem.Str.ofString "NoEntries", PySem.Str.ofString "NoQueryText", PySem.Str.ofString "NoPages", PySem.Str.ofString "NoQueries", PySem.Str.ofString "NoShelf", PySem.Str.ofString "NoPlace", PySem.Str.ofString "NoSlot", PySem.Str.ofString "NoRatio", PySem.Str.ofString "Gone", PySem.Str.ofString "Held", PySem.Str.ofString "is_whole", PySem.Str.ofString "TOO_GREAT", PySem.Str.ofString "FIGURES_AT_ONCE", PySem.Str.ofString "ONE_BEYOND", PySem.Str.ofString "Ratio", PySem.Str.ofString "lowest", PySem.Str.ofString "check_figures", PySem.Str.ofString "figures_of", PySem.Str.ofString "_law_purse", PySem.Str.ofString "_law_take"]
def hloose1 : List PySem.Str := [PySem.Str.ofString "_law_low", PySem.Str.ofString "_law_is_ratio", PySem.Str.ofString "_law_kind", PySem.Str.ofString "_law_how", PySem.Str.ofString "_law_far", PySem.Str.ofString "_law_shown", PySem.Str.ofString "_law_right"]
def hloose : List PySem.Str := hloose0 ++ hloose1
abbrev hR : PySem.W.OpenRow := PySem.W.OpenLaw.row PySem.Challenge.rw_blocksearch_k31_ratios_made
abbrev hk : PySem.W.Hook := HX.hookY has hts hfn hfs
def hob (s : PySem.W.SharedT) : HX.AlY := HX.obsY has hts hfn hfs (HandSHeadRun.getT s)
theorem hob_eq (s : PySem.W.SharedT) : hob s = hk.obs s.abs := HX.obsY_eq (HandSHeadRun.getT_eq s)
set_option maxHeartbeats 0 in
theorem hrun (w : World) : HandSHeadRun.RunEq hR (PySem.W.view hR.prog [41]) hk hob 11522 hloose w := by
  intro os
  kernel_rfl
end K31
namespace K31
open PySem PySem.Spec PyProof.Rows L2 Evl My TL
section
variable {P : Program} {w : World} {K : PySem.W.Frag} {mg : Str → Option Value} {base : Heap} {A : Nat → Addr} {FD : Nat → FuncData} {TK : Nat → Tok} {CC : Nat → Addr}
/-! ### great numbers, fields as targets -/
theorem op_fdivWN {X : Cx} : OpR X (binaryOp .FloorDiv) (rI (fun _ j => j ≠ 0 ∧ j.natAbs.log2 < 9000) fun i j => .int (i.fdiv j)) := opI fun _ _ _ _ _ _ _ hc q => floordiv_int hc.1 q (.inl (PyProof.noPylong_of_log2 hc.2))
theorem op_powW {X : Cx} : OpR X (binaryOp .Pow) (rI (fun i j => 0 ≤ j ∧ j ≤ 1000 ∧ i.natAbs < 2 ^ 10000) fun i j => .int (i ^ j.toNat)) := opI fun i j _ _ _ _ _ hc q => by
  obtain ⟨h1, h2, h3⟩ := hc
  refine pow_int h1 ?_ q
  have hb := PyProof.Rows.intBits_le h3
  have e : (Builtin.Int.intBits i : Int) * j ≤ 10000 * 1000 := Int.mul_le_mul (by omega) h2 h1 (by decide)
  exact Int.le_trans e (by decide)
/-- o.f = .. as a target -/
def gFld (K : PySem.W.Frag) (ta : TE) (f : Str) : TG := fun v σ H Q => ta σ H fun x H2 => ∃ a C dx fs, x = .ref a ∧ H2 a = some (.ins C dx fs) ∧ Cls K C ∧ NoAttr K C f ∧ fs.length < 1000 ∧ Q σ (upd H2 a (.ins C dx (putF f v fs)))
theorem pg_fld {X : Cx} {o : Expr} {ta : TE} {f : Str} {pos : Pos} (ha : PE X o ta) : PG X (.Attribute o f pos) (gFld X.K ta f) := by
  refine ⟨fun pins s σ H v u Q I r h => ?_⟩
  rw [PySem.assign_Attribute]
  refine wpAny_bind (wpAny_holding (thn (ha.run pins s σ H _ I h) fun ov s1 ⟨x, H1, I1, rx, a, C, dx, fs, ex, ea, c, n, l, q⟩ => ?_))
  subst ex
  obtain rfl : ov = Value.ref a := rx
  refine wpAny_bind (wpAny_standAt (wpAny_bind (wpAny_holding (setattr_ok I1 ea c n l r fun s2 I2 => ?_))))
  exact wpAny_release ⟨σ, _, I2, q⟩
theorem lt2 {z : Int} {n m : Nat} (h : z.natAbs < 2 ^ n) (l : n ≤ m) : z.natAbs < 2 ^ m := Nat.lt_of_lt_of_le h (Nat.pow_le_pow_right (by decide) l)
theorem add2 {x y : Int} {n : Nat} (h : x.natAbs < 2 ^ n) (h' : y.natAbs < 2 ^ n) : (x + y).natAbs < 2 ^ (n + 1) := by
  rw [Nat.pow_succ]
  omega
theorem mul2 {x y : Int} {n m : Nat} (h : x.natAbs < 2 ^ n) (h' : y.natAbs < 2 ^ m) : (x * y).natAbs < 2 ^ (n + m) := wide_lt h h'
theorem log9 {z : Int} {n : Nat} (h : z.natAbs < 2 ^ n) (h0 : 0 < n) (l : n ≤ 9000) : z.natAbs.log2 < 9000 := Nat.lt_of_lt_of_le (PySem.Flt.log2_lt_of h0 h) l
theorem cmul2 {x y : Int} {n m : Nat} (h : x.natAbs < 2 ^ n) (h' : y.natAbs < 2 ^ m) (l : n + m ≤ 900000) : CMulW x y := wide_mul (lt2 h (Nat.le_succ n)) (lt2 h' (Nat.le_succ m)) (by omega) (by omega) (by omega)

/-! ### lowest terms -/
def gd (t b : Int) : Int := if b < 0 then -((Nat.gcd t.natAbs b.natAbs : Nat) : Int) else ((Nat.gcd t.natAbs b.natAbs : Nat) : Int)
def lwT (t b : Int) : Int := t.fdiv (gd t b)
def lwB (t b : Int) : Int := b.fdiv (gd t b)
/-- in lowest terms -/
def Nm (t b : Int) : Prop := 0 < b ∧ Nat.gcd t.natAbs b.natAbs = 1
theorem gcd_pos {t b : Int} (h : b ≠ 0) : 0 < Nat.gcd t.natAbs b.natAbs := Nat.gcd_pos_of_pos_right _ (by omega)
theorem gd_ne {t b : Int} (h : b ≠ 0) : gd t b ≠ 0 := by
  have := gcd_pos (t := t) h
  unfold gd
  split <;> omega
theorem gd_abs (t b : Int) : (gd t b).natAbs = Nat.gcd t.natAbs b.natAbs := by
  unfold gd
  split <;> omega
theorem gd_le {t b : Int} {n : Nat} (h : b ≠ 0) (hb : b.natAbs < 2 ^ n) : (gd t b).natAbs < 2 ^ n := by
  rw [gd_abs]
  exact Nat.lt_of_le_of_lt (Nat.gcd_le_right _ (by omega)) hb
theorem gd_dvd_t (t b : Int) : gd t b ∣ t := by
  rw [← Int.natAbs_dvd_natAbs, gd_abs]
  exact Nat.gcd_dvd_left ..
theorem gd_dvd_b (t b : Int) : gd t b ∣ b := by
  rw [← Int.natAbs_dvd_natAbs, gd_abs]
  exact Nat.gcd_dvd_right ..
theorem lw_mul_t {t b : Int} : lwT t b * gd t b = t := by
  unfold lwT
  exact Int.fdiv_mul_cancel (gd_dvd_t t b)
theorem lw_mul_b {t b : Int} : lwB t b * gd t b = b := by
  unfold lwB
  exact Int.fdiv_mul_cancel (gd_dvd_b t b)
theorem abs_le_of_mul {x g y : Int} (h : x * g = y) (hg : g ≠ 0) : x.natAbs ≤ y.natAbs := by
  rw [← h, Int.natAbs_mul]
  exact Nat.le_mul_of_pos_right _ (by omega)
theorem lwT_le {t b : Int} (h : b ≠ 0) : (lwT t b).natAbs ≤ t.natAbs := abs_le_of_mul lw_mul_t (gd_ne h)
theorem lwB_le {t b : Int} (h : b ≠ 0) : (lwB t b).natAbs ≤ b.natAbs := abs_le_of_mul lw_mul_b (gd_ne h)
theorem lw_nm {t b : Int} (h : b ≠ 0) : Nm (lwT t b) (lwB t b) := by
  have ht := lw_mul_t (t := t) (b := b)
  have hb := lw_mul_b (t := t) (b := b)
  have hg := gd_ne (t := t) h
  constructor
  · have p : (0 : Int) < ((Nat.gcd t.natAbs b.natAbs : Nat) : Int) := by have := gcd_pos (t := t) h; omega
    generalize lwB t b = y at hb
    unfold gd at hb
    generalize ((Nat.gcd t.natAbs b.natAbs : Nat) : Int) = g at hb p
    refine Int.lt_of_not_ge fun z => ?_
    have z1 : y * g ≤ 0 := Int.mul_nonpos_of_nonpos_of_nonneg z (Int.le_of_lt p)
    split at hb
    · have : y * -g = -(y * g) := Int.mul_neg ..
      omega
    · omega
  · have e : Nat.gcd t.natAbs b.natAbs = Nat.gcd (lwT t b).natAbs (lwB t b).natAbs * (gd t b).natAbs := by
      rw [← Nat.gcd_mul_right, ← Int.natAbs_mul, ← Int.natAbs_mul, ht, hb]
    rw [gd_abs] at e
    have p := gcd_pos (t := t) h
    exact Nat.eq_of_mul_eq_mul_right p (by rw [← e, Nat.one_mul])
theorem nm_gd {t b : Int} (h : Nm t b) : gd t b = 1 := by
  unfold gd
  rw [h.2, if_neg (by have := h.1; omega)]
  rfl
theorem nm_t {t b : Int} (h : Nm t b) : lwT t b = t := by
  unfold lwT
  rw [nm_gd h, Int.fdiv_one]
theorem nm_b {t b : Int} (h : Nm t b) : lwB t b = b := by
  unfold lwB
  rw [nm_gd h, Int.fdiv_one]
theorem nm_neg {t b : Int} (h : Nm t b) : Nm (0 - t) b := ⟨h.1, by rw [show (0 - t).natAbs = t.natAbs by omega]; exact h.2⟩

/-! ### _law_take of a purse -/
def spTake : Sp := fun vs H Q _ => ∃ (p : Addr) (m : Int) (c : Nat), vs = [.ref p, .int m] ∧ Pl H p c ∧ 0 < m ∧ m < 18446744073709551616 ∧ c < 1000000 ∧
  ∀ (d : Int) (H' : Hp), 0 ≤ d → d < m → Pl H' p (c + 1) → Fx p H H' → Q (.int d) H'
set_option maxHeartbeats 4000000 in
theorem ok_l_take (T : TX K mg A FD TK CC) : FnOk P w K mg base CX0 1 (A 33) (FD 33) ["_law_purse_here", "_law_many"] spTake := by
  refine T.f_l_take.ok sc_l_take (fun vs H Q E h => ?_) (fun cdv A' outer s H vs Q E hr h => ?_)
  · obtain ⟨p, m, c, rfl, _⟩ := h
    rfl
  · obtain ⟨p, m, c, rfl, ⟨g, b, k, hp, hg, hb, hb2, hk⟩, hm, hm2, hc, q⟩ := h
    refine ⟨_, (pss_cons (ps_if (pt_cmpR op_gt (pe_ix (ixLK (K := K) rfl) (pv 0) pe_int (fun _ _ => rfl)) pe_int (nomark _))
      (pss_cons (ps_set (i := 2) sc_l_take.nd rfl (.inl rfl) (pe_op op_mod (pe_ix (ixLK (K := K) rfl) (pv 0) pe_int (fun _ _ => rfl)) (pv 1)))
      (pss_cons (ps_asg (pe_op op_fdivW (pe_ix (ixLK (K := K) rfl) (pv 0) pe_int (fun _ _ => rfl)) (pv 1)) (pg_sub (pv 0) pe_int set_list))
      (pss_one (ps_ret (pv 2)))))
      pss_nil)
      (pss_cons (ps_asg (pe_op op_add (pe_ix (ixLK (K := K) rfl) (pv 0) pe_int (fun _ _ => rfl)) pe_int) (pg_sub (pv 0) pe_int set_list))
      (pss_cons (ps_set (i := 3) sc_l_take.nd rfl (.inl rfl) (pe_op op_mod (pe_op op_powW (pe_op op_add (pe_ix (ixLK (K := K) rfl) (pv 0) pe_int (fun _ _ => rfl)) (pe_op op_mulW (pe_op op_mulW pe_int (pe_ix (ixLK (K := K) rfl) (pv 0) pe_int (fun _ _ => rfl))) (pe_ix (ixLK (K := K) rfl) (pv 0) pe_int (fun _ _ => rfl)))) pe_int) pe_int))
      (pss_one (ps_ret (pe_op op_mod (pe_op op_fdivW (pe_op op_mod (pe_op op_add (pe_op op_mulW (pv 3) (pe_op op_add (pv 3) pe_int)) (pe_ix (ixLK (K := K) rfl) (pv 0) pe_int (fun _ _ => rfl))) pe_int) pe_int) (pv 1))))))), ?_⟩
    refine ⟨.ref p, rfl, p, _, 0, .int g, rfl, rfl, SqL.of hp, atI_nat (j := 0) rfl, g, 0, rfl, rfl, _, rfl, ite2 (fun e => ?_) (fun e => ?_)⟩
    · refine ⟨.ref p, rfl, p, _, 0, .int g, rfl, rfl, SqL.of hp, atI_nat (j := 0) rfl, .int m, rfl, g, m, rfl, rfl, hm, ?_⟩
      refine ⟨.ref p, rfl, p, _, 0, .int g, rfl, rfl, SqL.of hp, atI_nat (j := 0) rfl, .int m, rfl, g, m, rfl, rfl, wide_div (b := 64) hm (by omega) (by decide) (by decide), .ref p, rfl, p, _, 0, 0, rfl, rfl, hp, rfl, ?_⟩
      refine ⟨.int (g % m), rfl, ?_⟩
      exact q _ _ (Int.emod_nonneg _ (by omega)) (Int.emod_lt_of_pos _ hm) ⟨g / m, b, k, upd_same, Int.ediv_nonneg hg (by omega), hb, hb2, by omega⟩ Fx.upd
    · have hp1 : (upd H p (.lst [.int g, .int b, .int ((k : Int) + 1)])) p = some (.lst [.int g, .int b, .int ((k : Int) + 1)]) := upd_same
      refine ⟨.ref p, rfl, p, _, 2, .int k, rfl, rfl, SqL.of hp, atI_nat (j := 2) rfl, k, 1, rfl, rfl, .ref p, rfl, p, _, 2, 2, rfl, rfl, hp, rfl, ?_⟩
      have t0 : (0 : Int) ≤ (k : Int) + 1 := by omega
      have t1 : (k : Int) + 1 ≤ 1000000 := by omega
      have s1 : 0 ≤ 50021 * ((k : Int) + 1) ∧ 50021 * ((k : Int) + 1) ≤ 50021000000 := by omega
      have s2 : 0 ≤ 50021 * ((k : Int) + 1) * ((k : Int) + 1) := mul_nn s1.1 t0
      have s3 : 50021 * ((k : Int) + 1) * ((k : Int) + 1) ≤ 50021000000 * 1000000 := mul_le s1.1 s1.2 t0 t1
      have b1 : (b + 50021 * ((k : Int) + 1) * ((k : Int) + 1)).natAbs < 2 ^ 100 := natAbs_lt (by omega) (by omega)
      refine ⟨.ref p, rfl, p, _, 1, .int b, rfl, rfl, SqL.of hp1, atI_nat (j := 1) rfl, .ref p, rfl, p, _, 2, .int ((k : Int) + 1), rfl, rfl, SqL.of hp1, atI_nat (j := 2) rfl, 50021, (k : Int) + 1, rfl, rfl, cmul2 (n := 20) (m := 20) (by decide) (by omega) (by decide), .ref p, rfl, p, _, 2, .int ((k : Int) + 1), rfl, rfl, SqL.of hp1, atI_nat (j := 2) rfl, 50021 * ((k : Int) + 1), (k : Int) + 1, rfl, rfl, cmul2 (n := 40) (m := 20) (by omega) (by omega) (by decide),
        b, 50021 * ((k : Int) + 1) * ((k : Int) + 1), rfl, rfl, b + 50021 * ((k : Int) + 1) * ((k : Int) + 1), 2, rfl, rfl, ⟨by decide, by decide, lt2 b1 (by decide)⟩,
        _, 2305843009213693951, rfl, rfl, (show (0 : Int) < 2305843009213693951 by decide), ?_⟩
      have o0 : 0 ≤ (b + 50021 * ((k : Int) + 1) * ((k : Int) + 1)) ^ Int.toNat 2 % 2305843009213693951 := Int.emod_nonneg _ (by decide)
      have o1 : (b + 50021 * ((k : Int) + 1) * ((k : Int) + 1)) ^ Int.toNat 2 % 2305843009213693951 < 2305843009213693951 := Int.emod_lt_of_pos _ (by decide)
      dsimp only
      generalize (b + 50021 * ((k : Int) + 1) * ((k : Int) + 1)) ^ Int.toNat 2 % 2305843009213693951 = one at o0 o1 ⊢
      refine ⟨.int one, rfl, .int one, rfl, one, 3, rfl, rfl, one, one + 3, rfl, rfl, cmul2 (n := 64) (m := 64) (by omega) (by omega) (by decide), .ref p, rfl, p, _, 2, .int ((k : Int) + 1), rfl, rfl, SqL.of hp1, atI_nat (j := 2) rfl, _, _, rfl, rfl, _, 998244353, rfl, rfl, (show (0 : Int) < 998244353 by decide), _, 7, rfl, rfl, wide_div (b := 64) (by decide) (by decide) (by decide) (by decide), .int m, rfl, _, m, rfl, rfl, hm, ?_⟩
      exact q _ _ (Int.emod_nonneg _ (by omega)) (Int.emod_lt_of_pos _ hm) ⟨g, b, k + 1, upd_same, hg, hb, hb2, by omega⟩ Fx.upd

/-! ### _law_purse -/
def spPurse (K : PySem.W.Frag) : Sp := fun vs H Q _ => ∃ (a : Addr) (ns : List Int) (j : Nat), vs = [.ref a, .int (j : Int)] ∧ SqL K H a (ns.map V.int) ∧ ns.length ≤ 63 ∧ j ≤ 1000 ∧
  ∀ (p : Addr) (H' : Hp), H p = none → Ex H H' → Pl H' p 0 → Q (.ref p) H'
set_option maxHeartbeats 4000000 in
theorem ok_l_purse (T : TX K mg A FD TK CC) : FnOk P w K mg base CX0 1 (A 32) (FD 32) ["_law_script", "_law_at"] (spPurse K) := by
  refine T.f_l_purse.ok sc_l_purse (fun vs H Q E h => ?_) (fun cdv A' outer s H vs Q E hr h => ?_)
  · obtain ⟨a, ns, j, rfl, _⟩ := h
    rfl
  · obtain ⟨a, ns, j, rfl, hS, hn, hj, q⟩ := h
    refine ⟨_, (pss_cons (ps_set (i := 2) sc_l_purse.nd rfl (.inl rfl) pe_int)
      (pss_cut (ps_if (pt_cmpR op_lt (pv 1) (pe_callB (lenK (K := K) rfl) (by rfl) T.m_len (by decide +kernel) (pa_cons (pv 0) pa_nil)) (nomark _))
      (pss_one (ps_set (i := 2) sc_l_purse.nd rfl (.inl rfl) (pe_ix (ixLK (K := K) rfl) (pv 0) (pv 1) (fun _ _ => rfl))))
      pss_nil)
      (pss_cons (ps_set (i := 3) sc_l_purse.nd rfl (.inl rfl) (pe_op op_mul (pe_callB call_abs (by rfl) T.m_abs (by decide +kernel) (pa_cons (pv 2) pa_nil)) (pe_callTy call_int1 (by rfl) T.m_int (by decide +kernel) (pa_cons (pe_cmpR op_ge (pe_callB call_abs (by rfl) T.m_abs (by decide +kernel) (pa_cons (pv 2) pa_nil)) (pe_op op_pow pe_int pe_int) (nomark _)) pa_nil))))
      (pss_one (ps_ret (pe_lst (pa_cons (pv 3) (pa_cons (pe_op op_add (pe_op op_add (pe_op op_mul (pe_op op_mod (pv 2) (pe_op op_pow pe_int pe_int)) pe_int) (pe_op op_mul pe_int (pv 1))) pe_int) (pa_cons pe_int pa_nil))))))))), ?_⟩
    refine ⟨fun σ' H' => H' = H ∧ ∃ z : Int, σ' = [some (.ref a), some (.int (j : Int)), some (.int z), none], ?_, ?_⟩
    · refine ⟨.int (j : Int), rfl, .ref a, rfl, a, _, rfl, .inl hS, _, _, rfl, rfl, _, rfl, ite2 (fun e => ?_) (fun e => ?_)⟩
      · have e0 : (j : Int) < ((ns.map V.int).length : Int) := of_decide_eq_true e
        have e1 : j < ns.length := by
          rw [List.length_map] at e0
          omega
        refine ⟨.ref a, rfl, .int (j : Int), rfl, a, _, _, .int ns[j], rfl, rfl, hS, atI_nat (j := j) ?_, rfl, ns[j], rfl⟩
        rw [List.getElem?_map, List.getElem?_eq_getElem e1]
        rfl
      · exact ⟨rfl, 0, rfl⟩
    · rintro σ' H' ⟨rfl, z, rfl⟩
      have f0 : 0 ≤ (if z < 0 then -z else z) := by split <;> omega
      refine ⟨.int z, rfl, z, rfl, .int z, rfl, z, rfl, ?_⟩
      generalize (if z < 0 then -z else z) = far at f0 ⊢
      refine ⟨10, 18, rfl, rfl, ⟨by decide, by decide, by decide⟩, far, _, rfl, rfl, .inr ⟨_, rfl, ?_⟩⟩
      generalize hd : decide ((10 : Int) ^ Int.toNat 18 ≤ far) = big
      refine ⟨far, _, rfl, rfl, .inr ⟨?_, ?_⟩, ?_⟩
      · cases big <;> decide
      · cases big <;> decide
      have m0 : 0 ≤ z % (10 ^ Int.toNat 18) := Int.emod_nonneg _ (by decide)
      have m1 : z % (10 ^ Int.toNat 18) < (10 ^ Int.toNat 18) := Int.emod_lt_of_pos _ (by decide)
      refine ⟨.int (far * b2i big), rfl, .int z, rfl, 10, 18, rfl, rfl, ⟨by decide, by decide, by decide⟩, z, _, rfl, rfl, (show (0 : Int) < 10 ^ Int.toNat 18 by decide), ?_⟩
      dsimp only
      generalize z % (10 ^ Int.toNat 18) = y at m0 m1 ⊢
      have m2 : y < 1000000000000000000 := m1
      refine ⟨y, 1000003, rfl, rfl, .inl ⟨by omega, by omega⟩, .int (j : Int), rfl, 7919, (j : Int), rfl, rfl, .inl ⟨by decide, by decide⟩, _, _, rfl, rfl, _, 17, rfl, rfl, (by show 3 ≤ sizeLine; decide), fun p np => ?_⟩
      refine q p _ np (ex_upd np) ⟨_, _, 0, upd_same, ?_, ?_, ?_, Nat.le_refl _⟩
      · cases big
        · show (0 : Int) ≤ far * 0
          omega
        · show (0 : Int) ≤ far * 1
          omega
      · omega
      · omega

/-! ### lowest terms, the program's and the law's -/
def spLow : Sp := fun vs H Q _ => ∃ t b : Int, vs = [.int t, .int b] ∧ b ≠ 0 ∧ t.natAbs < 2 ^ 4000 ∧ b.natAbs < 2 ^ 4000 ∧ ∀ l, H l = none → Q (.ref l) (upd H l (.tup [.int (lwT t b), .int (lwB t b)]))
theorem absI (z : Int) : (if z < 0 then -z else z) = ((z.natAbs : Nat) : Int) := by split <;> omega
/-- the fourth name's number -/
def mu3 : L2.St → Hp → Nat := fun σ _ => match σ with
  | [_, _, _, some (.int r)] => r.toNat
  | _ => 0
theorem gcd_step (d r : Nat) (h : 0 < r) : Nat.gcd r (d % r) = Nat.gcd d r := by
  rw [Nat.gcd_comm d r, Nat.gcd_rec r d, Nat.gcd_comm]
set_option maxHeartbeats 4000000 in
theorem ok_lowest (T : TX K mg A FD TK CC) : FnOk P w K mg base CX0 1 (A 28) (FD 28) ["top", "bottom"] spLow := by
  refine T.f_lowest.ok sc_lowest (fun vs H Q E h => ?_) (fun cdv A' outer s H vs Q E hr h => ?_)
  · obtain ⟨t, b, rfl, _⟩ := h
    rfl
  · obtain ⟨t, b, rfl, hb, ht, hb2, q⟩ := h
    refine ⟨_, (pss_cons (ps_par (by rfl) sc_lowest.nd (i := 2) (j := 3) rfl rfl (by decide) rfl rfl (pa_cons (pe_callB call_abs (by rfl) T.m_abs (by decide +kernel) (pa_cons (pv 1) pa_nil)) (pa_cons (pe_callB call_abs (by rfl) T.m_abs (by decide +kernel) (pa_cons (pv 0) pa_nil)) pa_nil)) (by rfl))
      (pss_cons (ps_while PassesOwn.never (pt_cmpR op_gt (pv 3) pe_int (nomark _))
      (pss_one (ps_par (by rfl) sc_lowest.nd (i := 2) (j := 3) rfl rfl (by decide) rfl rfl (pa_cons (pv 3) (pa_cons (pe_op op_mod (pv 2) (pv 3)) pa_nil)) (by rfl))))
      (pss_cons (ps_if (pt_cmpR op_lt (pv 1) pe_int (nomark _))
      (pss_one (ps_set (i := 2) sc_lowest.nd rfl (.inl rfl) (pe_un un_neg (pv 2))))
      pss_nil)
      (pss_one (ps_ret (pe_tup (pa_cons (pe_op op_fdivWN (pv 0) (pv 2)) (pa_cons (pe_op op_fdivWN (pv 1) (pv 2)) pa_nil)))))))), ?_⟩
    refine ⟨.int b, rfl, b, rfl, .int t, rfl, t, rfl, _, _, rfl, ?_⟩
    rw [absI, absI]
    refine while_by (fun σ' H' => H' = H ∧ ∃ d r : Nat, σ' = [some (.int t), some (.int b), some (.int (d : Int)), some (.int (r : Int))] ∧ Nat.gcd d r = Nat.gcd t.natAbs b.natAbs) mu3 ⟨rfl, _, _, rfl, Nat.gcd_comm ..⟩ (fun σ' H' p => ?_) (fun σ' H' Q Q' m h => ?_)
    · obtain ⟨rfl, d, r, rfl, hg⟩ := p
      refine ⟨.int r, rfl, r, 0, rfl, rfl, _, rfl, ite2 (fun e => ?_) (fun e => ?_)⟩
      · have e0 : (0 : Int) < (r : Int) := of_decide_eq_true e
        refine ⟨.int r, rfl, .int d, rfl, .int r, rfl, d, r, rfl, rfl, e0, _, _, rfl, ⟨rfl, r, d % r, ?_, ?_⟩, ?_⟩
        · rw [Int.natCast_emod]; rfl
        · rw [gcd_step d r (by omega), hg]
        · show ((d : Int) % (r : Int)).toNat < (r : Int).toNat
          have := Int.emod_lt_of_pos (d : Int) e0
          omega
      · have e0 : ¬ (0 : Int) < (r : Int) := fun z => e (decide_eq_true z)
        have r0 : r = 0 := by omega
        subst r0
        rw [Nat.gcd_zero_right] at hg
        subst hg
        refine ⟨.int b, rfl, b, 0, rfl, rfl, _, rfl, ite2 (fun e => ?_) (fun e => ?_)⟩
        · have e1 : b < 0 := of_decide_eq_true e
          have eg : gd t b = -((Nat.gcd t.natAbs b.natAbs : Nat) : Int) := by unfold gd; rw [if_pos e1]
          refine ⟨.int _, rfl, _, rfl, .int t, rfl, .int _, rfl, t, _, rfl, rfl, ?_, .int b, rfl, .int _, rfl, b, _, rfl, rfl, ?_, by show 2 ≤ sizeLine; decide, fun l nl => ?_⟩
          · rw [← eg]; exact ⟨gd_ne hb, log9 (gd_le hb hb2) (by decide) (by decide)⟩
          · rw [← eg]; exact ⟨gd_ne hb, log9 (gd_le hb hb2) (by decide) (by decide)⟩
          · rw [← eg]; exact q l nl
        · have e1 : ¬ b < 0 := fun z => e (decide_eq_true z)
          have eg : gd t b = ((Nat.gcd t.natAbs b.natAbs : Nat) : Int) := by unfold gd; rw [if_neg e1]
          refine ⟨.int t, rfl, .int _, rfl, t, _, rfl, rfl, ?_, .int b, rfl, .int _, rfl, b, _, rfl, rfl, ?_, by show 2 ≤ sizeLine; decide, fun l nl => ?_⟩
          · rw [← eg]; exact ⟨gd_ne hb, log9 (gd_le hb hb2) (by decide) (by decide)⟩
          · rw [← eg]; exact ⟨gd_ne hb, log9 (gd_le hb hb2) (by decide) (by decide)⟩
          · rw [← eg]; exact q l nl
    · obtain ⟨v, hv, i, j, e1, e2, k, hk, hq⟩ := h
      exact ⟨v, hv, i, j, e1, e2, k, hk, m _ _ hq⟩
set_option maxHeartbeats 4000000 in
theorem ok_l_low (T : TX K mg A FD TK CC) : FnOk P w K mg base CX0 1 (A 34) (FD 34) ["_law_upper", "_law_lower"] spLow := by
  refine T.f_l_low.ok sc_l_low (fun vs H Q E h => ?_) (fun cdv A' outer s H vs Q E hr h => ?_)
  · obtain ⟨t, b, rfl, _⟩ := h
    rfl
  · obtain ⟨t, b, rfl, hb, ht, hb2, q⟩ := h
    refine ⟨_, (pss_cons (ps_par (by rfl) sc_l_low.nd (i := 2) (j := 3) rfl rfl (by decide) rfl rfl (pa_cons (pe_callB call_abs (by rfl) T.m_abs (by decide +kernel) (pa_cons (pv 0) pa_nil)) (pa_cons (pe_callB call_abs (by rfl) T.m_abs (by decide +kernel) (pa_cons (pv 1) pa_nil)) pa_nil)) (by rfl))
      (pss_cons (ps_while PassesOwn.never (pt_cmpR op_gt (pv 3) pe_int (nomark _))
      (pss_one (ps_par (by rfl) sc_l_low.nd (i := 2) (j := 3) rfl rfl (by decide) rfl rfl (pa_cons (pv 3) (pa_cons (pe_op op_mod (pv 2) (pv 3)) pa_nil)) (by rfl))))
      (pss_cons (ps_if (pt_cmpR op_lt (pv 1) pe_int (nomark _))
      (pss_one (ps_set (i := 2) sc_l_low.nd rfl (.inl rfl) (pe_op op_sub pe_int (pv 2))))
      pss_nil)
      (pss_one (ps_ret (pe_tup (pa_cons (pe_op op_fdivWN (pv 0) (pv 2)) (pa_cons (pe_op op_fdivWN (pv 1) (pv 2)) pa_nil)))))))), ?_⟩
    refine ⟨.int t, rfl, t, rfl, .int b, rfl, b, rfl, _, _, rfl, ?_⟩
    rw [absI, absI]
    refine while_by (fun σ' H' => H' = H ∧ ∃ d r : Nat, σ' = [some (.int t), some (.int b), some (.int (d : Int)), some (.int (r : Int))] ∧ Nat.gcd d r = Nat.gcd t.natAbs b.natAbs) mu3 ⟨rfl, _, _, rfl, rfl⟩ (fun σ' H' p => ?_) (fun σ' H' Q Q' m h => ?_)
    · obtain ⟨rfl, d, r, rfl, hg⟩ := p
      refine ⟨.int r, rfl, r, 0, rfl, rfl, _, rfl, ite2 (fun e => ?_) (fun e => ?_)⟩
      · have e0 : (0 : Int) < (r : Int) := of_decide_eq_true e
        refine ⟨.int r, rfl, .int d, rfl, .int r, rfl, d, r, rfl, rfl, e0, _, _, rfl, ⟨rfl, r, d % r, ?_, ?_⟩, ?_⟩
        · rw [Int.natCast_emod]; rfl
        · rw [gcd_step d r (by omega), hg]
        · show ((d : Int) % (r : Int)).toNat < (r : Int).toNat
          have := Int.emod_lt_of_pos (d : Int) e0
          omega
      · have e0 : ¬ (0 : Int) < (r : Int) := fun z => e (decide_eq_true z)
        have r0 : r = 0 := by omega
        subst r0
        rw [Nat.gcd_zero_right] at hg
        subst hg
        refine ⟨.int b, rfl, b, 0, rfl, rfl, _, rfl, ite2 (fun e => ?_) (fun e => ?_)⟩
        · have e1 : b < 0 := of_decide_eq_true e
          have eg : gd t b = 0 - ((Nat.gcd t.natAbs b.natAbs : Nat) : Int) := by unfold gd; rw [if_pos e1]; omega
          refine ⟨.int _, rfl, 0, _, rfl, rfl, .int t, rfl, .int _, rfl, t, _, rfl, rfl, ?_, .int b, rfl, .int _, rfl, b, _, rfl, rfl, ?_, by show 2 ≤ sizeLine; decide, fun l nl => ?_⟩
          · rw [← eg]; exact ⟨gd_ne hb, log9 (gd_le hb hb2) (by decide) (by decide)⟩
          · rw [← eg]; exact ⟨gd_ne hb, log9 (gd_le hb hb2) (by decide) (by decide)⟩
          · rw [← eg]; exact q l nl
        · have e1 : ¬ b < 0 := fun z => e (decide_eq_true z)
          have eg : gd t b = ((Nat.gcd t.natAbs b.natAbs : Nat) : Int) := by unfold gd; rw [if_neg e1]
          refine ⟨.int t, rfl, .int _, rfl, t, _, rfl, rfl, ?_, .int b, rfl, .int _, rfl, b, _, rfl, rfl, ?_, by show 2 ≤ sizeLine; decide, fun l nl => ?_⟩
          · rw [← eg]; exact ⟨gd_ne hb, log9 (gd_le hb hb2) (by decide) (by decide)⟩
          · rw [← eg]; exact ⟨gd_ne hb, log9 (gd_le hb hb2) (by decide) (by decide)⟩
          · rw [← eg]; exact q l nl
    · obtain ⟨v, hv, i, j, e1, e2, k, hk, hq⟩ := h
      exact ⟨v, hv, i, j, e1, e2, k, hk, m _ _ hq⟩

/-! ### _law_kind, _law_how: eighteen classes, four clauses -/
def all18 (A : Nat → Addr) : List Addr := [A 3, A 4, A 5, A 6, A 7, A 8, A 9, A 10, A 11, A 12, A 13, A 15, A 14, A 16, A 17, A 18, A 20, A 19]
def kindNames3 : List Str := ["NoWord", "NoText", "NoNumber", "NoSize", "NoLengths", "NoQuery", "NoCode", "NoRow", "NoEntries", "NoQueryText", "NoPages", "NoShelf", "NoQueries", "NoPlace", "NoSlot", "NoRatio", "Held", "Gone"]
def hot18 (i : Nat) : List Bool := (((([decide (0 = i), decide (1 = i), decide (2 = i), decide (3 = i)] ++ [decide (4 = i), decide (5 = i), decide (6 = i), decide (7 = i)]) ++ [decide (8 = i), decide (9 = i), decide (10 = i)]) ++ [decide (11 = i), decide (12 = i), decide (13 = i), decide (14 = i)]) ++ [decide (15 = i), decide (16 = i), decide (17 = i)])
theorem hot18_count : ∀ i, i < 18 → (hot18 i).count true = 1 := by decide
theorem hot18_at : ∀ i, i < 18 → (hot18 i)[i]? = some true := by decide
theorem hot18_ahead : ∀ i, i < 18 → ∀ m, m < i → (hot18 i)[m]? = some false := by decide
/-- C is the i-th of the eighteen -/
structure Kd3 (K : PySem.W.Frag) (A : Nat → Addr) (C : Addr) (i : Nat) : Prop where
  ec : ExcD K C
  k : ∀ (j : Nat) (D : Addr), (all18 A)[j]? = some D → PySem.W.kitOne K (.ref C) (.ref D) = some (decide (j = i))
theorem Kd3.at {K : PySem.W.Frag} {A : Nat → Addr} {C D : Addr} {i j : Nat} (h : Kd3 K A C i) (hj : (all18 A)[j]? = some D) : PySem.W.kitOne K (.ref C) (.ref D) = some (decide (j = i)) := h.k j D hj
def spKind (K : PySem.W.Frag) (A : Nat → Addr) : Addr → Value → Option Addr → Sp := fun a cls d vs H Q _ => ∃ (C : Addr) (i : Nat) (nm : Str), vs = [.ref a] ∧ cls = .ref C ∧ Kd3 K A C i ∧ kindNames3[i]? = some nm ∧ DictOk d H ∧ RetV (.str nm) H Q
theorem no_if {b : Bool} {X Y : Prop} (h : b = false) (y : Y) : if b = true then X else Y := by
  rw [h]
  exact y
set_option maxHeartbeats 16000000 in
theorem ok_l_kind (T : TX K mg A FD TK CC) : FnP P w K mg base CX0 1 (A 36) (FD 36) ["_law_e"] (spKind K A) := by
  refine fnP_of (k := 0) T.f_l_kind sc_l_kind (fun a cls d vs H Q E h => ?_) (fun cdv A' outer s H vs Q E p cls d hr hz hfl h => ?_)
  · obtain ⟨C, i, nm, rfl, _⟩ := h
    rfl
  · obtain ⟨C, i, nm, rfl, rfl, hp, hn, hd, q⟩ := h
    have EC := hp.ec
    have HH : Held (L2H.cxH CX0 P w K mg base N_l_kind "_law_kind" (defScope (topS 36)) (A 36) cdv A' outer s H E p) p.1 C d p.2 := ⟨List.mem_singleton.mpr rfl, hz, hfl⟩
    have hi : i < 18 := (List.getElem?_eq_some_iff.mp hn).1
    refine ⟨_, (pss_cons (ps_set (i := 1) sc_l_kind.nd rfl (.inl rfl) (pe_lst (pa_cons (pe_callB (isH (K := K) rfl EC HH) (by rfl) T.m_isinstance (by decide +kernel) (pa_cons (pv 0) (pa_cons (pe_glob (v := .ref (A 3)) (by rfl) T.k_NoWord rfl) pa_nil))) (pa_cons (pe_callB (isH (K := K) rfl EC HH) (by rfl) T.m_isinstance (by decide +kernel) (pa_cons (pv 0) (pa_cons (pe_glob (v := .ref (A 4)) (by rfl) T.k_NoText rfl) pa_nil))) (pa_cons (pe_callB (isH (K := K) rfl EC HH) (by rfl) T.m_isinstance (by decide +kernel) (pa_cons (pv 0) (pa_cons (pe_glob (v := .ref (A 5)) (by rfl) T.k_NoNumber rfl) pa_nil))) (pa_cons (pe_callB (isH (K := K) rfl EC HH) (by rfl) T.m_isinstance (by decide +kernel) (pa_cons (pv 0) (pa_cons (pe_glob (v := .ref (A 6)) (by rfl) T.k_NoSize rfl) pa_nil))) pa_nil))))))
      (pss_cons (ps_set (i := 1) sc_l_kind.nd rfl (.inl rfl) (pe_op op_cat (pv 1) (pe_lst (pa_cons (pe_callB (isH (K := K) rfl EC HH) (by rfl) T.m_isinstance (by decide +kernel) (pa_cons (pv 0) (pa_cons (pe_glob (v := .ref (A 7)) (by rfl) T.k_NoLengths rfl) pa_nil))) (pa_cons (pe_callB (isH (K := K) rfl EC HH) (by rfl) T.m_isinstance (by decide +kernel) (pa_cons (pv 0) (pa_cons (pe_glob (v := .ref (A 8)) (by rfl) T.k_NoQuery rfl) pa_nil))) (pa_cons (pe_callB (isH (K := K) rfl EC HH) (by rfl) T.m_isinstance (by decide +kernel) (pa_cons (pv 0) (pa_cons (pe_glob (v := .ref (A 9)) (by rfl) T.k_NoCode rfl) pa_nil))) (pa_cons (pe_callB (isH (K := K) rfl EC HH) (by rfl) T.m_isinstance (by decide +kernel) (pa_cons (pv 0) (pa_cons (pe_glob (v := .ref (A 10)) (by rfl) T.k_NoRow rfl) pa_nil))) pa_nil)))))))
      (pss_cons (ps_set (i := 1) sc_l_kind.nd rfl (.inl rfl) (pe_op op_cat (pv 1) (pe_lst (pa_cons (pe_callB (isH (K := K) rfl EC HH) (by rfl) T.m_isinstance (by decide +kernel) (pa_cons (pv 0) (pa_cons (pe_glob (v := .ref (A 11)) (by rfl) T.k_NoEntries rfl) pa_nil))) (pa_cons (pe_callB (isH (K := K) rfl EC HH) (by rfl) T.m_isinstance (by decide +kernel) (pa_cons (pv 0) (pa_cons (pe_glob (v := .ref (A 12)) (by rfl) T.k_NoQueryText rfl) pa_nil))) (pa_cons (pe_callB (isH (K := K) rfl EC HH) (by rfl) T.m_isinstance (by decide +kernel) (pa_cons (pv 0) (pa_cons (pe_glob (v := .ref (A 13)) (by rfl) T.k_NoPages rfl) pa_nil))) pa_nil))))))
      (pss_cons (ps_set (i := 1) sc_l_kind.nd rfl (.inl rfl) (pe_op op_cat (pv 1) (pe_lst (pa_cons (pe_callB (isH (K := K) rfl EC HH) (by rfl) T.m_isinstance (by decide +kernel) (pa_cons (pv 0) (pa_cons (pe_glob (v := .ref (A 15)) (by rfl) T.k_NoShelf rfl) pa_nil))) (pa_cons (pe_callB (isH (K := K) rfl EC HH) (by rfl) T.m_isinstance (by decide +kernel) (pa_cons (pv 0) (pa_cons (pe_glob (v := .ref (A 14)) (by rfl) T.k_NoQueries rfl) pa_nil))) (pa_cons (pe_callB (isH (K := K) rfl EC HH) (by rfl) T.m_isinstance (by decide +kernel) (pa_cons (pv 0) (pa_cons (pe_glob (v := .ref (A 16)) (by rfl) T.k_NoPlace rfl) pa_nil))) (pa_cons (pe_callB (isH (K := K) rfl EC HH) (by rfl) T.m_isinstance (by decide +kernel) (pa_cons (pv 0) (pa_cons (pe_glob (v := .ref (A 17)) (by rfl) T.k_NoSlot rfl) pa_nil))) pa_nil)))))))
      (pss_cons (ps_set (i := 1) sc_l_kind.nd rfl (.inl rfl) (pe_op op_cat (pv 1) (pe_lst (pa_cons (pe_callB (isH (K := K) rfl EC HH) (by rfl) T.m_isinstance (by decide +kernel) (pa_cons (pv 0) (pa_cons (pe_glob (v := .ref (A 18)) (by rfl) T.k_NoRatio rfl) pa_nil))) (pa_cons (pe_callB (isH (K := K) rfl EC HH) (by rfl) T.m_isinstance (by decide +kernel) (pa_cons (pv 0) (pa_cons (pe_glob (v := .ref (A 20)) (by rfl) T.k_Held rfl) pa_nil))) (pa_cons (pe_callB (isH (K := K) rfl EC HH) (by rfl) T.m_isinstance (by decide +kernel) (pa_cons (pv 0) (pa_cons (pe_glob (v := .ref (A 19)) (by rfl) T.k_Gone rfl) pa_nil))) pa_nil))))))
      (pss_cons (ps_set (i := 2) sc_l_kind.nd rfl (.inl rfl) (pe_lst (pa_cons pe_str (pa_cons pe_str (pa_cons pe_str (pa_cons pe_str (pa_cons pe_str (pa_cons pe_str (pa_cons pe_str (pa_cons pe_str (pa_cons pe_str pa_nil)))))))))))
      (pss_cons (ps_set (i := 2) sc_l_kind.nd rfl (.inl rfl) (pe_op op_cat (pv 2) (pe_lst (pa_cons pe_str (pa_cons pe_str (pa_cons pe_str (pa_cons pe_str (pa_cons pe_str (pa_cons pe_str (pa_cons pe_str (pa_cons pe_str (pa_cons pe_str pa_nil))))))))))))
      (pss_cons (ps_if (pt_cmpR op_ne (pe_bm PySem.F.plainAttrs_list PySem.F.slot_list_count PySem.F.type_list_count (cntB (K := K) rfl) (pv 1) (pa_cons pe_bl pa_nil)) pe_int (nomark _))
      (pss_one (ps_ret pe_str))
      pss_nil)
      (pss_one (ps_ret (pe_ix (ixLK (K := K) rfl) (pv 2) (pe_bm PySem.F.plainAttrs_list PySem.F.slot_list_index PySem.F.type_list_index (indexK (K := K) rfl) (pv 1) (pa_cons pe_bl pa_nil)) (fun _ _ => rfl)))))))))))), ?_⟩
    refine ⟨.ref p.1, rfl, .ref (A 3), .ref (A 3), _, rfl, .own _, hd, hp.at (j := 0) rfl, .ref p.1, rfl, .ref (A 4), .ref (A 4), _, rfl, .own _, hd, hp.at (j := 1) rfl, .ref p.1, rfl, .ref (A 5), .ref (A 5), _, rfl, .own _, hd, hp.at (j := 2) rfl, .ref p.1, rfl, .ref (A 6), .ref (A 6), _, rfl, .own _, hd, hp.at (j := 3) rfl, by show 4 ≤ sizeLine; decide, fun m0 k0 => ?_⟩
    have x0 : Ex H _ := Ex.new (o := .lst [V.bl (decide (0 = i)), V.bl (decide (1 = i)), V.bl (decide (2 = i)), V.bl (decide (3 = i))]) k0
    have h0 : (upd H m0 (.lst [V.bl (decide (0 = i)), V.bl (decide (1 = i)), V.bl (decide (2 = i)), V.bl (decide (3 = i))])) m0 = some (.lst [V.bl (decide (0 = i)), V.bl (decide (1 = i)), V.bl (decide (2 = i)), V.bl (decide (3 = i))]) := upd_same
    generalize (upd H m0 (.lst [V.bl (decide (0 = i)), V.bl (decide (1 = i)), V.bl (decide (2 = i)), V.bl (decide (3 = i))])) = G0 at x0 h0 ⊢
    have c0 := hd.ex x0
    refine ⟨.ref m0, rfl, .ref p.1, rfl, .ref (A 7), .ref (A 7), _, rfl, .own _, c0, hp.at (j := 4) rfl, .ref p.1, rfl, .ref (A 8), .ref (A 8), _, rfl, .own _, c0, hp.at (j := 5) rfl, .ref p.1, rfl, .ref (A 9), .ref (A 9), _, rfl, .own _, c0, hp.at (j := 6) rfl, .ref p.1, rfl, .ref (A 10), .ref (A 10), _, rfl, .own _, c0, hp.at (j := 7) rfl, by show 4 ≤ sizeLine; decide, fun n1' j1 => ?_⟩
    have y1 : Ex G0 (upd G0 n1' (.lst [V.bl (decide (4 = i)), V.bl (decide (5 = i)), V.bl (decide (6 = i)), V.bl (decide (7 = i))])) := Ex.new j1
    refine ⟨m0, n1', _, _, rfl, rfl, y1 _ _ h0, upd_same, by show 8 ≤ sizeLine; decide, fun m1 k1 => ?_⟩
    have x1 : Ex G0 (upd (upd G0 n1' (.lst [V.bl (decide (4 = i)), V.bl (decide (5 = i)), V.bl (decide (6 = i)), V.bl (decide (7 = i))])) m1 (.lst ([V.bl (decide (0 = i)), V.bl (decide (1 = i)), V.bl (decide (2 = i)), V.bl (decide (3 = i))] ++ [V.bl (decide (4 = i)), V.bl (decide (5 = i)), V.bl (decide (6 = i)), V.bl (decide (7 = i))]))) := y1.trans (Ex.new k1)
    have h1 : (upd (upd G0 n1' (.lst [V.bl (decide (4 = i)), V.bl (decide (5 = i)), V.bl (decide (6 = i)), V.bl (decide (7 = i))])) m1 (.lst ([V.bl (decide (0 = i)), V.bl (decide (1 = i)), V.bl (decide (2 = i)), V.bl (decide (3 = i))] ++ [V.bl (decide (4 = i)), V.bl (decide (5 = i)), V.bl (decide (6 = i)), V.bl (decide (7 = i))]))) m1 = some (.lst ([V.bl (decide (0 = i)), V.bl (decide (1 = i)), V.bl (decide (2 = i)), V.bl (decide (3 = i))] ++ [V.bl (decide (4 = i)), V.bl (decide (5 = i)), V.bl (decide (6 = i)), V.bl (decide (7 = i))])) := upd_same
    generalize (upd (upd G0 n1' (.lst [V.bl (decide (4 = i)), V.bl (decide (5 = i)), V.bl (decide (6 = i)), V.bl (decide (7 = i))])) m1 (.lst ([V.bl (decide (0 = i)), V.bl (decide (1 = i)), V.bl (decide (2 = i)), V.bl (decide (3 = i))] ++ [V.bl (decide (4 = i)), V.bl (decide (5 = i)), V.bl (decide (6 = i)), V.bl (decide (7 = i))]))) = G1 at x1 h1 ⊢
    have c1 := c0.ex x1
    refine ⟨.ref m1, rfl, .ref p.1, rfl, .ref (A 11), .ref (A 11), _, rfl, .own _, c1, hp.at (j := 8) rfl, .ref p.1, rfl, .ref (A 12), .ref (A 12), _, rfl, .own _, c1, hp.at (j := 9) rfl, .ref p.1, rfl, .ref (A 13), .ref (A 13), _, rfl, .own _, c1, hp.at (j := 10) rfl, by show 3 ≤ sizeLine; decide, fun n2' j2 => ?_⟩
    have y2 : Ex G1 (upd G1 n2' (.lst [V.bl (decide (8 = i)), V.bl (decide (9 = i)), V.bl (decide (10 = i))])) := Ex.new j2
    refine ⟨m1, n2', _, _, rfl, rfl, y2 _ _ h1, upd_same, by show 11 ≤ sizeLine; decide, fun m2 k2 => ?_⟩
    have x2 : Ex G1 (upd (upd G1 n2' (.lst [V.bl (decide (8 = i)), V.bl (decide (9 = i)), V.bl (decide (10 = i))])) m2 (.lst (([V.bl (decide (0 = i)), V.bl (decide (1 = i)), V.bl (decide (2 = i)), V.bl (decide (3 = i))] ++ [V.bl (decide (4 = i)), V.bl (decide (5 = i)), V.bl (decide (6 = i)), V.bl (decide (7 = i))]) ++ [V.bl (decide (8 = i)), V.bl (decide (9 = i)), V.bl (decide (10 = i))]))) := y2.trans (Ex.new k2)
    have h2 : (upd (upd G1 n2' (.lst [V.bl (decide (8 = i)), V.bl (decide (9 = i)), V.bl (decide (10 = i))])) m2 (.lst (([V.bl (decide (0 = i)), V.bl (decide (1 = i)), V.bl (decide (2 = i)), V.bl (decide (3 = i))] ++ [V.bl (decide (4 = i)), V.bl (decide (5 = i)), V.bl (decide (6 = i)), V.bl (decide (7 = i))]) ++ [V.bl (decide (8 = i)), V.bl (decide (9 = i)), V.bl (decide (10 = i))]))) m2 = some (.lst (([V.bl (decide (0 = i)), V.bl (decide (1 = i)), V.bl (decide (2 = i)), V.bl (decide (3 = i))] ++ [V.bl (decide (4 = i)), V.bl (decide (5 = i)), V.bl (decide (6 = i)), V.bl (decide (7 = i))]) ++ [V.bl (decide (8 = i)), V.bl (decide (9 = i)), V.bl (decide (10 = i))])) := upd_same
    generalize (upd (upd G1 n2' (.lst [V.bl (decide (8 = i)), V.bl (decide (9 = i)), V.bl (decide (10 = i))])) m2 (.lst (([V.bl (decide (0 = i)), V.bl (decide (1 = i)), V.bl (decide (2 = i)), V.bl (decide (3 = i))] ++ [V.bl (decide (4 = i)), V.bl (decide (5 = i)), V.bl (decide (6 = i)), V.bl (decide (7 = i))]) ++ [V.bl (decide (8 = i)), V.bl (decide (9 = i)), V.bl (decide (10 = i))]))) = G2 at x2 h2 ⊢
    have c2 := c1.ex x2
    refine ⟨.ref m2, rfl, .ref p.1, rfl, .ref (A 15), .ref (A 15), _, rfl, .own _, c2, hp.at (j := 11) rfl, .ref p.1, rfl, .ref (A 14), .ref (A 14), _, rfl, .own _, c2, hp.at (j := 12) rfl, .ref p.1, rfl, .ref (A 16), .ref (A 16), _, rfl, .own _, c2, hp.at (j := 13) rfl, .ref p.1, rfl, .ref (A 17), .ref (A 17), _, rfl, .own _, c2, hp.at (j := 14) rfl, by show 4 ≤ sizeLine; decide, fun n3' j3 => ?_⟩
    have y3 : Ex G2 (upd G2 n3' (.lst [V.bl (decide (11 = i)), V.bl (decide (12 = i)), V.bl (decide (13 = i)), V.bl (decide (14 = i))])) := Ex.new j3
    refine ⟨m2, n3', _, _, rfl, rfl, y3 _ _ h2, upd_same, by show 15 ≤ sizeLine; decide, fun m3 k3 => ?_⟩
    have x3 : Ex G2 (upd (upd G2 n3' (.lst [V.bl (decide (11 = i)), V.bl (decide (12 = i)), V.bl (decide (13 = i)), V.bl (decide (14 = i))])) m3 (.lst ((([V.bl (decide (0 = i)), V.bl (decide (1 = i)), V.bl (decide (2 = i)), V.bl (decide (3 = i))] ++ [V.bl (decide (4 = i)), V.bl (decide (5 = i)), V.bl (decide (6 = i)), V.bl (decide (7 = i))]) ++ [V.bl (decide (8 = i)), V.bl (decide (9 = i)), V.bl (decide (10 = i))]) ++ [V.bl (decide (11 = i)), V.bl (decide (12 = i)), V.bl (decide (13 = i)), V.bl (decide (14 = i))]))) := y3.trans (Ex.new k3)
    have h3 : (upd (upd G2 n3' (.lst [V.bl (decide (11 = i)), V.bl (decide (12 = i)), V.bl (decide (13 = i)), V.bl (decide (14 = i))])) m3 (.lst ((([V.bl (decide (0 = i)), V.bl (decide (1 = i)), V.bl (decide (2 = i)), V.bl (decide (3 = i))] ++ [V.bl (decide (4 = i)), V.bl (decide (5 = i)), V.bl (decide (6 = i)), V.bl (decide (7 = i))]) ++ [V.bl (decide (8 = i)), V.bl (decide (9 = i)), V.bl (decide (10 = i))]) ++ [V.bl (decide (11 = i)), V.bl (decide (12 = i)), V.bl (decide (13 = i)), V.bl (decide (14 = i))]))) m3 = some (.lst ((([V.bl (decide (0 = i)), V.bl (decide (1 = i)), V.bl (decide (2 = i)), V.bl (decide (3 = i))] ++ [V.bl (decide (4 = i)), V.bl (decide (5 = i)), V.bl (decide (6 = i)), V.bl (decide (7 = i))]) ++ [V.bl (decide (8 = i)), V.bl (decide (9 = i)), V.bl (decide (10 = i))]) ++ [V.bl (decide (11 = i)), V.bl (decide (12 = i)), V.bl (decide (13 = i)), V.bl (decide (14 = i))])) := upd_same
    generalize (upd (upd G2 n3' (.lst [V.bl (decide (11 = i)), V.bl (decide (12 = i)), V.bl (decide (13 = i)), V.bl (decide (14 = i))])) m3 (.lst ((([V.bl (decide (0 = i)), V.bl (decide (1 = i)), V.bl (decide (2 = i)), V.bl (decide (3 = i))] ++ [V.bl (decide (4 = i)), V.bl (decide (5 = i)), V.bl (decide (6 = i)), V.bl (decide (7 = i))]) ++ [V.bl (decide (8 = i)), V.bl (decide (9 = i)), V.bl (decide (10 = i))]) ++ [V.bl (decide (11 = i)), V.bl (decide (12 = i)), V.bl (decide (13 = i)), V.bl (decide (14 = i))]))) = G3 at x3 h3 ⊢
    have c3 := c2.ex x3
    refine ⟨.ref m3, rfl, .ref p.1, rfl, .ref (A 18), .ref (A 18), _, rfl, .own _, c3, hp.at (j := 15) rfl, .ref p.1, rfl, .ref (A 20), .ref (A 20), _, rfl, .own _, c3, hp.at (j := 16) rfl, .ref p.1, rfl, .ref (A 19), .ref (A 19), _, rfl, .own _, c3, hp.at (j := 17) rfl, by show 3 ≤ sizeLine; decide, fun n4' j4 => ?_⟩
    have y4 : Ex G3 (upd G3 n4' (.lst [V.bl (decide (15 = i)), V.bl (decide (16 = i)), V.bl (decide (17 = i))])) := Ex.new j4
    refine ⟨m3, n4', _, _, rfl, rfl, y4 _ _ h3, upd_same, by show 18 ≤ sizeLine; decide, fun m4 k4 => ?_⟩
    have x4 : Ex G3 (upd (upd G3 n4' (.lst [V.bl (decide (15 = i)), V.bl (decide (16 = i)), V.bl (decide (17 = i))])) m4 (.lst (((([V.bl (decide (0 = i)), V.bl (decide (1 = i)), V.bl (decide (2 = i)), V.bl (decide (3 = i))] ++ [V.bl (decide (4 = i)), V.bl (decide (5 = i)), V.bl (decide (6 = i)), V.bl (decide (7 = i))]) ++ [V.bl (decide (8 = i)), V.bl (decide (9 = i)), V.bl (decide (10 = i))]) ++ [V.bl (decide (11 = i)), V.bl (decide (12 = i)), V.bl (decide (13 = i)), V.bl (decide (14 = i))]) ++ [V.bl (decide (15 = i)), V.bl (decide (16 = i)), V.bl (decide (17 = i))]))) := y4.trans (Ex.new k4)
    have h4 : (upd (upd G3 n4' (.lst [V.bl (decide (15 = i)), V.bl (decide (16 = i)), V.bl (decide (17 = i))])) m4 (.lst (((([V.bl (decide (0 = i)), V.bl (decide (1 = i)), V.bl (decide (2 = i)), V.bl (decide (3 = i))] ++ [V.bl (decide (4 = i)), V.bl (decide (5 = i)), V.bl (decide (6 = i)), V.bl (decide (7 = i))]) ++ [V.bl (decide (8 = i)), V.bl (decide (9 = i)), V.bl (decide (10 = i))]) ++ [V.bl (decide (11 = i)), V.bl (decide (12 = i)), V.bl (decide (13 = i)), V.bl (decide (14 = i))]) ++ [V.bl (decide (15 = i)), V.bl (decide (16 = i)), V.bl (decide (17 = i))]))) m4 = some (.lst (((([V.bl (decide (0 = i)), V.bl (decide (1 = i)), V.bl (decide (2 = i)), V.bl (decide (3 = i))] ++ [V.bl (decide (4 = i)), V.bl (decide (5 = i)), V.bl (decide (6 = i)), V.bl (decide (7 = i))]) ++ [V.bl (decide (8 = i)), V.bl (decide (9 = i)), V.bl (decide (10 = i))]) ++ [V.bl (decide (11 = i)), V.bl (decide (12 = i)), V.bl (decide (13 = i)), V.bl (decide (14 = i))]) ++ [V.bl (decide (15 = i)), V.bl (decide (16 = i)), V.bl (decide (17 = i))])) := upd_same
    generalize (upd (upd G3 n4' (.lst [V.bl (decide (15 = i)), V.bl (decide (16 = i)), V.bl (decide (17 = i))])) m4 (.lst (((([V.bl (decide (0 = i)), V.bl (decide (1 = i)), V.bl (decide (2 = i)), V.bl (decide (3 = i))] ++ [V.bl (decide (4 = i)), V.bl (decide (5 = i)), V.bl (decide (6 = i)), V.bl (decide (7 = i))]) ++ [V.bl (decide (8 = i)), V.bl (decide (9 = i)), V.bl (decide (10 = i))]) ++ [V.bl (decide (11 = i)), V.bl (decide (12 = i)), V.bl (decide (13 = i)), V.bl (decide (14 = i))]) ++ [V.bl (decide (15 = i)), V.bl (decide (16 = i)), V.bl (decide (17 = i))]))) = G4 at x4 h4 ⊢
    have c4 := c3.ex x4
    have xN : Ex H G4 := (((x0.trans x1).trans x2).trans x3).trans x4
    have hm : G4 m4 = some (.lst ((hot18 i).map V.bl)) := h4
    refine ⟨by show 9 ≤ sizeLine; decide, fun l0 n0 => ?_⟩
    have e0 := Ex.new (o := .lst [V.str "NoWord", V.str "NoText", V.str "NoNumber", V.str "NoSize", V.str "NoLengths", V.str "NoQuery", V.str "NoCode", V.str "NoRow", V.str "NoEntries"]) n0
    have g0 : (upd G4 l0 (.lst [V.str "NoWord", V.str "NoText", V.str "NoNumber", V.str "NoSize", V.str "NoLengths", V.str "NoQuery", V.str "NoCode", V.str "NoRow", V.str "NoEntries"])) l0 = some (.lst [V.str "NoWord", V.str "NoText", V.str "NoNumber", V.str "NoSize", V.str "NoLengths", V.str "NoQuery", V.str "NoCode", V.str "NoRow", V.str "NoEntries"]) := upd_same
    generalize (upd G4 l0 (.lst [V.str "NoWord", V.str "NoText", V.str "NoNumber", V.str "NoSize", V.str "NoLengths", V.str "NoQuery", V.str "NoCode", V.str "NoRow", V.str "NoEntries"])) = J0 at e0 g0 ⊢
    refine ⟨.ref l0, rfl, by show 9 ≤ sizeLine; decide, fun l1 n1 => ?_⟩
    have e1 := Ex.new (o := .lst [V.str "NoQueryText", V.str "NoPages", V.str "NoShelf", V.str "NoQueries", V.str "NoPlace", V.str "NoSlot", V.str "NoRatio", V.str "Held", V.str "Gone"]) n1
    have g1 : (upd J0 l1 (.lst [V.str "NoQueryText", V.str "NoPages", V.str "NoShelf", V.str "NoQueries", V.str "NoPlace", V.str "NoSlot", V.str "NoRatio", V.str "Held", V.str "Gone"])) l1 = some (.lst [V.str "NoQueryText", V.str "NoPages", V.str "NoShelf", V.str "NoQueries", V.str "NoPlace", V.str "NoSlot", V.str "NoRatio", V.str "Held", V.str "Gone"]) := upd_same
    generalize (upd J0 l1 (.lst [V.str "NoQueryText", V.str "NoPages", V.str "NoShelf", V.str "NoQueries", V.str "NoPlace", V.str "NoSlot", V.str "NoRatio", V.str "Held", V.str "Gone"])) = J1 at e1 g1 ⊢
    refine ⟨l0, l1, _, _, rfl, rfl, e1 _ _ g0, g1, by show 18 ≤ sizeLine; decide, fun l2 n2 => ?_⟩
    have e2 := Ex.new (o := .lst (kindNames3.map V.str)) n2
    have hN : (upd J1 l2 (.lst (kindNames3.map V.str))) l2 = some (.lst (kindNames3.map V.str)) := upd_same
    show tSeq _ _ _ _ (upd J1 l2 (.lst (kindNames3.map V.str)))
    generalize (upd J1 l2 (.lst (kindNames3.map V.str))) = J2 at e2 hN ⊢
    have eJ := (e0.trans e1).trans e2
    have hm := eJ _ _ hm
    have cJ := c4.ex eJ
    refine ⟨.ref m4, rfl, .inl ⟨rfl, _, SqL.of hm⟩, m4, hot18 i, rfl, rfl, SqL.of hm, rfl, _, rfl, no_if (by rw [hot18_count i hi]; decide) ?_⟩
    refine ⟨.ref l2, rfl, .ref m4, rfl, .inl ⟨rfl, _, SqL.of hm⟩, m4, (hot18 i).map V.bl, .bl true, i, .bl true, rfl, rfl, SqL.of hm, rfl, ?_, ?_, rfl, ?_, ?_⟩
    · rw [List.all_eq_true]
      intro x hx
      obtain ⟨b, _, rfl⟩ := List.mem_map.mp hx
      rfl
    · rw [List.getElem?_map, hot18_at i hi]
      rfl
    · intro m z hm' hz
      rw [List.getElem?_map, hot18_ahead i hi m hm'] at hz
      cases hz
      rfl
    · refine ⟨l2, _, i, .str nm, rfl, rfl, SqL.of hN, atI_nat ?_, q.go (xN.trans eJ)⟩
      rw [List.getElem?_map, hn]
      rfl
/-- which of the four clauses takes C -/
inductive Cl3 (K : PySem.W.Frag) (A : Nat → Addr) (C : Addr) : Prop
  | wrong (h1 : PySem.W.exmAny K (.ref C) [.ref (A 2)] = some true) (hb : PySem.W.kitOne K (.ref C) (.type "ValueError") = some true) : Cl3 K A C
  | two (h1 : PySem.W.exmAny K (.ref C) [.ref (A 2)] = some false) (h2 : PySem.W.exmAny K (.ref C) [.ref (A 16), .ref (A 17)] = some true) (hb : PySem.W.kitOne K (.ref C) (.type "IndexError") = some true) : Cl3 K A C
  | rat (h1 : PySem.W.exmAny K (.ref C) [.ref (A 2)] = some false) (h2 : PySem.W.exmAny K (.ref C) [.ref (A 16), .ref (A 17)] = some false) (h3 : PySem.W.exmAny K (.ref C) [.ref (A 18)] = some true) (hb : PySem.W.kitOne K (.ref C) (.type "ZeroDivisionError") = some true) : Cl3 K A C
  | keys (h1 : PySem.W.exmAny K (.ref C) [.ref (A 2)] = some false) (h2 : PySem.W.exmAny K (.ref C) [.ref (A 16), .ref (A 17)] = some false) (h3 : PySem.W.exmAny K (.ref C) [.ref (A 18)] = some false) (h4 : PySem.W.exmAny K (.ref C) [.ref (A 20), .ref (A 19)] = some true) (hb : PySem.W.kitOne K (.ref C) (.type "KeyError") = some true) : Cl3 K A C
/-- what the law's _law_how makes of a deed: its refusal's kind, or told -/
def TTHow (K : PySem.W.Frag) (A : Nat → Addr) : (XK → Hp → VK → Prop) → Hp → VK → Prop := fun tl H Q =>
  tl (fun cls d H' => ∃ (C : Addr) (i : Nat) (nm : Str), cls = .ref C ∧ Kd3 K A C i ∧ Cl3 K A C ∧ kindNames3[i]? = some nm ∧ DictOk d H' ∧ RetV (.str nm) H' Q) H (fun _ H' => Q (.str "told") H')
set_option maxHeartbeats 32000000 in
theorem how_gives {X : Cx} (T : TX X.K X.mg A FD TK CC) {k : Nat} (hr : Room (k + 2) X.A) (cdg : Value) (qn : Str) :
    LamX.GivesTo X N_l_how "_law_how" (defScope (topS 37)) (A 37) cdg (defBody (topS 37)) "_law_deed" qn (TTHow X.K A) := by
  intro f c' s H Q tl act hc h
  have GK := ok_l_kind (P := X.prog) (w := X.w) (base := X.base) T
  have rm : ∀ a : Addr, L2H.RoomH 1 ((X.A.deeper (envOfC "_law_how" (defScope (topS 37)) s.heap.objs.size (A 37) cdg)).mark (some (.ref a))) := fun a =>
    let r := L2H.roomH_of ((hr.deeper (envOfC "_law_how" (defScope (topS 37)) s.heap.objs.size (A 37) cdg)).mono (show 1 ≤ k + 1 by omega))
    ⟨r.dp, r.un⟩
  refine ⟨_, pss_cons (ps_try_asMany (X := (cxOf C8.CX0 X.prog X.w X.K X.mg X.base N_l_how "_law_how" (defScope (topS 37)) (A 37) cdg X.A X.stack s H C8.E0).nox) (n := "_law_e") (i := 1)
      (tb := fun W D σ H => ∃ Ech : XK, (∀ cls d σ' H', Ech cls d H' → W cls d σ' H') ∧ σ[0]? = some (some (.ref f)) ∧ H c' = some (LamX.CodeO c' qn) ∧ tl Ech H (fun _ H' => D.nx σ H')) rfl rfl sc_l_how.nd rfl rfl takes0 (fun W pn xe tk _ => ?_)
      (HdsAs.cons (ts := fun a cls d => tRet (tOp (rIxL X.K) (tLst (tCons (tCallP (spKind X.K A) a cls d (tCons (tVar 1) tNil)) (tCons (tC (.str "!")) tNil))) (tCB (fun xs H Q => (∃ i, xs = [.int i] ∧ Q (.int i) H) ∨ ∃ k, xs = [.bl k] ∧ Q (.int (if k then 1 else 0)) H) (tCons (tNotV (tCB (rIsE X.K cls a d) (tCons (tVar 1) (tCons (tC (.ty "ValueError")) tNil)))) tNil)))) (test_name ⟨rfl, by decide, .inl T.k_Wrong⟩) (fun a oe cls d pn hz hf => pss_one (ps_ret (pe_ix (ixLK (K := X.K) rfl) (pe_lst (pa_cons (pe_callP (X := ((cxOf C8.CX0 X.prog X.w X.K X.mg X.base N_l_how "_law_how" (defScope (topS 37)) (A 37) cdg X.A X.stack s H C8.E0).nox).suite a ((a, oe) :: pn)) (p := (a, oe)) GK (rm a) (List.mem_cons_self ..) hz hf (by rfl) T.g_l_kind T.f_l_kind.kp T.b_l_kind (pa_cons (pv 1) pa_nil)) (pa_cons pe_str pa_nil))) (pe_callTy call_int1 (by rfl) T.m_int (by decide +kernel) (pa_cons (pe_not (pe_callB (isE (X := ((cxOf C8.CX0 X.prog X.w X.K X.mg X.base N_l_how "_law_how" (defScope (topS 37)) (A 37) cdg X.A X.stack s H C8.E0).nox).suite a ((a, oe) :: pn)) (K := X.K) rfl (List.mem_cons_self ..) hz hf) (by rfl) T.m_isinstance (by decide +kernel) (pa_cons (pv 1) (pa_cons (pe_bltn (v := .ty "ValueError") (by rfl) T.m_ValueError (by decide +kernel) rfl) pa_nil)))) pa_nil)) (fun _ _ => rfl))))
      (HdsAs.cons (ts := fun a cls d => tRet (tOp (rIxL X.K) (tLst (tCons (tCallP (spKind X.K A) a cls d (tCons (tVar 1) tNil)) (tCons (tC (.str "!")) tNil))) (tCB (fun xs H Q => (∃ i, xs = [.int i] ∧ Q (.int i) H) ∨ ∃ k, xs = [.bl k] ∧ Q (.int (if k then 1 else 0)) H) (tCons (tNotV (tCB (rIsE X.K cls a d) (tCons (tVar 1) (tCons (tC (.ty "IndexError")) tNil)))) tNil)))) (test_tup (.cons ⟨rfl, by decide, .inl T.k_NoPlace⟩ (.cons ⟨rfl, by decide, .inl T.k_NoSlot⟩ .nil)) (by show 2 ≤ sizeLine; decide)) (fun a oe cls d pn hz hf => pss_one (ps_ret (pe_ix (ixLK (K := X.K) rfl) (pe_lst (pa_cons (pe_callP (X := ((cxOf C8.CX0 X.prog X.w X.K X.mg X.base N_l_how "_law_how" (defScope (topS 37)) (A 37) cdg X.A X.stack s H C8.E0).nox).suite a ((a, oe) :: pn)) (p := (a, oe)) GK (rm a) (List.mem_cons_self ..) hz hf (by rfl) T.g_l_kind T.f_l_kind.kp T.b_l_kind (pa_cons (pv 1) pa_nil)) (pa_cons pe_str pa_nil))) (pe_callTy call_int1 (by rfl) T.m_int (by decide +kernel) (pa_cons (pe_not (pe_callB (isE (X := ((cxOf C8.CX0 X.prog X.w X.K X.mg X.base N_l_how "_law_how" (defScope (topS 37)) (A 37) cdg X.A X.stack s H C8.E0).nox).suite a ((a, oe) :: pn)) (K := X.K) rfl (List.mem_cons_self ..) hz hf) (by rfl) T.m_isinstance (by decide +kernel) (pa_cons (pv 1) (pa_cons (pe_bltn (v := .ty "IndexError") (by rfl) T.m_IndexError (by decide +kernel) rfl) pa_nil)))) pa_nil)) (fun _ _ => rfl))))
      (HdsAs.cons (ts := fun a cls d => tRet (tOp (rIxL X.K) (tLst (tCons (tCallP (spKind X.K A) a cls d (tCons (tVar 1) tNil)) (tCons (tC (.str "!")) tNil))) (tCB (fun xs H Q => (∃ i, xs = [.int i] ∧ Q (.int i) H) ∨ ∃ k, xs = [.bl k] ∧ Q (.int (if k then 1 else 0)) H) (tCons (tNotV (tCB (rIsE X.K cls a d) (tCons (tVar 1) (tCons (tC (.ty "ZeroDivisionError")) tNil)))) tNil)))) (test_name ⟨rfl, by decide, .inl T.k_NoRatio⟩) (fun a oe cls d pn hz hf => pss_one (ps_ret (pe_ix (ixLK (K := X.K) rfl) (pe_lst (pa_cons (pe_callP (X := ((cxOf C8.CX0 X.prog X.w X.K X.mg X.base N_l_how "_law_how" (defScope (topS 37)) (A 37) cdg X.A X.stack s H C8.E0).nox).suite a ((a, oe) :: pn)) (p := (a, oe)) GK (rm a) (List.mem_cons_self ..) hz hf (by rfl) T.g_l_kind T.f_l_kind.kp T.b_l_kind (pa_cons (pv 1) pa_nil)) (pa_cons pe_str pa_nil))) (pe_callTy call_int1 (by rfl) T.m_int (by decide +kernel) (pa_cons (pe_not (pe_callB (isE (X := ((cxOf C8.CX0 X.prog X.w X.K X.mg X.base N_l_how "_law_how" (defScope (topS 37)) (A 37) cdg X.A X.stack s H C8.E0).nox).suite a ((a, oe) :: pn)) (K := X.K) rfl (List.mem_cons_self ..) hz hf) (by rfl) T.m_isinstance (by decide +kernel) (pa_cons (pv 1) (pa_cons (pe_bltn (v := .ty "ZeroDivisionError") (by rfl) T.m_ZeroDivisionError (by decide +kernel) rfl) pa_nil)))) pa_nil)) (fun _ _ => rfl))))
      (HdsAs.cons (ts := fun a cls d => tRet (tOp (rIxL X.K) (tLst (tCons (tCallP (spKind X.K A) a cls d (tCons (tVar 1) tNil)) (tCons (tC (.str "!")) tNil))) (tCB (fun xs H Q => (∃ i, xs = [.int i] ∧ Q (.int i) H) ∨ ∃ k, xs = [.bl k] ∧ Q (.int (if k then 1 else 0)) H) (tCons (tNotV (tCB (rIsE X.K cls a d) (tCons (tVar 1) (tCons (tC (.ty "KeyError")) tNil)))) tNil)))) (test_tup (.cons ⟨rfl, by decide, .inl T.k_Held⟩ (.cons ⟨rfl, by decide, .inl T.k_Gone⟩ .nil)) (by show 2 ≤ sizeLine; decide)) (fun a oe cls d pn hz hf => pss_one (ps_ret (pe_ix (ixLK (K := X.K) rfl) (pe_lst (pa_cons (pe_callP (X := ((cxOf C8.CX0 X.prog X.w X.K X.mg X.base N_l_how "_law_how" (defScope (topS 37)) (A 37) cdg X.A X.stack s H C8.E0).nox).suite a ((a, oe) :: pn)) (p := (a, oe)) GK (rm a) (List.mem_cons_self ..) hz hf (by rfl) T.g_l_kind T.f_l_kind.kp T.b_l_kind (pa_cons (pv 1) pa_nil)) (pa_cons pe_str pa_nil))) (pe_callTy call_int1 (by rfl) T.m_int (by decide +kernel) (pa_cons (pe_not (pe_callB (isE (X := ((cxOf C8.CX0 X.prog X.w X.K X.mg X.base N_l_how "_law_how" (defScope (topS 37)) (A 37) cdg X.A X.stack s H C8.E0).nox).suite a ((a, oe) :: pn)) (K := X.K) rfl (List.mem_cons_self ..) hz hf) (by rfl) T.m_isinstance (by decide +kernel) (pa_cons (pv 1) (pa_cons (pe_bltn (v := .ty "KeyError") (by rfl) T.m_KeyError (by decide +kernel) rfl) pa_nil)))) pa_nil)) (fun _ _ => rfl))))
      HdsAs.nil)))))
    (pss_one (ps_ret pe_str)), ?_⟩
  · refine ⟨fun pins s' σ H' D I h' => ?_⟩
    obtain ⟨Ech, hW, h1, h2, h3⟩ := h'
    exact (pss_one (ps_expr (act W pn xe Ech _ _ tk hW))).run pins s' σ H' D I ⟨h1, h2, h3⟩
  · refine ⟨_, fun cls d σ' H' hE hl => ?_, rfl, hc, h⟩
    obtain ⟨C, i, nm, rfl, hp, hcl, hn, hd, q⟩ := hE
    rcases hcl with ⟨h1, hb⟩ | ⟨h1, h2, hb⟩ | ⟨h1, h2, h3, hb⟩ | ⟨h1, h2, h3, h4, hb⟩
    · refine ⟨true, h1, fun _ a na => ?_, fun z => Bool.noConfusion z⟩
      match σ', hl with
      | [x, y], _ =>
        refine ⟨.ref a, rfl, C, i, nm, rfl, rfl, hp, hn, hd, fun H2 e2 => ?_⟩
        refine ⟨by show 2 ≤ sizeLine; decide, fun m nm' => ?_⟩
        have e3 := Ex.new (o := .lst [V.str nm, .str "!"]) nm'
        exact ⟨.ref a, rfl, C, rfl, hp.ec, .ty "ValueError", .type "ValueError", true, rfl, .ty _, (hd.ex e2).ex e3, hb, true, rfl, .inr ⟨false, rfl, m, _, 0, _, rfl, rfl, SqL.of upd_same, atI_nat (j := 0) rfl, q _ (e2.trans e3)⟩⟩
    · refine ⟨false, h1, (fun z => Bool.noConfusion z), fun _ => ⟨true, h2, fun _ a na => ?_, fun z => Bool.noConfusion z⟩⟩
      match σ', hl with
      | [x, y], _ =>
        refine ⟨.ref a, rfl, C, i, nm, rfl, rfl, hp, hn, hd, fun H2 e2 => ?_⟩
        refine ⟨by show 2 ≤ sizeLine; decide, fun m nm' => ?_⟩
        have e3 := Ex.new (o := .lst [V.str nm, .str "!"]) nm'
        exact ⟨.ref a, rfl, C, rfl, hp.ec, .ty "IndexError", .type "IndexError", true, rfl, .ty _, (hd.ex e2).ex e3, hb, true, rfl, .inr ⟨false, rfl, m, _, 0, _, rfl, rfl, SqL.of upd_same, atI_nat (j := 0) rfl, q _ (e2.trans e3)⟩⟩
    · refine ⟨false, h1, (fun z => Bool.noConfusion z), fun _ => ⟨false, h2, (fun z => Bool.noConfusion z), fun _ => ⟨true, h3, fun _ a na => ?_, fun z => Bool.noConfusion z⟩⟩⟩
      match σ', hl with
      | [x, y], _ =>
        refine ⟨.ref a, rfl, C, i, nm, rfl, rfl, hp, hn, hd, fun H2 e2 => ?_⟩
        refine ⟨by show 2 ≤ sizeLine; decide, fun m nm' => ?_⟩
        have e3 := Ex.new (o := .lst [V.str nm, .str "!"]) nm'
        exact ⟨.ref a, rfl, C, rfl, hp.ec, .ty "ZeroDivisionError", .type "ZeroDivisionError", true, rfl, .ty _, (hd.ex e2).ex e3, hb, true, rfl, .inr ⟨false, rfl, m, _, 0, _, rfl, rfl, SqL.of upd_same, atI_nat (j := 0) rfl, q _ (e2.trans e3)⟩⟩
    · refine ⟨false, h1, (fun z => Bool.noConfusion z), fun _ => ⟨false, h2, (fun z => Bool.noConfusion z), fun _ => ⟨false, h3, (fun z => Bool.noConfusion z), fun _ => ⟨true, h4, fun _ a na => ?_, fun z => Bool.noConfusion z⟩⟩⟩⟩
      match σ', hl with
      | [x, y], _ =>
        refine ⟨.ref a, rfl, C, i, nm, rfl, rfl, hp, hn, hd, fun H2 e2 => ?_⟩
        refine ⟨by show 2 ≤ sizeLine; decide, fun m nm' => ?_⟩
        have e3 := Ex.new (o := .lst [V.str nm, .str "!"]) nm'
        exact ⟨.ref a, rfl, C, rfl, hp.ec, .ty "KeyError", .type "KeyError", true, rfl, .ty _, (hd.ex e2).ex e3, hb, true, rfl, .inr ⟨false, rfl, m, _, 0, _, rfl, rfl, SqL.of upd_same, atI_nat (j := 0) rfl, q _ (e2.trans e3)⟩⟩
set_option maxHeartbeats 8000000 in
theorem pe_how {X : Cx} (T : TX X.K X.mg A FD TK CC) {c Pt : Addr} {k : Nat} {params : Arguments} {body : Expr} {scope : Scope} {t : XK → TE} {p lpos pos : Pos} {Tt : List (Addr × Str)} (TB : LamX.TabB X.base X.mg c Pt) (hcode : X.env.code = .ref c) (hmT : (Pt, X.env.qual ++ "<lambda>") ∈ Tt)
    (hu : ∀ q ∈ Tt, q.1 = Pt → q.2 = X.env.qual ++ "<lambda>") (hr : Room (k + 4) X.A) (L : LamX.LamS X.env.scope scope)
    (hbody : ∀ (A' : Around) (outer : List Env) (s : Shared) (H : Hp) (E : XK) (f c' : Addr), Room (k + 2) (A'.deeper (LamX.lamEnv X scope s.heap.objs.size f c')) → PE (LamX.lamCx X A' outer s H E scope f c') body (t E))
    (hg : Gl X "_law_how" := by rfl) (hdef : defaultsOf params X.env = ([], []) := by rfl)
    (hbind : ∀ (q : Str) (cl : List (Str × Addr)) (pm cv ctv : Value), bindArgs (PySem.W.kla_fn "<lambda>" q params body scope cl pm cv ctv) ⟨[], []⟩ = pure [] := by intros; rfl) :
    PE X (.Call (.Name "_law_how" p) [.Lambda params body scope lpos] [] pos) (LamX.tLam Tt (TTHow X.K A) t) := by
  have B := T.b_l_how
  obtain ⟨oc, od, kV, doc, pm, an, cdv, ct, osl, e, lk, hcd⟩ := T.f_l_how.ex
  rw [e] at B lk
  exact LamX.pe_lamcall (k := k + 2) hg T.g_l_how T.f_l_how.kp lk hcd B sc_l_how rfl (.inl rfl) (how_gives T (k := k) (hr.mono (show k + 2 ≤ k + 4 by omega)) cdv _) TB hcode hmT hu hr L hdef hbind hbody

/-! ### numbers in figures -/
def fw : Nat → Nat → List Char
  | 0, _ => []
  | k + 1, m => fw k (m / 10) ++ [(m % 10).digitChar]
theorem fw_split : ∀ (k n : Nat), 10 ^ k ≤ n → Nat.toDigits 10 n = Nat.toDigits 10 (n / 10 ^ k) ++ fw k (n % 10 ^ k)
  | 0, n, _ => by
    rw [Nat.pow_zero, Nat.div_one, fw, List.append_nil]
  | k + 1, n, h => by
    have p10 : 10 ^ (k + 1) = 10 ^ k * 10 := Nat.pow_succ ..
    have p0 : 0 < 10 ^ k := Nat.pow_pos (by decide)
    have h10 : 10 ≤ n := by
      have : 10 ≤ 10 ^ (k + 1) := by rw [p10]; omega
      omega
    have hk : 10 ^ k ≤ n / 10 := by
      rw [Nat.le_div_iff_mul_le (by decide)]
      rw [p10] at h
      exact h
    rw [Nat.toDigits_of_base_le (by decide) h10, fw_split k (n / 10) hk, fw, Nat.div_div_eq_div_mul, show 10 * 10 ^ k = 10 ^ (k + 1) by rw [p10, Nat.mul_comm], List.append_assoc]
    have e1 : n % 10 ^ (k + 1) / 10 = n / 10 % 10 ^ k := by
      rw [p10, Nat.mul_comm (10 ^ k) 10, Nat.mod_mul_right_div_self]
    have e2 : n % 10 ^ (k + 1) % 10 = n % 10 := Nat.mod_mod_of_dvd n (by rw [p10]; exact Nat.dvd_mul_left 10 _)
    rw [e1, e2]
theorem fw_zero : ∀ k : Nat, fw k 0 = List.replicate k '0'
  | 0 => rfl
  | k + 1 => by
    rw [fw, Nat.zero_div, fw_zero k, Nat.zero_mod, List.replicate_succ']
    rfl
theorem fw_pad : ∀ (k m : Nat), m < 10 ^ (k + 1) → fw (k + 1) m = List.replicate (k + 1 - (Nat.toDigits 10 m).length) '0' ++ Nat.toDigits 10 m ∧ (Nat.toDigits 10 m).length ≤ k + 1
  | 0, m, h => by
    have h : m < 10 := by simpa using h
    rw [Nat.toDigits_of_lt_base h]
    refine ⟨?_, Nat.le_refl _⟩
    show fw 0 (m / 10) ++ [(m % 10).digitChar] = _
    rw [Nat.mod_eq_of_lt h]
    rfl
  | k + 1, m, h => by
    by_cases c : m < 10
    · rw [Nat.toDigits_of_lt_base c]
      refine ⟨?_, by rw [List.length_singleton]; omega⟩
      show fw (k + 1) (m / 10) ++ [(m % 10).digitChar] = _
      rw [Nat.mod_eq_of_lt c, Nat.div_eq_of_lt c, fw_zero]
      rfl
    · have hm : m / 10 < 10 ^ (k + 1) := by
        rw [Nat.div_lt_iff_lt_mul (by decide)]
        rw [Nat.pow_succ] at h
        exact h
      obtain ⟨e1, e2⟩ := fw_pad k (m / 10) hm
      rw [Nat.toDigits_of_base_le (by decide) (by omega)]
      refine ⟨?_, by rw [List.length_append, List.length_singleton]; omega⟩
      show fw (k + 1) (m / 10) ++ [(m % 10).digitChar] = _
      rw [e1, List.length_append, List.length_singleton, Nat.add_sub_add_right, List.append_assoc]
/-- the text of a number -/
def nS (n : Nat) : Str := ⟨((Nat.toDigits 10 n).map Char.toNat).toArray⟩
theorem nS_is (n : Nat) : Str.ofString (toString (n : Int)) = nS n := by
  rw [Int.toString_eq_repr, Int.repr_eq_if, if_pos (Int.natCast_nonneg n), Int.toNat_natCast, Nat.repr_eq_ofList_toDigits, PySem.W.Fast.ofString_ofList]
  rfl
theorem nS_tl (n : Nat) : tl (nS n) = (Nat.toDigits 10 n).map Char.toNat := rfl
theorem nS_first (n : Nat) : ∃ c r, (nS n).cps.toList = c :: r ∧ 48 ≤ c ∧ c ≤ 57 := by
  show ∃ c r, (Nat.toDigits 10 n).map Char.toNat = c :: r ∧ _
  cases e : Nat.toDigits 10 n with
  | nil => exact absurd (congrArg List.length e) (by have := Nat.length_toDigits_pos (b := 10) (n := n); rw [List.length_nil]; omega)
  | cons c r =>
    refine ⟨c.toNat, r.map Char.toNat, rfl, ?_⟩
    have hd := Nat.isDigit_of_mem_toDigits (b := 10) (n := n) (c := c) (by decide) (by decide) (by rw [e]; exact List.mem_cons_self ..)
    simp only [Char.isDigit, Bool.and_eq_true, decide_eq_true_eq] at hd
    have h1 : c.val.toNat = c.toNat := rfl
    have h2 := UInt32.le_iff_toNat_le.mp hd.1
    have h3 := UInt32.le_iff_toNat_le.mp hd.2
    rw [h1] at h2 h3
    exact ⟨by simpa using h2, by simpa using h3⟩
/-- str(part).zfill(60) -/
theorem zf_is {k m : Nat} (h : m < 10 ^ (k + 1)) : tl (Txt.zfill (nS m) ((k + 1 : Nat) : Int)) = (fw (k + 1) m).map Char.toNat := by
  obtain ⟨e1, e2⟩ := fw_pad k m h
  have hl : (nS m).length = (Nat.toDigits 10 m).length := by
    show ((Nat.toDigits 10 m).map Char.toNat).toArray.size = _
    simp
  unfold Txt.zfill
  by_cases c : ((k + 1 : Nat) : Int) ≤ ((nS m).length : Int)
  · rw [if_pos c, e1, show k + 1 - (Nat.toDigits 10 m).length = 0 by omega]
    rfl
  · rw [if_neg c]
    unfold zfilled
    obtain ⟨d, r, hd, d1, d2⟩ := nS_first m
    have h0 : (nS m).cps[0]? = some d := by
      rw [← Array.getElem?_toList, hd]
      rfl
    rw [h0]
    have e3 : (((k + 1 : Nat) : Int).toNat - (nS m).length) = k + 1 - (Nat.toDigits 10 m).length := by rw [hl]; rfl
    have e4 : (match (some d : Option Nat) with
      | some 43 => Builtin.Str.strSub (nS m) 0 1 ++ Builtin.Str.padded (Builtin.Str.strSub (nS m) 1 (nS m).length) (((k + 1 : Nat) : Int).toNat - (nS m).length) 0 48
      | some 45 => Builtin.Str.strSub (nS m) 0 1 ++ Builtin.Str.padded (Builtin.Str.strSub (nS m) 1 (nS m).length) (((k + 1 : Nat) : Int).toNat - (nS m).length) 0 48
      | _ => Builtin.Str.padded (nS m) (((k + 1 : Nat) : Int).toNat - (nS m).length) 0 48) = Builtin.Str.padded (nS m) (((k + 1 : Nat) : Int).toNat - (nS m).length) 0 48 := by
      split
      · rename_i z
        injection z with z
        omega
      · rename_i z
        injection z with z
        omega
      · rfl
    refine (congrArg tl e4).trans ?_
    rw [e3, e1]
    simp [Builtin.Str.padded, tl, nS, List.map_append, List.map_replicate]
/-- the texts of figures_of, put together -/
def cat : List Str → List Nat
  | [] => []
  | z :: r => tl z ++ cat r
theorem cat_app (a b : List Str) : cat (a ++ b) = cat a ++ cat b := by
  induction a with
  | nil => rfl
  | cons z r ih => rw [List.cons_append, cat, cat, ih, List.append_assoc]
theorem cat_join (zs : List Str) : tl (Txt.join "" zs) = cat zs := by
  rw [join_eq, tl_join]
  have e : tl (Str.ofString "") = [] := by decide +kernel
  rw [e]
  have go : ∀ ps : List (List Nat), joinL [] ps = ps.flatten := by
    intro ps
    induction ps with
    | nil => rfl
    | cons p r ih =>
      cases r with
      | nil => simp [joinL]
      | cons q r =>
        rw [joinL, ih]
        rfl
  rw [go]
  induction zs with
  | nil => rfl
  | cons z r ih => rw [List.map_cons, List.flatten_cons, ih, cat]

/-! ### figures_of -/
/-- the text of a whole number -/
def iS (z : Int) : Str := Str.ofString (toString z)
theorem iS_tl (z : Int) : tl (iS z) = (if z < 0 then [45] else []) ++ tl (nS z.natAbs) := by
  unfold iS
  by_cases h : z < 0
  · rw [if_pos h, Int.toString_eq_repr, Int.repr_eq_if, if_neg (by omega), Nat.repr_eq_ofList_toDigits, show ("-" : String) = String.ofList ['-'] from rfl, ← String.ofList_append, PySem.W.Fast.ofString_ofList, show (-z).toNat = z.natAbs by omega]
    show ((['-'] ++ Nat.toDigits 10 z.natAbs).map Char.toNat).toArray.toList = _
    rw [List.map_append]
    rfl
  · rw [if_neg h]
    have e : z = ((z.natAbs : Nat) : Int) := by omega
    rw [e, nS_is, Int.natAbs_natCast]
    rfl
abbrev B60 : Nat := 1000000000000000000000000000000000000000000000000000000000000
theorem b60 : B60 = 10 ^ (59 + 1) := by decide +kernel
theorem nS_len {n : Nat} (h : n < 2 ^ 1900) : (tl (nS n)).length ≤ 600 := by
  have h2 : n < 10 ^ (599 + 1) := Nat.lt_trans h (by decide +kernel)
  have := (fw_pad 599 n h2).2
  rw [nS_tl, List.length_map]
  omega
theorem nS_step {r : Nat} (h : B60 ≤ r) : tl (nS r) = tl (nS (r / B60)) ++ tl (Txt.zfill (nS (r % B60)) 60) := by
  have hm : r % B60 < 10 ^ (59 + 1) := by rw [← b60]; exact Nat.mod_lt _ (by decide)
  have e := zf_is hm
  rw [show (((59 + 1 : Nat) : Int)) = 60 from rfl] at e
  rw [e, nS_tl, nS_tl, ← List.map_append, b60, ← fw_split (59 + 1) r (by rw [← b60]; exact h)]
theorem zf_pos (m : Nat) : 1 ≤ (tl (Txt.zfill (nS (m % B60)) 60)).length := by
  have hm : m % B60 < 10 ^ (59 + 1) := by rw [← b60]; exact Nat.mod_lt _ (by decide)
  have e := zf_is hm
  rw [show (((59 + 1 : Nat) : Int)) = 60 from rfl] at e
  rw [e, List.length_map]
  show 1 ≤ (fw 59 _ ++ [_]).length
  rw [List.length_append, List.length_singleton]
  omega
/-- the third name's number -/
def muR : L2.St → Hp → Nat := fun σ _ => match σ with
  | [_, _, some (.int r), _] => r.toNat
  | _ => 0
theorem sum_cat : ∀ zs : List Str, (zs.map (·.length)).sum = (cat zs).length
  | [] => rfl
  | z :: r => by
    rw [List.map_cons, List.sum_cons, cat, List.length_append, sum_cat r]
    congr 1
theorem cat_rev_len : ∀ zs : List Str, (cat zs.reverse).length = (cat zs).length
  | [] => rfl
  | z :: r => by
    rw [List.reverse_cons, cat_app, List.length_append, cat_rev_len r]
    show _ + (tl z ++ []).length = (tl z ++ cat r).length
    rw [List.append_nil, List.length_append]
    omega
def spFig : Sp := fun vs H Q _ => ∃ z : Int, vs = [.int z] ∧ z.natAbs < 2 ^ 1900 ∧ ∀ H', Ex H H' → Q (.str (iS z)) H'
set_option maxHeartbeats 16000000 in
theorem ok_figs (T : TX K mg A FD TK CC) : FnOk P w K mg base CX0 1 (A 30) (FD 30) ["number"] spFig := by
  refine T.f_figures_of.ok (k := 0) sc_figures_of (fun vs H Q E h => ?_) (fun cdv A' outer s H vs Q E hr h => ?_)
  · obtain ⟨z, rfl, _⟩ := h
    rfl
  · obtain ⟨z, rfl, hz, q⟩ := h
    refine ⟨_, (pss_cons (ps_set (i := 1) sc_figures_of.nd rfl (.inl rfl) (pe_lst pa_nil))
      (pss_cons (ps_set (i := 2) sc_figures_of.nd rfl (.inl rfl) (pe_callB call_abs (by rfl) T.m_abs (by decide +kernel) (pa_cons (pv 0) pa_nil)))
      (pss_cons (ps_while PassesOwn.never (pt_cmpR op_ge (pv 2) (pe_glob (v := .int 1000000000000000000000000000000000000000000000000000000000000) (by rfl) T.c_ONE_BEYOND ⟨_, rfl⟩) (nomark _))
      (pss_cons (ps_asg (pe_callB call_divmodW (by rfl) T.m_divmod (by decide +kernel) (pa_cons (pv 2) (pa_cons (pe_glob (v := .int 1000000000000000000000000000000000000000000000000000000000000) (by rfl) T.c_ONE_BEYOND ⟨_, rfl⟩) pa_nil))) (pg_tup rfl (pgs_cons (pg_name (i := 2) sc_figures_of.nd rfl (.inl rfl)) (pgs_cons (pg_name (i := 3) sc_figures_of.nd rfl (.inl rfl)) pgs_nil))))
      (pss_one (ps_expr (pe_bm PySem.F.plainAttrs_list PySem.F.slot_list_append PySem.F.type_list_append mt_append (pv 1) (pa_cons (pe_bm PySem.F.plainAttrs_str PySem.F.slot_str_zfill PySem.F.type_str_zfill mt_zfill (pe_callTy call_str_int (by rfl) T.m_str (by decide +kernel) (pa_cons (pv 3) pa_nil)) (pa_cons (pe_glob (v := .int 60) (by rfl) T.c_FIGURES_AT_ONCE ⟨_, rfl⟩) pa_nil)) pa_nil))))))
      (pss_cons (ps_expr (pe_bm PySem.F.plainAttrs_list PySem.F.slot_list_append PySem.F.type_list_append mt_append (pv 1) (pa_cons (pe_callTy call_str_int (by rfl) T.m_str (by decide +kernel) (pa_cons (pv 2) pa_nil)) pa_nil)))
      (pss_one (ps_ret (pe_op op_add_str (pe_ifExp (pt_cmpR op_lt (pv 0) pe_int (nomark _)) pe_str pe_str) (JnR.pe_joinRev rfl pe_str (by rfl) T.m_reversed (pv 1))))))))), ?_⟩
    refine ⟨by show 0 ≤ sizeLine; decide, fun L nL => ?_⟩
    have e1 := Ex.new (o := .lst []) nL
    have hL := upd_same (H := H) (a := L) (o := .lst [])
    generalize (upd H L (.lst [])) = H1 at e1 hL ⊢
    refine ⟨.int z, rfl, z, rfl, ?_⟩
    rw [absI]
    refine while_by (fun σ' H' => ∃ (r : Nat) (zs : List Str) (o3 : Option V), σ' = [some (.int z), some (.ref L), some (.int (r : Int)), o3] ∧ H' L = some (.lst (zs.map V.str)) ∧ tl (nS z.natAbs) = tl (nS r) ++ cat zs.reverse ∧ zs.length ≤ (cat zs).length ∧ r ≤ z.natAbs ∧ Ex H H') muR ⟨z.natAbs, [], none, rfl, hL, (List.append_nil _).symm, Nat.le_refl _, Nat.le_refl _, e1⟩ (fun σ' H' p => ?_) (fun σ' H' Q Q' m h => ?_)
    · obtain ⟨r, zs, o3, rfl, hL, ht, zl, rl, e2⟩ := p
      have dl := nS_len hz
      rw [ht, List.length_append, cat_rev_len] at dl
      refine ⟨.int (r : Int), rfl, (r : Int), (B60 : Int), rfl, rfl, _, rfl, ite2 (fun c => ?_) (fun c => ?_)⟩
      · have c : (B60 : Int) ≤ (r : Int) := of_decide_eq_true c
        have c : B60 ≤ r := Int.ofNat_le.mp c
        refine ⟨.int (r : Int), rfl, (r : Int), (B60 : Int), rfl, ⟨by decide, PyProof.noPylong_of_log2 (by decide +kernel)⟩, fun t nt => ?_⟩
        have e3 := Ex.new (o := .tup [.int ((r : Int) / (B60 : Int)), .int ((r : Int) % (B60 : Int))]) nt
        have ht3 := upd_same (H := H') (a := t) (o := .tup [.int ((r : Int) / (B60 : Int)), .int ((r : Int) % (B60 : Int))])
        have hL3 := e3 _ _ hL
        generalize (upd H' t (.tup [.int ((r : Int) / (B60 : Int)), .int ((r : Int) % (B60 : Int))])) = H3 at e3 ht3 hL3 ⊢
        refine ⟨t, _, rfl, SqT.of ht3, rfl, _, _, rfl, _, _, rfl, rfl, ?_⟩
        have rl2 : r % B60 < B60 := Nat.mod_lt _ (by decide)
        have lg : ((r : Int) % (B60 : Int)).natAbs.log2 < 1920 := by
          have : ((r : Int) % (B60 : Int)).natAbs < 2 ^ 200 := by
            rw [← Int.natCast_emod, Int.natAbs_natCast]
            exact Nat.lt_trans rl2 (by decide +kernel)
          exact Nat.lt_of_lt_of_le (PySem.Flt.log2_lt_of (by decide) this) (by decide)
        refine ⟨.ref L, rfl, .inl ⟨rfl, _, SqL.of hL3⟩, .int ((r : Int) % (B60 : Int)), rfl, (r : Int) % (B60 : Int), rfl, lg, rfl, _, 60, rfl, rfl, by decide +kernel, ?_⟩
        rw [← Int.natCast_emod, nS_is, ← Int.natCast_ediv]
        refine ⟨L, zs.map V.str, .str (Txt.zfill (nS (r % B60)) 60), rfl, rfl, hL3, ?_, ⟨r / B60, zs ++ [Txt.zfill (nS (r % B60)) 60], some (.int ((r % B60 : Nat) : Int)), rfl, ?_, ?_, ?_, ?_, ?_⟩, ?_⟩
        · rw [List.length_map]
          exact sz_lt (by omega)
        · rw [upd_same, List.map_append]
          rfl
        · rw [ht, nS_step c, List.reverse_append, List.append_assoc]
          rfl
        · rw [List.length_append, cat_app, List.length_append, List.length_singleton]
          have := zf_pos r
          show _ ≤ _ + (tl (Txt.zfill (nS (r % B60)) 60) ++ []).length
          rw [List.append_nil]
          omega
        · exact Nat.le_trans (Nat.div_le_self _ _) rl
        · exact Ex.mut (e2.trans e3) nL
        · show ((r / B60 : Nat) : Int).toNat < (r : Int).toNat
          rw [Int.toNat_natCast, Int.toNat_natCast]
          exact Nat.div_lt_self (by omega) (by decide)
      · have rz : ((r : Int)).natAbs.log2 < 1920 := by
          rw [Int.natAbs_natCast]
          exact Nat.lt_of_lt_of_le (PySem.Flt.log2_lt_of (by decide) (Nat.lt_of_le_of_lt rl hz)) (by decide)
        refine ⟨.ref L, rfl, .inl ⟨rfl, _, SqL.of hL⟩, .int (r : Int), rfl, (r : Int), rfl, rz, ?_⟩
        rw [nS_is]
        refine ⟨L, zs.map V.str, .str (nS r), rfl, rfl, hL, ?_, ?_⟩
        · rw [List.length_map]
          exact sz_lt (by omega)
        have e4 := Ex.mut (o := .lst (zs.map V.str ++ [V.str (nS r)])) e2 nL
        have hL4 : (upd H' L (.lst (zs.map V.str ++ [V.str (nS r)]))) L = some (.lst ((zs ++ [nS r]).map V.str)) := by
          rw [upd_same, List.map_append]
          rfl
        generalize (upd H' L (.lst (zs.map V.str ++ [V.str (nS r)]))) = H4 at e4 hL4 ⊢
        have jl : ((zs ++ [nS r]).map (·.length)).sum + (zs ++ [nS r]).length * (Str.ofString "").length ≤ 16777216 := by
          rw [sum_cat, cat_app, List.length_append, show (Str.ofString "").length = 0 by decide +kernel, Nat.mul_zero]
          show _ + (tl (nS r) ++ []).length + 0 ≤ _
          rw [List.append_nil]
          omega
        have jt : tl (Txt.join "" (zs ++ [nS r]).reverse) = tl (nS z.natAbs) := by
          rw [cat_join, List.reverse_append, ht]
          rfl
        have jz : (Txt.join "" (zs ++ [nS r]).reverse).length ≤ 600 := by
          have := congrArg List.length jt
          have h2 := nS_len hz
          have h3 : (tl (Txt.join "" (zs ++ [nS r]).reverse)).length = (Txt.join "" (zs ++ [nS r]).reverse).length := by simp [tl, Str.length]
          omega
        refine ⟨.int z, rfl, z, 0, rfl, rfl, _, rfl, ite2 (fun c => ?_) (fun c => ?_)⟩
        · have c : z < 0 := of_decide_eq_true c
          refine ⟨⟨_, rfl⟩, .ref L, rfl, "", L, zs ++ [nS r], rfl, rfl, SqL.of hL4, jl, "-", _, rfl, rfl, ?_, ?_⟩
          · rw [show (Str.ofString "-").length = 1 by decide +kernel]
            exact sz (by omega)
          · have e : Str.ofString "-" ++ Txt.join "" (zs ++ [nS r]).reverse = iS z := by
              refine ext_tl ?_
              rw [tl_append, jt, iS_tl, if_pos c]
              rfl
            rw [e]
            exact q _ e4
        · have c : ¬ z < 0 := fun h => c (decide_eq_true h)
          refine ⟨⟨_, rfl⟩, .ref L, rfl, "", L, zs ++ [nS r], rfl, rfl, SqL.of hL4, jl, "", _, rfl, rfl, ?_, ?_⟩
          · rw [show (Str.ofString "").length = 0 by decide +kernel]
            exact sz (by omega)
          · have e : Str.ofString "" ++ Txt.join "" (zs ++ [nS r]).reverse = iS z := by
              refine ext_tl ?_
              rw [tl_append, jt, iS_tl, if_neg c]
              rfl
            rw [e]
            exact q _ e4
    · obtain ⟨v, hv, i, j, e1, e2, k, hk, hq⟩ := h
      exact ⟨v, hv, i, j, e1, e2, k, hk, m _ _ hq⟩

/-! ### Ratio, of any things -/
def Rt (C : Addr) (H : Hp) (a : Addr) (t b : Int) : Prop := ∃ dx, H a = some (.ins C dx [("top", .int t), ("bottom", .int b)])
theorem Rt.ex {C : Addr} {H H' : Hp} {a : Addr} {t b : Int} (h : Rt C H a t b) (e : Ex H H') : Rt C H' a t b := by
  obtain ⟨dx, h⟩ := h
  exact ⟨dx, e _ _ h⟩
/-- all but x stays -/
def ExI (x : Addr) (H H' : Hp) : Prop := ∀ b o, b ≠ x → H b = some o → H' b = some o
abbrev tooG : Int := 1000000000000000000000000000000000000000000000000000000000000000000000000000000000000000000000000000000000000000000000000000000000000000000000000000000000000000000000000000000000000000000000000000000000000000000000000000000000000000000000000000000000000000000000000000000000000000000000000000000000000
abbrev tooN : Nat := 1000000000000000000000000000000000000000000000000000000000000000000000000000000000000000000000000000000000000000000000000000000000000000000000000000000000000000000000000000000000000000000000000000000000000000000000000000000000000000000000000000000000000000000000000000000000000000000000000000000000000
theorem tooN_lt : tooN < 2 ^ 1000 := by decide +kernel
theorem tooG_le (n : Nat) : tooG ≤ (n : Int) ↔ tooN ≤ n := Int.ofNat_le (m := tooN) (n := n)
inductive Th (H : Hp) : V → Prop
  | str (z : Str) : Th H (.str z)
  | non : Th H .non
  | bl (b : Bool) : Th H (.bl b)
  | int (i : Int) : Th H (.int i)
  | lst {a : Addr} {xs : List V} (h : H a = some (.lst xs)) : Th H (.ref a)
  | tup {a : Addr} {xs : List V} (h : H a = some (.tup xs)) : Th H (.ref a)
theorem Th.ex {H H' : Hp} {v : V} (t : Th H v) (e : Ex H H') : Th H' v := by
  cases t with
  | str z => exact .str z
  | non => exact .non
  | bl b => exact .bl b
  | int i => exact .int i
  | lst h => exact .lst (e _ _ h)
  | tup h => exact .tup (e _ _ h)
def wholeV : V → Bool
  | .int _ => true
  | _ => false
theorem Th.whole (K : PySem.W.Frag) {H : Hp} {v : V} (t : Th H v) : (∃ i, v = .int i) ∨ (∃ b, v = .bl b) ∨ (∃ ty, TyX K H v (.type ty) ∧ kitB ty "int" = some false ∧ wholeV v = false) := by
  cases t with
  | str z => exact .inr (.inr ⟨_, .base (.str z), by decide +kernel, rfl⟩)
  | non => exact .inr (.inr ⟨_, .base .non, by decide +kernel, rfl⟩)
  | bl b => exact .inr (.inl ⟨b, rfl⟩)
  | int i => exact .inl ⟨i, rfl⟩
  | lst h => exact .inr (.inr ⟨_, .base (.lst h), by decide +kernel, rfl⟩)
  | tup h => exact .inr (.inr ⟨_, .base (.tup h), by decide +kernel, rfl⟩)
def spWhole : Sp := fun vs H Q _ => ∃ v : V, vs = [v] ∧ Th H v ∧ Q (.bl (wholeV v)) H
set_option maxHeartbeats 4000000 in
theorem ok_is_whole (T : TX K mg A FD TK CC) : FnOk P w K mg base CX0 1 (A 22) (FD 22) ["thing"] spWhole := by
  refine T.f_is_whole.ok sc_is_whole (fun vs H Q E h => ?_) (fun cdv A' outer s H vs Q E hr h => ?_)
  · obtain ⟨v, rfl, _⟩ := h
    rfl
  · obtain ⟨v, rfl, ht, q⟩ := h
    refine ⟨_, (pss_one (ps_ret (pe_and (pe_callB (isiK (K := K) rfl) (by rfl) T.m_isinstance (by decide +kernel) (pa_cons (pv 0) (pa_cons (pe_bltn (v := .ty "int") (by rfl) T.m_int (by decide +kernel) rfl) pa_nil))) (pe_one (pe_not (pe_callB (isiK (K := K) rfl) (by rfl) T.m_isinstance (by decide +kernel) (pa_cons (pv 0) (pa_cons (pe_bltn (v := .ty "bool") (by rfl) T.m_bool (by decide +kernel) rfl) pa_nil)))))))), ?_⟩
    rcases ht.whole K with ⟨i, rfl⟩ | ⟨b, rfl⟩ | ⟨ty, t1, t2, t3⟩
    · refine ⟨.int i, rfl, .int i, .ty "int", .type "int", .type "int", true, rfl, .ty _, .base (.int i), kit_ty (by decide +kernel), true, rfl, ?_⟩
      exact ⟨.int i, rfl, .int i, .ty "bool", .type "int", .type "bool", false, rfl, .ty _, .base (.int i), kit_ty (by decide +kernel), false, rfl, q⟩
    · refine ⟨.bl b, rfl, .bl b, .ty "int", .type "bool", .type "int", true, rfl, .ty _, .base (.bl b), kit_ty (by decide +kernel), true, rfl, ?_⟩
      exact ⟨.bl b, rfl, .bl b, .ty "bool", .type "bool", .type "bool", true, rfl, .ty _, .base (.bl b), kit_ty (by decide +kernel), true, rfl, q⟩
    · rw [t3] at q
      exact ⟨v, rfl, v, .ty "int", .type ty, .type "int", false, rfl, .ty _, t1, kit_ty t2, false, rfl, q⟩
def figOk : V → Bool
  | .int z => decide (z.natAbs < tooN)
  | _ => false
theorem figOk_lt {z : Int} (h : figOk (.int z) = true) : z.natAbs < 2 ^ 1000 := Nat.lt_trans (of_decide_eq_true h) tooN_lt
def spFigsX (N : Addr) : Sp := fun vs H Q E => ∃ v : V, vs = [v] ∧ Th H v ∧ (figOk v = false → E (.ref N) none H) ∧ (figOk v = true → Q .non H)
set_option maxHeartbeats 4000000 in
theorem ok_check_figures (T : TX K mg A FD TK CC) : FnOk P w K mg base (L2.CX P w) 2 (A 29) (FD 29) ["number"] (spFigsX (A 5)) := by
  have G_is_whole := ok_is_whole (P := P) (w := w) (base := base) T
  refine T.f_check_figures.okX (k := 1) sc_check_figures (fun vs H Q E h => ?_) (fun cdv A' outer s H vs Q E hr h => ?_)
  · obtain ⟨v, rfl, _⟩ := h
    rfl
  · obtain ⟨v, rfl, ht, q1, q2⟩ := h
    refine ⟨_, (pss_one (ps_if (PW.pt (pw_or (pt_not (pt_val (pe_call G_is_whole hr (by rfl) T.g_is_whole T.f_is_whole.kp T.b_is_whole .nil pass0 (pa_cons (pv 0) pa_nil)))) (pw_or1 (pt_cmpR op_ge (pe_callB call_abs (by rfl) T.m_abs (by decide +kernel) (pa_cons (pv 0) pa_nil)) (pe_glob (v := .int 1000000000000000000000000000000000000000000000000000000000000000000000000000000000000000000000000000000000000000000000000000000000000000000000000000000000000000000000000000000000000000000000000000000000000000000000000000000000000000000000000000000000000000000000000000000000000000000000000000000000000) (by rfl) T.c_TOO_GREAT ⟨_, rfl⟩) (nomark _)))))
      (pss_one (ps_raise rfl (takes_of rfl rfl rfl rfl) (pmk_own PySem.F.excBase_ValueError T.x_NoNumber T.k_NoNumber T.kc_NoNumber (raises_own T.br_NoNumber T.ty_NoNumber) rfl)))
      pss_nil)), ?_⟩
    refine ⟨v, rfl, v, rfl, ht, ?_⟩
    cases v with
    | int z =>
      refine ⟨true, rfl, .int z, rfl, z, rfl, ?_⟩
      rw [absI]
      refine ⟨_, _, rfl, rfl, _, rfl, ite2 (fun c => ?_) (fun c => ?_)⟩
      · have c : tooG ≤ (z.natAbs : Int) := of_decide_eq_true c
        exact q1 (decide_eq_false (Nat.not_lt.mpr ((tooG_le _).mp c)))
      · have c : ¬ tooG ≤ (z.natAbs : Int) := fun h => c (decide_eq_true h)
        exact q2 (decide_eq_true (Nat.not_le.mp fun h => c ((tooG_le _).mpr h)))
    | _ => exact ⟨false, rfl, q1 rfl⟩
def spInit (C N R : Addr) : Sp := fun vs H Q E => ∃ (x dx : Addr) (t b : V), vs = [.ref x, t, b] ∧ H x = some (.ins C dx []) ∧ Th H t ∧ Th H b ∧ (figOk t = false → E (.ref N) none H) ∧ (figOk t = true → figOk b = false → E (.ref N) none H) ∧ (figOk t = true → b = .int 0 → E (.ref R) none H) ∧
  ∀ tz bz : Int, t = .int tz → b = .int bz → figOk t = true → figOk b = true → bz ≠ 0 → ∀ H', ExI x H H' → Rt C H' x (lwT tz bz) (lwB tz bz) → Q .non H'
set_option maxHeartbeats 8000000 in
theorem ok_init (T : TX K mg A FD TK CC) : FnOk P w K mg base (L2.CX P w) 3 (A 42) (FD 42) ["self", "top", "bottom"] (spInit (A 27) (A 5) (A 18)) := by
  have G_check_figures := ok_check_figures (P := P) (w := w) (base := base) T
  have G_lowest := (ok_lowest (P := P) (w := w) (base := base) T).mono (show 1 ≤ 2 by decide)
  refine T.f_Ratio_init.ok (k := 2) sc_Ratio_init (fun vs H Q E h => ?_) (fun cdv A' outer s H vs Q E hr h => ?_)
  · obtain ⟨x, dx, t, b, rfl, _⟩ := h
    rfl
  · obtain ⟨x, dx, t, b, rfl, hx, ht, hb, q1, q2, q3, q4⟩ := h
    refine ⟨_, (pss_cons (ps_expr (pe_call G_check_figures hr (by rfl) T.g_check_figures T.f_check_figures.kp T.b_check_figures .nil (passes_call (takes_of rfl rfl rfl rfl) (fun _ _ _ _ h => h)) (pa_cons (pv 1) pa_nil)))
      (pss_cons (ps_expr (pe_call G_check_figures hr (by rfl) T.g_check_figures T.f_check_figures.kp T.b_check_figures .nil (passes_call (takes_of rfl rfl rfl rfl) (fun _ _ _ _ h => h)) (pa_cons (pv 2) pa_nil)))
      (pss_cons (ps_if (pt_cmpR op_eq (pv 2) pe_int (nomark _))
      (pss_one (ps_raise rfl (takes_of rfl rfl rfl rfl) (pmk_own PySem.F.excBase_ZeroDivisionError T.x_NoRatio T.k_NoRatio T.kc_NoRatio (raises_own T.br_NoRatio T.ty_NoRatio) rfl)))
      pss_nil)
      (pss_one (ps_asg (pe_call G_lowest hr (by rfl) T.g_lowest T.f_lowest.kp T.b_lowest .nil pass0 (pa_cons (pv 1) (pa_cons (pv 2) pa_nil))) (pg_tup rfl (pgs_cons (pg_fld (pv 0)) (pgs_cons (pg_fld (pv 0)) pgs_nil)))))))), ?_⟩
    refine ⟨t, rfl, t, rfl, ht, q1, fun ft => ?_⟩
    refine ⟨b, rfl, b, rfl, hb, q2 ft, fun fb => ?_⟩
    obtain ⟨tz, rfl⟩ : ∃ tz, t = .int tz := by
      cases t with
      | int z => exact ⟨z, rfl⟩
      | _ => cases ft
    obtain ⟨bz, rfl⟩ : ∃ bz, b = .int bz := by
      cases b with
      | int z => exact ⟨z, rfl⟩
      | _ => cases fb
    refine ⟨.int bz, rfl, rfl, _, rfl, ite2 (fun c => ?_) (fun c => ?_)⟩
    · have c : V.int bz = V.int 0 := of_decide_eq_true c
      exact q3 ft c
    have b0 : bz ≠ 0 := fun z => c (decide_eq_true (by rw [z]))
    have l1 := figOk_lt ft
    have l2 := figOk_lt fb
    refine ⟨.int tz, rfl, .int bz, rfl, tz, bz, rfl, b0, lt2 l1 (by decide), lt2 l2 (by decide), fun l nl => ?_⟩
    have nlx : x ≠ l := ne_of_none hx nl
    have hx1 : (upd H l (.tup [.int (lwT tz bz), .int (lwB tz bz)])) x = some (.ins (A 27) dx []) := by rw [upd_ne nlx]; exact hx
    refine ⟨l, _, rfl, SqT.of upd_same, rfl, _, _, rfl, .ref x, rfl, x, A 27, dx, [], rfl, hx1, T.cl_Ratio, T.n_Ratio_top, (by show 0 < 1000; decide), ?_⟩
    refine ⟨_, _, rfl, .ref x, rfl, x, A 27, dx, _, rfl, upd_same, T.cl_Ratio, T.n_Ratio_bottom, (by show 1 < 1000; decide), rfl, ?_⟩
    refine q4 tz bz rfl rfl ft fb b0 _ (fun c o nc h => ?_) ⟨dx, upd_same⟩
    rw [upd_ne nc, upd_ne nc, upd_ne (ne_of_none h nl)]
    exact h
/-! ### ==, str, repr of a ratio -/
/-- a thing of another class -/
def Else (K : PySem.W.Frag) (C : Addr) (H : Hp) (y : V) : Prop := ∃ τ, TyX K H y τ ∧ PySem.W.kitOne K τ (.ref C) = some false
def spREq (K : PySem.W.Frag) (C : Addr) : Sp := fun vs H Q _ => ∃ (a : Addr) (t b : Int) (y : V), vs = [.ref a, y] ∧ Rt C H a t b ∧ ((∃ c u d, y = .ref c ∧ Rt C H c u d ∧ Q (.bl (decide (t = u) && decide (b = d))) H) ∨ (Else K C H y ∧ Q (.bl false) H))
theorem dI (x y : Int) : decide (V.int x = V.int y) = decide (x = y) := decide_eq_decide.mpr ⟨fun h => V.int.inj h, fun h => by rw [h]⟩
set_option maxHeartbeats 8000000 in
theorem ok_req (T : TX K mg A FD TK CC) : FnOk P w K mg base CX0 1 (A 43) (FD 43) ["self", "other"] (spREq K (A 27)) := by
  refine T.f_Ratio_eq.ok (k := 0) sc_Ratio_eq (fun vs H Q E h => ?_) (fun cdv A' outer s H vs Q E hr h => ?_)
  · obtain ⟨a, t, b, y, rfl, _⟩ := h
    rfl
  · obtain ⟨a, t, b, y, rfl, ⟨da, ha⟩, hy⟩ := h
    refine ⟨_, (pss_one (ps_ret (pe_and (pe_callB (isiK (K := K) rfl) (by rfl) T.m_isinstance (by decide +kernel) (pa_cons (pv 1) (pa_cons (pe_glob (v := .ref (A 27)) (by rfl) T.k_Ratio rfl) pa_nil))) (pe_and (pe_cmpR op_eq (fldK (K := K) rfl (pv 0) rfl) (fldK (K := K) rfl (pv 1) rfl) (nomark _)) (pe_one (pe_cmpR op_eq (fldK (K := K) rfl (pv 0) rfl) (fldK (K := K) rfl (pv 1) rfl) (nomark _))))))), ?_⟩
    rcases hy with ⟨c, u, d, rfl, ⟨dc, hc⟩, q⟩ | ⟨⟨τ, ht, hk⟩, q⟩
    · refine ⟨.ref c, rfl, .ref c, .ref (A 27), _, .ref (A 27), true, rfl, .own _, .base (.ins hc T.cl_Ratio T.ciQ T.cs T.ct T.moQ), T.kQ, true, rfl, iteT ?_⟩
      refine ⟨.ref a, rfl, a, _, da, _, _, rfl, ha, T.cl_Ratio, T.n_Ratio_top, rfl, .ref c, rfl, c, _, dc, _, _, rfl, hc, T.cl_Ratio, T.n_Ratio_top, rfl, rfl, _, rfl, ite2 (fun e => ?_) (fun e => ?_)⟩
      · rw [dI] at e
        rw [e, Bool.true_and] at q
        refine ⟨.ref a, rfl, a, _, da, _, _, rfl, ha, T.cl_Ratio, T.n_Ratio_bottom, rfl, .ref c, rfl, c, _, dc, _, _, rfl, hc, T.cl_Ratio, T.n_Ratio_bottom, rfl, rfl, ?_⟩
        rw [dI]
        exact q
      · rw [dI] at e
        rw [Bool.eq_false_iff.mpr e, Bool.false_and] at q
        exact q
    · exact ⟨y, rfl, y, .ref (A 27), _, .ref (A 27), false, rfl, .own _, ht, hk, false, rfl, q⟩
theorem iS_len {z : Int} (h : z.natAbs < 2 ^ 1900) : (iS z).length ≤ 601 := by
  have h2 := nS_len h
  have h3 : (tl (iS z)).length = (iS z).length := by simp [tl, Str.length]
  rw [← h3, iS_tl, List.length_append]
  split
  · rw [List.length_singleton]; omega
  · rw [List.length_nil]; omega
theorem slen (x y : Str) : (x ++ y).length = x.length + y.length := by
  have h : ∀ z : Str, (tl z).length = z.length := fun z => by simp [tl, Str.length]
  rw [← h, ← h, ← h, tl_append, List.length_append]
theorem emp_add (x : Str) : Str.empty ++ x = x := ext_tl (by rw [tl_append]; rfl)
def shw (t b : Int) : Str := if b = 1 then iS t else iS t ++ "/" ++ iS b
def rpr (t b : Int) : Str := "Ratio(" ++ iS t ++ ", " ++ iS b ++ ")"
def spRStr (C : Addr) (f : Int → Int → Str) : Sp := fun vs H Q _ => ∃ (a : Addr) (t b : Int), vs = [.ref a] ∧ Rt C H a t b ∧ t.natAbs < 2 ^ 1900 ∧ b.natAbs < 2 ^ 1900 ∧ ∀ H', Ex H H' → Q (.str (f t b)) H'
set_option maxHeartbeats 8000000 in
theorem ok_rstr (T : TX K mg A FD TK CC) : FnOk P w K mg base CX0 2 (A 44) (FD 44) ["self"] (spRStr (A 27) shw) := by
  have G_figures_of := ok_figs (P := P) (w := w) (base := base) T
  refine T.f_Ratio_str.ok (k := 1) sc_Ratio_str (fun vs H Q E h => ?_) (fun cdv A' outer s H vs Q E hr h => ?_)
  · obtain ⟨a, t, b, rfl, _⟩ := h
    rfl
  · obtain ⟨a, t, b, rfl, ⟨da, ha⟩, lt, lb, q⟩ := h
    refine ⟨_, (pss_cons (ps_if (pt_cmpR op_eq (fldK (K := K) rfl (pv 0) rfl) pe_int (nomark _))
      (pss_one (ps_ret (pe_joined1 (pe_fmt (pe_call G_figures_of hr (by rfl) T.g_figures_of T.f_figures_of.kp T.b_figures_of .nil pass0 (pa_cons (fldK (K := K) rfl (pv 0) rfl) pa_nil))))))
      pss_nil)
      (pss_one (ps_ret (pe_joined (PJ.cons (pe_fmt (pe_call G_figures_of hr (by rfl) T.g_figures_of T.f_figures_of.kp T.b_figures_of .nil pass0 (pa_cons (fldK (K := K) rfl (pv 0) rfl) pa_nil))) (PJ.cons pe_str (PJ.cons (pe_fmt (pe_call G_figures_of hr (by rfl) T.g_figures_of T.f_figures_of.kp T.b_figures_of .nil pass0 (pa_cons (fldK (K := K) rfl (pv 0) rfl) pa_nil))) PJ.nil))))))), ?_⟩
    refine ⟨.ref a, rfl, a, _, da, _, _, rfl, ha, T.cl_Ratio, T.n_Ratio_bottom, rfl, rfl, _, rfl, ite2 (fun e => ?_) (fun e => ?_)⟩
    · rw [dI] at e
      refine ⟨.ref a, rfl, a, _, da, _, _, rfl, ha, T.cl_Ratio, T.n_Ratio_top, rfl, t, rfl, lt, fun H1 e1 => ?_⟩
      refine .inl ⟨iS t, rfl, sz (by have := iS_len lt; omega), ?_⟩
      have := q H1 e1
      unfold shw at this
      rw [if_pos (of_decide_eq_true e)] at this
      exact this
    · rw [dI] at e
      refine ⟨.ref a, rfl, a, _, da, _, _, rfl, ha, T.cl_Ratio, T.n_Ratio_top, rfl, t, rfl, lt, fun H1 e1 => ?_⟩
      have l1 := iS_len lt
      have l2 := iS_len lb
      refine .inl ⟨iS t, rfl, sz (by omega), iS t, rfl, ?_, "/", rfl, ?_, .ref a, rfl, a, _, da, _, _, rfl, e1 _ _ ha, T.cl_Ratio, T.n_Ratio_bottom, rfl, b, rfl, lb, fun H2 e2 => .inl ⟨iS b, rfl, sz (by omega), iS b, rfl, ?_, ?_⟩⟩
      · rw [slen, show Str.empty.length = 0 from rfl]
        exact sz (by omega)
      · rw [slen, slen, show Str.empty.length = 0 from rfl, show (Str.ofString "/").length = 1 by decide +kernel]
        exact sz (by omega)
      · rw [slen, slen, slen, show Str.empty.length = 0 from rfl, show (Str.ofString "/").length = 1 by decide +kernel]
        exact sz (by omega)
      · have := q H2 (e1.trans e2)
        unfold shw at this
        rw [if_neg (fun z => e (decide_eq_true z))] at this
        rw [emp_add]
        exact this
set_option maxHeartbeats 8000000 in
theorem ok_rrepr (T : TX K mg A FD TK CC) : FnOk P w K mg base CX0 2 (A 45) (FD 45) ["self"] (spRStr (A 27) rpr) := by
  have G_figures_of := ok_figs (P := P) (w := w) (base := base) T
  refine T.f_Ratio_repr.ok (k := 1) sc_Ratio_repr (fun vs H Q E h => ?_) (fun cdv A' outer s H vs Q E hr h => ?_)
  · obtain ⟨a, t, b, rfl, _⟩ := h
    rfl
  · obtain ⟨a, t, b, rfl, ⟨da, ha⟩, lt, lb, q⟩ := h
    refine ⟨_, (pss_one (ps_ret (pe_joined (PJ.cons pe_str (PJ.cons (pe_fmt (pe_call G_figures_of hr (by rfl) T.g_figures_of T.f_figures_of.kp T.b_figures_of .nil pass0 (pa_cons (fldK (K := K) rfl (pv 0) rfl) pa_nil))) (PJ.cons pe_str (PJ.cons (pe_fmt (pe_call G_figures_of hr (by rfl) T.g_figures_of T.f_figures_of.kp T.b_figures_of .nil pass0 (pa_cons (fldK (K := K) rfl (pv 0) rfl) pa_nil))) (PJ.cons pe_str PJ.nil)))))))), ?_⟩
    have l1 := iS_len lt
    have l2 := iS_len lb
    have m1 : (Str.ofString "Ratio(").length = 6 := by decide +kernel
    have m2 : (Str.ofString ", ").length = 2 := by decide +kernel
    have m3 : (Str.ofString ")").length = 1 := by decide +kernel
    have m0 : Str.empty.length = 0 := rfl
    refine ⟨"Ratio(", rfl, ?_, .ref a, rfl, a, _, da, _, _, rfl, ha, T.cl_Ratio, T.n_Ratio_top, rfl, t, rfl, lt, fun H1 e1 => .inl ⟨iS t, rfl, sz (by omega), iS t, rfl, ?_, ", ", rfl, ?_, .ref a, rfl, a, _, da, _, _, rfl, e1 _ _ ha, T.cl_Ratio, T.n_Ratio_bottom, rfl, b, rfl, lb, fun H2 e2 => .inl ⟨iS b, rfl, sz (by omega), iS b, rfl, ?_, ")", rfl, ?_, ?_⟩⟩⟩
    · rw [slen, m0, m1]
      exact sz (by omega)
    · rw [slen, slen, m0, m1]
      exact sz (by omega)
    · rw [slen, slen, slen, m0, m1, m2]
      exact sz (by omega)
    · rw [slen, slen, slen, slen, m0, m1, m2]
      exact sz (by omega)
    · rw [slen, slen, slen, slen, slen, m0, m1, m2, m3]
      exact sz (by omega)
    · have := q H2 (e1.trans e2)
      unfold rpr at this
      rw [emp_add]
      exact this

/-! ### the law's own looks -/
theorem pairS (t b : Int) : SeqAt.shaped (.tuple [.int t, .int b]) = true := by
  unfold SeqAt.shaped
  simp [PyData.canLay0, PyData.canLayAll0, PyData.depth, PyData.depthAll]
theorem pairE (t b : Int) : PyData.eqv (.tuple [.int t, .int b]) (.tuple [.int t, .int b]) = true := SeqAt.eqv_refl _ (SeqAt.canLay_of_shaped (pairS t b))
def spIsRatio (K : PySem.W.Frag) (C : Addr) : Sp := fun vs H Q _ => ∃ (a c : Addr) (t b : Int), vs = [.ref a, .ref c] ∧ Rt C H a t b ∧ SqT K H c [.int t, .int b] ∧ ∀ H', Ex H H' → Q (.bl true) H'
set_option maxHeartbeats 4000000 in
theorem ok_l_is_ratio (T : TX K mg A FD TK CC) : FnOk P w K mg base CX0 1 (A 35) (FD 35) ["_law_told", "_law_due"] (spIsRatio K (A 27)) := by
  refine T.f_l_is_ratio.ok sc_l_is_ratio (fun vs H Q E h => ?_) (fun cdv A' outer s H vs Q E hr h => ?_)
  · obtain ⟨a, c, t, b, rfl, _⟩ := h
    rfl
  · obtain ⟨a, c, t, b, rfl, ⟨da, ha⟩, hc, q⟩ := h
    refine ⟨_, (pss_cons (ps_for PassesOwn.never rfl (piTK (K := K) rfl (pe_tup (pa_cons (fldK (K := K) rfl (pv 0) rfl) (pa_cons (fldK (K := K) rfl (pv 0) rfl) pa_nil)))) (pg_name (i := 2) sc_l_is_ratio.nd rfl (.inl rfl))
      (pss_one (ps_if (PW.pt (pw_or (pt_not (pt_val (pe_callB (isiK (K := K) rfl) (by rfl) T.m_isinstance (by decide +kernel) (pa_cons (pv 2) (pa_cons (pe_bltn (v := .ty "int") (by rfl) T.m_int (by decide +kernel) rfl) pa_nil))))) (pw_or1 (pt_val (pe_callB (isiK (K := K) rfl) (by rfl) T.m_isinstance (by decide +kernel) (pa_cons (pv 2) (pa_cons (pe_bltn (v := .ty "bool") (by rfl) T.m_bool (by decide +kernel) rfl) pa_nil)))))))
      (pss_one (ps_ret pe_bl))
      pss_nil)))
      (pss_one (ps_ret (pe_cmpR (eqDK (K := K) rfl hr.units) (pe_tup (pa_cons (fldK (K := K) rfl (pv 0) rfl) (pa_cons (fldK (K := K) rfl (pv 0) rfl) pa_nil))) (pv 1) (nomark _))))), ?_⟩
    refine ⟨.ref a, rfl, a, _, da, _, _, rfl, ha, T.cl_Ratio, T.n_Ratio_top, rfl, .ref a, rfl, a, _, da, _, _, rfl, ha, T.cl_Ratio, T.n_Ratio_bottom, rfl, by show 2 ≤ sizeLine; decide, fun p np => ?_⟩
    refine ⟨p, rfl, ⟨_, SqT.of upd_same⟩, ?_⟩
    have e1 : Ex H (upd H p (.tup [.int t, .int b])) := Ex.new np
    refine for_tup (K := K) (xs := [.int t, .int b]) (fun i σ' H' => ∃ y : Option V, σ' = [some (.ref a), some (.ref c), y] ∧ Ex (upd H p (.tup [.int t, .int b])) H') ⟨none, rfl, Ex.refl _⟩ (fun i σ' H' _ pv => ?_) (fun i x σ' H' gx pv => ?_) (fun σ' H' pv => ?_)
    · obtain ⟨y, _, e2⟩ := pv
      exact SqT.of (e2 _ _ upd_same)
    · obtain ⟨y, rfl, e2⟩ := pv
      obtain ⟨z, rfl⟩ : ∃ z : Int, x = .int z := by
        have hx := List.mem_of_getElem? gx
        simp only [List.mem_cons, List.not_mem_nil, or_false] at hx
        rcases hx with rfl | rfl
        · exact ⟨_, rfl⟩
        · exact ⟨_, rfl⟩
      refine ⟨.int z, rfl, .int z, .ty "int", .type "int", .type "int", true, rfl, .ty _, .base (.int z), kit_ty (by decide +kernel), true, rfl, ?_⟩
      exact ⟨.int z, rfl, .int z, .ty "bool", .type "int", .type "bool", false, rfl, .ty _, .base (.int z), kit_ty (by decide +kernel), false, rfl, some (.int z), rfl, e2⟩
    · obtain ⟨y, rfl, e2⟩ := pv
      have e3 := e1.trans e2
      refine ⟨.ref a, rfl, a, _, da, _, _, rfl, e3 _ _ ha, T.cl_Ratio, T.n_Ratio_top, rfl, .ref a, rfl, a, _, da, _, _, rfl, e3 _ _ ha, T.cl_Ratio, T.n_Ratio_bottom, rfl, by show 2 ≤ sizeLine; decide, fun p2 np2 => ?_⟩
      have e4 := e3.trans (Ex.new (o := .tup [.int t, .int b]) np2)
      refine ⟨.ref c, rfl, _, _, .tup (SqT.of upd_same) (.cons (.int t) (.cons (.int b) .nil)), .tup (ex_t e4 hc) (.cons (.int t) (.cons (.int b) .nil)), pairS t b, pairS t b, ?_⟩
      rw [pairE]
      exact q _ e4
def spShown (K : PySem.W.Frag) : Sp := fun vs H Q _ => ∃ (a : Addr) (t b : Int), vs = [.ref a] ∧ SqT K H a [.int t, .int b] ∧ t.natAbs < 2 ^ 1900 ∧ b.natAbs < 2 ^ 1900 ∧ Q (.str (shw t b)) H
theorem lg19 {z : Int} (h : z.natAbs < 2 ^ 1900) : z.natAbs.log2 < 1920 := Nat.lt_of_lt_of_le (PySem.Flt.log2_lt_of (by decide) h) (by decide)
set_option maxHeartbeats 8000000 in
theorem ok_l_shown (T : TX K mg A FD TK CC) : FnOk P w K mg base CX0 1 (A 39) (FD 39) ["_law_due"] (spShown K) := by
  refine T.f_l_shown.ok (k := 0) sc_l_shown (fun vs H Q E h => ?_) (fun cdv A' outer s H vs Q E hr h => ?_)
  · obtain ⟨a, t, b, rfl, _⟩ := h
    rfl
  · obtain ⟨a, t, b, rfl, ha, lt, lb, q⟩ := h
    refine ⟨_, (pss_cons (ps_if (pt_cmpR op_eq (pe_ix (ixTK (K := K) rfl) (pv 0) pe_int (fun _ _ => rfl)) pe_int (nomark _))
      (pss_one (ps_ret (pe_callTy call_str_int (by rfl) T.m_str (by decide +kernel) (pa_cons (pe_ix (ixTK (K := K) rfl) (pv 0) pe_int (fun _ _ => rfl)) pa_nil))))
      pss_nil)
      (pss_one (ps_ret (pe_op op_add_str (pe_op op_add_str (pe_callTy call_str_int (by rfl) T.m_str (by decide +kernel) (pa_cons (pe_ix (ixTK (K := K) rfl) (pv 0) pe_int (fun _ _ => rfl)) pa_nil)) pe_str) (pe_callTy call_str_int (by rfl) T.m_str (by decide +kernel) (pa_cons (pe_ix (ixTK (K := K) rfl) (pv 0) pe_int (fun _ _ => rfl)) pa_nil)))))), ?_⟩
    have l1 := iS_len lt
    have l2 := iS_len lb
    unfold shw at q
    refine ⟨.ref a, rfl, a, _, 1, _, rfl, rfl, ha, atI_nat (j := 1) rfl, rfl, _, rfl, ite2 (fun e => ?_) (fun e => ?_)⟩
    · rw [dI] at e
      rw [if_pos (of_decide_eq_true e)] at q
      exact ⟨.ref a, rfl, a, _, 0, _, rfl, rfl, ha, atI_nat (j := 0) rfl, t, rfl, lg19 lt, q⟩
    · rw [dI] at e
      rw [if_neg (fun z => e (decide_eq_true z))] at q
      refine ⟨.ref a, rfl, a, _, 0, _, rfl, rfl, ha, atI_nat (j := 0) rfl, t, rfl, lg19 lt, iS t, "/", rfl, rfl, ?_, .ref a, rfl, a, _, 1, _, rfl, rfl, ha, atI_nat (j := 1) rfl, b, rfl, lg19 lb, _, iS b, rfl, rfl, ?_, q⟩
      · rw [show (Str.ofString "/").length = 1 by decide +kernel]
        exact sz (by omega)
      · rw [slen, show (Str.ofString "/").length = 1 by decide +kernel]
        exact sz (by omega)
/-! ### _law_far -/
def spFar : Sp := fun vs H Q _ => ∃ (p : Addr) (c : Nat), vs = [.ref p] ∧ Pl H p c ∧ c < 900000 ∧ ∀ (z : Int) (H' : Hp), z.natAbs < 2 ^ 900 → Pl H' p (c + 40) → Fx p H H' → Q (.int z) H'
set_option maxHeartbeats 16000000 in
theorem ok_l_far (T : TX K mg A FD TK CC) : FnOk P w K mg base CX0 2 (A 38) (FD 38) ["_law_purse_here"] spFar := by
  have G_l_take := ok_l_take (P := P) (w := w) (base := base) T
  refine T.f_l_far.ok (k := 1) sc_l_far (fun vs H Q E h => ?_) (fun cdv A' outer s H vs Q E hr h => ?_)
  · obtain ⟨p, c, rfl, _⟩ := h
    rfl
  · obtain ⟨p, c, rfl, hp, hc, q⟩ := h
    refine ⟨_, (pss_cons (ps_set (i := 1) sc_l_far.nd rfl (.inl rfl) (pe_cmpR op_eq (pe_call G_l_take hr (by rfl) T.g_l_take T.f_l_take.kp T.b_l_take .nil pass0 (pa_cons (pv 0) (pa_cons pe_int pa_nil))) pe_int (nomark _)))
      (pss_cons (ps_set (i := 2) sc_l_far.nd rfl (.inl rfl) (pe_op op_sub pe_int (pe_op op_mulW pe_int (pe_call G_l_take hr (by rfl) T.g_l_take T.f_l_take.kp T.b_l_take .nil pass0 (pa_cons (pv 0) (pa_cons pe_int pa_nil))))))
      (pss_cons (ps_if (pt_val (pv 1))
      (pss_one (ps_ret (pe_op op_mulW (pv 2) (pe_call G_l_take hr (by rfl) T.g_l_take T.f_l_take.kp T.b_l_take .nil pass0 (pa_cons (pv 0) (pa_cons pe_int pa_nil))))))
      pss_nil)
      (pss_cons (ps_set (i := 3) sc_l_far.nd rfl (.inl rfl) (pe_call G_l_take hr (by rfl) T.g_l_take T.f_l_take.kp T.b_l_take .nil pass0 (pa_cons (pv 0) (pa_cons (pe_op op_pow pe_int pe_int) pa_nil))))
      (pss_cons (ps_for PassesOwn.never rfl (pi_range1 (by rfl) T.m_range (pa_cons (pe_ix (ixLK (K := K) rfl) (pe_lst (pa_cons (pe_call G_l_take hr (by rfl) T.g_l_take T.f_l_take.kp T.b_l_take .nil pass0 (pa_cons (pv 0) (pa_cons pe_int pa_nil))) (pa_cons pe_int pa_nil))) (pe_callTy call_int1 (by rfl) T.m_int (by decide +kernel) (pa_cons (pe_cmpR op_eq (pe_call G_l_take hr (by rfl) T.g_l_take T.f_l_take.kp T.b_l_take .nil pass0 (pa_cons (pv 0) (pa_cons pe_int pa_nil))) pe_int (nomark _)) pa_nil)) (fun _ _ => rfl)) pa_nil)) (pg_name (i := 4) sc_l_far.nd rfl (.inl rfl))
      (pss_one (ps_set (i := 3) sc_l_far.nd rfl (.inl rfl) (pe_op op_add (pe_op op_mulW (pv 3) (pe_op op_pow pe_int pe_int)) (pe_call G_l_take hr (by rfl) T.g_l_take T.f_l_take.kp T.b_l_take .nil pass0 (pa_cons (pv 0) (pa_cons (pe_op op_pow pe_int pe_int) pa_nil)))))))
      (pss_one (ps_ret (pe_op op_mulW (pv 2) (pv 3))))))))), ?_⟩
    refine ⟨.ref p, rfl, p, 4, c, rfl, hp, by decide, by decide, by omega, fun a H1 a0 a1 hp1 f1 => ⟨rfl, ?_⟩⟩
    refine ⟨.ref p, rfl, p, 2, c + 1, rfl, hp1, by decide, by decide, by omega, fun b H2 b0 b1 hp2 f2 => ?_⟩
    have b2 : b.natAbs < 2 ^ 1 := by omega
    refine ⟨2, b, rfl, rfl, cmul2 (n := 2) (m := 1) (by decide) b2 (by decide), 1, 2 * b, rfl, rfl, ?_⟩
    have sg : (1 - 2 * b).natAbs < 2 ^ 1 := by omega
    refine ⟨_, rfl, _, rfl, ite2 (fun e => ?_) (fun e => ?_)⟩
    · refine ⟨.int (1 - 2 * b), rfl, .ref p, rfl, p, 12, c + 1 + 1, rfl, hp2, by decide, by decide, by omega, fun d H3 d0 d1 hp3 f3 => ⟨1 - 2 * b, d, rfl, rfl, cmul2 (m := 4) sg (by omega) (by decide), ?_⟩⟩
      exact q _ H3 (lt2 (mul2 (m := 4) sg (by omega)) (by decide)) (hp3.mono (by omega)) ((f1.trans f2).trans f3)
    · refine ⟨.ref p, rfl, 10, 5, rfl, rfl, ⟨by decide, by decide, by decide⟩, p, _, c + 1 + 1, rfl, hp2, by decide, by decide, by omega, fun g H3 g0 g1 hp3 f3 => ?_⟩
      refine ⟨.ref p, rfl, p, 6, c + 1 + 1 + 1, rfl, hp3, by decide, by decide, by omega, fun x H4 x0 x1 hp4 f4 => ⟨by show 2 ≤ sizeLine; decide, fun D nD => ?_⟩⟩
      have nDp : D ≠ p := by
        obtain ⟨xs, hx⟩ := hp4.some
        exact (ne_of_none hx nD).symm
      have e5 := Ex.new (o := .lst [V.int x, .int 30]) nD
      have hD := upd_same (H := H4) (a := D) (o := .lst [V.int x, .int 30])
      have hp5 := hp4.ex e5
      generalize (upd H4 D (.lst [V.int x, .int 30])) = H5 at e5 hD hp5 ⊢
      refine ⟨.ref p, rfl, p, 8, c + 1 + 1 + 1 + 1, rfl, hp5, by decide, by decide, by omega, fun y H6 y0 y1 hp6 f6 => ⟨rfl, .inr ⟨_, rfl, ?_⟩⟩⟩
      have hD6 := f6 _ _ nDp hD
      obtain ⟨n, hn, n0, n1⟩ : ∃ n : Int, atI [V.int x, .int 30] (if decide (V.int y = V.int 5) = true then (1 : Int) else 0) = some (.int n) ∧ 0 ≤ n ∧ n ≤ 30 := by
        by_cases h : decide (V.int y = V.int 5) = true
        · rw [if_pos h]
          exact ⟨30, rfl, by decide, by decide⟩
        · rw [if_neg h]
          exact ⟨x, rfl, x0, by omega⟩
      refine ⟨D, _, _, .int n, rfl, rfl, SqL.of hD6, hn, n, rfl, by omega, by omega, ?_⟩
      have F6 := ((((f1.trans f2).trans f3).trans f4).trans (Fx.ex e5)).trans f6
      have gg : g.natAbs < 2 ^ (17 + 27 * 0) := by
        have : g < 10 ^ 5 := g1
        have e : (2 : Nat) ^ (17 + 27 * 0) = 131072 := by decide
        rw [e]
        omega
      refine for_range (lo := 0) (n := n.toNat) (fun i σ' H' => ∃ (g : Int) (o4 : Option V), σ' = [some (.ref p), some (.bl (decide (V.int a = V.int 0))), some (.int (1 - 2 * b)), some (.int g), o4] ∧ 0 ≤ g ∧ g.natAbs < 2 ^ (17 + 27 * i) ∧ Pl H' p (c + 5 + i) ∧ Fx p H H') ⟨g, none, rfl, g0, gg, hp6.mono (by omega), F6⟩ (fun i σ' H7 hi pv => ?_) (fun σ' H7 pv => ?_)
      · obtain ⟨g, o4, rfl, g0, gb, hp7, f7⟩ := pv
        have hi : i < 30 := by omega
        refine ⟨.int g, rfl, 10, 8, rfl, rfl, ⟨by decide, by decide, by decide⟩, g, _, rfl, rfl, cmul2 (m := 27) gb (by decide) (by omega), .ref p, rfl, 10, 8, rfl, rfl, ⟨by decide, by decide, by decide⟩, p, _, c + 5 + i, rfl, hp7, by decide, by decide, by omega, fun d H8 d0 d1 hp8 f8 => ⟨_, d, rfl, rfl, ?_⟩⟩
        have d1 : d < 100000000 := d1
        refine ⟨_, some (.int (0 + (i : Int))), rfl, ?_, ?_, hp8.mono (by omega), f7.trans f8⟩
        · show (0 : Int) ≤ g * 100000000 + d
          omega
        · show (g * 100000000 + d).natAbs < 2 ^ (17 + 27 * (i + 1))
          have e : (2 : Nat) ^ (17 + 27 * (i + 1)) = 2 ^ (17 + 27 * i) * 134217728 := by
            rw [show 17 + 27 * (i + 1) = 17 + 27 * i + 27 by omega, Nat.pow_add]
          rw [e]
          generalize (2 : Nat) ^ (17 + 27 * i) = B at gb
          omega
      · obtain ⟨g, o4, rfl, g0, gb, hp7, f7⟩ := pv
        have n30 : n.toNat ≤ 30 := by omega
        have gb' : g.natAbs < 2 ^ 850 := lt2 gb (by omega)
        refine ⟨.int (1 - 2 * b), rfl, .int g, rfl, 1 - 2 * b, g, rfl, rfl, cmul2 sg gb' (by decide), q _ H7 (lt2 (mul2 sg gb') (by decide)) (hp7.mono (by omega)) f7⟩

/-! ### _law_right -/
theorem ex2 {H : Hp} {x dx : Addr} {o u : HO} (nx : H x = none) (nd : H dx = none) : Ex H (upd (upd H dx o) x u) := fun c q h => by
  rw [upd_ne (ne_of_none h nx), upd_ne (ne_of_none h nd)]
  exact h
theorem vals_rev : ∀ {zs : List V} {ws : List Value}, Vals zs ws → Vals zs.reverse ws.reverse
  | _, _, .nil => .nil
  | _, _, .cons h t => by
    rw [List.reverse_cons, List.reverse_cons]
    exact (vals_rev t).append (.cons h .nil)
theorem ite_ne {x y : V} {A B : Prop} (h : x = y) (b : B) : if (!decide (x = y)) = true then A else B := by
  rw [decide_eq_true h]
  exact b
theorem figOk_of {z : Int} (h : z.natAbs < 2 ^ 990) : figOk (.int z) = true := decide_eq_true (Nat.lt_trans h (by decide +kernel))
theorem mk_ratio {C N R : Addr} {H : Hp} {x dx : Addr} {t b : Int} {W : Hp → Prop} {E : XK} (nx : H x = none) (nd : H dx = none) (b0 : b ≠ 0) (ht : t.natAbs < 2 ^ 990) (hb : b.natAbs < 2 ^ 990) (q : ∀ H', Ex H H' → Rt C H' x (lwT t b) (lwB t b) → W H') :
    spInit C N R [.ref x, .int t, .int b] (upd (upd H dx (.own x)) x (.ins C dx [])) (fun v H2 => v = .non ∧ W H2) E := by
  have e := ex2 (o := .own x) (u := .ins C dx []) nx nd
  refine ⟨x, dx, .int t, .int b, rfl, upd_same, .int t, .int b, fun h => ?_, fun _ h => ?_, fun _ h => absurd (V.int.inj h) b0, fun tz bz e1 e2 _ _ _ H' i r => ⟨rfl, ?_⟩⟩
  · rw [figOk_of ht] at h; cases h
  · rw [figOk_of hb] at h; cases h
  · cases e1
    cases e2
    exact q H' (fun c o h => i c o (ne_of_none h nx) (e _ _ h)) r
theorem nm_one (u : Int) : Nm u 1 := ⟨by decide, by rw [show (1 : Int).natAbs = 1 from rfl, Nat.gcd_one_right]⟩
theorem rt_else {K : PySem.W.Frag} {C : Addr} {H : Hp} {y : V} {τ : Value} (h : TyX K H y τ) (k : PySem.W.kitOne K τ (.ref C) = some false) : Else K C H y := ⟨τ, h, k⟩
/-- one more below: equal just for nought -/
theorem low_more {u l : Int} (h : l ≠ 0) : (decide (lwT u l = lwT (lwT u l) (lwB u l + 1)) && decide (lwB u l = lwB (lwT u l) (lwB u l + 1))) = decide (lwT u l = 0) := by
  have nm := lw_nm (t := u) h
  obtain ⟨b0, hg⟩ := nm
  generalize lwT u l = t at hg ⊢
  generalize lwB u l = b at b0 hg ⊢
  have hb1 : b + 1 ≠ 0 := by omega
  rw [Bool.eq_iff_iff]
  simp only [Bool.and_eq_true, decide_eq_true_eq]
  constructor
  · rintro ⟨h1, h2⟩
    have m1 := lw_mul_t (t := t) (b := b + 1)
    have m2 := lw_mul_b (t := t) (b := b + 1)
    rw [← h1] at m1
    rw [← h2] at m2
    have g0 := gd_ne (t := t) hb1
    generalize gd t (b + 1) = g at m1 m2 g0
    -- t g = t, b g = b + 1
    by_cases ht : t = 0
    · exact ht
    · have : g = 1 := by
        have : t * g = t * 1 := by rw [m1, Int.mul_one]
        exact Int.eq_of_mul_eq_mul_left ht this
      rw [this, Int.mul_one] at m2
      omega
  · intro ht
    subst ht
    have b1 : b = 1 := by
      have : b.natAbs = 1 := by simpa using hg
      omega
    subst b1
    have n2 := lw_nm (t := 0) hb1
    have m1 := lw_mul_t (t := 0) (b := 1 + 1)
    have g0 := gd_ne (t := 0) hb1
    have z : lwT 0 (1 + 1) = 0 := by
      rcases Int.mul_eq_zero.mp m1 with h | h
      · exact h
      · exact absurd h g0
    refine ⟨z.symm, ?_⟩
    obtain ⟨p0, pg⟩ := n2
    rw [z] at pg
    have : (lwB 0 (1 + 1)).natAbs = 1 := by simpa using pg
    omega
theorem pair_eqv (t b u d : Int) : PyData.eqv (.tuple [.int t, .int b]) (.tuple [.int u, .int d]) = (decide (t = u) && decide (b = d)) := by
  rw [Bool.eq_iff_iff]
  simp [PyData.eqv, PyData.eqvAll]
def spRight : Sp := fun vs H Q _ => ∃ (u l : Int), vs = [.int u, .int l] ∧ l ≠ 0 ∧ u.natAbs < 2 ^ 980 ∧ l.natAbs < 2 ^ 980 ∧ ∀ H', Ex H H' → Q (.bl true) H'
set_option maxHeartbeats 32000000 in
theorem ok_l_right (T : TX K mg A FD TK CC) : FnOk P w K mg base CX0 6 (A 40) (FD 40) ["_law_upper", "_law_lower"] spRight := by
  have G_l_low := (ok_l_low (P := P) (w := w) (base := base) T).mono (show 1 ≤ 5 by decide)
  have G_l_is_ratio := (ok_l_is_ratio (P := P) (w := w) (base := base) T).mono (show 1 ≤ 5 by decide)
  have G_l_shown := (ok_l_shown (P := P) (w := w) (base := base) T).mono (show 1 ≤ 5 by decide)
  have G_Ratio := (ok_init (P := P) (w := w) (base := base) T).mono (show 3 ≤ 4 by decide)
  have G_Ratio_eq := (ok_req (P := P) (w := w) (base := base) T).mono (show 1 ≤ 5 by decide)
  have G_Ratio_eq7 := (ok_req (P := P) (w := w) (base := base) T).mono (show 1 ≤ 4 by decide)
  have G_Ratio_str := (ok_rstr (P := P) (w := w) (base := base) T).mono (show 2 ≤ 3 by decide)
  have G_Ratio_repr := (ok_rrepr (P := P) (w := w) (base := base) T).mono (show 2 ≤ 4 by decide)
  obtain ⟨ds2, R2_Ratio, B2_Ratio⟩ := T.f_Ratio_init.binds1 (ps := ["self", "top", "bottom"]) 3 1 (by simp) rfl (fun _ _ _ _ _ _ _ us its hl1 hl2 => match us, its, hl1, hl2 with | [_, _, _], [_], _, _ => ⟨_, rfl, rfl⟩)
  obtain ⟨ds1, R1_Ratio, B1_Ratio⟩ := T.f_Ratio_init.binds1 (ps := ["self", "top", "bottom"]) 2 0 (by simp) rfl (fun _ _ _ _ _ _ _ us its hl1 hl2 => match us, its, hl1, hl2 with | [_, _], [_], _, _ => ⟨_, rfl, rfl⟩)
  obtain ⟨its3, KB_Ratio⟩ := T.f_Ratio_init.kbindsD (ps := ["self", "top", "bottom"]) 1 ["bottom", "top"] (fun us _ ws => us ++ ws.reverse) (by simp) (fun r1 _ r3 => r1.append (vals_rev r3)) (fun _ _ _ _ _ _ _ us its ws hl1 hl2 hl3 => match us, its, ws, hl1, hl2, hl3 with | [_], [_], [_, _], _, _, _ => ⟨_, rfl, rfl⟩)
  refine T.f_l_right.ok (k := 5) sc_l_right (fun vs H Q E h => ?_) (fun cdv A' outer s H vs Q E hr h => ?_)
  · obtain ⟨u, l, rfl, _⟩ := h
    rfl
  · obtain ⟨u, l, rfl, l0, hu, hl, q⟩ := h
    refine ⟨_, (pss_cons (ps_set (i := 2) sc_l_right.nd rfl (.inl rfl) (pe_call G_l_low hr (by rfl) T.g_l_low T.f_l_low.kp T.b_l_low .nil pass0 (pa_cons (pv 0) (pa_cons (pv 1) pa_nil))))
      (pss_cons (ps_set (i := 3) sc_l_right.nd rfl (.inl rfl) (pe_make T.M_Ratio G_Ratio hr (by rfl) T.k_Ratio B2_Ratio R2_Ratio passL (pa_cons (pv 0) (pa_cons (pv 1) pa_nil))))
      (pss_cons (ps_if (PW.pt (pw_or (pt_not (pt_val (pe_call G_l_is_ratio hr (by rfl) T.g_l_is_ratio T.f_l_is_ratio.kp T.b_l_is_ratio .nil pass0 (pa_cons (pv 3) (pa_cons (pv 2) pa_nil))))) (pw_or1 (pt_cmpR op_ne (pe_callTy (Own.cr_strO G_Ratio_str T.M_Ratio_str T.b_Ratio_str pass0 hr) (by rfl) T.m_str (by decide +kernel) (pa_cons (pv 3) pa_nil)) (pe_call G_l_shown hr (by rfl) T.g_l_shown T.f_l_shown.kp T.b_l_shown .nil pass0 (pa_cons (pv 2) pa_nil)) (nomark _)))))
      (pss_one (ps_ret pe_bl))
      pss_nil)
      (pss_cons (ps_if (pt_cmpR op_ne (pe_callB (Own.cr_reprO G_Ratio_repr T.M_Ratio_repr T.b_Ratio_repr pass0 hr) (by rfl) T.m_repr (by decide +kernel) (pa_cons (pv 3) pa_nil)) (pe_op op_add_str (pe_op op_add_str (pe_op op_add_str (pe_op op_add_str pe_str (pe_callTy call_str_int (by rfl) T.m_str (by decide +kernel) (pa_cons (pe_ix (ixTK (K := K) rfl) (pv 2) pe_int (fun _ _ => rfl)) pa_nil))) pe_str) (pe_callTy call_str_int (by rfl) T.m_str (by decide +kernel) (pa_cons (pe_ix (ixTK (K := K) rfl) (pv 2) pe_int (fun _ _ => rfl)) pa_nil))) pe_str) (nomark _))
      (pss_one (ps_ret pe_bl))
      pss_nil)
      (pss_cons (ps_if (PW.pt (pw_or (pt_cmpR (Own.op_neO G_Ratio_eq7 T.M_Ratio_eq T.b_Ratio_eq pass0 hr T.neQ T.moQ (K := K) rfl) (pv 3) (pe_make T.M_Ratio G_Ratio hr (by rfl) T.k_Ratio B2_Ratio R2_Ratio passL (pa_cons (pe_ix (ixTK (K := K) rfl) (pv 2) pe_int (fun _ _ => rfl)) (pa_cons (pe_ix (ixTK (K := K) rfl) (pv 2) pe_int (fun _ _ => rfl)) pa_nil))) (nomark _)) (pw_or (pt_cmpR (Own.op_eqO G_Ratio_eq T.M_Ratio_eq T.b_Ratio_eq pass0 hr (K := K) rfl) (pv 3) (pv 2) (nomark _)) (pw_or (pt_cmpR (Own.op_eqO G_Ratio_eq T.M_Ratio_eq T.b_Ratio_eq pass0 hr (K := K) rfl) (pv 3) (pe_ix (ixTK (K := K) rfl) (pv 2) pe_int (fun _ _ => rfl)) (nomark _)) (pw_or1 (pt_cmpR (Own.op_eqO G_Ratio_eq T.M_Ratio_eq T.b_Ratio_eq pass0 hr (K := K) rfl) (pv 3) (pe_callTy (Own.cr_strO G_Ratio_str T.M_Ratio_str T.b_Ratio_str pass0 hr) (by rfl) T.m_str (by decide +kernel) (pa_cons (pv 3) pa_nil)) (nomark _)))))))
      (pss_one (ps_ret pe_bl))
      pss_nil)
      (pss_cons (ps_if (PW.pt (pw_or (pt_not (pt_val (pe_call G_l_is_ratio hr (by rfl) T.g_l_is_ratio T.f_l_is_ratio.kp T.b_l_is_ratio .nil pass0 (pa_cons (pe_make T.M_Ratio G_Ratio hr (by rfl) T.k_Ratio B1_Ratio R1_Ratio passL (pa_cons (pv 0) pa_nil)) (pa_cons (pe_tup (pa_cons (pv 0) (pa_cons pe_int pa_nil))) pa_nil))))) (pw_or1 (pt_not (pt_val (pe_call G_l_is_ratio hr (by rfl) T.g_l_is_ratio T.f_l_is_ratio.kp T.b_l_is_ratio .nil pass0 (pa_cons (pe_makeK0 T.M_Ratio G_Ratio hr (by rfl) T.k_Ratio KB_Ratio passL (pk_cons (pv 1) (pk_cons (pv 0) pk_nil))) (pa_cons (pv 2) pa_nil))))))))
      (pss_one (ps_ret pe_bl))
      pss_nil)
      (pss_one (ps_ret (pe_and (pe_cmpR op_eq (pe_cmpR (Own.op_eqO G_Ratio_eq T.M_Ratio_eq T.b_Ratio_eq pass0 hr (K := K) rfl) (pv 3) (pe_make T.M_Ratio G_Ratio hr (by rfl) T.k_Ratio B1_Ratio R1_Ratio passL (pa_cons (pv 0) pa_nil)) (nomark _)) (pe_cmpR (eqDK (K := K) rfl hr.units) (pv 2) (pe_tup (pa_cons (pv 0) (pa_cons pe_int pa_nil))) (nomark _)) (nomark _)) (pe_one (pe_cmpR op_eq (pe_cmpR (Own.op_eqO G_Ratio_eq T.M_Ratio_eq T.b_Ratio_eq pass0 hr (K := K) rfl) (pv 3) (pe_make T.M_Ratio G_Ratio hr (by rfl) T.k_Ratio B2_Ratio R2_Ratio passL (pa_cons (pe_ix (ixTK (K := K) rfl) (pv 2) pe_int (fun _ _ => rfl)) (pa_cons (pe_op op_add (pe_ix (ixTK (K := K) rfl) (pv 2) pe_int (fun _ _ => rfl)) pe_int) pa_nil))) (nomark _)) (pe_cmpR op_eq (pe_ix (ixTK (K := K) rfl) (pv 2) pe_int (fun _ _ => rfl)) pe_int (nomark _)) (nomark _)))))))))))), ?_⟩
    have nm := lw_nm (t := u) l0
    have ht : (lwT u l).natAbs < 2 ^ 980 := Nat.lt_of_le_of_lt (lwT_le l0) hu
    have hb : (lwB u l).natAbs < 2 ^ 980 := Nat.lt_of_le_of_lt (lwB_le l0) hl
    have more := low_more (u := u) l0
    refine ⟨.int u, rfl, .int l, rfl, u, l, rfl, l0, lt2 hu (by decide), lt2 hl (by decide), fun D nD => ?_⟩
    have e1 := Ex.new (o := .tup [.int (lwT u l), .int (lwB u l)]) nD
    have hD := upd_same (H := H) (a := D) (o := .tup [.int (lwT u l), .int (lwB u l)])
    generalize (upd H D (.tup [.int (lwT u l), .int (lwB u l)])) = H1 at e1 hD ⊢
    refine ⟨.int u, rfl, .int l, rfl, fun r dr nr ndr _ => mk_ratio nr ndr l0 (lt2 hu (by decide)) (lt2 hl (by decide)) fun H2 e2 hr2 => ?_⟩
    have b0 : lwB u l ≠ 0 := by have := nm.1; omega
    have nt := nm_t nm
    have nb := nm_b nm
    generalize et : lwT u l = t at *
    generalize eb : lwB u l = b at *
    have lt : t.natAbs < 2 ^ 1900 := lt2 ht (by decide)
    have lb : b.natAbs < 2 ^ 1900 := lt2 hb (by decide)
    have hD2 := e2 _ _ hD
    -- its parts, its text
    refine ⟨.ref r, rfl, .ref D, rfl, r, D, _, _, rfl, hr2, SqT.of hD2, fun H3 e3 => ⟨true, rfl, iteF ?_⟩⟩
    have hr3 := hr2.ex e3
    obtain ⟨d3, h3⟩ := id hr3
    refine ⟨.ref r, rfl, r, d3, _, rfl, h3, r, t, b, rfl, hr3, lt, lb, fun H4 e4 => ⟨_, rfl, .ref D, rfl, D, t, b, rfl, SqT.of (e4 _ _ (e3 _ _ hD2)), lt, lb, rfl, _, rfl, ?_⟩⟩
    rw [decide_eq_true rfl]
    refine iteF ?_
    have hr4 := hr3.ex e4
    have h4 := e4 _ _ h3
    have hD4 := e4 _ _ (e3 _ _ hD2)
    have l1 := iS_len lt
    have l2 := iS_len lb
    have m1 : (Str.ofString "Ratio(").length = 6 := by decide +kernel
    have m2 : (Str.ofString ", ").length = 2 := by decide +kernel
    have m3 : (Str.ofString ")").length = 1 := by decide +kernel
    refine ⟨.ref r, rfl, r, d3, _, rfl, h4, r, t, b, rfl, hr4, lt, lb, fun H5 e5 => ⟨_, rfl, .ref D, rfl, D, _, 0, _, rfl, rfl, SqT.of (e5 _ _ hD4), atI_nat (j := 0) rfl, t, rfl, lg19 lt, "Ratio(", iS t, rfl, rfl, ?_, _, ", ", rfl, rfl, ?_, .ref D, rfl, D, _, 1, _, rfl, rfl, SqT.of (e5 _ _ hD4), atI_nat (j := 1) rfl, b, rfl, lg19 lb, _, iS b, rfl, rfl, ?_, _, ")", rfl, rfl, ?_, rfl, _, rfl, ?_⟩⟩
    · rw [m1]
      exact sz (by omega)
    · rw [slen, m1, m2]
      exact sz (by omega)
    · rw [slen, slen, m1, m2]
      exact sz (by omega)
    · rw [slen, slen, slen, m1, m2, m3]
      exact sz (by omega)
    refine ite_ne rfl ?_
    have hr5 := hr4.ex e5
    have h5 := e5 _ _ h4
    have hD5 := e5 _ _ hD4
    have x5 : Ex H H5 := (((e1.trans e2).trans e3).trans e4).trans e5
    clear h3 hr3 hr4 h4 hD4 hD2 hr2 hD e1 e2 e3 e4 e5
    -- the like one, other things
    have tt : (decide (t = t) && decide (b = b)) = true := by simp
    refine ⟨.ref r, rfl, .ref D, rfl, D, _, 0, _, rfl, rfl, SqT.of hD5, atI_nat (j := 0) rfl, .ref D, rfl, D, _, 1, _, rfl, rfl, SqT.of hD5, atI_nat (j := 1) rfl, fun x dx nx ndx _ => mk_ratio nx ndx b0 (lt2 ht (by decide)) (lt2 hb (by decide)) fun H6 e6 hx6 => ?_⟩
    rw [nt, nb] at hx6
    obtain ⟨d6, h6⟩ := id hx6
    have hr6 := hr5.ex e6
    have hi6 := e6 _ _ h5
    have hD6 := e6 _ _ hD5
    refine ⟨r, d3, _, rfl, hi6, .inl ⟨x, d6, _, rfl, h6⟩, r, t, b, .ref x, rfl, hr6, .inl ⟨x, t, b, rfl, hx6, _, rfl, _, rfl, ?_⟩⟩
    rw [tt]
    refine iteF ?_
    have hT : TyX K H6 (.ref D) (.type "tuple") := .base (.tup hD6)
    refine ⟨.ref r, rfl, .ref D, rfl, r, d3, _, rfl, hi6, .inr ⟨"tuple", hT, Own.nf rfl rfl⟩, r, t, b, .ref D, rfl, hr6, .inr ⟨rt_else hT T.ktuple, _, rfl, _, rfl, iteF ?_⟩⟩
    refine ⟨.ref r, rfl, .ref D, rfl, D, _, 0, _, rfl, rfl, SqT.of hD6, atI_nat (j := 0) rfl, r, d3, _, rfl, hi6, .inr ⟨"int", .base (.int _), Own.nf rfl rfl⟩, r, t, b, .int t, rfl, hr6, .inr ⟨rt_else (.base (.int _)) T.kint, _, rfl, _, rfl, iteF ?_⟩⟩
    refine ⟨.ref r, rfl, .ref r, rfl, r, d3, _, rfl, hi6, r, t, b, rfl, hr6, lt, lb, fun H7 e7 => ⟨_, rfl, r, d3, _, rfl, e7 _ _ hi6, .inr ⟨"str", .base (.str _), Own.nf rfl rfl⟩, r, t, b, .str _, rfl, hr6.ex e7, .inr ⟨rt_else (.base (.str _)) T.kstr, _, rfl, _, rfl, iteF ?_⟩⟩⟩
    have hr7 := hr6.ex e7
    have h7 := e7 _ _ hi6
    have hD7 := e7 _ _ hD6
    have x7 := (x5.trans e6).trans e7
    clear hr6 hi6 hD6 hT h6 hx6 hr5 h5 hD5 x5 e6 e7 nx ndx
    -- by a top alone, by names
    refine ⟨.int u, rfl, fun y dy ny ndy _ => mk_ratio ny ndy (by decide) (lt2 hu (by decide)) (by decide) fun H8 e8 hy8 => ?_⟩
    rw [nm_t (nm_one u), nm_b (nm_one u)] at hy8
    refine ⟨.int u, rfl, by show 2 ≤ sizeLine; decide, fun p np => ?_⟩
    have e9 := Ex.new (o := .tup [.int u, .int 1]) np
    refine ⟨y, p, u, 1, rfl, hy8.ex e9, SqT.of upd_same, fun H9 e10 => ⟨true, rfl, iteF ?_⟩⟩
    have x9 := ((x7.trans e8).trans e9).trans e10
    have hr9 := ((hr7.ex e8).ex e9).ex e10
    have h9 := e10 _ _ (e9 _ _ (e8 _ _ h7))
    have hD9 := e10 _ _ (e9 _ _ (e8 _ _ hD7))
    clear hr7 h7 hD7 x7 e8 e9 e10 ny ndy hy8 np
    refine ⟨.int l, rfl, .int u, rfl, rfl, rfl, fun y dy ny ndy _ => mk_ratio ny ndy l0 (lt2 hu (by decide)) (lt2 hl (by decide)) fun H10 e10 hy10 => ?_⟩
    rw [et, eb] at hy10
    refine ⟨.ref D, rfl, y, D, t, b, rfl, hy10, SqT.of (e10 _ _ hD9), fun H11 e11 => ⟨true, rfl, iteF ?_⟩⟩
    have x11 := (x9.trans e10).trans e11
    have hr11 := (hr9.ex e10).ex e11
    have h11 := e11 _ _ (e10 _ _ h9)
    have hD11 := e11 _ _ (e10 _ _ hD9)
    clear hr9 h9 hD9 x9 e10 e11 ny ndy hy10
    -- just where both values are
    refine ⟨.ref r, rfl, .int u, rfl, fun y dy ny ndy _ => mk_ratio ny ndy (by decide) (lt2 hu (by decide)) (by decide) fun H12 e12 hy => ?_⟩
    rw [nm_t (nm_one u), nm_b (nm_one u)] at hy
    obtain ⟨dy', hyi⟩ := id hy
    refine ⟨r, d3, _, rfl, e12 _ _ h11, .inl ⟨y, dy', _, rfl, hyi⟩, r, t, b, .ref y, rfl, hr11.ex e12, .inl ⟨y, u, 1, rfl, hy, _, rfl, ?_⟩⟩
    refine ⟨.ref D, rfl, .int u, rfl, by show 2 ≤ sizeLine; decide, fun p np => ?_⟩
    have e13 := Ex.new (o := .tup [.int u, .int 1]) np
    refine ⟨_, _, .tup (SqT.of (e13 _ _ (e12 _ _ hD11))) (.cons (.int t) (.cons (.int b) .nil)), .tup (SqT.of upd_same) (.cons (.int u) (.cons (.int 1) .nil)), pairS _ _, pairS _ _, ?_⟩
    rw [pair_eqv]
    refine ⟨rfl, _, rfl, ?_⟩
    rw [decide_eq_true rfl]
    refine iteT ?_
    have x13 := (x11.trans e12).trans e13
    have hr13 := (hr11.ex e12).ex e13
    have h13 := e13 _ _ (e12 _ _ h11)
    have hD13 := e13 _ _ (e12 _ _ hD11)
    have b10 : b + 1 ≠ 0 := by have := nm.1; omega
    have hb1 : (b + 1).natAbs < 2 ^ 990 := lt2 (add2 (y := 1) hb (by decide)) (by decide)
    refine ⟨.ref r, rfl, .ref D, rfl, D, _, 0, _, rfl, rfl, SqT.of hD13, atI_nat (j := 0) rfl, .ref D, rfl, D, _, 1, _, rfl, rfl, SqT.of hD13, atI_nat (j := 1) rfl, b, 1, rfl, rfl, fun y dy ny ndy _ => mk_ratio ny ndy b10 (lt2 ht (by decide)) hb1 fun H14 e14 hy => ?_⟩
    obtain ⟨dy', hyi⟩ := id hy
    refine ⟨r, d3, _, rfl, e14 _ _ h13, .inl ⟨y, dy', _, rfl, hyi⟩, r, t, b, .ref y, rfl, hr13.ex e14, .inl ⟨y, _, _, rfl, hy, _, rfl, ?_⟩⟩
    rw [more]
    refine ⟨.ref D, rfl, D, _, 0, _, rfl, rfl, SqT.of (e14 _ _ hD13), atI_nat (j := 0) rfl, rfl, rfl, ?_⟩
    rw [dI, decide_eq_true rfl]
    exact q _ (x13.trans e14)

/-! ### the law -/
abbrev lamQ (n : Str) : Str := n ++ ".<locals>." ++ "<lambda>"
theorem kd_NoNumber (T : TX K mg A FD TK CC) : Kd3 K A (A 5) 2 := ⟨excD_of T.ec_NoNumber, fun j D h => match j, h with
  | 0, h => by cases h; exact T.k_NoNumber_NoWord
  | 1, h => by cases h; exact T.k_NoNumber_NoText
  | 2, h => by cases h; exact T.k_NoNumber_NoNumber
  | 3, h => by cases h; exact T.k_NoNumber_NoSize
  | 4, h => by cases h; exact T.k_NoNumber_NoLengths
  | 5, h => by cases h; exact T.k_NoNumber_NoQuery
  | 6, h => by cases h; exact T.k_NoNumber_NoCode
  | 7, h => by cases h; exact T.k_NoNumber_NoRow
  | 8, h => by cases h; exact T.k_NoNumber_NoEntries
  | 9, h => by cases h; exact T.k_NoNumber_NoQueryText
  | 10, h => by cases h; exact T.k_NoNumber_NoPages
  | 11, h => by cases h; exact T.k_NoNumber_NoShelf
  | 12, h => by cases h; exact T.k_NoNumber_NoQueries
  | 13, h => by cases h; exact T.k_NoNumber_NoPlace
  | 14, h => by cases h; exact T.k_NoNumber_NoSlot
  | 15, h => by cases h; exact T.k_NoNumber_NoRatio
  | 16, h => by cases h; exact T.k_NoNumber_Held
  | 17, h => by cases h; exact T.k_NoNumber_Gone
  | j + 18, h => by simp [all18] at h⟩
theorem kd_NoRatio (T : TX K mg A FD TK CC) : Kd3 K A (A 18) 15 := ⟨excD_of T.ec_NoRatio, fun j D h => match j, h with
  | 0, h => by cases h; exact T.k_NoRatio_NoWord
  | 1, h => by cases h; exact T.k_NoRatio_NoText
  | 2, h => by cases h; exact T.k_NoRatio_NoNumber
  | 3, h => by cases h; exact T.k_NoRatio_NoSize
  | 4, h => by cases h; exact T.k_NoRatio_NoLengths
  | 5, h => by cases h; exact T.k_NoRatio_NoQuery
  | 6, h => by cases h; exact T.k_NoRatio_NoCode
  | 7, h => by cases h; exact T.k_NoRatio_NoRow
  | 8, h => by cases h; exact T.k_NoRatio_NoEntries
  | 9, h => by cases h; exact T.k_NoRatio_NoQueryText
  | 10, h => by cases h; exact T.k_NoRatio_NoPages
  | 11, h => by cases h; exact T.k_NoRatio_NoShelf
  | 12, h => by cases h; exact T.k_NoRatio_NoQueries
  | 13, h => by cases h; exact T.k_NoRatio_NoPlace
  | 14, h => by cases h; exact T.k_NoRatio_NoSlot
  | 15, h => by cases h; exact T.k_NoRatio_NoRatio
  | 16, h => by cases h; exact T.k_NoRatio_Held
  | 17, h => by cases h; exact T.k_NoRatio_Gone
  | j + 18, h => by simp [all18] at h⟩
theorem lst_exN {H H' : Hp} {a : Addr} {xs : List V} (e : LamX.ExtN H H') (h : H a = some (.lst xs)) : H' a = some (.lst xs) := e _ _ h (by intro ps z; cases z)
theorem tup_exN {H H' : Hp} {a : Addr} {xs : List V} (e : LamX.ExtN H H') (h : H a = some (.tup xs)) : H' a = some (.tup xs) := e _ _ h (by intro ps z; cases z)
theorem Th.exN {H H' : Hp} {v : V} (t : Th H v) (e : LamX.ExtN H H') : Th H' v := by
  cases t with
  | str z => exact .str z
  | non => exact .non
  | bl b => exact .bl b
  | int i => exact .int i
  | lst h => exact .lst (lst_exN e h)
  | tup h => exact .tup (tup_exN e h)
theorem sql_exN {K : PySem.W.Frag} {H H' : Hp} {a : Addr} {xs : List V} (e : LamX.ExtN H H') (h : SqL K H a xs) : SqL K H' a xs := by
  rcases h with (h | ⟨o, h⟩) | h
  · exact .inl (.inl (lst_exN e h))
  · exact .inl (.inr ⟨o, e _ _ h (by intro ps z; cases z)⟩)
  · exact .inr h
theorem tabs_fx {Tt : List (Addr × Str)} {H H' : Hp} {p : Addr} {c : Nat} (t : LamX.Tabs Tt H) (hp : Pl H p c) (f : Fx p H H') : LamX.Tabs Tt H' := fun q hq => by
  obtain ⟨ps, h1, h2, h3⟩ := t q hq
  obtain ⟨xs, hx⟩ := hp.some
  refine ⟨ps, f _ _ (ne_of h1 hx (by intro z; cases z)) h1, h2, fun pos cv hc => ?_⟩
  obtain ⟨c, e1, e2⟩ := h3 pos cv hc
  exact ⟨c, e1, f _ _ (ne_of e2 hx (by intro z; cases z)) e2⟩
/-- refused with NoNumber, with NoRatio -/
def Refd (K : PySem.W.Frag) (A : Nat → Addr) (Q : VK) : XK := fun cls d H' => ∃ (C : Addr) (i : Nat) (nm : Str), cls = .ref C ∧ Kd3 K A C i ∧ Cl3 K A C ∧ kindNames3[i]? = some nm ∧ DictOk d H' ∧ RetV (.str nm) H' Q
theorem mk_odd (T : TX K mg A FD TK CC) {H : Hp} {x dx : Addr} {t b : V} {Q : VK} {W : V → Hp → Prop} (nx : H x = none) (nd : H dx = none) (ht : Th H t) (hb : Th H b) (bad : figOk t = false ∨ figOk b = false) (q : RetV (.str "NoNumber") H Q) :
    spInit (A 27) (A 5) (A 18) [.ref x, t, b] (upd (upd H dx (.own x)) x (.ins (A 27) dx [])) W (Refd K A Q) := by
  have e := ex2 (o := .own x) (u := .ins (A 27) dx []) nx nd
  have r : Refd K A Q (.ref (A 5)) none (upd (upd H dx (.own x)) x (.ins (A 27) dx [])) := ⟨_, 2, "NoNumber", rfl, kd_NoNumber T, .wrong T.ew_NoNumber T.kb_NoNumber, rfl, (fun dd z => by cases z), fun H4 e4 => q _ (e.trans e4)⟩
  refine ⟨x, dx, t, b, rfl, upd_same, ht.ex e, hb.ex e, fun _ => r, fun _ _ => r, fun h1 h2 => ?_, fun tz bz e1 e2 f1 f2 => ?_⟩
  · subst h2
    rcases bad with h | h
    · rw [h1] at h; cases h
    · have : figOk (.int 0) = true := by decide +kernel
      rw [this] at h
      cases h
  · rcases bad with h | h
    · rw [f1] at h; cases h
    · rw [f2] at h; cases h
theorem mk_zero (T : TX K mg A FD TK CC) {H : Hp} {x dx : Addr} {t : Int} {Q : VK} {W : V → Hp → Prop} (nx : H x = none) (nd : H dx = none) (ht : t.natAbs < 2 ^ 990) (q : RetV (.str "NoRatio") H Q) :
    spInit (A 27) (A 5) (A 18) [.ref x, .int t, .int 0] (upd (upd H dx (.own x)) x (.ins (A 27) dx [])) W (Refd K A Q) := by
  have e := ex2 (o := .own x) (u := .ins (A 27) dx []) nx nd
  have f0 : figOk (.int 0) = true := by decide +kernel
  refine ⟨x, dx, .int t, .int 0, rfl, upd_same, .int t, .int 0, fun h => ?_, fun _ h => ?_, fun _ _ => ⟨_, 15, "NoRatio", rfl, kd_NoRatio T, .rat T.ew_NoRatio T.e2_NoRatio T.er_NoRatio T.kb_NoRatio, rfl, (fun dd z => by cases z), fun H4 e4 => q _ (e.trans e4)⟩, fun tz bz e1 e2 f1 f2 ne => ?_⟩
  · rw [figOk_of ht] at h; cases h
  · rw [f0] at h; cases h
  · cases e2
    exact absurd rfl ne
abbrev GR : Int := ((10 : Int) ^ (60 : Int).toNat) ^ (5 : Int).toNat
theorem gr1 : figOk (.int GR) = false := by decide +kernel
theorem gr2 : figOk (.int (0 - GR)) = false := by decide +kernel
theorem gr3 : figOk (.int (GR + 7)) = false := by decide +kernel
def spLaw (K : PySem.W.Frag) (Tt : List (Addr × Str)) : Sp := fun vs H Q _ => ∃ (a : Addr) (ns : List Int), vs = [.ref a] ∧ SqL K H a (ns.map V.int) ∧ ns.length ≤ 63 ∧ LamX.Tabs Tt H ∧ ∀ H', Q (.bl true) H'
theorem maxmin12 (n : Nat) : 2 ≤ (if (if (12 : Int) < (n : Int) then 12 else (n : Int)) > 2 then (if (12 : Int) < (n : Int) then 12 else (n : Int)) else 2) ∧ (if (if (12 : Int) < (n : Int) then 12 else (n : Int)) > 2 then (if (12 : Int) < (n : Int) then 12 else (n : Int)) else 2) ≤ 12 := by
  constructor
  · split <;> split <;> omega
  · split <;> split <;> omega
set_option maxHeartbeats 32000000 in
theorem ok_law (T : TX K mg A FD TK CC) {PR : Addr} (TBL : LamX.TabB base mg (CC 41) PR) : FnOk P w K mg base CX0 14 (A 41) (FD 41) ["_law_script"] (spLaw K [(PR, lamQ "law")]) := by
  have G_l_purse := (ok_l_purse (P := P) (w := w) (base := base) T).mono (show 1 ≤ 13 by decide)
  have G_l_take := (ok_l_take (P := P) (w := w) (base := base) T).mono (show 1 ≤ 13 by decide)
  have G_l_far := (ok_l_far (P := P) (w := w) (base := base) T).mono (show 2 ≤ 13 by decide)
  have G_l_right := (ok_l_right (P := P) (w := w) (base := base) T).mono (show 6 ≤ 13 by decide)
  have G_Ratio := (ok_init (P := P) (w := w) (base := base) T).mono (show 3 ≤ 12 by decide)
  have G_Ratio_lam := (ok_init (P := P) (w := w) (base := base) T).mono (show 3 ≤ 10 by decide)
  have G_Ratio_eq := (ok_req (P := P) (w := w) (base := base) T).mono (show 1 ≤ 13 by decide)
  have G_Ratio_eq7 := (ok_req (P := P) (w := w) (base := base) T).mono (show 1 ≤ 12 by decide)
  have hmL : (PR, lamQ "law") ∈ [(PR, lamQ "law")] := List.mem_cons_self ..
  have huL : ∀ q ∈ [(PR, lamQ "law")], q.1 = PR → q.2 = lamQ "law" := fun q hq _ => by rw [List.mem_singleton.mp hq]
  obtain ⟨ds2, R2_Ratio, B2_Ratio⟩ := T.f_Ratio_init.binds1 (ps := ["self", "top", "bottom"]) 3 1 (by simp) rfl (fun _ _ _ _ _ _ _ us its hl1 hl2 => match us, its, hl1, hl2 with | [_, _, _], [_], _, _ => ⟨_, rfl, rfl⟩)
  obtain ⟨ds1, R1_Ratio, B1_Ratio⟩ := T.f_Ratio_init.binds1 (ps := ["self", "top", "bottom"]) 2 0 (by simp) rfl (fun _ _ _ _ _ _ _ us its hl1 hl2 => match us, its, hl1, hl2 with | [_, _], [_], _, _ => ⟨_, rfl, rfl⟩)
  refine T.F_law.ok (k := 13) sc_law (fun vs H Q E h => ?_) (fun A' outer s H vs Q E hr h => ?_)
  · obtain ⟨a, ns, rfl, _⟩ := h
    rfl
  · obtain ⟨a, ns, rfl, hS, hn, hT, q⟩ := h
    refine ⟨_, (pss_cons (ps_for PassesOwn.never rfl (pi_range1 (by rfl) T.m_range (pa_cons (pe_callB (call_max2 rfl) (by rfl) T.m_max (by decide +kernel) (pa_cons pe_int (pa_cons (pe_callB (call_min2 rfl) (by rfl) T.m_min (by decide +kernel) (pa_cons (pe_callB (lenK (K := K) rfl) (by rfl) T.m_len (by decide +kernel) (pa_cons (pv 0) pa_nil)) (pa_cons pe_int pa_nil))) pa_nil))) pa_nil)) (pg_name (i := 1) sc_law.nd rfl (.inl rfl))
      (pss_cons (ps_set (i := 2) sc_law.nd rfl (.inl rfl) (pe_call G_l_purse hr (by rfl) T.g_l_purse T.f_l_purse.kp T.b_l_purse .nil pass0 (pa_cons (pv 0) (pa_cons (pv 1) pa_nil))))
      (pss_cons (ps_set (i := 3) sc_law.nd rfl (.inl rfl) (pe_op op_powW (pe_op op_powW pe_int pe_int) pe_int))
      (pss_cons (ps_set (i := 4) sc_law.nd rfl (.inr rfl) (pe_ix (ixLK (K := K) rfl) (pe_lst (pa_cons pe_bl (pa_cons pe_bl (pa_cons pe_non (pa_cons pe_str (pa_cons (pe_tup (pa_cons pe_int pa_nil)) (pa_cons (pe_lst (pa_cons pe_int pa_nil)) (pa_cons (pv 3) (pa_cons (pe_op op_sub pe_int (pv 3)) (pa_cons (pe_op op_add (pv 3) pe_int) (pa_cons (pe_tup pa_nil) pa_nil))))))))))) (pe_call G_l_take hr (by rfl) T.g_l_take T.f_l_take.kp T.b_l_take .nil pass0 (pa_cons (pv 2) (pa_cons pe_int pa_nil))) (fun _ _ => rfl)))
      (pss_cons (ps_set (i := 5) sc_law.nd rfl (.inl rfl) (pe_ix (ixLK (K := K) rfl) (pe_lst (pa_cons pe_int (pa_cons (pe_op op_add pe_int (pe_call G_l_take hr (by rfl) T.g_l_take T.f_l_take.kp T.b_l_take .nil pass0 (pa_cons (pv 2) (pa_cons (pe_op op_powW pe_int pe_int) pa_nil)))) pa_nil))) (pe_call G_l_take hr (by rfl) T.g_l_take T.f_l_take.kp T.b_l_take .nil pass0 (pa_cons (pv 2) (pa_cons pe_int pa_nil))) (fun _ _ => rfl)))
      (pss_cons (ps_asg (pe_tup (pa_cons (pe_op op_mulW (pe_call G_l_far hr (by rfl) T.g_l_far T.f_l_far.kp T.b_l_far .nil pass0 (pa_cons (pv 2) pa_nil)) (pv 5)) (pa_cons (pe_op op_mulW (pe_call G_l_far hr (by rfl) T.g_l_far T.f_l_far.kp T.b_l_far .nil pass0 (pa_cons (pv 2) pa_nil)) (pv 5)) pa_nil))) (pg_tup rfl (pgs_cons (pg_name (i := 6) sc_law.nd rfl (.inr rfl)) (pgs_cons (pg_name (i := 7) sc_law.nd rfl (.inl rfl)) pgs_nil))))
      (pss_cut (ps_if (PW.pt (pw_and (pt_cmpR op_ne (pv 7) pe_int (nomark _)) (pw_and1 (pt_not (pt_val (pe_call G_l_right hr (by rfl) T.g_l_right T.f_l_right.kp T.b_l_right .nil pass0 (pa_cons (pv 6) (pa_cons (pv 7) pa_nil))))))))
      (pss_one (ps_ret pe_bl))
      pss_nil)
      (pss_cons (ps_if (pt_cmpR op_ne (pe_how T TBL rfl hmL huL hr (LamX.lamS_by (sc := defScope (topS 41)) (by decide +kernel)) (fun _ _ _ _ E _ _ hr2 => (pe_make T.M_Ratio G_Ratio_lam hr2 (by rfl) T.k_Ratio B2_Ratio R2_Ratio (passes_call (takes_of rfl rfl rfl rfl) (fun _ _ _ _ h => h)) (pa_cons (pv 6) (pa_cons pe_int pa_nil))))) pe_str (nomark _))
      (pss_one (ps_ret pe_bl))
      pss_nil)
      (pss_cons (ps_if (pt_cmpR op_ne (pe_how T TBL rfl hmL huL hr (LamX.lamS_by (sc := defScope (topS 41)) (by decide +kernel)) (fun _ _ _ _ E _ _ hr2 => (pe_make T.M_Ratio G_Ratio_lam hr2 (by rfl) T.k_Ratio B2_Ratio R2_Ratio (passes_call (takes_of rfl rfl rfl rfl) (fun _ _ _ _ h => h)) (pa_cons (pv 4) (pa_cons pe_int pa_nil))))) pe_str (nomark _))
      (pss_one (ps_ret pe_bl))
      pss_nil)
      (pss_cons (ps_if (pt_cmpR op_ne (pe_how T TBL rfl hmL huL hr (LamX.lamS_by (sc := defScope (topS 41)) (by decide +kernel)) (fun _ _ _ _ E _ _ hr2 => (pe_make T.M_Ratio G_Ratio_lam hr2 (by rfl) T.k_Ratio B2_Ratio R2_Ratio (passes_call (takes_of rfl rfl rfl rfl) (fun _ _ _ _ h => h)) (pa_cons (pv 4) (pa_cons pe_int pa_nil))))) pe_str (nomark _))
      (pss_one (ps_ret pe_bl))
      pss_nil)
      (pss_cons (ps_if (pt_cmpR op_ne (pe_how T TBL rfl hmL huL hr (LamX.lamS_by (sc := defScope (topS 41)) (by decide +kernel)) (fun _ _ _ _ E _ _ hr2 => (pe_make T.M_Ratio G_Ratio_lam hr2 (by rfl) T.k_Ratio B1_Ratio R1_Ratio (passes_call (takes_of rfl rfl rfl rfl) (fun _ _ _ _ h => h)) (pa_cons (pv 4) pa_nil)))) pe_str (nomark _))
      (pss_one (ps_ret pe_bl))
      pss_nil)
      (pss_cons (ps_if (pt_cmpR op_ne (pe_how T TBL rfl hmL huL hr (LamX.lamS_by (sc := defScope (topS 41)) (by decide +kernel)) (fun _ _ _ _ E _ _ hr2 => (pe_make T.M_Ratio G_Ratio_lam hr2 (by rfl) T.k_Ratio B2_Ratio R2_Ratio (passes_call (takes_of rfl rfl rfl rfl) (fun _ _ _ _ h => h)) (pa_cons (pv 6) (pa_cons (pv 4) pa_nil))))) pe_str (nomark _))
      (pss_one (ps_ret pe_bl))
      pss_nil)
      (pss_one (ps_if (pt_cmpR op_ne (pe_how T TBL rfl hmL huL hr (LamX.lamS_by (sc := defScope (topS 41)) (by decide +kernel)) (fun _ _ _ _ E _ _ hr2 => (pe_make T.M_Ratio G_Ratio_lam hr2 (by rfl) T.k_Ratio B2_Ratio R2_Ratio (passes_call (takes_of rfl rfl rfl rfl) (fun _ _ _ _ h => h)) (pa_cons pe_int (pa_cons pe_bl pa_nil))))) pe_str (nomark _))
      (pss_one (ps_ret pe_bl))
      pss_nil))))))))))))))
      (pss_one (ps_ret (pe_and (pe_cmpR (Own.op_eqO G_Ratio_eq T.M_Ratio_eq T.b_Ratio_eq pass0 hr (K := K) rfl) (pe_make T.M_Ratio G_Ratio hr (by rfl) T.k_Ratio B2_Ratio R2_Ratio passL (pa_cons pe_int (pa_cons (pe_op op_sub pe_int pe_int) pa_nil))) (pe_make T.M_Ratio G_Ratio hr (by rfl) T.k_Ratio B1_Ratio R1_Ratio passL (pa_cons pe_int pa_nil)) (nomark _)) (pe_and (pe_cmpR (Own.op_eqO G_Ratio_eq T.M_Ratio_eq T.b_Ratio_eq pass0 hr (K := K) rfl) (pe_make T.M_Ratio G_Ratio hr (by rfl) T.k_Ratio B2_Ratio R2_Ratio passL (pa_cons pe_int (pa_cons pe_int pa_nil))) (pe_make T.M_Ratio G_Ratio hr (by rfl) T.k_Ratio B1_Ratio R1_Ratio passL (pa_cons pe_int pa_nil)) (nomark _)) (pe_and (pe_cmpR (Own.op_neO G_Ratio_eq7 T.M_Ratio_eq T.b_Ratio_eq pass0 hr T.neQ T.moQ (K := K) rfl) (pe_make T.M_Ratio G_Ratio hr (by rfl) T.k_Ratio B1_Ratio R1_Ratio passL (pa_cons pe_int pa_nil)) pe_int (nomark _)) (pe_one (pe_cmpR (Own.op_neO G_Ratio_eq7 T.M_Ratio_eq T.b_Ratio_eq pass0 hr T.neQ T.moQ (K := K) rfl) (pe_make T.M_Ratio G_Ratio hr (by rfl) T.k_Ratio B1_Ratio R1_Ratio passL (pa_cons pe_int pa_nil)) (pe_make T.M_Ratio G_Ratio hr (by rfl) T.k_Ratio B2_Ratio R2_Ratio passL (pa_cons pe_int (pa_cons pe_int pa_nil))) (nomark _))))))))), ?_⟩
    generalize hTt : [(PR, lamQ "law")] = Tt at *
    refine ⟨.ref a, rfl, a, _, rfl, .inl hS, _, 12, rfl, 2, _, rfl, (if (if (12 : Int) < ((ns.map V.int).length : Int) then 12 else ((ns.map V.int).length : Int)) > 2 then (if (12 : Int) < ((ns.map V.int).length : Int) then 12 else ((ns.map V.int).length : Int)) else 2), rfl, ?_, ?_, ?_⟩
    · have := maxmin12 (ns.map V.int).length
      omega
    · have := maxmin12 (ns.map V.int).length
      omega
    have hmm := maxmin12 (ns.map V.int).length
    generalize (if (if (12 : Int) < ((ns.map V.int).length : Int) then 12 else ((ns.map V.int).length : Int)) > 2 then (if (12 : Int) < ((ns.map V.int).length : Int) then 12 else ((ns.map V.int).length : Int)) else 2) = n at hmm ⊢
    refine for_range (lo := 0) (n := n.toNat) (fun i σ' H' => ∃ y1 y2 y3 y4 y5 y6 y7 : Option V, σ' = [some (.ref a), y1, y2, y3, y4, y5, y6, y7] ∧ LamX.ExtN H H' ∧ LamX.Tabs Tt H') ⟨none, none, none, none, none, none, none, rfl, LamX.ExtN.refl H, hT⟩ (fun i σ' H' hi pv => ?_) (fun σ' H' pv => ?_)
    · obtain ⟨y1, y2, y3, y4, y5, y6, y7, rfl, e0, T0⟩ := pv
      refine ⟨.ref a, rfl, .int ((0 : Int) + i), rfl, a, ns, i, ?_, sql_exN e0 hS, hn, by omega, fun p H1 np e1 hp1 => ?_⟩
      · show [V.ref a, V.int ((0 : Int) + i)] = [V.ref a, V.int (i : Int)]
        rw [Int.zero_add]
      have T1 := LamX.Tabs.ext T0 e1
      refine ⟨10, 60, rfl, rfl, ⟨by decide, by decide, by decide +kernel⟩, _, 5, rfl, rfl, ⟨by decide, by decide, by decide +kernel⟩, ?_⟩
      refine ⟨by show 1 ≤ sizeLine; decide, fun t1 nt1 => ⟨by show 1 ≤ sizeLine; decide, fun l1 nl1 => ⟨.int GR, rfl, .int GR, rfl, 0, GR, rfl, rfl, .int GR, rfl, GR, 7, rfl, rfl, by show 0 ≤ sizeLine; decide, fun t2 nt2 => ⟨by show 10 ≤ sizeLine; decide, fun L nL => ?_⟩⟩⟩⟩
      have z1 := Ex.new (o := .tup [V.int 3]) nt1
      have k1 := upd_same (H := H1) (a := t1) (o := .tup [V.int 3])
      generalize (upd H1 t1 (.tup [V.int 3])) = J1 at z1 k1 nl1 nt2 nL ⊢
      have z2 := Ex.new (o := .lst [V.int 3]) nl1
      have k2 := upd_same (H := J1) (a := l1) (o := .lst [V.int 3])
      generalize (upd J1 l1 (.lst [V.int 3])) = J2 at z2 k2 nt2 nL ⊢
      have z3 := Ex.new (o := .tup []) nt2
      have k3 := upd_same (H := J2) (a := t2) (o := .tup [])
      generalize (upd J2 t2 (.tup [])) = J3 at z3 k3 nL ⊢
      have z4 := Ex.new (o := .lst [.bl true, .bl false, .non, .str "3", .ref t1, .ref l1, .int GR, .int (0 - GR), .int (GR + 7), .ref t2]) nL
      have k4 := upd_same (H := J3) (a := L) (o := .lst [.bl true, .bl false, .non, .str "3", .ref t1, .ref l1, .int GR, .int (0 - GR), .int (GR + 7), .ref t2])
      have e4 := ((z1.trans z2).trans z3).trans z4
      have hp4 := hp1.ex e4
      have T4 := LamX.Tabs.ext T1 e4
      have nLp : L ≠ p := by
        obtain ⟨xs, hx⟩ := hp1.some
        exact (ne_of_none (z3 _ _ (z2 _ _ (z1 _ _ hx))) nL).symm
      have zf : ∀ {A B : Hp}, LamX.ExtN H A → Fx p A B → LamX.ExtN H B := fun z f b o h n => f _ _ (fun e => by rw [e] at h; exact absurd (e0 _ _ h n) (by rw [np]; intro z; cases z)) (z b o h n)
      refine ⟨.ref p, rfl, p, 10, 0, rfl, hp4, by decide, by decide, by decide, fun d H2 d0 d1 hp2 f2 => ?_⟩
      have zz2 := zf ((e0.trans (LamX.ExtN.of e1)).trans (LamX.ExtN.of e4)) f2
      have T2 := tabs_fx T4 hp4 f2
      have k4' := f2 _ _ nLp k4
      have k1' := f2.tup hp4 (z4 _ _ (z3 _ _ (z2 _ _ k1)))
      have k3' := f2.tup hp4 (z4 _ _ k3)
      have nl1p : l1 ≠ p := by
        obtain ⟨xs, hx⟩ := hp1.some
        exact (ne_of_none (z1 _ _ hx) nl1).symm
      have k2' := f2 _ _ nl1p (z4 _ _ (z3 _ _ k2))
      have nt1p : t1 ≠ p := by
        obtain ⟨xs, hx⟩ := hp1.some
        exact (ne_of_none hx nt1).symm
      have nt2p : t2 ≠ p := by
        obtain ⟨xs, hx⟩ := hp1.some
        exact (ne_of_none (z2 _ _ (z1 _ _ hx)) nt2).symm
      obtain ⟨v, hv, tv, bad, vne⟩ : ∃ v : V, atI [V.bl true, .bl false, .non, .str "3", .ref t1, .ref l1, .int GR, .int (0 - GR), .int (GR + 7), .ref t2] d = some v ∧ Th H2 v ∧ figOk v = false ∧ v ≠ .ref p := by
        obtain ⟨d, rfl⟩ := Int.eq_ofNat_of_zero_le d0
        match d, d1 with
        | 0, _ => exact ⟨_, atI_nat (j := 0) rfl, .bl _, rfl, (by intro z; cases z)⟩
        | 1, _ => exact ⟨_, atI_nat (j := 1) rfl, .bl _, rfl, (by intro z; cases z)⟩
        | 2, _ => exact ⟨_, atI_nat (j := 2) rfl, .non, rfl, (by intro z; cases z)⟩
        | 3, _ => exact ⟨_, atI_nat (j := 3) rfl, .str _, rfl, (by intro z; cases z)⟩
        | 4, _ => exact ⟨_, atI_nat (j := 4) rfl, .tup k1', rfl, (fun z => nt1p (V.ref.inj z))⟩
        | 5, _ => exact ⟨_, atI_nat (j := 5) rfl, .lst k2', rfl, (fun z => nl1p (V.ref.inj z))⟩
        | 6, _ => exact ⟨_, atI_nat (j := 6) rfl, .int _, gr1, (by intro z; cases z)⟩
        | 7, _ => exact ⟨_, atI_nat (j := 7) rfl, .int _, gr2, (by intro z; cases z)⟩
        | 8, _ => exact ⟨_, atI_nat (j := 8) rfl, .int _, gr3, (by intro z; cases z)⟩
        | 9, _ => exact ⟨_, atI_nat (j := 9) rfl, .tup k3', rfl, (fun z => nt2p (V.ref.inj z))⟩
        | k + 10, z => exact absurd z (by omega)
      refine ⟨L, _, d, v, rfl, rfl, SqL.of k4', hv, ?_⟩
      clear nt1p nt2p k1' k2' k3' k4' k1 k2 k3 k4 hv nl1 nt1 nt2 nL z1 z2 z3 z4 e4 hp4 T4 f2 nLp nl1p hp1 e1 T1
      refine ⟨.ref p, rfl, 10, 10, rfl, rfl, ⟨by decide, by decide, by decide +kernel⟩, p, _, 1, rfl, hp2, by decide, by decide, by decide, fun w H3 w0 w1 hp3 f3 => ⟨1, w, rfl, rfl, by show 2 ≤ sizeLine; decide, fun L2 nL2 => ?_⟩⟩
      have w1 : w < 10000000000 := w1
      have zz3 := zf zz2 f3
      have T3 := tabs_fx T2 hp2 f3
      have thf : ∀ {A B : Hp} {c : Nat}, Th A v → Pl A p c → Fx p A B → Th B v := fun t hp f => by
        cases t with
        | str z => exact .str z
        | non => exact .non
        | bl b => exact .bl b
        | int i => exact .int i
        | lst h => exact .lst (f _ _ (fun e => vne (by rw [e])) h)
        | tup h => exact .tup (f.tup hp h)
      have tv3 := thf tv hp2 f3
      have e4 := Ex.new (o := .lst [V.int 1, .int (1 + w)]) nL2
      have k4 := upd_same (H := H3) (a := L2) (o := .lst [V.int 1, .int (1 + w)])
      have hp4 := hp3.ex e4
      have tv4 := tv3.ex e4
      have nLp : L2 ≠ p := by
        obtain ⟨xs, hx⟩ := hp3.some
        exact (ne_of_none hx nL2).symm
      refine ⟨.ref p, rfl, p, 2, 2, rfl, hp4, by decide, by decide, by decide, fun d2 H5 d20 d21 hp5 f5 => ?_⟩
      have zz5 := zf (zz3.trans (LamX.ExtN.of e4)) f5
      have T5 := tabs_fx (LamX.Tabs.ext T3 e4) hp4 f5
      have tv5 := thf tv4 hp4 f5
      have k5 := f5 _ _ nLp k4
      obtain ⟨by_, hby, bb⟩ : ∃ y : Int, atI [V.int 1, .int (1 + w)] d2 = some (.int y) ∧ y.natAbs < 2 ^ 35 := by
        obtain ⟨d2, rfl⟩ := Int.eq_ofNat_of_zero_le d20
        match d2, d21 with
        | 0, _ => exact ⟨1, atI_nat (j := 0) rfl, by decide⟩
        | 1, _ => exact ⟨1 + w, atI_nat (j := 1) rfl, by
            have e : (2 : Nat) ^ 35 = 34359738368 := by decide
            rw [e]
            omega⟩
        | k + 2, z => exact absurd z (by omega)
      refine ⟨L2, _, d2, .int by_, rfl, rfl, SqL.of k5, hby, ?_⟩
      clear k4 k5 e4 hp4 tv4 tv3 f3 f5 hp2 hp3 zz3 T3 T2 zz2 tv hby nL2 nLp
      refine ⟨.ref p, rfl, p, 3, rfl, hp5, by decide, fun u1 H6 bu hp6 f6 => ⟨.int by_, rfl, u1, by_, rfl, rfl, cmul2 bu bb (by decide), .ref p, rfl, p, 43, rfl, hp6, by decide, fun u2 H7 bl hp7 f7 => ⟨.int by_, rfl, u2, by_, rfl, rfl, cmul2 bl bb (by decide), by show 2 ≤ sizeLine; decide, fun t nt => ?_⟩⟩⟩
      have zz7 := zf (zf zz5 f6) f7
      have T7 := tabs_fx (tabs_fx T5 hp5 f6) hp6 f7
      have tv7 := thf (thf tv5 hp5 f6) hp6 f7
      have bup : (u1 * by_).natAbs < 2 ^ 980 := lt2 (mul2 bu bb) (by decide)
      have blo : (u2 * by_).natAbs < 2 ^ 980 := lt2 (mul2 bl bb) (by decide)
      refine ⟨t, _, rfl, SqT.of upd_same, rfl, _, _, rfl, _, _, rfl, rfl, ?_⟩
      have e8 := Ex.new (o := .tup [V.int (u1 * by_), .int (u2 * by_)]) nt
      have zz8 := zz7.trans (LamX.ExtN.of e8)
      have T8 := LamX.Tabs.ext T7 e8
      have tv8 := tv7.ex e8
      refine ⟨fun σ' H' => σ' = [some (.ref a), some (.int ((0 : Int) + i)), some (.ref p), some (.int GR), some v, some (.int by_), some (.int (u1 * by_)), some (.int (u2 * by_))] ∧ LamX.ExtN H H' ∧ LamX.Tabs Tt H' ∧ Th H' v, ?_, fun σ9 H9 ph => ?_⟩
      · refine ⟨.int (u2 * by_), rfl, rfl, _, rfl, ite2 (fun c => ?_) (fun c => iteF ⟨rfl, zz8, T8, tv8⟩)⟩
        have l0 : u2 * by_ ≠ 0 := fun z => by
          rw [z] at c
          exact absurd c (by decide)
        refine ⟨.int (u1 * by_), rfl, .int (u2 * by_), rfl, u1 * by_, u2 * by_, rfl, l0, bup, blo, fun Ha ea => ⟨true, rfl, iteF ⟨rfl, zz8.trans (LamX.ExtN.of ea), LamX.Tabs.ext T8 ea, tv8.ex ea⟩⟩⟩
      clear zz8 T8 tv8 e8 zz7 T7 tv7 nt hp7 f6 f7 hp5 hp6 zz5 T5 tv5
      obtain ⟨rfl, z9, T9, tv9⟩ := ph
      have b9 : (u1 * by_).natAbs < 2 ^ 990 := lt2 bup (by decide)
      refine ⟨T9, fun J1 n1 S1 => ⟨.int (u1 * by_), rfl, fun x dx nx ndx _ => mk_zero T nx ndx b9 fun K1 q1 => ⟨rfl, _, rfl, ite_ne rfl ?_⟩⟩⟩
      have y1 := (z9.trans n1).trans (LamX.ExtN.of q1)
      have S1 := LamX.Tabs.ext S1 q1
      have v1 := (tv9.exN n1).ex q1
      clear n1 q1 nx ndx z9 T9 tv9
      refine ⟨S1, fun J2 n2 S2 => ⟨v, rfl, fun x dx nx ndx _ => mk_odd T nx ndx (v1.exN n2) (.int 0) (.inl bad) fun K2 q2 => ⟨rfl, _, rfl, ite_ne rfl ?_⟩⟩⟩
      have y2 := (y1.trans n2).trans (LamX.ExtN.of q2)
      have S2 := LamX.Tabs.ext S2 q2
      have v2 := (v1.exN n2).ex q2
      clear n2 q2 nx ndx y1 S1 v1
      refine ⟨S2, fun J2 n2 S3 => ⟨v, rfl, fun x dx nx ndx _ => mk_odd T nx ndx (v2.exN n2) (.int 3) (.inl bad) fun K2 q2 => ⟨rfl, _, rfl, ite_ne rfl ?_⟩⟩⟩
      have y3 := (y2.trans n2).trans (LamX.ExtN.of q2)
      have S3 := LamX.Tabs.ext S3 q2
      have v3 := (v2.exN n2).ex q2
      clear n2 q2 nx ndx y2 S2 v2
      refine ⟨S3, fun J2 n2 S4 => ⟨v, rfl, fun x dx nx ndx _ => mk_odd T nx ndx (v3.exN n2) (.int 1) (.inl bad) fun K2 q2 => ⟨rfl, _, rfl, ite_ne rfl ?_⟩⟩⟩
      have y4 := (y3.trans n2).trans (LamX.ExtN.of q2)
      have S4 := LamX.Tabs.ext S4 q2
      have v4 := (v3.exN n2).ex q2
      clear n2 q2 nx ndx y3 S3 v3
      refine ⟨S4, fun J2 n2 S5 => ⟨.int (u1 * by_), rfl, v, rfl, fun x dx nx ndx _ => mk_odd T nx ndx (.int _) (v4.exN n2) (.inr bad) fun K2 q2 => ⟨rfl, _, rfl, ite_ne rfl ?_⟩⟩⟩
      have y5 := (y4.trans n2).trans (LamX.ExtN.of q2)
      have S5 := LamX.Tabs.ext S5 q2
      clear n2 q2 nx ndx y4 S4 v4
      refine ⟨S5, fun J2 n2 S6 x dx nx ndx _ => mk_odd T nx ndx (.int _) (.bl true) (.inr rfl) fun K2 q2 => ⟨rfl, _, rfl, ite_ne rfl ?_⟩⟩
      exact ⟨_, _, _, _, _, _, _, rfl, (y5.trans n2).trans (LamX.ExtN.of q2), LamX.Tabs.ext S6 q2⟩
    · obtain ⟨y1, y2, y3, y4, y5, y6, y7, rfl, e0, T0⟩ := pv
      have small : ∀ n : Nat, n < 10 → n < 2 ^ 990 := fun n h => Nat.lt_trans h (by decide +kernel)
      refine ⟨0, 7, rfl, rfl, fun x dx nx ndx _ => mk_ratio nx ndx (by decide) (by decide) (small _ (by decide)) fun J1 q1 hx => ?_⟩
      refine fun x2 dx2 nx2 nd2 _ => mk_ratio nx2 nd2 (by decide) (by decide) (small _ (by decide)) fun J2 q2 hx2 => ?_
      have hx' := hx.ex q2
      obtain ⟨a1, i1⟩ := id hx'
      obtain ⟨a2, i2⟩ := id hx2
      refine ⟨x, a1, _, rfl, i1, .inl ⟨x2, a2, _, rfl, i2⟩, x, _, _, .ref x2, rfl, hx', .inl ⟨x2, _, _, rfl, hx2, _, rfl, _, rfl, ?_⟩⟩
      rw [show (decide (lwT 0 (0 - 7) = lwT 0 1) && decide (lwB 0 (0 - 7) = lwB 0 1)) = true by decide +kernel]
      refine iteT ?_
      clear hx hx2 hx' i1 i2 q1 q2 nx nx2 ndx nd2
      refine fun x dx nx ndx _ => mk_ratio nx ndx (by decide) (small _ (by decide)) (small _ (by decide)) fun J3 q1 hx => ?_
      refine fun x2 dx2 nx2 nd2 _ => mk_ratio nx2 nd2 (by decide) (small _ (by decide)) (small _ (by decide)) fun J4 q2 hx2 => ?_
      have hx' := hx.ex q2
      obtain ⟨a1, i1⟩ := id hx'
      obtain ⟨a2, i2⟩ := id hx2
      refine ⟨x, a1, _, rfl, i1, .inl ⟨x2, a2, _, rfl, i2⟩, x, _, _, .ref x2, rfl, hx', .inl ⟨x2, _, _, rfl, hx2, _, rfl, _, rfl, ?_⟩⟩
      rw [show (decide (lwT 2 2 = lwT 1 1) && decide (lwB 2 2 = lwB 1 1)) = true by decide +kernel]
      refine iteT ?_
      clear hx hx2 hx' i1 i2 q1 q2 nx nx2 ndx nd2
      refine fun x dx nx ndx _ => mk_ratio nx ndx (by decide) (small _ (by decide)) (small _ (by decide)) fun J5 q1 hx => ?_
      obtain ⟨a1, i1⟩ := id hx
      refine ⟨x, a1, _, rfl, i1, .inr ⟨"int", .base (.int _), Own.nf rfl rfl⟩, x, _, _, .int 1, rfl, hx, .inr ⟨rt_else (.base (.int _)) T.kint, _, rfl, _, rfl, iteT ?_⟩⟩
      clear hx i1 q1 nx ndx
      refine fun x dx nx ndx _ => mk_ratio nx ndx (by decide) (small _ (by decide)) (small _ (by decide)) fun J6 q1 hx => ?_
      refine fun x2 dx2 nx2 nd2 _ => mk_ratio nx2 nd2 (by decide) (small _ (by decide)) (small _ (by decide)) fun J7 q2 hx2 => ?_
      have hx' := hx.ex q2
      obtain ⟨a1, i1⟩ := id hx'
      obtain ⟨a2, i2⟩ := id hx2
      refine ⟨x, a1, _, rfl, i1, .inl ⟨x2, a2, _, rfl, i2⟩, x, _, _, .ref x2, rfl, hx', .inl ⟨x2, _, _, rfl, hx2, _, rfl, ?_⟩⟩
      rw [show (decide (lwT 1 1 = lwT 1 2) && decide (lwB 1 1 = lwB 1 2)) = false by decide +kernel]
      exact q _

end
set_option maxHeartbeats 8000000 in
theorem all_mk {l : PySem.W.OpenLaw} {w : World} {K : PySem.W.Frag} {h : Heap} {mg : Str → Option Value} {fa : Addr} (X : K.In h) (G : h.Ns mainGlobals mg) (hfa : mg "law" = some (.ref fa))
    {f22 : Addr} {od22 an22 : Option Addr} {sl22 : Array (Option Value)} {oc22 kV22 dc22 pm22 cd22 ct22 : Value}
    (a22 : PySem.W.nsIn K mainGlobals "is_whole" = some (some (.ref f22))) (l22 : K.lookup f22 = some ⟨oc22, od22, .func (PySem.W.fnOf "is_whole" "is_whole" (defArgs (topS 22)) (defBody (topS 22)) (defScope (topS 22)) .none kV22 dc22 pm22 an22 cd22 ct22), sl22⟩) (c22 : PySem.W.codeIn K cd22 "is_whole" = true) (k22 : PySem.W.keepIn K (.ref f22) = true)
    {f28 : Addr} {od28 an28 : Option Addr} {sl28 : Array (Option Value)} {oc28 kV28 dc28 pm28 cd28 ct28 : Value}
    (a28 : PySem.W.nsIn K mainGlobals "lowest" = some (some (.ref f28))) (l28 : K.lookup f28 = some ⟨oc28, od28, .func (PySem.W.fnOf "lowest" "lowest" (defArgs (topS 28)) (defBody (topS 28)) (defScope (topS 28)) .none kV28 dc28 pm28 an28 cd28 ct28), sl28⟩) (c28 : PySem.W.codeIn K cd28 "lowest" = true) (k28 : PySem.W.keepIn K (.ref f28) = true)
    {f29 : Addr} {od29 an29 : Option Addr} {sl29 : Array (Option Value)} {oc29 kV29 dc29 pm29 cd29 ct29 : Value}
    (a29 : PySem.W.nsIn K mainGlobals "check_figures" = some (some (.ref f29))) (l29 : K.lookup f29 = some ⟨oc29, od29, .func (PySem.W.fnOf "check_figures" "check_figures" (defArgs (topS 29)) (defBody (topS 29)) (defScope (topS 29)) .none kV29 dc29 pm29 an29 cd29 ct29), sl29⟩) (c29 : PySem.W.codeIn K cd29 "check_figures" = true) (k29 : PySem.W.keepIn K (.ref f29) = true)
    {f30 : Addr} {od30 an30 : Option Addr} {sl30 : Array (Option Value)} {oc30 kV30 dc30 pm30 cd30 ct30 : Value}
    (a30 : PySem.W.nsIn K mainGlobals "figures_of" = some (some (.ref f30))) (l30 : K.lookup f30 = some ⟨oc30, od30, .func (PySem.W.fnOf "figures_of" "figures_of" (defArgs (topS 30)) (defBody (topS 30)) (defScope (topS 30)) .none kV30 dc30 pm30 an30 cd30 ct30), sl30⟩) (c30 : PySem.W.codeIn K cd30 "figures_of" = true) (k30 : PySem.W.keepIn K (.ref f30) = true)
    {f32 : Addr} {od32 an32 : Option Addr} {sl32 : Array (Option Value)} {oc32 kV32 dc32 pm32 cd32 ct32 : Value}
    (a32 : PySem.W.nsIn K mainGlobals "_law_purse" = some (some (.ref f32))) (l32 : K.lookup f32 = some ⟨oc32, od32, .func (PySem.W.fnOf "_law_purse" "_law_purse" (defArgs (topS 32)) (defBody (topS 32)) (defScope (topS 32)) .none kV32 dc32 pm32 an32 cd32 ct32), sl32⟩) (c32 : PySem.W.codeIn K cd32 "_law_purse" = true) (k32 : PySem.W.keepIn K (.ref f32) = true)
    {f33 : Addr} {od33 an33 : Option Addr} {sl33 : Array (Option Value)} {oc33 kV33 dc33 pm33 cd33 ct33 : Value}
    (a33 : PySem.W.nsIn K mainGlobals "_law_take" = some (some (.ref f33))) (l33 : K.lookup f33 = some ⟨oc33, od33, .func (PySem.W.fnOf "_law_take" "_law_take" (defArgs (topS 33)) (defBody (topS 33)) (defScope (topS 33)) .none kV33 dc33 pm33 an33 cd33 ct33), sl33⟩) (c33 : PySem.W.codeIn K cd33 "_law_take" = true) (k33 : PySem.W.keepIn K (.ref f33) = true)
    {f34 : Addr} {od34 an34 : Option Addr} {sl34 : Array (Option Value)} {oc34 kV34 dc34 pm34 cd34 ct34 : Value}
    (a34 : PySem.W.nsIn K mainGlobals "_law_low" = some (some (.ref f34))) (l34 : K.lookup f34 = some ⟨oc34, od34, .func (PySem.W.fnOf "_law_low" "_law_low" (defArgs (topS 34)) (defBody (topS 34)) (defScope (topS 34)) .none kV34 dc34 pm34 an34 cd34 ct34), sl34⟩) (c34 : PySem.W.codeIn K cd34 "_law_low" = true) (k34 : PySem.W.keepIn K (.ref f34) = true)
    {f35 : Addr} {od35 an35 : Option Addr} {sl35 : Array (Option Value)} {oc35 kV35 dc35 pm35 cd35 ct35 : Value}
    (a35 : PySem.W.nsIn K mainGlobals "_law_is_ratio" = some (some (.ref f35))) (l35 : K.lookup f35 = some ⟨oc35, od35, .func (PySem.W.fnOf "_law_is_ratio" "_law_is_ratio" (defArgs (topS 35)) (defBody (topS 35)) (defScope (topS 35)) .none kV35 dc35 pm35 an35 cd35 ct35), sl35⟩) (c35 : PySem.W.codeIn K cd35 "_law_is_ratio" = true) (k35 : PySem.W.keepIn K (.ref f35) = true)
    {f36 : Addr} {od36 an36 : Option Addr} {sl36 : Array (Option Value)} {oc36 kV36 dc36 pm36 cd36 ct36 : Value}
    (a36 : PySem.W.nsIn K mainGlobals "_law_kind" = some (some (.ref f36))) (l36 : K.lookup f36 = some ⟨oc36, od36, .func (PySem.W.fnOf "_law_kind" "_law_kind" (defArgs (topS 36)) (defBody (topS 36)) (defScope (topS 36)) .none kV36 dc36 pm36 an36 cd36 ct36), sl36⟩) (c36 : PySem.W.codeIn K cd36 "_law_kind" = true) (k36 : PySem.W.keepIn K (.ref f36) = true)
    {f37 : Addr} {od37 an37 : Option Addr} {sl37 : Array (Option Value)} {oc37 kV37 dc37 pm37 cd37 ct37 : Value}
    (a37 : PySem.W.nsIn K mainGlobals "_law_how" = some (some (.ref f37))) (l37 : K.lookup f37 = some ⟨oc37, od37, .func (PySem.W.fnOf "_law_how" "_law_how" (defArgs (topS 37)) (defBody (topS 37)) (defScope (topS 37)) .none kV37 dc37 pm37 an37 cd37 ct37), sl37⟩) (c37 : PySem.W.codeIn K cd37 "_law_how" = true) (k37 : PySem.W.keepIn K (.ref f37) = true)
    {f38 : Addr} {od38 an38 : Option Addr} {sl38 : Array (Option Value)} {oc38 kV38 dc38 pm38 cd38 ct38 : Value}
    (a38 : PySem.W.nsIn K mainGlobals "_law_far" = some (some (.ref f38))) (l38 : K.lookup f38 = some ⟨oc38, od38, .func (PySem.W.fnOf "_law_far" "_law_far" (defArgs (topS 38)) (defBody (topS 38)) (defScope (topS 38)) .none kV38 dc38 pm38 an38 cd38 ct38), sl38⟩) (c38 : PySem.W.codeIn K cd38 "_law_far" = true) (k38 : PySem.W.keepIn K (.ref f38) = true)
    {f39 : Addr} {od39 an39 : Option Addr} {sl39 : Array (Option Value)} {oc39 kV39 dc39 pm39 cd39 ct39 : Value}
    (a39 : PySem.W.nsIn K mainGlobals "_law_shown" = some (some (.ref f39))) (l39 : K.lookup f39 = some ⟨oc39, od39, .func (PySem.W.fnOf "_law_shown" "_law_shown" (defArgs (topS 39)) (defBody (topS 39)) (defScope (topS 39)) .none kV39 dc39 pm39 an39 cd39 ct39), sl39⟩) (c39 : PySem.W.codeIn K cd39 "_law_shown" = true) (k39 : PySem.W.keepIn K (.ref f39) = true)
    {f40 : Addr} {od40 an40 : Option Addr} {sl40 : Array (Option Value)} {oc40 kV40 dc40 pm40 cd40 ct40 : Value}
    (a40 : PySem.W.nsIn K mainGlobals "_law_right" = some (some (.ref f40))) (l40 : K.lookup f40 = some ⟨oc40, od40, .func (PySem.W.fnOf "_law_right" "_law_right" (defArgs (topS 40)) (defBody (topS 40)) (defScope (topS 40)) .none kV40 dc40 pm40 an40 cd40 ct40), sl40⟩) (c40 : PySem.W.codeIn K cd40 "_law_right" = true) (k40 : PySem.W.keepIn K (.ref f40) = true)
    {f41 : Addr} {od41 an41 : Option Addr} {sl41 : Array (Option Value)} {oc41 kV41 dc41 pm41 ct41 : Value} {cc41 : Addr}
    (a41 : PySem.W.nsIn K mainGlobals "law" = some (some (.ref f41))) (l41 : K.lookup f41 = some ⟨oc41, od41, .func (PySem.W.fnOf "law" "law" (defArgs (topS 41)) (defBody (topS 41)) (defScope (topS 41)) .none kV41 dc41 pm41 an41 (.ref cc41) ct41), sl41⟩) (c41 : PySem.W.codeIn K (.ref cc41) "law" = true) (k41 : PySem.W.keepIn K (.ref f41) = true)
    (z_IndexError : PySem.W.nsIn K mainGlobals "IndexError" = some none)
    (z_KeyError : PySem.W.nsIn K mainGlobals "KeyError" = some none)
    (z_ValueError : PySem.W.nsIn K mainGlobals "ValueError" = some none)
    (z_ZeroDivisionError : PySem.W.nsIn K mainGlobals "ZeroDivisionError" = some none)
    (z_abs : PySem.W.nsIn K mainGlobals "abs" = some none)
    (z_bool : PySem.W.nsIn K mainGlobals "bool" = some none)
    (z_divmod : PySem.W.nsIn K mainGlobals "divmod" = some none)
    (z_int : PySem.W.nsIn K mainGlobals "int" = some none)
    (z_isinstance : PySem.W.nsIn K mainGlobals "isinstance" = some none)
    (z_len : PySem.W.nsIn K mainGlobals "len" = some none)
    (z_max : PySem.W.nsIn K mainGlobals "max" = some none)
    (z_min : PySem.W.nsIn K mainGlobals "min" = some none)
    (z_range : PySem.W.nsIn K mainGlobals "range" = some none)
    (z_repr : PySem.W.nsIn K mainGlobals "repr" = some none)
    (z_reversed : PySem.W.nsIn K mainGlobals "reversed" = some none)
    (z_str : PySem.W.nsIn K mainGlobals "str" = some none)
    {tk24 : Tok} (e24 : PySem.W.nsIn K mainGlobals "TOO_GREAT" = some (some (.int 1000000000000000000000000000000000000000000000000000000000000000000000000000000000000000000000000000000000000000000000000000000000000000000000000000000000000000000000000000000000000000000000000000000000000000000000000000000000000000000000000000000000000000000000000000000000000000000000000000000000000 tk24)))
    {tk25 : Tok} (e25 : PySem.W.nsIn K mainGlobals "FIGURES_AT_ONCE" = some (some (.int 60 tk25)))
    {tk26 : Tok} (e26 : PySem.W.nsIn K mainGlobals "ONE_BEYOND" = some (some (.int 1000000000000000000000000000000000000000000000000000000000000 tk26)))
    {f2 : Addr} (a2 : PySem.W.nsIn K mainGlobals "Wrong" = some (some (.ref f2)))
    {f3 : Addr} (a3 : PySem.W.nsIn K mainGlobals "NoWord" = some (some (.ref f3)))
    {f4 : Addr} (a4 : PySem.W.nsIn K mainGlobals "NoText" = some (some (.ref f4)))
    {f5 : Addr} (a5 : PySem.W.nsIn K mainGlobals "NoNumber" = some (some (.ref f5)))
    {f6 : Addr} (a6 : PySem.W.nsIn K mainGlobals "NoSize" = some (some (.ref f6)))
    {f7 : Addr} (a7 : PySem.W.nsIn K mainGlobals "NoLengths" = some (some (.ref f7)))
    {f8 : Addr} (a8 : PySem.W.nsIn K mainGlobals "NoQuery" = some (some (.ref f8)))
    {f9 : Addr} (a9 : PySem.W.nsIn K mainGlobals "NoCode" = some (some (.ref f9)))
    {f10 : Addr} (a10 : PySem.W.nsIn K mainGlobals "NoRow" = some (some (.ref f10)))
    {f11 : Addr} (a11 : PySem.W.nsIn K mainGlobals "NoEntries" = some (some (.ref f11)))
    {f12 : Addr} (a12 : PySem.W.nsIn K mainGlobals "NoQueryText" = some (some (.ref f12)))
    {f13 : Addr} (a13 : PySem.W.nsIn K mainGlobals "NoPages" = some (some (.ref f13)))
    {f14 : Addr} (a14 : PySem.W.nsIn K mainGlobals "NoQueries" = some (some (.ref f14)))
    {f15 : Addr} (a15 : PySem.W.nsIn K mainGlobals "NoShelf" = some (some (.ref f15)))
    {f16 : Addr} (a16 : PySem.W.nsIn K mainGlobals "NoPlace" = some (some (.ref f16)))
    {f17 : Addr} (a17 : PySem.W.nsIn K mainGlobals "NoSlot" = some (some (.ref f17)))
    {f18 : Addr} (a18 : PySem.W.nsIn K mainGlobals "NoRatio" = some (some (.ref f18)))
    {f19 : Addr} (a19 : PySem.W.nsIn K mainGlobals "Gone" = some (some (.ref f19)))
    {f20 : Addr} (a20 : PySem.W.nsIn K mainGlobals "Held" = some (some (.ref f20)))
    {f27 : Addr} (a27 : PySem.W.nsIn K mainGlobals "Ratio" = some (some (.ref f27)))
    (xx5 : PySem.W.excIn K f5 [.type "ValueError", .type "Exception", .type "BaseException", .type "object"] "ValueError.__new__" = true) (xk5 : PySem.W.keepIn K (.ref f5) = true) (xb5 : PySem.W.subIn K (.ref f5) (.type "BaseException") = some true) (xt5 : PySem.W.typeIn K (.ref f5) = some (.type "type"))
    (xx18 : PySem.W.excIn K f18 [.type "ZeroDivisionError", .type "ArithmeticError", .type "Exception", .type "BaseException", .type "object"] "ZeroDivisionError.__new__" = true) (xk18 : PySem.W.keepIn K (.ref f18) = true) (xb18 : PySem.W.subIn K (.ref f18) (.type "BaseException") = some true) (xt18 : PySem.W.typeIn K (.ref f18) = some (.type "type"))
    (pg27 : PySem.W.plainGet K f27 Str.empty = true) (hd27 : PySem.W.hasDictIn K f27 = true) (po27 : PySem.W.plainOver K f27 = true) (sa27 : PySem.W.findIn K (.ref f27) "__setattr__" = some (some (.builtin "object.__setattr__"))) (mk27 : PySem.W.makesIn K f27 = true) (kc27 : PySem.W.keepIn K (.ref f27) = true)
    (na27_top : PySem.W.findIn K (.ref f27) "top" = some none)
    (na27_bottom : PySem.W.findIn K (.ref f27) "bottom" = some none)
    {f42 : Addr} {od42 an42 : Option Addr} {sl42 : Array (Option Value)} {oc42 kV42 dc42 pm42 cd42 ct42 : Value}
    (a42 : PySem.W.findIn K (.ref f27) "__init__" = some (some (.ref f42))) (i42 : PySem.W.isFn K (.ref f42) = true)
    {DT42 nd42 : Nat} {ocd42 : Value} {odd42 : Option Addr} {sld42 : Array (Option Value)} {td42_0 : Tok}
    (l42 : K.lookup f42 = some ⟨oc42, od42, .func (PySem.W.fnOf "__init__" "Ratio.__init__" (defArgs (inClass (topS 27) 0)) (defBody (inClass (topS 27) 0)) (defScope (inClass (topS 27) 0)) (.ref DT42) kV42 dc42 pm42 an42 cd42 ct42), sl42⟩) (c42 : PySem.W.codeIn K cd42 "Ratio.__init__" = true) (k42 : PySem.W.keepIn K (.ref f42) = true)
    (dt42 : K.lookup DT42 = some ⟨ocd42, odd42, .seq #[.int 1 td42_0] nd42, sld42⟩)
    {f43 : Addr} {od43 an43 : Option Addr} {sl43 : Array (Option Value)} {oc43 kV43 dc43 pm43 cd43 ct43 : Value}
    (a43 : PySem.W.findIn K (.ref f27) "__eq__" = some (some (.ref f43))) (i43 : PySem.W.isFn K (.ref f43) = true)
    (l43 : K.lookup f43 = some ⟨oc43, od43, .func (PySem.W.fnOf "__eq__" "Ratio.__eq__" (defArgs (inClass (topS 27) 1)) (defBody (inClass (topS 27) 1)) (defScope (inClass (topS 27) 1)) .none kV43 dc43 pm43 an43 cd43 ct43), sl43⟩) (c43 : PySem.W.codeIn K cd43 "Ratio.__eq__" = true) (k43 : PySem.W.keepIn K (.ref f43) = true)
    {f44 : Addr} {od44 an44 : Option Addr} {sl44 : Array (Option Value)} {oc44 kV44 dc44 pm44 cd44 ct44 : Value}
    (a44 : PySem.W.findIn K (.ref f27) "__str__" = some (some (.ref f44))) (i44 : PySem.W.isFn K (.ref f44) = true)
    (l44 : K.lookup f44 = some ⟨oc44, od44, .func (PySem.W.fnOf "__str__" "Ratio.__str__" (defArgs (inClass (topS 27) 2)) (defBody (inClass (topS 27) 2)) (defScope (inClass (topS 27) 2)) .none kV44 dc44 pm44 an44 cd44 ct44), sl44⟩) (c44 : PySem.W.codeIn K cd44 "Ratio.__str__" = true) (k44 : PySem.W.keepIn K (.ref f44) = true)
    {f45 : Addr} {od45 an45 : Option Addr} {sl45 : Array (Option Value)} {oc45 kV45 dc45 pm45 cd45 ct45 : Value}
    (a45 : PySem.W.findIn K (.ref f27) "__repr__" = some (some (.ref f45))) (i45 : PySem.W.isFn K (.ref f45) = true)
    (l45 : K.lookup f45 = some ⟨oc45, od45, .func (PySem.W.fnOf "__repr__" "Ratio.__repr__" (defArgs (inClass (topS 27) 3)) (defBody (inClass (topS 27) 3)) (defScope (inClass (topS 27) 3)) .none kV45 dc45 pm45 an45 cd45 ct45), sl45⟩) (c45 : PySem.W.codeIn K cd45 "Ratio.__repr__" = true) (k45 : PySem.W.keepIn K (.ref f45) = true)
    (ff_cs : PySem.W.specialIn K (.builtin "object.__class__") "__get__" = some (some (.builtin "getset_descriptor.__get__")))
    (ff_ct : PySem.W.takesIn K (.builtin "object.__class__") = some true)
    (ff_ciQ : PySem.W.findIn K (.ref f27) "__class__" = some (some (.builtin "object.__class__")))
    (ff_moQ : PySem.W.mroIn K f27 (.type "object") = some true)
    (ff_kQ : PySem.W.kitOne K (.ref f27) (.ref f27) = some true)
    (ff_neQ : PySem.W.findIn K (.ref f27) "__ne__" = some (some (.builtin "object.__ne__")))
    (ff_kint : PySem.W.kitOne K (.type "int") (.ref f27) = some false)
    (ff_ktuple : PySem.W.kitOne K (.type "tuple") (.ref f27) = some false)
    (ff_kstr : PySem.W.kitOne K (.type "str") (.ref f27) = some false)
    (ff_ec_NoNumber : excDB K f5 = true)
    (ff_ew_NoNumber : PySem.W.exmAny K (.ref f5) [.ref f2] = some true)
    (ff_e2_NoNumber : PySem.W.exmAny K (.ref f5) [.ref f16, .ref f17] = some false)
    (ff_er_NoNumber : PySem.W.exmAny K (.ref f5) [.ref f18] = some false)
    (ff_kb_NoNumber : PySem.W.kitOne K (.ref f5) (.type "ValueError") = some true)
    (ff_k_NoNumber_NoWord : PySem.W.kitOne K (.ref f5) (.ref f3) = some false)
    (ff_k_NoNumber_NoText : PySem.W.kitOne K (.ref f5) (.ref f4) = some false)
    (ff_k_NoNumber_NoNumber : PySem.W.kitOne K (.ref f5) (.ref f5) = some true)
    (ff_k_NoNumber_NoSize : PySem.W.kitOne K (.ref f5) (.ref f6) = some false)
    (ff_k_NoNumber_NoLengths : PySem.W.kitOne K (.ref f5) (.ref f7) = some false)
    (ff_k_NoNumber_NoQuery : PySem.W.kitOne K (.ref f5) (.ref f8) = some false)
    (ff_k_NoNumber_NoCode : PySem.W.kitOne K (.ref f5) (.ref f9) = some false)
    (ff_k_NoNumber_NoRow : PySem.W.kitOne K (.ref f5) (.ref f10) = some false)
    (ff_k_NoNumber_NoEntries : PySem.W.kitOne K (.ref f5) (.ref f11) = some false)
    (ff_k_NoNumber_NoQueryText : PySem.W.kitOne K (.ref f5) (.ref f12) = some false)
    (ff_k_NoNumber_NoPages : PySem.W.kitOne K (.ref f5) (.ref f13) = some false)
    (ff_k_NoNumber_NoShelf : PySem.W.kitOne K (.ref f5) (.ref f15) = some false)
    (ff_k_NoNumber_NoQueries : PySem.W.kitOne K (.ref f5) (.ref f14) = some false)
    (ff_k_NoNumber_NoPlace : PySem.W.kitOne K (.ref f5) (.ref f16) = some false)
    (ff_k_NoNumber_NoSlot : PySem.W.kitOne K (.ref f5) (.ref f17) = some false)
    (ff_k_NoNumber_NoRatio : PySem.W.kitOne K (.ref f5) (.ref f18) = some false)
    (ff_k_NoNumber_Held : PySem.W.kitOne K (.ref f5) (.ref f20) = some false)
    (ff_k_NoNumber_Gone : PySem.W.kitOne K (.ref f5) (.ref f19) = some false)
    (ff_ec_NoRatio : excDB K f18 = true)
    (ff_ew_NoRatio : PySem.W.exmAny K (.ref f18) [.ref f2] = some false)
    (ff_e2_NoRatio : PySem.W.exmAny K (.ref f18) [.ref f16, .ref f17] = some false)
    (ff_er_NoRatio : PySem.W.exmAny K (.ref f18) [.ref f18] = some true)
    (ff_kb_NoRatio : PySem.W.kitOne K (.ref f18) (.type "ZeroDivisionError") = some true)
    (ff_k_NoRatio_NoWord : PySem.W.kitOne K (.ref f18) (.ref f3) = some false)
    (ff_k_NoRatio_NoText : PySem.W.kitOne K (.ref f18) (.ref f4) = some false)
    (ff_k_NoRatio_NoNumber : PySem.W.kitOne K (.ref f18) (.ref f5) = some false)
    (ff_k_NoRatio_NoSize : PySem.W.kitOne K (.ref f18) (.ref f6) = some false)
    (ff_k_NoRatio_NoLengths : PySem.W.kitOne K (.ref f18) (.ref f7) = some false)
    (ff_k_NoRatio_NoQuery : PySem.W.kitOne K (.ref f18) (.ref f8) = some false)
    (ff_k_NoRatio_NoCode : PySem.W.kitOne K (.ref f18) (.ref f9) = some false)
    (ff_k_NoRatio_NoRow : PySem.W.kitOne K (.ref f18) (.ref f10) = some false)
    (ff_k_NoRatio_NoEntries : PySem.W.kitOne K (.ref f18) (.ref f11) = some false)
    (ff_k_NoRatio_NoQueryText : PySem.W.kitOne K (.ref f18) (.ref f12) = some false)
    (ff_k_NoRatio_NoPages : PySem.W.kitOne K (.ref f18) (.ref f13) = some false)
    (ff_k_NoRatio_NoShelf : PySem.W.kitOne K (.ref f18) (.ref f15) = some false)
    (ff_k_NoRatio_NoQueries : PySem.W.kitOne K (.ref f18) (.ref f14) = some false)
    (ff_k_NoRatio_NoPlace : PySem.W.kitOne K (.ref f18) (.ref f16) = some false)
    (ff_k_NoRatio_NoSlot : PySem.W.kitOne K (.ref f18) (.ref f17) = some false)
    (ff_k_NoRatio_NoRatio : PySem.W.kitOne K (.ref f18) (.ref f18) = some true)
    (ff_k_NoRatio_Held : PySem.W.kitOne K (.ref f18) (.ref f20) = some false)
    (ff_k_NoRatio_Gone : PySem.W.kitOne K (.ref f18) (.ref f19) = some false)
    {P41 : Addr} (tb41 : h.get? P41 = some (PySem.W.tabObj #[])) (tn41 : K.lookup P41 = none) (th41 : PySem.W.codeHdIn K cc41 P41 = true)
    : LamX.LawAtS l w K CX0 14 63 "_law_script" mg fa h := by
  have e := hfa.symm.trans (PySem.W.mg_of X G a41)
  cases e
  let A : Nat → Addr := fun i => ([0, 0, f2, f3, f4, f5, f6, f7, f8, f9, f10, f11, f12, f13, f14, f15, f16, f17, f18, f19, f20, 0, f22, 0, 0, 0, 0, f27, f28, f29, f30, 0, f32, f33, f34, f35, f36, f37, f38, f39, f40, fa, f42, f43, f44, f45] : List Addr).getD i 0
  let FD : Nat → FuncData := fun i => ([PySem.W.fnOf "law" "law" (defArgs (topS 41)) (defBody (topS 41)) (defScope (topS 41)) .none kV41 dc41 pm41 an41 (.ref cc41) ct41, PySem.W.fnOf "law" "law" (defArgs (topS 41)) (defBody (topS 41)) (defScope (topS 41)) .none kV41 dc41 pm41 an41 (.ref cc41) ct41, PySem.W.fnOf "law" "law" (defArgs (topS 41)) (defBody (topS 41)) (defScope (topS 41)) .none kV41 dc41 pm41 an41 (.ref cc41) ct41, PySem.W.fnOf "law" "law" (defArgs (topS 41)) (defBody (topS 41)) (defScope (topS 41)) .none kV41 dc41 pm41 an41 (.ref cc41) ct41, PySem.W.fnOf "law" "law" (defArgs (topS 41)) (defBody (topS 41)) (defScope (topS 41)) .none kV41 dc41 pm41 an41 (.ref cc41) ct41, PySem.W.fnOf "law" "law" (defArgs (topS 41)) (defBody (topS 41)) (defScope (topS 41)) .none kV41 dc41 pm41 an41 (.ref cc41) ct41, PySem.W.fnOf "law" "law" (defArgs (topS 41)) (defBody (topS 41)) (defScope (topS 41)) .none kV41 dc41 pm41 an41 (.ref cc41) ct41, PySem.W.fnOf "law" "law" (defArgs (topS 41)) (defBody (topS 41)) (defScope (topS 41)) .none kV41 dc41 pm41 an41 (.ref cc41) ct41, PySem.W.fnOf "law" "law" (defArgs (topS 41)) (defBody (topS 41)) (defScope (topS 41)) .none kV41 dc41 pm41 an41 (.ref cc41) ct41, PySem.W.fnOf "law" "law" (defArgs (topS 41)) (defBody (topS 41)) (defScope (topS 41)) .none kV41 dc41 pm41 an41 (.ref cc41) ct41, PySem.W.fnOf "law" "law" (defArgs (topS 41)) (defBody (topS 41)) (defScope (topS 41)) .none kV41 dc41 pm41 an41 (.ref cc41) ct41, PySem.W.fnOf "law" "law" (defArgs (topS 41)) (defBody (topS 41)) (defScope (topS 41)) .none kV41 dc41 pm41 an41 (.ref cc41) ct41, PySem.W.fnOf "law" "law" (defArgs (topS 41)) (defBody (topS 41)) (defScope (topS 41)) .none kV41 dc41 pm41 an41 (.ref cc41) ct41, PySem.W.fnOf "law" "law" (defArgs (topS 41)) (defBody (topS 41)) (defScope (topS 41)) .none kV41 dc41 pm41 an41 (.ref cc41) ct41, PySem.W.fnOf "law" "law" (defArgs (topS 41)) (defBody (topS 41)) (defScope (topS 41)) .none kV41 dc41 pm41 an41 (.ref cc41) ct41, PySem.W.fnOf "law" "law" (defArgs (topS 41)) (defBody (topS 41)) (defScope (topS 41)) .none kV41 dc41 pm41 an41 (.ref cc41) ct41, PySem.W.fnOf "law" "law" (defArgs (topS 41)) (defBody (topS 41)) (defScope (topS 41)) .none kV41 dc41 pm41 an41 (.ref cc41) ct41, PySem.W.fnOf "law" "law" (defArgs (topS 41)) (defBody (topS 41)) (defScope (topS 41)) .none kV41 dc41 pm41 an41 (.ref cc41) ct41, PySem.W.fnOf "law" "law" (defArgs (topS 41)) (defBody (topS 41)) (defScope (topS 41)) .none kV41 dc41 pm41 an41 (.ref cc41) ct41, PySem.W.fnOf "law" "law" (defArgs (topS 41)) (defBody (topS 41)) (defScope (topS 41)) .none kV41 dc41 pm41 an41 (.ref cc41) ct41, PySem.W.fnOf "law" "law" (defArgs (topS 41)) (defBody (topS 41)) (defScope (topS 41)) .none kV41 dc41 pm41 an41 (.ref cc41) ct41, PySem.W.fnOf "law" "law" (defArgs (topS 41)) (defBody (topS 41)) (defScope (topS 41)) .none kV41 dc41 pm41 an41 (.ref cc41) ct41, PySem.W.fnOf "is_whole" "is_whole" (defArgs (topS 22)) (defBody (topS 22)) (defScope (topS 22)) .none kV22 dc22 pm22 an22 cd22 ct22, PySem.W.fnOf "law" "law" (defArgs (topS 41)) (defBody (topS 41)) (defScope (topS 41)) .none kV41 dc41 pm41 an41 (.ref cc41) ct41, PySem.W.fnOf "law" "law" (defArgs (topS 41)) (defBody (topS 41)) (defScope (topS 41)) .none kV41 dc41 pm41 an41 (.ref cc41) ct41, PySem.W.fnOf "law" "law" (defArgs (topS 41)) (defBody (topS 41)) (defScope (topS 41)) .none kV41 dc41 pm41 an41 (.ref cc41) ct41, PySem.W.fnOf "law" "law" (defArgs (topS 41)) (defBody (topS 41)) (defScope (topS 41)) .none kV41 dc41 pm41 an41 (.ref cc41) ct41, PySem.W.fnOf "law" "law" (defArgs (topS 41)) (defBody (topS 41)) (defScope (topS 41)) .none kV41 dc41 pm41 an41 (.ref cc41) ct41, PySem.W.fnOf "lowest" "lowest" (defArgs (topS 28)) (defBody (topS 28)) (defScope (topS 28)) .none kV28 dc28 pm28 an28 cd28 ct28, PySem.W.fnOf "check_figures" "check_figures" (defArgs (topS 29)) (defBody (topS 29)) (defScope (topS 29)) .none kV29 dc29 pm29 an29 cd29 ct29, PySem.W.fnOf "figures_of" "figures_of" (defArgs (topS 30)) (defBody (topS 30)) (defScope (topS 30)) .none kV30 dc30 pm30 an30 cd30 ct30, PySem.W.fnOf "law" "law" (defArgs (topS 41)) (defBody (topS 41)) (defScope (topS 41)) .none kV41 dc41 pm41 an41 (.ref cc41) ct41, PySem.W.fnOf "_law_purse" "_law_purse" (defArgs (topS 32)) (defBody (topS 32)) (defScope (topS 32)) .none kV32 dc32 pm32 an32 cd32 ct32, PySem.W.fnOf "_law_take" "_law_take" (defArgs (topS 33)) (defBody (topS 33)) (defScope (topS 33)) .none kV33 dc33 pm33 an33 cd33 ct33, PySem.W.fnOf "_law_low" "_law_low" (defArgs (topS 34)) (defBody (topS 34)) (defScope (topS 34)) .none kV34 dc34 pm34 an34 cd34 ct34, PySem.W.fnOf "_law_is_ratio" "_law_is_ratio" (defArgs (topS 35)) (defBody (topS 35)) (defScope (topS 35)) .none kV35 dc35 pm35 an35 cd35 ct35, PySem.W.fnOf "_law_kind" "_law_kind" (defArgs (topS 36)) (defBody (topS 36)) (defScope (topS 36)) .none kV36 dc36 pm36 an36 cd36 ct36, PySem.W.fnOf "_law_how" "_law_how" (defArgs (topS 37)) (defBody (topS 37)) (defScope (topS 37)) .none kV37 dc37 pm37 an37 cd37 ct37, PySem.W.fnOf "_law_far" "_law_far" (defArgs (topS 38)) (defBody (topS 38)) (defScope (topS 38)) .none kV38 dc38 pm38 an38 cd38 ct38, PySem.W.fnOf "_law_shown" "_law_shown" (defArgs (topS 39)) (defBody (topS 39)) (defScope (topS 39)) .none kV39 dc39 pm39 an39 cd39 ct39, PySem.W.fnOf "_law_right" "_law_right" (defArgs (topS 40)) (defBody (topS 40)) (defScope (topS 40)) .none kV40 dc40 pm40 an40 cd40 ct40, PySem.W.fnOf "law" "law" (defArgs (topS 41)) (defBody (topS 41)) (defScope (topS 41)) .none kV41 dc41 pm41 an41 (.ref cc41) ct41, PySem.W.fnOf "__init__" "Ratio.__init__" (defArgs (inClass (topS 27) 0)) (defBody (inClass (topS 27) 0)) (defScope (inClass (topS 27) 0)) (.ref DT42) kV42 dc42 pm42 an42 cd42 ct42, PySem.W.fnOf "__eq__" "Ratio.__eq__" (defArgs (inClass (topS 27) 1)) (defBody (inClass (topS 27) 1)) (defScope (inClass (topS 27) 1)) .none kV43 dc43 pm43 an43 cd43 ct43, PySem.W.fnOf "__str__" "Ratio.__str__" (defArgs (inClass (topS 27) 2)) (defBody (inClass (topS 27) 2)) (defScope (inClass (topS 27) 2)) .none kV44 dc44 pm44 an44 cd44 ct44, PySem.W.fnOf "__repr__" "Ratio.__repr__" (defArgs (inClass (topS 27) 3)) (defBody (inClass (topS 27) 3)) (defScope (inClass (topS 27) 3)) .none kV45 dc45 pm45 an45 cd45 ct45] : List FuncData).getD i (PySem.W.fnOf "law" "law" (defArgs (topS 41)) (defBody (topS 41)) (defScope (topS 41)) .none kV41 dc41 pm41 an41 (.ref cc41) ct41)
  let TK : Nat → Tok := fun i => ([0, 0, 0, 0, 0, 0, 0, 0, 0, 0, 0, 0, 0, 0, 0, 0, 0, 0, 0, 0, 0, 0, 0, 0, tk24, tk25, tk26] : List Tok).getD i 0
  let CC : Nat → Addr := fun i => ([0, 0, 0, 0, 0, 0, 0, 0, 0, 0, 0, 0, 0, 0, 0, 0, 0, 0, 0, 0, 0, 0, 0, 0, 0, 0, 0, 0, 0, 0, 0, 0, 0, 0, 0, 0, 0, 0, 0, 0, 0, cc41, 0, 0, 0, 0] : List Addr).getD i 0
  have T : TX K mg A FD TK CC := {
    f_is_whole := fun_mk (st := topS 22) l22 c22 k22
    b_is_whole := (fun_mk (st := topS 22) l22 c22 k22).binds (ps := ["thing"]) fun _ _ _ _ _ _ us hl => match us, hl with | [_], _ => rfl
    g_is_whole := PySem.W.mg_of X G a22
    f_lowest := fun_mk (st := topS 28) l28 c28 k28
    b_lowest := (fun_mk (st := topS 28) l28 c28 k28).binds (ps := ["top", "bottom"]) fun _ _ _ _ _ _ us hl => match us, hl with | [_, _], _ => rfl
    g_lowest := PySem.W.mg_of X G a28
    f_check_figures := fun_mk (st := topS 29) l29 c29 k29
    b_check_figures := (fun_mk (st := topS 29) l29 c29 k29).binds (ps := ["number"]) fun _ _ _ _ _ _ us hl => match us, hl with | [_], _ => rfl
    g_check_figures := PySem.W.mg_of X G a29
    f_figures_of := fun_mk (st := topS 30) l30 c30 k30
    b_figures_of := (fun_mk (st := topS 30) l30 c30 k30).binds (ps := ["number"]) fun _ _ _ _ _ _ us hl => match us, hl with | [_], _ => rfl
    g_figures_of := PySem.W.mg_of X G a30
    f_l_purse := fun_mk (st := topS 32) l32 c32 k32
    b_l_purse := (fun_mk (st := topS 32) l32 c32 k32).binds (ps := ["_law_script", "_law_at"]) fun _ _ _ _ _ _ us hl => match us, hl with | [_, _], _ => rfl
    g_l_purse := PySem.W.mg_of X G a32
    f_l_take := fun_mk (st := topS 33) l33 c33 k33
    b_l_take := (fun_mk (st := topS 33) l33 c33 k33).binds (ps := ["_law_purse_here", "_law_many"]) fun _ _ _ _ _ _ us hl => match us, hl with | [_, _], _ => rfl
    g_l_take := PySem.W.mg_of X G a33
    f_l_low := fun_mk (st := topS 34) l34 c34 k34
    b_l_low := (fun_mk (st := topS 34) l34 c34 k34).binds (ps := ["_law_upper", "_law_lower"]) fun _ _ _ _ _ _ us hl => match us, hl with | [_, _], _ => rfl
    g_l_low := PySem.W.mg_of X G a34
    f_l_is_ratio := fun_mk (st := topS 35) l35 c35 k35
    b_l_is_ratio := (fun_mk (st := topS 35) l35 c35 k35).binds (ps := ["_law_told", "_law_due"]) fun _ _ _ _ _ _ us hl => match us, hl with | [_, _], _ => rfl
    g_l_is_ratio := PySem.W.mg_of X G a35
    f_l_kind := fun_mk (st := topS 36) l36 c36 k36
    b_l_kind := (fun_mk (st := topS 36) l36 c36 k36).binds (ps := ["_law_e"]) fun _ _ _ _ _ _ us hl => match us, hl with | [_], _ => rfl
    g_l_kind := PySem.W.mg_of X G a36
    f_l_how := fun_mk (st := topS 37) l37 c37 k37
    b_l_how := (fun_mk (st := topS 37) l37 c37 k37).binds (ps := ["_law_deed"]) fun _ _ _ _ _ _ us hl => match us, hl with | [_], _ => rfl
    g_l_how := PySem.W.mg_of X G a37
    f_l_far := fun_mk (st := topS 38) l38 c38 k38
    b_l_far := (fun_mk (st := topS 38) l38 c38 k38).binds (ps := ["_law_purse_here"]) fun _ _ _ _ _ _ us hl => match us, hl with | [_], _ => rfl
    g_l_far := PySem.W.mg_of X G a38
    f_l_shown := fun_mk (st := topS 39) l39 c39 k39
    b_l_shown := (fun_mk (st := topS 39) l39 c39 k39).binds (ps := ["_law_due"]) fun _ _ _ _ _ _ us hl => match us, hl with | [_], _ => rfl
    g_l_shown := PySem.W.mg_of X G a39
    f_l_right := fun_mk (st := topS 40) l40 c40 k40
    b_l_right := (fun_mk (st := topS 40) l40 c40 k40).binds (ps := ["_law_upper", "_law_lower"]) fun _ _ _ _ _ _ us hl => match us, hl with | [_, _], _ => rfl
    g_l_right := PySem.W.mg_of X G a40
    F_law := ⟨⟨oc41, od41, kV41, dc41, pm41, an41, ct41, sl41, rfl, l41, c41⟩, k41⟩
    f_law := fun_mk (st := topS 41) l41 c41 k41
    b_law := (fun_mk (st := topS 41) l41 c41 k41).binds (ps := ["_law_script"]) fun _ _ _ _ _ _ us hl => match us, hl with | [_], _ => rfl
    g_law := PySem.W.mg_of X G a41
    m_IndexError := PySem.W.mg_none_of X G z_IndexError
    m_KeyError := PySem.W.mg_none_of X G z_KeyError
    m_ValueError := PySem.W.mg_none_of X G z_ValueError
    m_ZeroDivisionError := PySem.W.mg_none_of X G z_ZeroDivisionError
    m_abs := PySem.W.mg_none_of X G z_abs
    m_bool := PySem.W.mg_none_of X G z_bool
    m_divmod := PySem.W.mg_none_of X G z_divmod
    m_int := PySem.W.mg_none_of X G z_int
    m_isinstance := PySem.W.mg_none_of X G z_isinstance
    m_len := PySem.W.mg_none_of X G z_len
    m_max := PySem.W.mg_none_of X G z_max
    m_min := PySem.W.mg_none_of X G z_min
    m_range := PySem.W.mg_none_of X G z_range
    m_repr := PySem.W.mg_none_of X G z_repr
    m_reversed := PySem.W.mg_none_of X G z_reversed
    m_str := PySem.W.mg_none_of X G z_str
    c_TOO_GREAT := PySem.W.mg_of X G e24
    c_FIGURES_AT_ONCE := PySem.W.mg_of X G e25
    c_ONE_BEYOND := PySem.W.mg_of X G e26
    k_Wrong := PySem.W.mg_of X G a2
    k_NoWord := PySem.W.mg_of X G a3
    k_NoText := PySem.W.mg_of X G a4
    k_NoNumber := PySem.W.mg_of X G a5
    k_NoSize := PySem.W.mg_of X G a6
    k_NoLengths := PySem.W.mg_of X G a7
    k_NoQuery := PySem.W.mg_of X G a8
    k_NoCode := PySem.W.mg_of X G a9
    k_NoRow := PySem.W.mg_of X G a10
    k_NoEntries := PySem.W.mg_of X G a11
    k_NoQueryText := PySem.W.mg_of X G a12
    k_NoPages := PySem.W.mg_of X G a13
    k_NoQueries := PySem.W.mg_of X G a14
    k_NoShelf := PySem.W.mg_of X G a15
    k_NoPlace := PySem.W.mg_of X G a16
    k_NoSlot := PySem.W.mg_of X G a17
    k_NoRatio := PySem.W.mg_of X G a18
    k_Gone := PySem.W.mg_of X G a19
    k_Held := PySem.W.mg_of X G a20
    k_Ratio := PySem.W.mg_of X G a27
    cl_Ratio := ⟨pg27, hd27, po27, sa27⟩
    n_Ratio_top := na27_top
    n_Ratio_bottom := na27_bottom
    f_Ratio_init := ⟨⟨oc42, od42, .ref DT42, kV42, dc42, pm42, an42, cd42, ct42, sl42, rfl, l42, c42, .inr ⟨by simp, DT42, _, [_], nd42, rfl, dt42, rfl, (.cons ⟨_, rfl⟩ .nil)⟩, .inl rfl⟩, k42⟩
    M_Ratio := ⟨mk27, a42, i42, kc27⟩
    f_Ratio_eq := fun_mk (st := inClass (topS 27) 1) l43 c43 k43
    b_Ratio_eq := (fun_mk (st := inClass (topS 27) 1) l43 c43 k43).binds (ps := ["self", "other"]) fun _ _ _ _ _ _ us hl => match us, hl with | [_, _], _ => rfl
    M_Ratio_eq := ⟨a43, i43, k43⟩
    f_Ratio_str := fun_mk (st := inClass (topS 27) 2) l44 c44 k44
    b_Ratio_str := (fun_mk (st := inClass (topS 27) 2) l44 c44 k44).binds (ps := ["self"]) fun _ _ _ _ _ _ us hl => match us, hl with | [_], _ => rfl
    M_Ratio_str := ⟨a44, i44, k44⟩
    f_Ratio_repr := fun_mk (st := inClass (topS 27) 3) l45 c45 k45
    b_Ratio_repr := (fun_mk (st := inClass (topS 27) 3) l45 c45 k45).binds (ps := ["self"]) fun _ _ _ _ _ _ us hl => match us, hl with | [_], _ => rfl
    M_Ratio_repr := ⟨a45, i45, k45⟩
    x_NoNumber := xx5
    kc_NoNumber := xk5
    br_NoNumber := xb5
    ty_NoNumber := xt5
    x_NoRatio := xx18
    kc_NoRatio := xk18
    br_NoRatio := xb18
    ty_NoRatio := xt18
    cs := ff_cs
    ct := ff_ct
    ciQ := ff_ciQ
    moQ := ff_moQ
    kQ := ff_kQ
    neQ := ff_neQ
    kint := ff_kint
    ktuple := ff_ktuple
    kstr := ff_kstr
    ec_NoNumber := ff_ec_NoNumber
    ew_NoNumber := ff_ew_NoNumber
    e2_NoNumber := ff_e2_NoNumber
    er_NoNumber := ff_er_NoNumber
    kb_NoNumber := ff_kb_NoNumber
    k_NoNumber_NoWord := ff_k_NoNumber_NoWord
    k_NoNumber_NoText := ff_k_NoNumber_NoText
    k_NoNumber_NoNumber := ff_k_NoNumber_NoNumber
    k_NoNumber_NoSize := ff_k_NoNumber_NoSize
    k_NoNumber_NoLengths := ff_k_NoNumber_NoLengths
    k_NoNumber_NoQuery := ff_k_NoNumber_NoQuery
    k_NoNumber_NoCode := ff_k_NoNumber_NoCode
    k_NoNumber_NoRow := ff_k_NoNumber_NoRow
    k_NoNumber_NoEntries := ff_k_NoNumber_NoEntries
    k_NoNumber_NoQueryText := ff_k_NoNumber_NoQueryText
    k_NoNumber_NoPages := ff_k_NoNumber_NoPages
    k_NoNumber_NoShelf := ff_k_NoNumber_NoShelf
    k_NoNumber_NoQueries := ff_k_NoNumber_NoQueries
    k_NoNumber_NoPlace := ff_k_NoNumber_NoPlace
    k_NoNumber_NoSlot := ff_k_NoNumber_NoSlot
    k_NoNumber_NoRatio := ff_k_NoNumber_NoRatio
    k_NoNumber_Held := ff_k_NoNumber_Held
    k_NoNumber_Gone := ff_k_NoNumber_Gone
    ec_NoRatio := ff_ec_NoRatio
    ew_NoRatio := ff_ew_NoRatio
    e2_NoRatio := ff_e2_NoRatio
    er_NoRatio := ff_er_NoRatio
    kb_NoRatio := ff_kb_NoRatio
    k_NoRatio_NoWord := ff_k_NoRatio_NoWord
    k_NoRatio_NoText := ff_k_NoRatio_NoText
    k_NoRatio_NoNumber := ff_k_NoRatio_NoNumber
    k_NoRatio_NoSize := ff_k_NoRatio_NoSize
    k_NoRatio_NoLengths := ff_k_NoRatio_NoLengths
    k_NoRatio_NoQuery := ff_k_NoRatio_NoQuery
    k_NoRatio_NoCode := ff_k_NoRatio_NoCode
    k_NoRatio_NoRow := ff_k_NoRatio_NoRow
    k_NoRatio_NoEntries := ff_k_NoRatio_NoEntries
    k_NoRatio_NoQueryText := ff_k_NoRatio_NoQueryText
    k_NoRatio_NoPages := ff_k_NoRatio_NoPages
    k_NoRatio_NoShelf := ff_k_NoRatio_NoShelf
    k_NoRatio_NoQueries := ff_k_NoRatio_NoQueries
    k_NoRatio_NoPlace := ff_k_NoRatio_NoPlace
    k_NoRatio_NoSlot := ff_k_NoRatio_NoSlot
    k_NoRatio_NoRatio := ff_k_NoRatio_NoRatio
    k_NoRatio_Held := ff_k_NoRatio_Held
    k_NoRatio_Gone := ff_k_NoRatio_Gone }
  refine ⟨FD 41, [(cc41, P41)], spLaw K [(P41, lamQ "law")], (fun p hp => by
      simp only [List.mem_cons, List.not_mem_nil, or_false] at hp
      subst hp
      exact tb41), (fun p hp => by
      simp only [List.mem_cons, List.not_mem_nil, or_false] at hp
      subst hp
      exact tn41), (fun p hp => by
      simp only [List.mem_cons, List.not_mem_nil, or_false] at hp
      subst hp
      exact PySem.W.codeHd_of_K X th41), fun s v => .of_eq rfl, fun H a ns hl _ hT hS => ⟨a, ns, rfl, hS, hl, ?_, fun _ => rfl⟩, fun base _ _ hB => ok_law T (hB (cc41, P41) (by simp))⟩
  intro p hp
  simp only [List.mem_cons, List.not_mem_nil, or_false] at hp
  subst hp
  exact LamX.TabS.nil (hT (cc41, P41) (by simp))
set_option maxHeartbeats 0 in
theorem hmk {w : World} {K : PySem.W.Frag} {h : Heap} {mg : Str → Option Value} {fa : Addr} (X : K.In h) (G : h.Ns mainGlobals mg) (hfa : mg "law" = some (.ref fa)) (c : HX.SaysY hts hfn hfs h K) : LamX.LawAtS PySem.Challenge.rw_blocksearch_k31_ratios_made w K CX0 14 63 "_law_script" mg fa h := by
  obtain ⟨oc22, od22, dc22, pm22, an22, ct22, sl22, l22, c22⟩ := c.def_ 0 (d := hd22)
  obtain ⟨oc28, od28, dc28, pm28, an28, ct28, sl28, l28, c28⟩ := c.def_ 1 (d := hd28)
  obtain ⟨oc29, od29, dc29, pm29, an29, ct29, sl29, l29, c29⟩ := c.def_ 2 (d := hd29)
  obtain ⟨oc30, od30, dc30, pm30, an30, ct30, sl30, l30, c30⟩ := c.def_ 3 (d := hd30)
  obtain ⟨oc32, od32, dc32, pm32, an32, ct32, sl32, l32, c32⟩ := c.def_ 4 (d := hd32)
  obtain ⟨oc33, od33, dc33, pm33, an33, ct33, sl33, l33, c33⟩ := c.def_ 5 (d := hd33)
  obtain ⟨oc34, od34, dc34, pm34, an34, ct34, sl34, l34, c34⟩ := c.def_ 6 (d := hd34)
  obtain ⟨oc35, od35, dc35, pm35, an35, ct35, sl35, l35, c35⟩ := c.def_ 7 (d := hd35)
  obtain ⟨oc36, od36, dc36, pm36, an36, ct36, sl36, l36, c36⟩ := c.def_ 8 (d := hd36)
  obtain ⟨oc37, od37, dc37, pm37, an37, ct37, sl37, l37, c37⟩ := c.def_ 9 (d := hd37)
  obtain ⟨oc38, od38, dc38, pm38, an38, ct38, sl38, l38, c38⟩ := c.def_ 10 (d := hd38)
  obtain ⟨oc39, od39, dc39, pm39, an39, ct39, sl39, l39, c39⟩ := c.def_ 11 (d := hd39)
  obtain ⟨oc40, od40, dc40, pm40, an40, ct40, sl40, l40, c40⟩ := c.def_ 12 (d := hd40)
  obtain ⟨oc41, od41, dc41, pm41, an41, ct41, sl41, l41, c41⟩ := c.def_ 13 (d := hd41)
  obtain ⟨t_e24, e24⟩ := HX.litInt (c.fact 1 14)
  obtain ⟨t_e25, e25⟩ := HX.litInt (c.fact 1 15)
  obtain ⟨t_e26, e26⟩ := HX.litInt (c.fact 1 16)
  obtain ⟨oc42, od42, dc42, pm42, an42, ct42, sl42, l42, c42⟩ := c.def_ 14 (d := hd42)
  obtain ⟨ocd42, odd42, usd42, nd42, sld42, dt42, vsd42⟩ := HX.seqB_ok (c.fact 2 26)
  obtain _ | ⟨⟨td42_0, rfl⟩, vsd42⟩ := vsd42
  cases vsd42
  obtain ⟨oc43, od43, dc43, pm43, an43, ct43, sl43, l43, c43⟩ := c.def_ 15 (d := hd43)
  obtain ⟨oc44, od44, dc44, pm44, an44, ct44, sl44, l44, c44⟩ := c.def_ 16 (d := hd44)
  obtain ⟨oc45, od45, dc45, pm45, an45, ct45, sl45, l45, c45⟩ := c.def_ 17 (d := hd45)
  refine all_mk (l := PySem.Challenge.rw_blocksearch_k31_ratios_made) (w := w) X G hfa (a22 := HX.refB_ok (c.fact 0 0)) (l22 := l22) (c22 := c22) (k22 := (c.fact 0 1)) (a28 := HX.refB_ok (c.fact 0 2)) (l28 := l28) (c28 := c28) (k28 := (c.fact 0 3)) (a29 := HX.refB_ok (c.fact 0 4)) (l29 := l29) (c29 := c29) (k29 := (c.fact 0 5)) (a30 := HX.refB_ok (c.fact 0 6)) (l30 := l30) (c30 := c30) (k30 := (c.fact 0 7)) (a32 := HX.refB_ok (c.fact 0 8)) (l32 := l32) (c32 := c32) (k32 := (c.fact 0 9)) (a33 := HX.refB_ok (c.fact 0 10)) (l33 := l33) (c33 := c33) (k33 := (c.fact 0 11)) (a34 := HX.refB_ok (c.fact 0 12)) (l34 := l34) (c34 := c34) (k34 := (c.fact 0 13)) (a35 := HX.refB_ok (c.fact 0 14)) (l35 := l35) (c35 := c35) (k35 := (c.fact 0 15)) (a36 := HX.refB_ok (c.fact 0 16)) (l36 := l36) (c36 := c36) (k36 := (c.fact 0 17)) (a37 := HX.refB_ok (c.fact 0 18)) (l37 := l37) (c37 := c37) (k37 := (c.fact 0 19)) (a38 := HX.refB_ok (c.fact 0 20)) (l38 := l38) (c38 := c38) (k38 := (c.fact 0 21)) (a39 := HX.refB_ok (c.fact 0 22)) (l39 := l39) (c39 := c39) (k39 := (c.fact 0 23)) (a40 := HX.refB_ok (c.fact 0 24)) (l40 := l40) (c40 := c40) (k40 := (c.fact 0 25)) (a41 := HX.refB_ok (c.fact 0 26)) (l41 := l41) (c41 := c41) (k41 := (c.fact 0 27)) (z_IndexError := HX.noB_ok (c.fact 0 28)) (z_KeyError := HX.noB_ok (c.fact 0 29)) (z_ValueError := HX.noB_ok (c.fact 1 0)) (z_ZeroDivisionError := HX.noB_ok (c.fact 1 1)) (z_abs := HX.noB_ok (c.fact 1 2)) (z_bool := HX.noB_ok (c.fact 1 3)) (z_divmod := HX.noB_ok (c.fact 1 4)) (z_int := HX.noB_ok (c.fact 1 5)) (z_isinstance := HX.noB_ok (c.fact 1 6)) (z_len := HX.noB_ok (c.fact 1 7)) (z_max := HX.noB_ok (c.fact 1 8)) (z_min := HX.noB_ok (c.fact 1 9)) (z_range := HX.noB_ok (c.fact 1 10)) (z_repr := HX.noB_ok (c.fact 1 11)) (z_reversed := HX.noB_ok (c.fact 1 12)) (z_str := HX.noB_ok (c.fact 1 13)) (e24 := e24) (e25 := e25) (e26 := e26) (a2 := HX.refB_ok (c.fact 1 17)) (a3 := HX.refB_ok (c.fact 1 18)) (a4 := HX.refB_ok (c.fact 1 19)) (a5 := HX.refB_ok (c.fact 1 20)) (a6 := HX.refB_ok (c.fact 1 21)) (a7 := HX.refB_ok (c.fact 1 22)) (a8 := HX.refB_ok (c.fact 1 23)) (a9 := HX.refB_ok (c.fact 1 24)) (a10 := HX.refB_ok (c.fact 1 25)) (a11 := HX.refB_ok (c.fact 1 26)) (a12 := HX.refB_ok (c.fact 1 27)) (a13 := HX.refB_ok (c.fact 1 28)) (a14 := HX.refB_ok (c.fact 1 29)) (a15 := HX.refB_ok (c.fact 2 0)) (a16 := HX.refB_ok (c.fact 2 1)) (a17 := HX.refB_ok (c.fact 2 2)) (a18 := HX.refB_ok (c.fact 2 3)) (a19 := HX.refB_ok (c.fact 2 4)) (a20 := HX.refB_ok (c.fact 2 5)) (a27 := HX.refB_ok (c.fact 2 6)) (xx5 := (c.fact 2 7)) (xk5 := (c.fact 2 8)) (xb5 := of_decide_eq_true (c.fact 2 9)) (xt5 := of_decide_eq_true (c.fact 2 10)) (xx18 := (c.fact 2 11)) (xk18 := (c.fact 2 12)) (xb18 := of_decide_eq_true (c.fact 2 13)) (xt18 := of_decide_eq_true (c.fact 2 14)) (pg27 := (c.fact 2 15)) (hd27 := (c.fact 2 16)) (po27 := (c.fact 2 17)) (sa27 := He.eqO_ok (c.fact 2 18)) (mk27 := (c.fact 2 19)) (kc27 := (c.fact 2 20)) (na27_top := HX.noB_ok (c.fact 2 21)) (na27_bottom := HX.noB_ok (c.fact 2 22)) (a42 := HX.refB_ok (c.fact 2 23)) (i42 := (c.fact 2 24)) (l42 := l42) (c42 := c42) (k42 := (c.fact 2 25)) (dt42 := dt42) (a43 := HX.refB_ok (c.fact 2 27)) (i43 := (c.fact 2 28)) (l43 := l43) (c43 := c43) (k43 := (c.fact 2 29)) (a44 := HX.refB_ok (c.fact 3 0)) (i44 := (c.fact 3 1)) (l44 := l44) (c44 := c44) (k44 := (c.fact 3 2)) (a45 := HX.refB_ok (c.fact 3 3)) (i45 := (c.fact 3 4)) (l45 := l45) (c45 := c45) (k45 := (c.fact 3 5)) (ff_cs := of_decide_eq_true (c.fact 3 6)) (ff_ct := of_decide_eq_true (c.fact 3 7)) (ff_ciQ := of_decide_eq_true (c.fact 3 8)) (ff_moQ := of_decide_eq_true (c.fact 3 9)) (ff_kQ := of_decide_eq_true (c.fact 3 10)) (ff_neQ := of_decide_eq_true (c.fact 3 11)) (ff_kint := of_decide_eq_true (c.fact 3 12)) (ff_ktuple := of_decide_eq_true (c.fact 3 13)) (ff_kstr := of_decide_eq_true (c.fact 3 14)) (ff_ec_NoNumber := (c.fact 3 15)) (ff_ew_NoNumber := of_decide_eq_true (c.fact 3 16)) (ff_e2_NoNumber := of_decide_eq_true (c.fact 3 17)) (ff_er_NoNumber := of_decide_eq_true (c.fact 3 18)) (ff_kb_NoNumber := of_decide_eq_true (c.fact 3 19)) (ff_k_NoNumber_NoWord := of_decide_eq_true (c.fact 3 20)) (ff_k_NoNumber_NoText := of_decide_eq_true (c.fact 3 21)) (ff_k_NoNumber_NoNumber := of_decide_eq_true (c.fact 3 22)) (ff_k_NoNumber_NoSize := of_decide_eq_true (c.fact 3 23)) (ff_k_NoNumber_NoLengths := of_decide_eq_true (c.fact 3 24)) (ff_k_NoNumber_NoQuery := of_decide_eq_true (c.fact 3 25)) (ff_k_NoNumber_NoCode := of_decide_eq_true (c.fact 3 26)) (ff_k_NoNumber_NoRow := of_decide_eq_true (c.fact 3 27)) (ff_k_NoNumber_NoEntries := of_decide_eq_true (c.fact 3 28)) (ff_k_NoNumber_NoQueryText := of_decide_eq_true (c.fact 3 29)) (ff_k_NoNumber_NoPages := of_decide_eq_true (c.fact 4 0)) (ff_k_NoNumber_NoShelf := of_decide_eq_true (c.fact 4 1)) (ff_k_NoNumber_NoQueries := of_decide_eq_true (c.fact 4 2)) (ff_k_NoNumber_NoPlace := of_decide_eq_true (c.fact 4 3)) (ff_k_NoNumber_NoSlot := of_decide_eq_true (c.fact 4 4)) (ff_k_NoNumber_NoRatio := of_decide_eq_true (c.fact 4 5)) (ff_k_NoNumber_Held := of_decide_eq_true (c.fact 4 6)) (ff_k_NoNumber_Gone := of_decide_eq_true (c.fact 4 7)) (ff_ec_NoRatio := (c.fact 4 8)) (ff_ew_NoRatio := of_decide_eq_true (c.fact 4 9)) (ff_e2_NoRatio := of_decide_eq_true (c.fact 4 10)) (ff_er_NoRatio := of_decide_eq_true (c.fact 4 11)) (ff_kb_NoRatio := of_decide_eq_true (c.fact 4 12)) (ff_k_NoRatio_NoWord := of_decide_eq_true (c.fact 4 13)) (ff_k_NoRatio_NoText := of_decide_eq_true (c.fact 4 14)) (ff_k_NoRatio_NoNumber := of_decide_eq_true (c.fact 4 15)) (ff_k_NoRatio_NoSize := of_decide_eq_true (c.fact 4 16)) (ff_k_NoRatio_NoLengths := of_decide_eq_true (c.fact 4 17)) (ff_k_NoRatio_NoQuery := of_decide_eq_true (c.fact 4 18)) (ff_k_NoRatio_NoCode := of_decide_eq_true (c.fact 4 19)) (ff_k_NoRatio_NoRow := of_decide_eq_true (c.fact 4 20)) (ff_k_NoRatio_NoEntries := of_decide_eq_true (c.fact 4 21)) (ff_k_NoRatio_NoQueryText := of_decide_eq_true (c.fact 4 22)) (ff_k_NoRatio_NoPages := of_decide_eq_true (c.fact 4 23)) (ff_k_NoRatio_NoShelf := of_decide_eq_true (c.fact 4 24)) (ff_k_NoRatio_NoQueries := of_decide_eq_true (c.fact 4 25)) (ff_k_NoRatio_NoPlace := of_decide_eq_true (c.fact 4 26)) (ff_k_NoRatio_NoSlot := of_decide_eq_true (c.fact 4 27)) (ff_k_NoRatio_NoRatio := of_decide_eq_true (c.fact 4 28)) (ff_k_NoRatio_Held := of_decide_eq_true (c.fact 4 29)) (ff_k_NoRatio_Gone := of_decide_eq_true (c.fact 5 0)) (tb41 := (c.empty 502 (by decide))) (tn41 := (c.out 502 (by decide))) (th41 := (c.fact 5 1))
end K31
open PySem PySem.W PySem.Calls PyProof.Rows
set_option maxHeartbeats 0 in
theorem PySem.Challenge.cw_blocksearch_k31_ratios_made_holds : PySem.Challenge.rw_blocksearch_k31_ratios_made.Holds := by
  w_on; o_law
  refine HandSHeadRun.head_any (r := OpenLaw.row PySem.Challenge.rw_blocksearch_k31_ratios_made) (q := view (OpenLaw.row PySem.Challenge.rw_blocksearch_k31_ratios_made).prog [41]) (H := K31.hk) (ob := K31.hob) (M := 11522) (loose := K31.hloose) (d := HandSHeadRun.topDef (OpenLaw.row PySem.Challenge.rw_blocksearch_k31_ratios_made).prog 41) (kwd := []) K31.hob_eq (by kernel_rfl) (fun s => by kernel_rfl) K31.hrun (by kernel_rfl) (by kernel_rfl) (by kernel_rfl) (by rfl) (by first | assumption | decide +kernel) (by decide +kernel) ⟨rfl, rfl, rfl, rfl, rfl, by decide +kernel⟩ ?hw ?hc
  case hw => w_witness2
  case hc =>
    refine LamX.walk_ofTsE (l := PySem.Challenge.rw_blocksearch_k31_ratios_made) (n := 63) (k := 14) (x := "_law_script") (CX := fun _ => L2.CX0) rfl (by decide) (by kernel_rfl) ⟨rfl, by decide, by decide⟩ ?F (fun _ _ _ _ _ z => z)
    intro w mg fa h Y G hmg0
    obtain ⟨K, KX, c⟩ := Y
    have hmg : mg ("law" : PySem.Str) = some (.ref fa) := by
      have e : (HandSHeadRun.topDef (OpenLaw.row PySem.Challenge.rw_blocksearch_k31_ratios_made).prog 41).name = ("law" : PySem.Str) := by kernel_rfl
      rw [← e]
      exact hmg0
    exact ⟨K, KX, K31.hmk KX G hmg c⟩

