import PyProof.Rows.All
import Wide.All
import OpenK.AllK
import Wide.FinOn
import HandS.ForMost
import HandS.Defaults
import HandS.IsInst
import HandS.Walk
import HandS.Lambda
import HandS.EndTab
import HandS.Evl
import HandS.More
import HandS.MakeKw
import HandS.Text
import HandS.Deep
import HandS.OwnEq
import HandS.FStr
import HandS.Style
import KE.KCallOwn
import PyProof.StrLawsRepr
import HandS.Exc
import HandS.TryOnly
import HandS.ExcOwn
import HandS.WordsExc
import HandS.ExcIs
import HandS.HotCalls
import HandS.MakeKwOnly
import HandS.DictComp
import HandS.Zip
import KE.GoesMore
import KE.KExcIs
import KE.KNestM
import PyProof.EnumMake
import HandS.HeadWalk
import PyProof.ReprRoads
import HandS.HeadEnd
import HandS.Head2
import HandS.HeadHook4
import KE.KStateDown
import PySem.Challenge.RW_blocksearch_k03_pages_told
set_option Elab.async false
set_option linter.all false
set_option maxRecDepth 100000
/-! words of my own: the drawn pool, heaps that grow beside it, small facts -/
namespace My
open PySem PySem.Spec PyProof.Rows L2 Evl

/-- the pool at p: three ints, at most c draws mixed so far -/
def Pl (H : Hp) (p : Addr) (c : Nat) : Prop := ∃ (g b : Int) (k : Nat), H p = some (.lst [.int g, .int b, .int (k : Int)]) ∧ 0 ≤ g ∧ 0 ≤ b ∧ b < 281474976710656 ∧ k ≤ c
/-- all but p stays -/
def Fx (p : Addr) (H H' : Hp) : Prop := ∀ a o, a ≠ p → H a = some o → H' a = some o
theorem Fx.refl (p : Addr) (H : Hp) : Fx p H H := fun _ _ _ h => h
theorem Fx.trans {p : Addr} {H H1 H2 : Hp} (a : Fx p H H1) (b : Fx p H1 H2) : Fx p H H2 := fun x o n h => b x o n (a x o n h)
theorem Fx.ex {p : Addr} {H H' : Hp} (e : Ex H H') : Fx p H H' := fun a o _ h => e a o h
theorem Fx.upd {p : Addr} {H : Hp} {o : HO} : Fx p H (L2.upd H p o) := fun a u n h => by
  rw [upd_ne n]
  exact h
theorem Pl.mono {H : Hp} {p : Addr} {c c' : Nat} (h : Pl H p c) (l : c ≤ c') : Pl H p c' := by
  obtain ⟨g, b, k, h1, h2, h3, h4, h5⟩ := h
  exact ⟨g, b, k, h1, h2, h3, h4, Nat.le_trans h5 l⟩
theorem Pl.ex {H H' : Hp} {p : Addr} {c : Nat} (h : Pl H p c) (e : Ex H H') : Pl H' p c := by
  obtain ⟨g, b, k, h1, h2⟩ := h
  exact ⟨g, b, k, e _ _ h1, h2⟩
theorem Pl.some {H : Hp} {p : Addr} {c : Nat} (h : Pl H p c) : ∃ xs, H p = some (.lst xs) := by
  obtain ⟨g, b, k, h1, _⟩ := h
  exact ⟨_, h1⟩
/-- what is free behind was free ahead -/
theorem fx_free {p a : Addr} {H H' : Hp} {c : Nat} (f : Fx p H H') (h : Pl H' p c) (e : H' a = none) : H a = none := by
  cases q : H a with
  | none => rfl
  | some o =>
    have n : a ≠ p := fun z => by
      obtain ⟨xs, hx⟩ := h.some
      rw [z, hx] at e
      cases e
    rw [f a o n q] at e
    cases e
/-- a tuple is not the pool -/
theorem Fx.tup {p a : Addr} {H H' : Hp} {xs : List V} {c : Nat} (f : Fx p H H') (hp : Pl H p c) (h : H a = some (.tup xs)) : H' a = some (.tup xs) := by
  obtain ⟨ys, hy⟩ := hp.some
  exact f a _ (ne_of h hy (by intro z; cases z)) h
theorem Fx.sqt {K : PySem.W.Frag} {p a : Addr} {H H' : Hp} {xs : List V} {c : Nat} (f : Fx p H H') (hp : Pl H p c) (h : SqT K H a xs) : SqT K H' a xs := by
  obtain ⟨ys, hy⟩ := hp.some
  rcases h with (h | ⟨o, h⟩) | h
  · exact .inl (.inl (f a _ (ne_of h hy (by intro z; cases z)) h))
  · exact .inl (.inr ⟨o, f a _ (ne_of h hy (by intro z; cases z)) h⟩)
  · exact .inr h
theorem Fx.lst {p a : Addr} {H H' : Hp} {xs : List V} (f : Fx p H H') (n : a ≠ p) (h : H a = some (.lst xs)) : H' a = some (.lst xs) := f a _ n h
theorem ex_upd {H : Hp} {p : Addr} {o : HO} (h : H p = none) : Ex H (L2.upd H p o) := Ex.new h
theorem ret_v {v : V} {H : Hp} {Q : VK} (q : RetV v H Q) : Q v H := q H (Ex.refl H)
theorem sz {n : Nat} (h : n ≤ 100000) : n ≤ sizeLine := sz_of h
theorem natAbs_lt {z : Int} {n : Nat} (h0 : 0 ≤ z) (h : z < (n : Int)) : z.natAbs < n := by omega
/-- a * b ≤ A * B -/
theorem mul_le {a b A B : Int} (h0 : 0 ≤ a) (h1 : a ≤ A) (h2 : 0 ≤ b) (h3 : b ≤ B) : a * b ≤ A * B := Int.mul_le_mul h1 h3 h2 (Int.le_trans h0 h1)
theorem mul_nn {a b : Int} (h0 : 0 ≤ a) (h1 : 0 ≤ b) : 0 ≤ a * b := Int.mul_nonneg h0 h1
/-! the rules with the written part said, for blocks of comprehensions -/
section
variable {X : Cx} {K : PySem.W.Frag}
theorem lenK (h : X.K = K) : CallR X (.builtin "len") (rLenS K) := by subst h; exact call_len_seq
theorem listK (h : X.K = K) : CallR X (.type "list") (rListS K) := by subst h; exact call_list_of
def rTupS (K : PySem.W.Frag) : List V → Hp → VK → Prop := fun xs H Q => ∃ p ys, xs = [.ref p] ∧ ((SqL K H p ys ∧ ∀ l, H l = none → Q (.ref l) (L2.upd H l (.tup ys))) ∨ (SqT K H p ys ∧ Q (.ref p) H))
theorem tupK (h : X.K = K) : CallR X (.type "tuple") (rTupS K) := by subst h; exact call_tuple_of
theorem ixLK (h : X.K = K) : IxR X (rIxL K) := by subst h; exact ix_list
theorem ixTK (h : X.K = K) : IxR X (rIxT K) := by subst h; exact ix_tup
theorem slLK (h : X.K = K) : SlR X (rSlL K) := by subst h; exact sl_list
theorem slTK (h : X.K = K) : SlR X (rSlT K) := by subst h; exact sl_tup
theorem catTK (h : X.K = K) : OpR X (binaryOp .Add) (rCatT K) := by subst h; exact op_catT
theorem inK (h : X.K = K) : OpR X (compareOp .In) (rIn K false) := by subst h; exact op_in_seq
theorem notInK (h : X.K = K) : OpR X (compareOp .NotIn) (rIn K true) := by subst h; exact op_notIn_seq
theorem isiK (h : X.K = K) : CallR X (.builtin "isinstance") (rIsi K) := by subst h; exact call_isi
theorem isiTK (h : X.K = K) : CallR X (.builtin "isinstance") (rIsiT K) := by subst h; exact call_isiT
theorem allK (h : X.K = K) (hc : X.calm = true) : CallR X (.builtin "all") (rAll K) := by subst h; exact cr_all hc
theorem anyK (h : X.K = K) (hc : X.calm = true) : CallR X (.builtin "any") (rAny K) := by subst h; exact cr_any hc
theorem sumK (h : X.K = K) (hc : X.calm = true) : CallR X (.builtin "sum") (rSum K) := by subst h; exact cr_sum hc
theorem maxK (h : X.K = K) (hc : X.calm = true) : CallR X (.builtin "max") (rMax K) := by subst h; exact cr_max hc
theorem minK (h : X.K = K) (hc : X.calm = true) : CallR X (.builtin "min") (rMin K) := by subst h; exact cr_min hc
theorem fldK {e : Expr} {f : Str} {pos : Pos} {ta : TE} (h : X.K = K) (he : PE X e ta) (hb : attributeBase e f X.env (eval e X.env) = eval e X.env) : PE X (.Attribute e f pos) (tFld K ta f) := by subst h; exact pe_fld he hb
theorem tupGK {es : List Expr} {k : Nat} {t : TGs} {n : Nat} {pos : Pos} (h : X.K = K) (hc : X.calm = true) (hg : PGs X es t) (hn : (assignEach es X.env).length = n := by rfl) (hst : (assignEach es X.env).findIdx? (·.1) = none := by rfl) : PG X (.Tuple es k pos) (gTup K n t) := by subst h; exact pg_tup hc hg hn hst
theorem eqDK (h : X.K = K) (hu : X.A.units + 64 < cLine) : OpR X (compareOp .Eq) (rEqD K) := by subst h; exact op_eqD hu
theorem neDK (h : X.K = K) (hu : X.A.units + 64 < cLine) : OpR X (compareOp .NotEq) (rNeD K) := by subst h; exact op_neD hu
theorem indexK (h : X.K = K) : MtR X "list.index" (rIndex K) := by subst h; exact mt_index
theorem piOr {tg e : Expr} {w1 w2 : TI} (h1 : PI X tg e w1) (h2 : PI X tg e w2) : PI X tg e (fun σ H R => w1 σ H R ∨ w2 σ H R) := ⟨fun pins s σ H R I h => h.elim (fun h => h1.run pins s σ H R I h) (fun h => h2.run pins s σ H R I h)⟩
theorem piLK {tg l : Expr} {tl : TE} (h : X.K = K) (hl : PE X l tl) : PI X tg l (iList K tl) := by subst h; exact pi_list hl
theorem piTK {tg l : Expr} {tl : TE} (h : X.K = K) (hl : PE X l tl) : PI X tg l (iTup K tl) := by subst h; exact pi_tup hl
end
end My
/-! several except clauses with a name, each over one class or a tuple of them -/
namespace My
open PySem PySem.Spec PyProof.Rows L2 Evl
/-- the matching of an exception with the classes of a tuple -/
theorem loop_all {M : Model} {A : Around} {E : Value → Shared → Prop} {s : Shared} {f : Value → PUnit → Sem (ForInStep PUnit)} : ∀ {cs : List Value}, (∀ c ∈ cs, ∀ Q : ForInStep PUnit → Shared → Prop, Q (.yield ()) s → wpAny M A (f c ()) Q E s) →
    ∀ {Q : PUnit → Shared → Prop}, Q () s → wpAny M A (forIn cs PUnit.unit f) Q E s
  | [], _, Q, q => by
    rw [List.forIn_nil]
    exact wpAny_pure q
  | c :: r, hf, Q, q => by
    rw [List.forIn_cons]
    exact wpAny_bind (hf c (List.mem_cons_self ..) _ (loop_all (fun x hx => hf x (List.mem_cons_of_mem _ hx)) q))
theorem loop_any {M : Model} {A : Around} {E : Value → Shared → Prop} {s : Shared} {K : PySem.W.Frag} {cls : Value} {f : Value → Option Bool × PUnit → Sem (ForInStep (Option Bool × PUnit))} :
    ∀ {cs : List Value} {b : Bool}, PySem.W.exmAny K cls cs = some b →
      (∀ c b1, PySem.W.exmOne K cls c = some b1 → ∀ Q : ForInStep (Option Bool × PUnit) → Shared → Prop, Q (if b1 then .done (some true, ()) else .yield (none, ())) s → wpAny M A (f c (none, ())) Q E s) →
    ∀ {Q : Option Bool × PUnit → Shared → Prop}, Q (if b then some true else none, ()) s → wpAny M A (forIn cs ((none, ()) : Option Bool × PUnit) f) Q E s
  | [], b, hx, _, Q, q => by
    rw [List.forIn_nil]
    cases (show some false = some b from hx)
    exact wpAny_pure q
  | c :: r, b, hx, hf, Q, q => by
    obtain ⟨b1, d1, x1, x2, e⟩ := PySem.W.exmAny_cons hx
    rw [List.forIn_cons]
    refine wpAny_bind (hf c b1 x1 _ ?_)
    cases b1 with
    | true =>
      rw [e] at q
      exact wpAny_pure q
    | false =>
      rw [e] at q
      exact loop_any x2 hf q
theorem exm_in {K : PySem.W.Frag} {cls : Value} : ∀ {cs : List Value} {b : Bool}, PySem.W.exmAny K cls cs = some b → ∀ c ∈ cs, ∃ b1, PySem.W.exmOne K cls c = some b1
  | [], _, _, c, h => absurd h (by simp)
  | x :: r, b, hx, c, h => by
    obtain ⟨b1, d1, x1, x2, e⟩ := PySem.W.exmAny_cons hx
    rcases List.mem_cons.mp h with rfl | h
    · exact ⟨b1, x1⟩
    · exact exm_in x2 c h
theorem exm_many {M : Model} {K : PySem.W.Frag} {cls : Value} {e tp : Addr} {b : Bool} {h : Heap} {cs : List Value} {o : Obj} {n : Nat} (KX : K.In h) (LT : PySem.W.Looks M h (typeOf (.ref e)) cls)
    (ho : h.get? tp = some o) (hc : o.cls = .type "tuple") (hd : o.data = .seq cs.toArray n) (hx : PySem.W.exmAny K cls cs = some b) : PySem.W.Looks M h (excMatches (.ref e) (.ref tp)) b := by
  have ty : PySem.W.Looks M h (isInstance (.ref tp) (.type "tuple")) true := by
    have l0 : PySem.W.Looks M h (typeOf (.ref tp)) (.type "tuple") := fun A Q E s k q => wpAny_typeOf_ref (k _ _ ho) (by rw [hc]; exact q)
    exact l0.andThen (PySem.W.Looks.of_pure isSubtype_tuple_tuple)
  intro A Q E s k q
  unfold excMatches
  refine wpAny_bind ((ty.keeps k).here ?_)
  rw [if_pos rfl]
  refine wpAny_bind (wpAny_seqItems (k _ _ ho) hd ?_)
  refine wpAny_bind (wpAny_pure ?_)
  refine wpAny_bind (loop_all (fun c hm Q' q' => ?_) ?_)
  · obtain ⟨b1, x1⟩ := exm_in hx c (by simpa using hm)
    obtain ⟨l1, _⟩ := PySem.W.exm_cls (M := M) KX x1
    refine wpAny_bind ((l1.keeps k).here ?_)
    exact wpAny_pure q'
  · refine wpAny_bind ((LT.keeps k).here (wpAny_bind (loop_any (cs := cs) hx (fun c b1 x1 Q' q' => ?_) ?_)))
    · obtain ⟨_, l2⟩ := PySem.W.exm_cls (M := M) KX x1
      refine wpAny_bind ((l2.keeps k).here ?_)
      cases b1 with
      | true => exact wpAny_pure q'
      | false => exact wpAny_pure q'
    · cases b with
      | true => exact wpAny_pure q
      | false => exact wpAny_pure q
/-- what a clause's classes are: the test is run in the suite's context, it may lay a tuple -/
def TestR (X : Cx) (t : Expr) (cs : List Value) : Prop := ∀ (a : Addr) (pn : List (Addr × Obj)) (σ : L2.St) (H : Hp) (s : Shared) (cls : Value) (b : Bool) (Q : Bool → Shared → Prop) (E : Value → Shared → Prop),
  Inv (X.suite a pn) [] σ H s → PySem.W.Looks (model X.prog X.w) s.heap (typeOf (.ref a)) cls → PySem.W.exmAny X.K cls cs = some b →
    (∀ h', (∀ x o, s.heap.get? x = some o → h'.get? x = some o) → Q b { s with heap := h' }) →
    wpAny (model X.prog X.w) (X.A.mark (some (.ref a))) (eval t X.env) (fun c s₁ => wpAny (model X.prog X.w) (X.A.mark (some (.ref a))) (excMatches (.ref a) c) Q E s₁) E s
theorem name_runs {X : Cx} {x : Str} {c : Value} {np : Pos} (hc : Names X x c) {a : Addr} {pn : List (Addr × Obj)} {σ : L2.St} {H : Hp} {s : Shared} (I : Inv (X.suite a pn) [] σ H s) {Q : Value → Shared → Prop} {E : Value → Shared → Prop} (q : Q c s) :
    wpAny (model X.prog X.w) (X.A.mark (some (.ref a))) (eval (.Name x np) X.env) Q E s := by
  obtain ⟨g1, g2, g3 | ⟨g3, g4, g5⟩⟩ := hc
  · exact ld_glob (X := X.suite a pn) I g1 g3 q g2
  · exact ld_blt (X := X.suite a pn) I g1 g3 g4 q g5 g2
theorem test_name {X : Cx} {x : Str} {c : Value} {np : Pos} (hc : Names X x c) : TestR X (.Name x np) [c] := by
  intro a pn σ H s cls b Q E I LT hx q
  refine name_runs hc I ?_
  obtain ⟨b1, d1, x1, x2, e⟩ := PySem.W.exmAny_cons hx
  cases (show some false = some d1 from x2)
  rw [Bool.or_false] at e
  rw [e] at q
  exact (PySem.W.exm_one I.kIn LT x1).here (q s.heap fun _ _ h => h)
inductive NamesAll (X : Cx) : List Expr → List Value → Prop
  | nil : NamesAll X [] []
  | cons {x : Str} {c : Value} {np : Pos} {es : List Expr} {cs : List Value} : Names X x c → NamesAll X es cs → NamesAll X (.Name x np :: es) (c :: cs)
theorem names_run {X : Cx} {pos : Pos} {a : Addr} {pn : List (Addr × Obj)} {σ : L2.St} {H : Hp} {s : Shared} (I : Inv (X.suite a pn) [] σ H s) : ∀ {es : List Expr} {cs : List Value}, NamesAll X es cs → ∀ {Q : List Value → Shared → Prop} {E : Value → Shared → Prop}, Q cs s →
    wpAny (model X.prog X.w) (X.A.mark (some (.ref a))) (spliced (backTo pos (starEach es X.env))) Q E s
  | _, _, .nil, Q, E, q => Calls.spliced_nil q
  | _, _, .cons (x := x) (np := np) (es := es) hn hr, Q, E, q => by
    show wpAny _ _ (spliced ((false, eval (.Name x np) X.env) :: backTo pos (starEach es X.env))) _ _ s
    exact Calls.spliced_cons (name_runs hn I (names_run I hr q))
theorem test_tup {X : Cx} {es : List Expr} {cs : List Value} {k : Nat} {pos : Pos} (hn : NamesAll X es cs) (hl : cs.length ≤ sizeLine) : TestR X (.Tuple es k pos) cs := by
  intro a pn σ H s cls b Q E I LT hx q
  refine wpAny_Tuple_spliced (names_run I hn ⟨hl, ?_⟩)
  have kp : ∀ x o, s.heap.get? x = some o → (s.heap.push { cls := .type "tuple", data := .seq cs.toArray }).get? x = some o := fun x o e => Heap.get?_push_of_some _ e
  exact (exm_many (I.kIn.keeps kp) (LT.keeps kp) (Heap.get?_push_size _ rfl) rfl rfl hx).here (q _ kp)
/-- what the clauses wish of an exception of the body; slot i is the name's -/
def wAsMany (K : PySem.W.Frag) (Wout : WX) (i : Nat) (D : Ends) : List (List Value × (Addr → Value → Option Addr → TS)) → WX
  | [] => Wout
  | (cs, ts) :: r => fun cls d σ H => ∃ b, PySem.W.exmAny K cls cs = some b ∧
      (b = true → ∀ a, H a = none → ts a cls d { nx := fun σ' H' => D.nx (σ'.set i none) H', rt := D.rt, bk := fun σ' H' => D.bk (σ'.set i none) H', ct := fun σ' H' => D.ct (σ'.set i none) H' } (σ.set i (some (.ref a))) H) ∧
      (b = false → wAsMany K Wout i D r cls d σ H)
inductive HdsAs (X : Cx) (n : Str) : List ExceptHandler → List (List Value × (Addr → Value → Option Addr → TS)) → Prop
  | nil : HdsAs X n [] []
  | cons {t : Expr} {cs : List Value} {ts : Addr → Value → Option Addr → TS} {b₀ : Stmt} {suite : List Stmt} {pos' : Pos} {hds : List ExceptHandler} {l : List (List Value × (Addr → Value → Option Addr → TS))} (ht : TestR X t cs)
      (hsu : ∀ (a : Addr) (oe : Obj) (cls : Value) (d : Option Addr) (pn : List (Addr × Obj)), Zc cls d oe → (∃ vs, oe.data = .fields vs) → PSs (X.suite a ((a, oe) :: pn)) (b₀ :: suite) (ts a cls d)) (r : HdsAs X n hds l) :
      HdsAs X n (.ExceptHandler (some t) (some n) (b₀ :: suite) pos' :: hds) ((cs, ts) :: l)
theorem fly_kept {B h h' : Heap} {l : List Env} {a : Addr} {Z : Obj → Prop} (f : HandSPX.FlyingZ B l a Z h) (k : ∀ x o, h.get? x = some o → h'.get? x = some o) : HandSPX.FlyingZ B l a Z h' := by
  obtain ⟨f1, f2, f3, oe, vs, T, oT, ts, g1, g2, g3, g4, g5, g6, g7, g8, g9⟩ := f
  exact ⟨fun b o e => k _ _ (f1 b o e), f2, f3.of_keeps fun b o e _ => ⟨o, k b o e, rfl⟩, oe, vs, T, oT, ts, k _ _ g1, g2, g3, g4, g5, g6, k _ _ g7, g8, g9⟩
section
variable {X : Cx} {n : Str} {i : Nat} {body : List Stmt} {h₀ : ExceptHandler} {hds : List ExceptHandler} {l : List (List Value × (Addr → Value → Option Addr → TS))} {pos : Pos} {tb : WX → TS} {Wout : WX}
set_option maxHeartbeats 4000000 in
theorem ps_try_asMany (hs : X.stack = X.env :: X.outer) (hf : X.env.frame = some X.env.locals) (hN : X.N.Nodup) (hi : X.N[i]? = some n) (hln : X.env.kindOf n = some .local) (tk : Takes X Wout)
    (hb : ∀ (W : WX) (pn : List (Addr × Obj)) (xe : Value → Shared → Prop), Takes (X.tr pn xe) W → PassesOwn (model X.prog X.w) X.A X.env xe → PSs (X.tr pn xe) body (tb W))
    (hh : HdsAs X n (h₀ :: hds) l) : PS X (.Try body (h₀ :: hds) [] [] pos) (fun D σ H => tb (fun cls d σ' H' => σ'.length = X.N.length → wAsMany X.K Wout i D l cls d σ' H') D σ H) := by
  refine ⟨fun pins s σ H D I h => wpAny_Try_except ?_⟩
  have ok := I.ok
  have hfr : X.A.frames = some (X.env :: X.outer) := by rw [ok.frames, hs]
  refine wpAny_mono ((hb (fun cls d σ' H' => σ'.length = X.N.length → wAsMany X.K Wout i D l cls d σ' H') (X.pn ++ pins) _ (fun u s' xx => ?_) PassesOwn.looking).run [] s σ H D (I.toTry _) h) (fun f s1 hsp => ?_) (fun e s1 he => he)
  · obtain ⟨a, B, sI, pins', σ', H', cls, d, rfl, J', nb, up, sky, na, os, ag, wish⟩ := xx
    have J : Inv X pins σ' H' sI := J'.ofTry ok
    rw [show (X.tr (X.pn ++ pins) _).stack = X.env :: X.outer from hs] at sky
    refine Sky.land Zc.steady hfr hf sky fun h3 fl up3 => ?_
    have up4 := up.trans up3
    have apart : ∀ {g : Heap}, HandSPX.FlyingZ B (X.env :: X.outer) a (Zc cls d) g → a ∉ frs (X.env :: X.outer) := fun {g} fg hm => by
      obtain ⟨oe, vs, e1, _, e3⟩ := fg.there
      obtain ⟨_, o', e', hnf⟩ := fg.2.2.1.mem hm
      rw [e1] at e'
      cases e'
      exact hnf _ e3
    have nfr := apart fl
    have nL : a ≠ X.env.locals := fun z => nfr (List.mem_filterMap.mpr ⟨X.env, List.mem_cons_self, by rw [hf, z]⟩)
    have nF : a ∉ X.fs := fun hm => by
      obtain ⟨e, he, q⟩ := List.mem_filterMap.mp hm
      exact nfr (List.mem_filterMap.mpr ⟨e, List.mem_cons_of_mem _ he, q⟩)
    have go : ∀ {hds' : List ExceptHandler} {l' : List (List Value × (Addr → Value → Option Addr → TS))}, HdsAs X n hds' l' → ∀ h', HandSPX.FlyingZ B (X.env :: X.outer) a (Zc cls d) h' → sI.heap.UpToSlots h' → wAsMany X.K Wout i D l' cls d σ' H' →
        wpAny (model X.prog X.w) X.A (handleBy (.ref a) X.env hds') (SP X pins D) X.xe { s' with heap := h' } := by
      intro hds' l' hk
      induction hk with
      | nil =>
        intro h' fg ug wi
        refine wpAny_handleBy_nil ?_
        obtain ⟨_, _, _, oe, vs, T, oT, ts', he, hz, hd, h1, _⟩ := id fg
        unfold PySem.passOn
        refine wpAny_bind (wpAny_field he hd h1 ?_)
        rw [if_neg (show ¬ ((Value.ref T == Value.none) = true) by simp)]
        have fin : wpAny (model X.prog X.w) X.A (setFlight (.ref a) X.env.frame) (fun _ s4 => wpAny (model X.prog X.w) X.A (throw (.ref a) : Sem Flow) (SP X pins D) X.xe s4) X.xe { s' with heap := h' } := by
          rw [hf]
          refine HandSPX.setFlight_upZ fg fun h4 hh4 u4 => wpAny_throw (tk _ _ ⟨a, B, sI, pins, σ', H', cls, d, rfl, J, nb, ug.trans u4, .inr (.inr ?_), na, os, ag, wi⟩)
          rw [hs]
          exact hh4
        first
          | exact wpAny_bind (wpAny_pure (wpAny_bind fin))
          | exact wpAny_bind fin
      | @cons t cs ts b₀ suite pos' hds2 l2 ht hsu r ih =>
        intro h' fg ug wi
        obtain ⟨b, hb1, hyes, hno⟩ := wi
        have J3 : Inv X pins σ' H' { s' with heap := h' } := J.landed nb fg.1 ug os ag
        obtain ⟨oe3, vs3, he3, hz3, hd3⟩ := fg.there
        refine wpAny_handleBy_cons (codeAny_handlers_test ?_) (by intro q; cases q)
        refine ht a _ σ' H' _ cls b _ _ (J3.suite he3 hd3 na nL nF) (fun A Q E s k q => wpAny_typeOf_ref (k _ _ he3) (by rw [hz3.1]; exact q)) hb1 fun h5 k5 => ?_
        have f5 := fly_kept fg k5
        have u5 := ug.trans (Heap.UpToSlots.of_keeps k5)
        cases b with
        | false => exact ih h5 f5 u5 (hno rfl)
        | true =>
          refine codeAny_handlers_suite_as ?_
          refine HandSPX.lands_againZ f5 fun h6 f6 u6 => ?_
          have J6 : Inv X pins σ' H' { s' with heap := h6 } := J.landed nb f6.1 (u5.trans u6) os ag
          obtain ⟨oe6, vs6, he6, hz6, hd6⟩ := f6.there
          have S6 := J6.suite he6 hd6 na nL nF
          refine store_ok (X := X.suite a ((a, oe6) :: (X.pn ++ pins))) (v := .ref a) S6 hN hi (.inl hln) rfl (fun s7 S7 => ?_) (.inr hln)
          refine wpAny_mono ((hsu a oe6 cls d (X.pn ++ pins) hz6 ⟨_, hd6⟩).run [] s7 _ H' _ S7 (hyes rfl a na)) (fun f s8 hsp => ?_) (fun _ _ z => False.elim z)
          have gone : ∀ {σ8 : L2.St} {H8 : Hp} {Q : Shared → Prop}, Inv (X.suite a ((a, oe6) :: (X.pn ++ pins))) [] σ8 H8 s8 → (∀ s9, Inv X pins (σ8.set i none) H8 s9 → Q s9) →
              wpAny (model X.prog X.w) X.A (do bindName X.env n .none; unbindBehindTheSuite X.env n pos') (fun _ s9 => Q s9) X.xe s8 := fun {σ8 H8 Q} S8 hq => gone_ok (S8.unsuite ok) hN hi hln hq
          cases f with
          | ret u =>
            obtain ⟨v8, σ8, H8, S8, r8, q8⟩ := hsp
            exact gone S8 fun s9 J9 => ⟨_, _, _, J9, r8, q8⟩
          | next =>
            obtain ⟨σ8, H8, S8, q8⟩ := hsp
            exact gone S8 fun s9 J9 => ⟨_, _, J9, q8⟩
          | brk =>
            obtain ⟨σ8, H8, S8, q8⟩ := hsp
            exact gone S8 fun s9 J9 => ⟨_, _, J9, q8⟩
          | cont =>
            obtain ⟨σ8, H8, S8, q8⟩ := hsp
            exact gone S8 fun s9 J9 => ⟨_, _, J9, q8⟩
    exact go hh h3 fl up4 (wish J.len)
  · cases f with
    | ret u =>
      obtain ⟨v, σ2, H2, J2, r, q⟩ := hsp
      exact ⟨v, σ2, H2, J2.ofTry ok, r, q⟩
    | next =>
      obtain ⟨σ2, H2, J2, q⟩ := hsp
      exact wpAny_execs_nil ⟨σ2, H2, J2.ofTry ok, q⟩
    | brk =>
      obtain ⟨σ2, H2, J2, q⟩ := hsp
      exact ⟨σ2, H2, J2.ofTry ok, q⟩
    | cont =>
      obtain ⟨σ2, H2, J2, q⟩ := hsp
      exact ⟨σ2, H2, J2.ofTry ok, q⟩
end
/-! ### isinstance of an exception that is held, its class D; with a dict of its own or without -/
structure ExcD (K : PySem.W.Frag) (D : Addr) : Prop where
  hc : (PySem.W.clsIn K D).isSome = true
  hg : PySem.W.findIn K (.ref D) "__getattribute__" = some (some (.builtin "BaseException.__getattribute__"))
  hk : PySem.W.findIn K (.ref D) "__getattr__" = some none
  hs : PySem.W.subIn K (.ref D) (.type "BaseException") = some true
  ha : PySem.W.findIn K (.ref D) "__class__" = some (some (.builtin "object.__class__"))
  hn : PySem.W.specialIn K (.builtin "object.__class__") "__get__" = some (some (.builtin "getset_descriptor.__get__"))
  ht : PySem.W.takesIn K (.builtin "object.__class__") = some true
  hm : PySem.W.mroIn K D (.type "object") = some true
/-- the exception at a, held by a pin: an instance of D; its dict d, if it has one, is tracked -/
structure Held (X : Cx) (a D : Addr) (d : Option Addr) (oe : Obj) : Prop where
  pn : (a, oe) ∈ X.pn
  zc : Zc (.ref D) d oe
  fl : ∃ vs, oe.data = .fields vs
def DictOk (d : Option Addr) (H : Hp) : Prop := ∀ dd, d = some dd → ∃ fs, H dd = some (.xd fs)
section
variable {X : Cx} {K : PySem.W.Frag} {a D : Addr} {d : Option Addr} {oe : Obj}
theorem held_at (hh : Held X a D d oe) {pins : List (Addr × Obj)} {σ : L2.St} {H : Hp} {s : Shared} (I : Inv X pins σ H s) (hd : DictOk d H) : ∃ od, PySem.W.InstAt s.heap a oe D od := by
  have hg := (I.pin (a, oe) (List.mem_append_left _ hh.pn)).1
  obtain ⟨vs, hv⟩ := hh.fl
  obtain ⟨c1, c2⟩ := hh.zc
  have no : PySem.W.notCls oe = true := by
    obtain ⟨oc, odd, odt, osl⟩ := oe
    simp only at hv
    subst hv
    rfl
  cases d with
  | none => exact ⟨none, hg, c1, no, by rw [c2]; exact True.intro⟩
  | some dd =>
    obtain ⟨fs, hf⟩ := hd dd rfl
    obtain ⟨mA, ⟨o, es, ep, e1, _⟩, _⟩ := (show ObjOk X.prog X.w H s.heap dd (.xd fs) from I.hok dd _ hf)
    exact ⟨some o, hg, c1, no, by rw [c2]; exact e1⟩
def rIsH (K : PySem.W.Frag) (D a : Addr) (d : Option Addr) : List V → Hp → VK → Prop := fun xs H Q => ∃ (c : V) (cv : Value) (b : Bool), xs = [.ref a, c] ∧ ClsV c cv ∧ DictOk d H ∧ PySem.W.kitOne K (.ref D) cv = some b ∧ Q (.bl b) H
theorem isH (h : X.K = K) (C : ExcD K D) (hh : Held X a D d oe) : CallR X (.builtin "isinstance") (rIsH K D a d) := by
  subst h
  intro pins s σ H xs us Q I r q
  obtain ⟨c, cv, b, rfl, hc, hd, e, q⟩ := q
  obtain ⟨u1, u2, rfl, r1, r2⟩ := vals2 r
  cases (show u1 = Value.ref a from r1)
  have e2 := hc.eq r2
  subst e2
  obtain ⟨od, J⟩ := held_at hh I hd
  exact PySem.W.kia_one (PySem.W.kitx_exc (od := od) C.hc C.hg C.hk C.hs C.ha C.hn C.ht C.hm) I.kIn J e (fun z => nomatch z) fun tk => ⟨.bl b, H, I.tok tk, rfl, q⟩
def rIsHT (K : PySem.W.Frag) (D a : Addr) (d : Option Addr) : List V → Hp → VK → Prop := fun xs H Q => ∃ (tp : Addr) (cs : List V) (ws : List Value) (b : Bool), xs = [.ref a, .ref tp] ∧ H tp = some (.tup cs) ∧ Paired ClsV cs ws ∧ DictOk d H ∧ PySem.W.kitAny K (.ref D) ws = some b ∧ Q (.bl b) H
theorem isHT (h : X.K = K) (C : ExcD K D) (hh : Held X a D d oe) : CallR X (.builtin "isinstance") (rIsHT K D a d) := by
  subst h
  intro pins s σ H xs us Q I r q
  obtain ⟨tp, cs, ws, b, rfl, hT, k, hd, e, q⟩ := q
  obtain ⟨u1, u2, rfl, r1, r2⟩ := vals2 r
  cases (show u1 = Value.ref a from r1)
  cases (show u2 = Value.ref tp from r2)
  obtain ⟨od, J⟩ := held_at hh I hd
  obtain ⟨_, its, rv, o, h1, h2, n, h3⟩ := (show ObjOk X.prog X.w H s.heap tp (.tup cs) from I.hok tp _ hT)
  have e3 := ClsV.all k rv
  subst e3
  obtain ⟨oc, odd, dt, sl⟩ := o
  simp only at h2 h3
  subst h2 h3
  exact PySem.W.kia_tup (PySem.W.kitx_exc (od := od) C.hc C.hg C.hk C.hs C.ha C.hn C.ht C.hm) I.kIn J h1 e (fun z => nomatch z) fun tk => ⟨.bl b, H, I.tok tk, rfl, q⟩
/-! ### xs.count(True), a list of truths -/
def rCntB (K : PySem.W.Frag) : V → List V → Hp → VK → Prop := fun x xs H Q => ∃ (p : Addr) (bs : List Bool), x = .ref p ∧ xs = [.bl true] ∧ SqL K H p (bs.map V.bl) ∧ Q (.int (bs.count true : Nat)) H
def eqT (v : Value) : Bool := match v with
  | .bool b => b
  | _ => false
theorem bools_of : ∀ {bs : List Bool} {us : List Value}, Vals (bs.map V.bl) us → us = bs.map Value.bool
  | [], _, .nil => rfl
  | b :: r, _, .cons h t => by
    cases (show _ = Value.bool b from h)
    rw [bools_of t]
    rfl
theorem countT : ∀ bs : List Bool, (bs.map Value.bool).countP eqT = bs.count true
  | [] => rfl
  | b :: r => by
    rw [List.map_cons, List.countP_cons, countT r, List.count_cons]
    cases b <;> rfl
theorem cntB (h : X.K = K) : MtR X "list.count" (rCntB K) := by
  subst h
  intro pins s σ H x xs v us Q I rx rxs q
  obtain ⟨p, bs, rfl, rfl, hs, q⟩ := q
  cases (show v = Value.ref p from rx)
  obtain ⟨u, rfl, ru⟩ := vals1 rxs
  cases (show u = Value.bool true from ru)
  obtain ⟨its, rv, ⟨⟨cls, dd, data, sl⟩, n, ho, hc, hdn, hd⟩, hlen⟩ := I.list hs
  simp only at hc hd
  subst hc hd
  have eb := bools_of rv
  subst eb
  refine call_meets PySem.F.slot_list_count ⟨_, ho, rfl⟩ PySem.F.entry_list_count (PySem.F.args_list_count_2 _ _)
    (SeqAt.list_countAt p (bs.map Value.bool).toArray n dd sl (.bool true) eqT) ⟨ho, fun y hy => ?_, ?_⟩
  · have hy : y ∈ bs.map Value.bool := by simpa using hy
    obtain ⟨b, _, rfl⟩ := List.mem_map.mp hy
    have z := SeqAt.EqAt.bool_bool (A := X.A.in1) (s := s) b true
    have e : (b == true) = eqT (.bool b) := by cases b <;> rfl
    rw [e] at z
    exact z
  · refine ⟨.int (bs.count true : Nat), H, I.tok _, ⟨s.toks, ?_⟩, q⟩
    show Value.int (((bs.map Value.bool).toArray.toList.countP eqT : Nat) : Int) s.toks = _
    rw [List.toList_toArray, countT]
end
/-! ### a def called with the held exception -/
structure FnP (P : Program) (w : World) (K : PySem.W.Frag) (mg : Str → Option Value) (base : Heap) (CX : CXT) (k : Nat) (f : Addr) (fd : FuncData) (ps : List Str) (sp : Addr → Value → Option Addr → Sp) : Prop where
  len : ∀ a cls d vs H Q E, sp a cls d vs H Q E → vs.length = ps.length
  run : ∀ (A : Around) (outer : List Env) (s : Shared) (H : Hp) (args : Args) (us : List Value) (vs : List V) (Q : VK) (E : XK) (p : Addr × Obj) (cls : Value) (d : Option Addr), L2H.RoomH k A → L2H.PinOk outer H s p → Zc cls d p.2 → (∃ vs, p.2.data = .fields vs) → Env0 P w K mg base A outer s H → BindsTo s fd args (ps.zip us) → Vals vs us → sp p.1 cls d vs H Q E →
    codeAny (model P w) A (.call (.ref f) args) (CR CX outer P w H s Q E) s
theorem fnP_of {CX : CXT} {P : Program} {w : World} {K : PySem.W.Frag} {mg : Str → Option Value} {base : Heap} {k : Nat} {x qual : Str} {st : Stmt} {f : Addr} {fd : FuncData} {N ps : List Str} {sp : Addr → Value → Option Addr → Sp} (F : Fun K x qual st f fd) (S : FnScope N ps (defScope st))
    (len : ∀ a cls d vs H Q E, sp a cls d vs H Q E → vs.length = ps.length)
    (hbody : ∀ (cdv : Value) (A : Around) (outer : List Env) (s : Shared) (H : Hp) (vs : List V) (Q : VK) (E : XK) (p : Addr × Obj) (cls : Value) (d : Option Addr), L2H.RoomH k (A.deeper (envOfC qual (defScope st) s.heap.objs.size f cdv)) → Zc cls d p.2 → (∃ vs, p.2.data = .fields vs) → sp p.1 cls d vs H Q E →
      ∃ t, PSs (L2H.cxH CX P w K mg base N qual (defScope st) f cdv A outer s H E p) (defBody st) t ∧ t { nx := fun _ H' => Q .non H', rt := Q } (L2.start N vs) H) : FnP P w K mg base CX (k + 1) f fd ps sp := by
  obtain ⟨oc, od, kV, doc, pm, an, cdv, ct, osl, rfl, lk, hcd⟩ := F.ex
  refine ⟨len, fun A outer s H args us vs Q E p cls d hr hpin hz hfl e0 hb r hsp => ?_⟩
  have keepB : ∀ b o, base.get? b = some o → s.heap.get? b = some o := fun b o e => (e0.bs b o e).1
  have hkind : ∀ y ∈ ps.zip us, (defScope st).names.lookup y.1 = some .local ∨ ((defScope st).names.lookup y.1 = some .cell ∧ ((cellsFrom (s.heap.objs.size + 1) (defScope st).names []).lookup y.1).isSome = true) := by
    rintro ⟨n, v⟩ hy
    exact (S.par n (List.of_mem_zip hy).1).imp id fun q => ⟨q, PySem.W.cellsFrom_some _ _ _ (.inl q)⟩
  refine codeAny_call_function hr.depth (e0.mod.kin.keeps keepB _ _ lk) rfl S.co S.gen rfl (PySem.W.codeRec_of (e0.mod.kin.keeps keepB) hcd) (hb _ _ _ _ ?_)
  refine wpAny_newFunctionEnv_cells S.kind hkind fun env he s1 z => ?_
  subst he
  refine ⟨(e0.mod.nolimit.keeps keepB).keeps z.toInCall.keep, codeAny_func ?_⟩
  obtain ⟨t, ht, hq⟩ := hbody cdv A outer s H vs Q E p cls d (hr.deeper _) hz hfl hsp
  refine wpAny_mono (ht.run [] s1 (L2.start N vs) H _ (L2H.inv_startH S hpin e0 (len _ _ _ _ _ _ _ hsp) r z) hq) (fun fl s' hs => ?_) fun e s' hs => hs
  cases fl with
  | ret u =>
    obtain ⟨v, σ', H', J, rv, q⟩ := hs
    exact ⟨v, H', J.os, J.bare, J.base, J.hok, rv, q⟩
  | next =>
    obtain ⟨σ', H', J, q⟩ := hs
    exact ⟨.non, H', J.os, J.bare, J.base, J.hok, rfl, q⟩
  | brk =>
    obtain ⟨_, _, _, q⟩ := hs
    exact False.elim q
  | cont =>
    obtain ⟨_, _, _, q⟩ := hs
    exact False.elim q
def tCallP (sp : Addr → Value → Option Addr → Sp) (a : Addr) (cls : Value) (d : Option Addr) (t : TA) : TE := fun σ H Q => t σ H fun vs H1 => sp a cls d vs H1 Q E0
theorem pe_callP {X : Cx} {k : Nat} {f : Addr} {fd : FuncData} {ps : List Str} {sp : Addr → Value → Option Addr → Sp} {x : Str} {q pos : Pos} {e : Expr} {es : List Expr} {t : TA} {p : Addr × Obj} {cls : Value} {d : Option Addr} (F : FnP X.prog X.w X.K X.mg X.base CX0 k f fd ps sp) (hr : L2H.RoomH k X.A) (hp : p ∈ X.pn) (hz : Zc cls d p.2) (hfl : ∃ vs, p.2.data = .fields vs)
    (hg : Gl X x) (hm : X.mg x = some (.ref f)) (hk : PySem.W.keepIn X.K (.ref f) = true) (hb : Binds X.K fd ps []) (ha : PA X (e :: es) t) (hdb : (x == ("__debug__" : Str)) = false := by decide)
    (he : starEach (e :: es) X.env = (false, eval e X.env) :: starEach es X.env := by rfl) (hpl : (backTo pos (starEach es X.env)).any (·.1) = false := by rfl) : PE X (.Call (.Name x q) (e :: es) [] pos) (tCallP sp p.1 cls d t) := by
  refine ⟨fun pins s σ H Q I h => wpAny_Call_Name_kw (ld_glob I hg hm ?_ hdb)⟩
  refine PySem.W.callWith_K (h₀ := X.base) I.ok.mod.kin hk (thn (ha.run pos pins s σ H _ I h) fun us s1 ⟨vs, H1, I1, r, z⟩ => ⟨I1.kIn, ?_⟩) he hpl
  have hl : us.length = ps.length := by rw [← r.length]; exact F.len _ _ _ _ _ _ _ z
  have b := hb s1 us I1.kIn (by rw [List.append_nil]; exact hl)
  rw [List.append_nil] at b
  have P1 := I1.pin p (List.mem_append_left _ hp)
  refine wpAny_call (codeAny_mono (F.run X.A X.stack s1 H1 ⟨us, []⟩ us vs Q E0 p cls d hr ⟨P1.1, P1.2.1, fun hm => (List.mem_cons.mp (I1.stkSub p.1 hm)).elim P1.2.2.1 P1.2.2.2.1, P1.2.2.2.2⟩ hz hfl I1.env0 b r z) fun rr s' hq => ?_)
  cases rr with
  | error e => exact (show False from hq).elim
  | ok fl =>
    cases fl with
    | ret u => exact I1.after hq
    | next => exact False.elim hq
    | brk => exact False.elim hq
    | cont => exact False.elim hq
/-! ### a def whose code object is known by its place -/
structure FunC (K : PySem.W.Frag) (x qual : Str) (st : Stmt) (f : Addr) (fd : FuncData) (c : Addr) : Prop where
  ex : ∃ (oc : Value) (od : Option Addr) (kV doc pm : Value) (an : Option Addr) (ct : Value) (osl : Array (Option Value)),
    fd = PySem.W.fnOf x qual (defArgs st) (defBody st) (defScope st) .none kV doc pm an (.ref c) ct ∧ K.lookup f = some ⟨oc, od, .func fd, osl⟩ ∧ PySem.W.codeIn K (.ref c) qual = true
  kp : PySem.W.keepIn K (.ref f) = true
theorem FunC.fn {K : PySem.W.Frag} {x qual : Str} {st : Stmt} {f : Addr} {fd : FuncData} {c : Addr} (F : FunC K x qual st f fd c) : Fun K x qual st f fd := by
  obtain ⟨oc, od, kV, doc, pm, an, ct, osl, h1, h2, h3⟩ := F.ex
  exact ⟨⟨oc, od, kV, doc, pm, an, .ref c, ct, osl, h1, h2, h3⟩, F.kp⟩
theorem FunC.ok {P : Program} {w : World} {K : PySem.W.Frag} {mg : Str → Option Value} {base : Heap} {x qual : Str} {st : Stmt} {f : Addr} {fd : FuncData} {c : Addr} {N ps : List Str} {k : Nat} {sp : Sp} (F : FunC K x qual st f fd c) (S : FnScope N ps (defScope st))
    (len : ∀ vs H Q E, sp vs H Q E → vs.length = ps.length)
    (hbody : ∀ (A : Around) (outer : List Env) (s : Shared) (H : Hp) (vs : List V) (Q : VK) (E : XK), Room k (A.deeper (envOfC qual (defScope st) s.heap.objs.size f (.ref c))) → sp vs H Q E →
      ∃ t, PSs (cxOf CX0 P w K mg base N qual (defScope st) f (.ref c) A outer s H E).nox (defBody st) t ∧ t { nx := fun _ H' => Q .non H', rt := Q } (start N vs) H) : FnOk P w K mg base CX0 (k + 1) f fd ps sp := by
  obtain ⟨oc, od, kV, doc, pm, an, ct, osl, rfl, lk, hcd⟩ := F.ex
  refine fn_of lk hcd S len fun A outer s H vs Q E hr hsp => ?_
  obtain ⟨t, h, q⟩ := hbody A outer s H vs Q E hr hsp
  exact ⟨t, h.nox, q⟩
/-! ### the classes of refusals -/
def excDB (K : PySem.W.Frag) (D : Addr) : Bool := (PySem.W.clsIn K D).isSome && (decide (PySem.W.findIn K (.ref D) "__getattribute__" = some (some (.builtin "BaseException.__getattribute__"))) && (decide (PySem.W.findIn K (.ref D) "__getattr__" = some none) &&
  (decide (PySem.W.subIn K (.ref D) (.type "BaseException") = some true) && (decide (PySem.W.findIn K (.ref D) "__class__" = some (some (.builtin "object.__class__"))) && (decide (PySem.W.specialIn K (.builtin "object.__class__") "__get__" = some (some (.builtin "getset_descriptor.__get__"))) &&
  (decide (PySem.W.takesIn K (.builtin "object.__class__") = some true) && decide (PySem.W.mroIn K D (.type "object") = some true)))))))
theorem excD_of {K : PySem.W.Frag} {D : Addr} (h : excDB K D = true) : ExcD K D := by
  unfold excDB at h
  simp only [Bool.and_eq_true, decide_eq_true_eq] at h
  obtain ⟨h1, h2, h3, h4, h5, h6, h7, h8⟩ := h
  exact ⟨h1, h2, h3, h4, h5, h6, h7, h8⟩
/-- the classes that the law's helpers name, by their places -/
structure HowC where
  five : List Addr
  wrong : Addr
  two : List Addr
  all : List Addr
/-- C is the i-th class under Wrong, one without a field at -/
def plainB (K : PySem.W.Frag) (hc : HowC) (C : Addr) (i : Nat) : Bool := excDB K C && (decide (PySem.W.exmAny K (.ref C) (hc.five.map Value.ref) = some false) && (decide (PySem.W.exmAny K (.ref C) [.ref hc.wrong] = some true) &&
  (decide ((hc.all.map fun D => PySem.W.kitOne K (.ref C) (.ref D)) = (List.range hc.all.length).map fun j => some (decide (j = i))) && (decide (PySem.W.kitOne K (.ref C) (.type "ValueError") = some true) && decide (PySem.W.kitAny K (.ref C) (hc.two.map Value.ref) = some false)))))
structure Plain (K : PySem.W.Frag) (hc : HowC) (C : Addr) (i : Nat) : Prop where
  ec : ExcD K C
  e5 : PySem.W.exmAny K (.ref C) (hc.five.map Value.ref) = some false
  ew : PySem.W.exmAny K (.ref C) [.ref hc.wrong] = some true
  k : (hc.all.map fun D => PySem.W.kitOne K (.ref C) (.ref D)) = (List.range hc.all.length).map fun j => some (decide (j = i))
  kv : PySem.W.kitOne K (.ref C) (.type "ValueError") = some true
  k2 : PySem.W.kitAny K (.ref C) (hc.two.map Value.ref) = some false
theorem plain_of {K : PySem.W.Frag} {hc : HowC} {C : Addr} {i : Nat} (h : plainB K hc C i = true) : Plain K hc C i := by
  unfold plainB at h
  simp only [Bool.and_eq_true, decide_eq_true_eq] at h
  obtain ⟨h1, h2, h3, h4, h5, h6⟩ := h
  exact ⟨excD_of h1, h2, h3, h4, h5, h6⟩
theorem Plain.at {K : PySem.W.Frag} {hc : HowC} {C : Addr} {i j : Nat} {D : Addr} (h : Plain K hc C i) (hj : hc.all[j]? = some D) : PySem.W.kitOne K (.ref C) (.ref D) = some (decide (j = i)) := by
  have e := congrArg (fun l => l[j]?) h.k
  have hl : j < hc.all.length := (List.getElem?_eq_some_iff.mp hj).1
  simp only [List.getElem?_map, hj, List.getElem?_range hl, Option.map_some] at e
  exact Option.some.inj e
theorem DictOk.ex {d : Option Addr} {H H' : Hp} (h : DictOk d H) (e : Ex H H') : DictOk d H' := fun dd hd => by
  obtain ⟨fs, hf⟩ := h dd hd
  exact ⟨fs, e _ _ hf⟩
def kindNames : List Str := ["code", "deed", "entries", "lengths", "name", "number", "pages", "queries", "query", "text of query", "row", "shelf", "size", "text", "word", "taken"]
def hot16 (i : Nat) : List Bool := [decide (0 = i), decide (1 = i), decide (2 = i), decide (3 = i)] ++ [decide (4 = i), decide (5 = i), decide (6 = i), decide (7 = i)] ++ [decide (8 = i), decide (9 = i), decide (10 = i), decide (11 = i)] ++ [decide (12 = i), decide (13 = i), decide (14 = i), decide (15 = i)]
theorem hot16_count : ∀ i, i < 16 → (hot16 i).count true = 1 := by decide
theorem hot16_at : ∀ i, i < 16 → (hot16 i)[i]? = some true := by decide
theorem hot16_ahead : ∀ i, i < 16 → ∀ m, m < i → (hot16 i)[m]? = some false := by decide
end My
/-! enumerate over a tuple -/
namespace EnT
open PySem PySem.Spec PyProof.Rows L2
open AutoSeq1 (wpAny_loadPart')
abbrev tIt (t : Addr) : Obj := { cls := .type "tuple_iterator", data := .fields #[.ref t, .int 0 0] }
abbrev eIt (it : Addr) : Obj := { cls := .type "enumerate", data := .fields #[.none, .bool false, .ref it, rawInt 0, .none, .none] }
set_option maxHeartbeats 2000000 in
theorem newT (t : Addr) (items : Array Value) (n : Nat) (dct : Option Addr) (sl : Array (Option Value)) :
    Meets (Builtin.«enumerate.__new__» ⟨[.type "enumerate", .ref t], []⟩) (fun _ R s => s.heap.get? t = some { cls := .type "tuple", dict := dct, data := .seq items n, slots := sl } ∧ R (.ok (.ret (.ref (s.heap.push (tIt t)).objs.size))) { s with heap := (s.heap.push (tIt t)).push (eIt s.heap.objs.size) }) :=
  .of_wp fun prog w A R s z => by
    obtain ⟨hp, g, d, tk, os⟩ := s
    obtain ⟨ht, z⟩ := z
    have hS := sub_enumerate
    have hT : Heap.IsTuple (Shared.heap ⟨hp, g, d, tk, os⟩) t items := ⟨_, ht, rfl, n, rfl⟩
    wp_walk using wpAny_loadPart' ht
    refine wpAny_stack_any (fun _ => wpAny_pure ?_)
    split
    · rename_i cc _ _ _ _ _; cases (cc == Value.type "enumerate") <;> (wp_walk using wpAny_loadPart' ht, wpAny_pyIter_tuple hT; exact ⟨_, rfl, z⟩)
    · wp_walk using wpAny_loadPart' ht, wpAny_pyIter_tuple hT; exact ⟨_, rfl, z⟩
theorem callT {prog : Program} {w : World} {A : Around} {E : Value → Shared → Prop} {s : Shared} {t : Addr} {items : Array Value} {Q : Value → Shared → Prop} (hT : s.heap.IsTuple t items)
    (k : ∀ h', IsEnum h' (s.heap.objs.size + 1) s.heap.objs.size 0 .none → h'.IsTupleIter s.heap.objs.size t 0 → h'.objs.size = s.heap.objs.size + 2 → (∀ b o, s.heap.get? b = some o → h'.get? b = some o) → Q (.ref (s.heap.objs.size + 1)) { s with heap := h' }) :
    wpAny (model prog w) A (call (.type "enumerate") [.ref t]) Q E s := by
  obtain ⟨⟨c, dct, dt, sl⟩, ht, c1, n, d1⟩ := hT
  simp only at c1 d1
  subst c1 d1
  refine callType_new F.called_enumerate (by decide) (F.typeCall_enumerate_1 _) (F.newCall_enumerate_1 _) (fun ob => F.args_object_init_2 ob _) F.entry_enumerate_new (newT t items n dct sl) ⟨ht, ?_⟩
  have z : (s.heap.push (tIt t)).objs.size = s.heap.objs.size + 1 := Heap.size_push ..
  show _ ∧ _
  rw [z]
  have e1 : IsEnum ((s.heap.push (tIt t)).push (eIt s.heap.objs.size)) (s.heap.objs.size + 1) s.heap.objs.size 0 .none := by
    have e0 := Heap.get?_push_size (s.heap.push (tIt t)) (o := eIt s.heap.objs.size) rfl
    rw [z] at e0
    exact e0
  exact ⟨⟨_, e1, rfl⟩, k _ e1 ⟨_, Heap.get?_push_of_some _ (Heap.get?_push_size _ rfl), rfl, rfl⟩ (by rw [Heap.size_push, z]) (fun b o x => Heap.get?_push_of_some _ (Heap.get?_push_of_some _ x))⟩
/-- the tuple at a, each item in a new pair -/
def IteT (K : PySem.W.Frag) (a : Addr) : It :=
  ⟨fun i H => ∃ (xs : List V) (x : V), SqT K H a xs ∧ xs[i]? = some x, fun i H v H' => ∃ T x, v = .ref T ∧ H T = none ∧ H' = upd H T (.tup [.int (i : Nat), x]) ∧ ∀ xs, SqT K H a xs → xs[i]? = some x, fun i H => ∃ xs : List V, SqT K H a xs ∧ xs.length ≤ i ∧ i ≤ xs.length⟩
set_option maxHeartbeats 2000000 in
theorem turnT {P : Program} {w : World} {K : PySem.W.Frag} {elts : List Expr} {kk : Nat} {tpos : Pos} (a e it : Addr) (na : a ≠ it) (nea : e ≠ a) :
    Turn P w K (.Tuple elts kk tpos) (IteT K a) [e, it] e (fun i h => (∃ old, IsEnum h e it ((i : Nat) : Int) old) ∧ h.IsTupleIter it a i ∧ e ≠ it) where
  mem := by simp
  obj := fun i h st b hb => by
    obtain ⟨⟨old, he⟩, ⟨o, ho, hc, hd⟩, _⟩ := st
    have z : b = e ∨ b = it := by simpa using hb
    rcases z with rfl | rfl
    · exact ⟨_, he, fun v q => nomatch q⟩
    · exact ⟨o, ho, fun v q => by rw [hd] at q; cases q⟩
  keep := fun i h h' st k => by
    obtain ⟨⟨old, he⟩, hi, ne⟩ := st
    exact ⟨⟨old, k e (by simp) _ he⟩, hi.at (fun o q => k it (by simp) o q), ne⟩
  item := by
    intro X hP hw hK hc i pins s σ H E I hf st hg
    subst hP; subst hw; subst hK
    obtain ⟨⟨old, he⟩, hit, hne⟩ := st
    obtain ⟨xs, x, hq, hx⟩ := hg
    obtain ⟨its, rv, pt, hz⟩ := I.tuple hq
    obtain ⟨u, hu, ru⟩ := rv.get hx
    have l1 : e < s.heap.objs.size := Heap.lt_size he
    have l2 : it < s.heap.objs.size := by obtain ⟨_, q, _⟩ := hit; exact Heap.lt_size q
    have il : i < its.toArray.size := by rw [List.size_toArray]; exact (List.getElem?_eq_some_iff.mp hu).1
    refine wpAny_pyNext_enum_itemD (Draws.tuple (A := X.A.in1) (prog := X.prog) (w := X.w) (show X.A.in1.handled = none from I.ok.hd hc) it a na its.toArray) he ⟨hit, pt⟩ il hne (by simp [hne, nea]) fun v h' tk hv ho hst hT hsz hk => ?_
    have ev : v = u := by
      have : its[i]? = some v := by simpa using hv
      rw [hu] at this
      exact (Option.some.inj this).symm
    subst ev
    refine ⟨_, rfl, wpAny_letOwnedTupleGo_enum (s := { s with heap := h', toks := tk + 1 }) ho fun h2 he2 sb => ?_⟩
    have hT2 : h2.get? s.heap.objs.size = some { cls := .type "tuple", data := .seq #[.int i tk, v] } := (sb.2 _ (Nat.ne_of_gt l1)).trans hT
    have nw : ObjOk X.prog X.w (upd H s.heap.objs.size (.tup [.int (i : Nat), x])) h2 s.heap.objs.size (.tup [.int (i : Nat), x]) := ⟨by show 2 ≤ sizeLine; decide, [.int i tk, v], .cons ⟨_, rfl⟩ (.cons ru .nil), ⟨_, hT2, rfl, _, rfl⟩⟩
    have I1 : Inv X pins σ (upd H s.heap.objs.size (.tup [.int (i : Nat), x])) { s with heap := h2, toks := tk + 1 } := I.turnedNew (ch := [e, it]) (fun b ob hb q => (sb.2 b (fun z => hb (by simp [z]))).trans (hk b ob (fun z => hb (by simp [z])) (fun z => hb (by simp [z])) q)) hf (Nat.le_refl _) nw
    refine ⟨.ref s.heap.objs.size, _, I1, rfl, ⟨_, x, rfl, I.hok.fresh (Nat.le_refl _), rfl, fun ys hy => by rw [I.tuple_inj hy hq]; exact hx⟩, ⟨⟨v, ?_⟩, hst.1.at (fun o q => (sb.2 it (Ne.symm hne)).trans q), hne⟩, fun b hb => ?_⟩
    · rw [show ((i + 1 : Nat) : Int) = (i : Int) + 1 by omega]; exact he2
    · have z : b = e ∨ b = it := by simpa using hb
      have lb : b < s.heap.objs.size := by rcases z with rfl | rfl <;> assumption
      rw [upd_ne (Nat.ne_of_lt lb)]; exact (hf b hb).1
  done := by
    intro X hP hw hK hc i pins s σ H E I hf st hg
    subst hP; subst hw; subst hK
    obtain ⟨⟨old, he⟩, hit, hne⟩ := st
    obtain ⟨xs, hq, h1, h2⟩ := hg
    obtain ⟨its, rv, pt, hz⟩ := I.tuple hq
    obtain ⟨f0, f1, f2, f3, f4, f5⟩ := hf it (by simp)
    have hl := rv.length
    have ei : i = its.toArray.size := by rw [List.size_toArray]; omega
    subst ei
    exact wpAny_pyNext_enum_endD (Draws.tuple (A := X.A.in1) (prog := X.prog) (w := X.w) (show X.A.in1.handled = none from I.ok.hd hc) it a na its.toArray) he ⟨hit, pt⟩ fun h' eb => ⟨rfl, I.turned (t' := s.toks) (fun b o hb q => eb b o hb q) f0 f1 f3 f4 f5⟩
  self := fun A i s Q E st h => wpAny_pyIter_enum st.1.choose_spec h
def iEnumT (K : PySem.W.Frag) (ta : TA) : TI := fun σ H R => ta σ H fun vs H1 => ∃ a xs, vs = [.ref a] ∧ SqT K H1 a xs ∧ R (IteT K a) H1
set_option maxHeartbeats 2000000 in
theorem pi_enumT {X : Cx} {K : PySem.W.Frag} {e : Expr} {ta : TA} {p pos tpos : Pos} {elts : List Expr} {kk : Nat} (hX : X.K = K) (hg : Gl X "enumerate") (hm : X.mg "enumerate" = none) (ha : PA X [e] ta) (hs : starEach [e] X.env = [(false, eval e X.env)] := by rfl) :
    PI X (.Tuple elts kk tpos) (.Call (.Name "enumerate" p) [e] [] pos) (iEnumT K ta) := by
  subst hX
  refine ⟨fun pins s σ H R I h => Call_ (ld_blt I hg hm boot_enumerate (PyProof.Rows.callWith_type1 (thn (ha.run pos pins s σ H _ I h) fun us s1 ⟨vs, H1, I1, r1, q1⟩ => ?_) hs rfl))⟩
  obtain ⟨a, xs, ex, hq, q⟩ := q1
  subst ex
  cases r1 with
  | cons r rr =>
    cases rr
    cases r
    obtain ⟨its, rv, pt, hz⟩ := I1.tuple hq
    have la : a < s1.heap.objs.size := by obtain ⟨o, ho, _⟩ := pt; exact Heap.lt_size ho
    refine callT pt fun h' he hit hsz hk => wpAny_pyIter_enum he ?_
    have I2 : Inv X pins σ H1 { s1 with heap := h' } := I1.kept (t' := s1.toks) hk
    refine ⟨s1.heap.objs.size + 1, [s1.heap.objs.size + 1, s1.heap.objs.size], _, _, H1, rfl, I2, turnT a (s1.heap.objs.size + 1) s1.heap.objs.size (Nat.ne_of_lt la) (Nat.ne_of_gt (Nat.lt_succ_of_lt la)), ⟨⟨.none, he⟩, hit, Nat.succ_ne_self _⟩, fun b hb => ?_, q⟩
    have z : b = s1.heap.objs.size + 1 ∨ b = s1.heap.objs.size := by simpa using hb
    have lb : s1.heap.objs.size ≤ b := by
      rcases z with z | z
      · rw [z]; exact Nat.le_succ _
      · rw [z]; exact Nat.le_refl _
    exact I1.fpOk lb (I1.hok.fresh lb)
theorem walkT {K : PySem.W.Frag} {a : Addr} {xs : List V} : Walk (IteT K a) xs.length (fun H => SqT K H a xs) (YPair (fun i => some (.int (i : Nat))) (fun i => xs[i]?)) := by
  refine ⟨fun i _ hi q => ⟨xs, xs[i], q, by simp [hi]⟩, fun _ q => ⟨xs, q, Nat.le_refl _, Nat.le_refl _⟩, fun i H v H' _ q y => ?_⟩
  obtain ⟨T, x, h1, h2, h3, h4⟩ := y
  exact ⟨T, .int (i : Nat), x, h1, h2, h3, rfl, h4 xs q⟩
end EnT
/-! ==, !=, len, str, repr of an instance of the program's own class, by its own def -/
namespace Own
open PySem PySem.Spec PyProof.Rows L2
section
variable {X : Cx} {K : PySem.W.Frag} {pins : List (Addr × Obj)} {s : Shared} {σ : L2.St} {H : Hp} {CX : CXT} {C f : Addr} {fd : FuncData} {ps : List Str} {sp : Sp} {E : XK} {n : Nat}
/-- the def at f is run on us, somewhere below the running body -/
theorem run_own {A : Around} {vs : List V} {us : List Value} {Q : VK} (F : FnOk X.prog X.w X.K X.mg X.base CX n f fd ps sp) (hb : Binds X.K fd ps []) (hx : Passes CX X E) (sb : Sub X n A) (I : Inv X pins σ H s) (r : Vals vs us) (h : sp vs H Q E) :
    wpAny (model X.prog X.w) A (call (.ref f) us) (EP X pins σ Q) X.xe s := by
  have e0 : Env0 X.prog X.w X.K X.mg X.base A X.stack s H := by
    have e := I.env0
    exact ⟨by rw [sb.fr]; exact e.frames, e.mod, e.bs, e.bsz, e.funs, e.frf, e.hok, e.bare⟩
  have hl := F.len _ _ _ _ h
  have hl2 := r.length
  refine wpAny_call (codeAny_mono (F.run A X.stack s H ⟨us, []⟩ us vs _ E sb.room e0 (by
    have z := hb s us I.kIn (by simp; omega)
    simpa using z) r h) fun q s' hq => ?_)
  cases q with
  | error e => exact hx pins σ H s e s' I hq
  | ok fl =>
    cases fl with
    | ret w => exact I.after hq
    | next => exact False.elim hq
    | brk => exact False.elim hq
    | cont => exact False.elim hq
/-- len(o) -/
def rLenO (C : Addr) (sp : Sp) (E : XK) : List V → Hp → VK → Prop := fun xs H Q => ∃ a dx fs, xs = [.ref a] ∧ H a = some (.ins C dx fs) ∧ sp [.ref a] H (fun v H' => ∃ i : Int, v = .int i ∧ (0 ≤ i ∧ i < 2 ^ 63) ∧ Q (.int i) H') E
theorem cr_lenO (F : FnOk X.prog X.w X.K X.mg X.base CX n f fd ps sp) (m : Meth X.K C "__len__" f) (hb : Binds X.K fd ps []) (hx : Passes CX X E) (hr : Room (n + 1) X.A) : CallR X (.builtin "len") (rLenO C sp E) := by
  intro pins s σ H xs us Q I r h
  obtain ⟨a, dx, fs, rfl, ha, h⟩ := h
  cases r with
  | cons r1 rr =>
    cases rr
    cases r1
    obtain ⟨mA, J, _⟩ := ins_get I.hok ha
    obtain ⟨od, J, _⟩ := J.look
    obtain ⟨mm, hF⟩ := I.fr
    refine PySem.W.len_K hF I.ok.mod.kin J m.at_ m.fn (wpAny_mono (run_own F hb hx ⟨hr.in1, rfl⟩ I (vs := [.ref a]) (.cons rfl .nil) h) (fun v s' q => ?_) fun _ _ z => z)
    obtain ⟨z, H', I', rz, i, rfl, hi, q⟩ := q
    obtain ⟨t, rfl⟩ := rz
    exact ⟨hi, .int i, H', I'.tok _, ⟨_, rfl⟩, q⟩
/-- repr(o), str(o) -/
def rStrO (C : Addr) (sp : Sp) (E : XK) : List V → Hp → VK → Prop := fun xs H Q => ∃ a dx fs, xs = [.ref a] ∧ H a = some (.ins C dx fs) ∧ sp [.ref a] H (fun v H' => ∃ z : Str, v = .str z ∧ Q (.str z) H') E
theorem cr_reprO (F : FnOk X.prog X.w X.K X.mg X.base CX n f fd ps sp) (m : Meth X.K C "__repr__" f) (hb : Binds X.K fd ps []) (hx : Passes CX X E) (hr : Room (n + 1) X.A) : CallR X (.builtin "repr") (rStrO C sp E) := by
  intro pins s σ H xs us Q I r h
  obtain ⟨a, dx, fs, rfl, ha, h⟩ := h
  cases r with
  | cons r1 rr =>
    cases rr
    cases r1
    obtain ⟨mA, J, _⟩ := ins_get I.hok ha
    obtain ⟨od, J, _⟩ := J.look
    obtain ⟨mm, hF⟩ := I.fr
    refine PySem.W.repr_K hr.in1.units0 hF I.ok.mod.kin J m.at_ m.fn (wpAny_mono (run_own F hb hx ⟨hr.in1, rfl⟩ I (vs := [.ref a]) (.cons rfl .nil) h) (fun v s' q => ?_) fun _ _ z => z)
    obtain ⟨z, H', I', rz, y, rfl, q⟩ := q
    obtain ⟨t, rfl⟩ := rz
    exact ⟨.str y, H', I', ⟨_, rfl⟩, q⟩
theorem cr_strO (F : FnOk X.prog X.w X.K X.mg X.base CX n f fd ps sp) (m : Meth X.K C "__str__" f) (hb : Binds X.K fd ps []) (hx : Passes CX X E) (hr : Room (n + 2) X.A) : CallR X (.type "str") (rStrO C sp E) := by
  intro pins s σ H xs us Q I r h
  obtain ⟨a, dx, fs, rfl, ha, h⟩ := h
  cases r with
  | cons r1 rr =>
    cases rr
    cases r1
    obtain ⟨mA, J, _⟩ := ins_get I.hok ha
    obtain ⟨od, J, _⟩ := J.look
    refine PySem.W.kso_call hr.in1.in1.units0 I.kIn J m.at_ m.fn (wpAny_mono (run_own F hb hx ⟨hr.in1.in1, rfl⟩ I (vs := [.ref a]) (.cons rfl .nil) h) (fun v s' q => ?_) fun _ _ z => z)
    obtain ⟨z, H', I', rz, y, rfl, q⟩ := q
    obtain ⟨t, rfl⟩ := rz
    exact ⟨.str y, H', I', ⟨_, rfl⟩, q⟩
/-- x == y by x's own def: y is an instance of the same class, or of a type that doesn't go first -/
def OthK (K : PySem.W.Frag) (C : Addr) (H : Hp) (y : V) : Prop := (∃ b dy gs, y = .ref b ∧ H b = some (.ins C dy gs)) ∨ ∃ T, TyX K H y (.type T) ∧ PySem.W.notFirst K C (.type T) = true
def rEqO (K : PySem.W.Frag) (C : Addr) (sp : Sp) (E : XK) : R2 := fun x y H Q => ∃ a dx fs, x = .ref a ∧ H a = some (.ins C dx fs) ∧ OthK K C H y ∧ sp [x, y] H (fun v H' => ∃ b : Bool, v = .bl b ∧ Q (.bl b) H') E
theorem oth_looks {y : V} {u : Value} (I : Inv X pins σ H s) (ry : RelV y u) (h : OthK X.K C H y) : ∃ tb, PySem.W.Looks (model X.prog X.w) s.heap (typeOf u) tb ∧ PySem.W.notFirst X.K C tb = true := by
  rcases h with ⟨b, dy, gs, rfl, hb⟩ | ⟨T, ty, nf⟩
  · cases ry
    obtain ⟨mB, J, _⟩ := ins_get I.hok hb
    obtain ⟨od, J, _⟩ := J.look
    exact ⟨_, J.type, by simp [PySem.W.notFirst]⟩
  · obtain ⟨P, Z, p, _⟩ := kit_of I ry ty
    exact ⟨_, Z.ty _ _ I.kIn p, nf⟩
theorem op_eqO (F : FnOk X.prog X.w X.K X.mg X.base CX n f fd ps sp) (m : Meth X.K C "__eq__" f) (hb : Binds X.K fd ps []) (hx : Passes CX X E) (hr : Room n X.A) (hK : X.K = K) : OpR X (compareOp .Eq) (rEqO K C sp E) := by
  subst hK
  intro pins s σ H x y v u Q I rx ry h
  obtain ⟨a, dx, fs, rfl, ha, ho, h⟩ := h
  cases rx
  obtain ⟨mA, J, _⟩ := ins_get I.hok ha
  obtain ⟨od, J, _⟩ := J.look
  obtain ⟨mm, hF⟩ := I.fr
  obtain ⟨tb, ht, hn⟩ := oth_looks I ry ho
  show wpAny (model X.prog X.w) X.A (richCompare .Eq (.ref a) u) (EP X pins σ Q) X.xe s
  refine PySem.W.cmp_K (op := .Eq) hr.units0 hF I.ok.mod.kin J ht hn m.at_ m.fn (wpAny_mono (run_own F hb hx ⟨hr, rfl⟩ I (vs := [.ref a, y]) (.cons rfl (.cons ry .nil)) h) (fun v s' q => ?_) fun _ _ z => z)
  obtain ⟨z, H', I', rz, b, rfl, q⟩ := q
  cases rz
  exact ⟨.bl b, H', I', rfl, q⟩
section
variable {M : Model} {prog : Program} {w : World} {A : Around} {E : Value → Shared → Prop} {s : Shared} {x : Addr} {ox : Obj} {od : Option Obj}
theorem ifBound_ne {args : List Value} {Q : Option Value → Shared → Prop} (Z : K.In s.heap) (I : PySem.W.InstAt s.heap x ox C od) (hs : PySem.W.findIn K (.ref C) "__ne__" = some (some (.builtin "object.__ne__")))
    (h : wpAny M A (call (.builtin "object.__ne__") (.ref x :: args)) (fun v => Q (some v)) E s) : wpAny M A (callSpecialIfBound? (.ref x) "__ne__" args) Q E s := by
  have fin : wpAny M A (call (.builtin "object.__ne__") ([.ref x] ++ args) >>= fun v => pure (some v)) Q E s := wpAny_bind (wpAny_mono h (fun v s' z => wpAny_pure z) fun _ _ z => z)
  simp only [callSpecialIfBound?, bindSpecialIfBound?]
  refine wpAny_holding (wpAny_bind (wpAny_bind (wpAny_bind (I.type.here ((PySem.W.looks_findIn Z hs).here (wpAny_bind (wpAny_askSetting (wpAny_ite ?_))))))))
  split
  · exact wpAny_bind (wpAny_of_eq (F.cmp_object.ne.bind _) (wpAny_pure fin))
  · exact wpAny_tryCatch (wpAny_bind (wpAny_of_eq (F.cmp_object.ne.bind _) (wpAny_pure fin)))
theorem call_ne {u : Value} {f : Addr} {Q : Value → Shared → Prop} (hu : A.in1.units < cLine) (Z : K.In s.heap) (I : PySem.W.InstAt s.heap x ox C od) (hm : PySem.W.mroIn K C (.type "object") = some true) (hs : PySem.W.findIn K (.ref C) "__eq__" = some (some (.ref f))) (hf : PySem.W.isFn K (.ref f) = true)
    (h : wpAny (model prog w) A.in1 (call (.ref f) [.ref x, u]) (fun v s' => ∃ b, v = .bool b ∧ Q (.bool (!b)) s') E s) : wpAny (model prog w) A (call (.builtin "object.__ne__") [.ref x, u]) Q E s := by
  refine wpAny_call (codeAny_call_builtin F.cmp_object.ne.plain F.cmpEntry_ne (PySem.W.check_slot F.cmpKind_ne F.cmpSplit_ne (I.type.andThen (PySem.W.looks_mroIn Z hm)) (F.cmpArgs_ne _ _) ?_))
  unfold Builtin.«object.__ne__»
  refine wpAny_bind (m := slotArgs "__ne__" 1 _) (wpAny_pure ?_)
  refine wpAny_bind (wpAny_cRoomFor hu ?_)
  refine wpAny_bind (m := callSpecialIfBound? (.ref x) (Str.ofString "__eq__") _) (PySem.W.ifBound_K Z I hs hf (wpAny_mono h (fun v s' z => ?_) fun _ _ z => z))
  obtain ⟨b, rfl, q⟩ := z
  exact wpAny_bind (wpAny_truthy_bool (wpAny_pure q))
end
/-- x != y by x's own == -/
def rNeO (K : PySem.W.Frag) (C : Addr) (sp : Sp) (E : XK) : R2 := fun x y H Q => ∃ a dx fs, x = .ref a ∧ H a = some (.ins C dx fs) ∧ OthK K C H y ∧ sp [x, y] H (fun v H' => ∃ b : Bool, v = .bl b ∧ Q (.bl (!b)) H') E
theorem op_neO (F : FnOk X.prog X.w X.K X.mg X.base CX n f fd ps sp) (m : Meth X.K C "__eq__" f) (hb : Binds X.K fd ps []) (hx : Passes CX X E) (hr : Room (n + 1) X.A) (hne : PySem.W.findIn X.K (.ref C) "__ne__" = some (some (.builtin "object.__ne__"))) (hm : PySem.W.mroIn X.K C (.type "object") = some true) (hK : X.K = K) : OpR X (compareOp .NotEq) (rNeO K C sp E) := by
  subst hK
  intro pins s σ H x y v u Q I rx ry h
  obtain ⟨a, dx, fs, rfl, ha, ho, h⟩ := h
  cases rx
  obtain ⟨mA, J, _⟩ := ins_get I.hok ha
  obtain ⟨od, J, _⟩ := J.look
  obtain ⟨tb, ht, hn⟩ := oth_looks I ry ho
  have one : wpAny (model X.prog X.w) X.A (tryCompare (.ref a) "__ne__" u) (fun r s' => ∃ v, r = some v ∧ EP X pins σ Q v s') X.xe s := by
    unfold tryCompare
    refine wpAny_bind (ifBound_ne I.kIn J hne (call_ne hr.in1.units0 I.kIn J hm m.at_ m.fn (wpAny_mono (run_own F hb hx ⟨hr.in1, rfl⟩ I (vs := [.ref a, y]) (.cons rfl (.cons ry .nil)) h) (fun v s' q => ?_) fun _ _ z => z)))
    obtain ⟨z, H', I', rz, b, rfl, q⟩ := q
    cases rz
    exact ⟨b, rfl, wpAny_pure ⟨_, rfl, .bl (!b), H', I', rfl, q⟩⟩
  show wpAny (model X.prog X.w) X.A (richCompare .NotEq (.ref a) u) (EP X pins σ Q) X.xe s
  unfold richCompare
  simp only [oneThing_ref]
  refine wpAny_holding (wpAny_bind (wpAny_cRoomFor hr.units0 (wpAny_bind (J.type.here (wpAny_bind (ht.here ?_))))))
  split
  · rename_i q
    have e : PySem.W.subIn X.K tb (.ref C) = some false := by
      rcases Bool.or_eq_true_iff.mp hn with e | e
      · rw [beq_iff_eq.mp e] at q; simp at q
      · exact beq_iff_eq.mp e
    refine wpAny_bind ((PySem.W.looks_subIn I.kIn e).here ?_)
    simp only [Bool.false_eq_true, if_false]
    refine wpAny_bind (wpAny_mono one (fun r s' z => ?_) fun _ _ e => e)
    obtain ⟨v, rfl, hq⟩ := z
    exact wpAny_pure hq
  · refine wpAny_bind (wpAny_pure ?_)
    simp only [Bool.false_eq_true, if_false]
    refine wpAny_bind (wpAny_mono one (fun r s' z => ?_) fun _ _ e => e)
    obtain ⟨v, rfl, hq⟩ := z
    exact wpAny_pure hq
/-- a built-in type doesn't go first -/
theorem nf {T : String} {ts : List Value} (e : fastBuiltinMro T = some ts) (h : ts.all (fun t => match t with | .type _ => true | _ => false) = true) : PySem.W.notFirst K C (.type T) = true := by
  have z : PySem.W.subIn K (.type T) (.ref C) = some false := by
    show (fastBuiltinMro T).map (·.contains (.ref C)) = some false
    rw [e]
    refine congrArg some (Bool.eq_false_iff.mpr fun q => ?_)
    have := List.all_eq_true.mp h _ (List.contains_iff_mem.mp q)
    exact absurd this (by simp)
  unfold PySem.W.notFirst
  rw [z]
  simp
end
end Own
/-! ### defs that are run where no repr is under way: what Around.guards tells -/
namespace Gd
open PySem PySem.Spec PyProof.Rows L2
/-- as FnOk, told of surroundings without a repr under way -/
structure FnG (P : Program) (w : World) (K : PySem.W.Frag) (mg : Str → Option Value) (base : Heap) (CX : CXT) (k : Nat) (f : Addr) (fd : FuncData) (ps : List Str) (sp : Sp) : Prop where
  lenG : ∀ vs H Q E, sp vs H Q E → vs.length = ps.length
  runG : ∀ (A : Around) (outer : List Env) (s : Shared) (H : Hp) (args : Args) (us : List Value) (vs : List V) (Q : VK) (E : XK), A.guards = some [] → Room k A → Env0 P w K mg base A outer s H → BindsTo s fd args (ps.zip us) → Vals vs us → sp vs H Q E → codeAny (model P w) A (.call (.ref f) args) (CR CX outer P w H s Q E) s
section
variable {P : Program} {w : World} {K : PySem.W.Frag} {mg : Str → Option Value} {base : Heap} {CX : CXT} {j k : Nat} {f : Addr} {fd : FuncData} {ps : List Str} {sp sp' : Sp}
theorem FnG.mono (F : FnG P w K mg base CX j f fd ps sp) (h : j ≤ k) : FnG P w K mg base CX k f fd ps sp := ⟨F.lenG, fun A o s H args us vs Q E g r => F.runG A o s H args us vs Q E g (r.mono h)⟩
theorem FnG.of (F : FnOk P w K mg base CX k f fd ps sp) : FnG P w K mg base CX k f fd ps sp := ⟨F.len, fun A o s H args us vs Q E _ => F.run A o s H args us vs Q E⟩
theorem FnG.imp (F : FnG P w K mg base CX k f fd ps sp) (h : ∀ vs H Q E, sp' vs H Q E → sp vs H Q E) : FnG P w K mg base CX k f fd ps sp' :=
  ⟨fun vs H Q E q => F.lenG vs H Q E (h _ _ _ _ q), fun A o s H args us vs Q E g r e b v hs => F.runG A o s H args us vs Q E g r e b v (h _ _ _ _ hs)⟩
end
/-- a def from what is shown of its body where no repr is under way -/
theorem coreG {CX : CXT} {P : Program} {w : World} {K : PySem.W.Frag} {mg : Str → Option Value} {base : Heap} {x qual : Str} {st : Stmt} {f : Addr} {kV doc pm cdv ct oc : Value} {an od : Option Addr} {osl : Array (Option Value)} {N ps : List Str} {k : Nat} {sp : Sp}
    (lk : K.lookup f = some ⟨oc, od, .func (PySem.W.fnOf x qual (defArgs st) (defBody st) (defScope st) .none kV doc pm an cdv ct), osl⟩) (hcd : PySem.W.codeIn K cdv qual = true) (S : FnScope N ps (defScope st)) (ln : ∀ vs H Q E, sp vs H Q E → vs.length = ps.length)
    (body : ∀ (A : Around) (outer : List Env) (s : Shared) (H : Hp) (vs : List V) (Q : VK) (E : XK), (A.deeper (envOfC qual (defScope st) s.heap.objs.size f cdv)).guards = some [] → Room k (A.deeper (envOfC qual (defScope st) s.heap.objs.size f cdv)) → sp vs H Q E →
      ∃ t, PSs (cxOf CX P w K mg base N qual (defScope st) f cdv A outer s H E) (defBody st) t ∧ t { nx := fun _ H' => Q .non H', rt := Q } (start N vs) H) : FnG P w K mg base CX (k + 1) f (PySem.W.fnOf x qual (defArgs st) (defBody st) (defScope st) .none kV doc pm an cdv ct) ps sp := by
  refine ⟨ln, fun A outer s H args us vs Q E g room e0 bnd val hs => ?_⟩
  obtain ⟨t, PT, ht⟩ := body A outer s H vs Q E g (room.deeper _) hs
  refine Att.call_fn (e0.mod.kin.keeps fun b o q => (e0.bs b o q).1) (e0.mod.nolimit.keeps fun b o q => (e0.bs b o q).1) lk hcd room.depth bnd ?_ (fun s1 ic => ?_) S.co S.gen S.kind
  · refine List.all_eq_true.mpr fun ⟨y, u⟩ hy => ?_
    rcases S.par y (List.of_mem_zip hy).1 with z | z <;> simp [z]
  · refine wpAny_mono (PT.run [] s1 (start N vs) H _ (inv_start (CX := CX) (E := E) S room.hd e0 (ln _ _ _ _ hs) val ic) ht) (fun fl s2 z => ?_) fun _ _ z => z
    match fl, z with
    | .ret u, ⟨v, _, H2, J, rel, q⟩ => exact ⟨v, H2, J.os, J.bare, J.base, J.hok, rel, q⟩
    | .next, ⟨_, H2, J, q⟩ => exact ⟨.non, H2, J.os, J.bare, J.base, J.hok, rfl, q⟩
    | .brk, ⟨_, _, _, q⟩ => exact q.elim
    | .cont, ⟨_, _, _, q⟩ => exact q.elim
/-- .. a def that may raise -/
theorem okGX {P : Program} {w : World} {K : PySem.W.Frag} {mg : Str → Option Value} {base : Heap} {x qual : Str} {st : Stmt} {f : Addr} {fd : FuncData} {N ps : List Str} {k : Nat} {sp : Sp} (F : Fun K x qual st f fd) (S : FnScope N ps (defScope st))
    (ln : ∀ vs H Q E, sp vs H Q E → vs.length = ps.length)
    (body : ∀ (cdv : Value) (A : Around) (outer : List Env) (s : Shared) (H : Hp) (vs : List V) (Q : VK) (E : XK), (A.deeper (envOfC qual (defScope st) s.heap.objs.size f cdv)).guards = some [] → Room k (A.deeper (envOfC qual (defScope st) s.heap.objs.size f cdv)) → sp vs H Q E →
      ∃ t, PSs (cxOf (L2.CX P w) P w K mg base N qual (defScope st) f cdv A outer s H E) (defBody st) t ∧ t { nx := fun _ H' => Q .non H', rt := Q } (start N vs) H) : FnG P w K mg base (L2.CX P w) (k + 1) f fd ps sp := by
  obtain ⟨oc, od, kV, doc, pm, an, cdv, ct, osl, rfl, lk, hcd⟩ := F.ex
  exact coreG lk hcd S ln (body cdv)
/-- .. one that doesn't -/
theorem okG {P : Program} {w : World} {K : PySem.W.Frag} {mg : Str → Option Value} {base : Heap} {x qual : Str} {st : Stmt} {f : Addr} {fd : FuncData} {N ps : List Str} {k : Nat} {sp : Sp} (F : Fun K x qual st f fd) (S : FnScope N ps (defScope st))
    (ln : ∀ vs H Q E, sp vs H Q E → vs.length = ps.length)
    (body : ∀ (cdv : Value) (A : Around) (outer : List Env) (s : Shared) (H : Hp) (vs : List V) (Q : VK) (E : XK), (A.deeper (envOfC qual (defScope st) s.heap.objs.size f cdv)).guards = some [] → Room k (A.deeper (envOfC qual (defScope st) s.heap.objs.size f cdv)) → sp vs H Q E →
      ∃ t, PSs (cxOf CX0 P w K mg base N qual (defScope st) f cdv A outer s H E).nox (defBody st) t ∧ t { nx := fun _ H' => Q .non H', rt := Q } (start N vs) H) : FnG P w K mg base CX0 (k + 1) f fd ps sp := by
  obtain ⟨oc, od, kV, doc, pm, an, cdv, ct, osl, rfl, lk, hcd⟩ := F.ex
  refine coreG lk hcd S ln fun A outer s H vs Q E g room hs => ?_
  obtain ⟨t, PT, ht⟩ := body cdv A outer s H vs Q E g room hs
  exact ⟨t, PT.nox, ht⟩
section
variable {X : Cx} {CX : CXT} {k : Nat} {f C : Addr} {fd : FuncData} {ps : List Str} {sp : Sp} {dvs : List V} {ds : List Value} {E : XK} {x m : Str} {p pos apos : Pos} {e o : Expr} {es : List Expr} {ta : TE} {t : TA}
/-- such a def is called -/
theorem fnG_runs {pins : List (Addr × Obj)} {σ : L2.St} {H : Hp} {s : Shared} {Q : VK} {us : List Value} {vs : List V} (F : FnG X.prog X.w X.K X.mg X.base CX k f fd ps sp) (g : X.A.guards = some []) (room : Room k X.A) (bnd : Binds X.K fd ps ds) (hd : Vals dvs ds)
    (px : Passes CX X E) (I : Inv X pins σ H s) (val : Vals vs us) (h : sp (vs ++ dvs) H Q E) : wpAny (model X.prog X.w) X.A (call (.ref f) us) (EP X pins σ Q) X.xe s := by
  have both := val.append hd
  refine wpAny_call (codeAny_mono (F.runG X.A X.stack s H ⟨us, []⟩ (us ++ ds) (vs ++ dvs) Q E g room I.env0 (bnd s us I.kIn (by rw [← both.length]; exact F.lenG _ _ _ _ h)) both h) fun r s2 z => ?_)
  match r, z with
  | .error e, z => exact px pins σ H s e s2 I z
  | .ok (.ret u), z => exact I.after z
  | .ok .next, z => exact z.elim
  | .ok .brk, z => exact z.elim
  | .ok .cont, z => exact z.elim
theorem pe_callG (F : FnG X.prog X.w X.K X.mg X.base CX k f fd ps sp) (g : X.A.guards = some []) (room : Room k X.A) (hg : Gl X x) (hm : X.mg x = some (.ref f)) (hk : PySem.W.keepIn X.K (.ref f) = true) (bnd : Binds X.K fd ps ds) (hd : Vals dvs ds) (px : Passes CX X E) (pa : PA X (e :: es) t)
    (nd : (x == ("__debug__" : Str)) = false := by decide) (he : starEach (e :: es) X.env = (false, eval e X.env) :: starEach es X.env := by rfl) (hpl : (backTo pos (starEach es X.env)).any (·.1) = false := by rfl) :
    PE X (.Call (.Name x p) (e :: es) [] pos) (tCall sp dvs E t) := by
  constructor
  intro pins s σ H Q I h
  exact wpAny_Call_Name_kw (ld_glob I hg hm (PySem.W.callWith_K (h₀ := X.base) I.ok.mod.kin hk (thn (pa.run pos pins s σ H _ I h) fun us s1 ⟨vs, H1, I1, val, q⟩ => ⟨I1.kIn, fnG_runs F g room bnd hd px I1 val q⟩) he hpl) nd)
/-- repr(x) of data -/
def rRepr (K : PySem.W.Frag) : List V → Hp → VK → Prop := fun xs H Q => ∃ a d, xs = [.ref a] ∧ Dp K H (.ref a) d ∧ PyData.showable d = true ∧ PyData.hasDict d = false ∧ PyData.depth d ≤ 60 ∧ (PyData.shown d).length ≤ sizeLine ∧ Q (.str (PyData.shown d)) H
theorem cr_repr (g : X.A.guards = some []) (hu : X.A.units + 64 < cLine) : CallR X (.builtin "repr") (rRepr X.K) := by
  intro pins s σ H xs us Q I val h
  obtain ⟨a, d, rfl, hd, h1, h2, h3, h4, q⟩ := h
  obtain ⟨u, rfl, ru⟩ := vals1 val
  obtain rfl : u = Value.ref a := ru
  obtain ⟨as, rd⟩ := Dp.reads I d _ _ hd rfl
  exact repr_of_reads' rd h1 (fun z => by rw [h2] at z; cases z) g (by omega) (fun _ _ z => z) (fun h' v tk keep => ⟨.str _, H, I.kept keep, ⟨_, rfl⟩, q⟩) h4
theorem reprK {K : PySem.W.Frag} (h : X.K = K) (g : X.A.guards = some []) (hu : X.A.units + 64 < cLine) : CallR X (.builtin "repr") (rRepr K) := by subst h; exact cr_repr g hu
end
/-- the law's call, where the law's def is such a one -/
theorem law_callG {P : Program} {w : World} {K : PySem.W.Frag} {mg mb : Str → Option Value} {CX : CXT} {k : Nat} {fa a : Addr} {cs : List (Addr × Addr)} {fd : FuncData} {x : Str} {sp : Sp} {s1 : Shared} {vs : List Value} {ns : List Int}
    (KX : K.In s1.heap) (nsG : s1.heap.Ns mainGlobals mg) (nsB : s1.heap.Ns builtinsNs mb) (boot : ∀ x : Str, x ≠ "__name__" → mb x = bootBuiltins x) (nol : s1.heap.NoLimit) (gens : s1.gens = #[])
    (tab : ∀ p ∈ cs, s1.heap.get? p.2 = some { cls := .none, data := .fields #[] }) (tabK : ∀ p ∈ cs, K.lookup p.2 = none) (cd : ∀ p ∈ cs, PySem.W.CodeHd s1.heap p.1 p.2)
    (bmod : ∃ (bm : Addr) (ob : Obj), mg "__builtins__" = some (.ref bm) ∧ bm ≠ builtinsNs ∧ s1.heap.get? bm = some ob ∧ ob.cls = .type "module" ∧ ob.dict = some builtinsNs ∧ ob.data = .plain)
    (la : s1.heap.get? a = some { cls := .type "list", data := .seq vs.toArray }) (ia : IntsAre vs ns) (lz : ns.length ≤ sizeLine) (room : Room k callerA)
    (F : ∀ base : Heap, K.In base → base.Ns mainGlobals mg → (∀ p ∈ cs, LamX.TabB base mg p.1 p.2) → FnG P w K mg base CX k fa fd [x] sp) (bnd : ∀ (s : Shared) (u : Value), BindsTo s fd ⟨[u], []⟩ [(x, u)])
    (hs : ∀ H : Hp, (∀ p ∈ cs, H p.2 = some (.tbl #[])) → SqL K H a (ns.map V.int) → sp [.ref a] H (fun v _ => v = .bl true) fun _ _ _ => False) (noX : ∀ H e s', CX [] H s1 (fun _ _ _ => False) e s' → False) :
    codeAny (model P w) callerA (.call (.ref fa) ⟨[.ref a], []⟩) (fun r s' => r = .ok (.ret (.bool true)) ∧ OldK s1.heap s'.heap ∧ s'.os = s1.os ∧ AllBare s'.gens) s1 := by
  have rv := vals_ints ia
  have lenV := ia.length
  let T := cs.map (·.2)
  have inT : ∀ {b}, b ∈ T → ∃ p ∈ cs, p.2 = b := fun {b} hb => List.mem_map.mp hb
  have ofT : ∀ {b}, b ∈ T → s1.heap.get? b = some { cls := .none, data := .fields #[] } := fun {b} hb => by
    obtain ⟨p, hp, rfl⟩ := inT hb
    exact tab p hp
  have aT : ¬ a ∈ T := fun hb => by
    have z := la.symm.trans (ofT hb)
    cases z
  -- the script is tracked where it is none of the module's own objects
  let own : Prop := (K.lookup a).isNone = true
  let HA : Hp := fun b => if b = a ∧ own then some (.frz { cls := .type "list", data := .seq vs.toArray } (.lst (ns.map V.int))) else if b ∈ T then some (.tbl #[]) else none
  have haT : ∀ {b}, b ∈ T → HA b = some (.tbl #[]) := fun {b} hb => by
    have n : ¬ (b = a ∧ own) := fun z => aT (z.1 ▸ hb)
    exact (if_neg n).trans (if_pos hb)
  have haO : ∀ {b u}, HA b = some u → (b = a ∧ own ∧ u = .frz { cls := .type "list", data := .seq vs.toArray } (.lst (ns.map V.int))) ∨ (b ∈ T ∧ u = .tbl #[]) := fun {b u} z => by
    by_cases c : b = a ∧ own
    · exact .inl ⟨c.1, c.2, (Option.some.inj ((if_pos c).symm.trans z)).symm⟩
    · have z2 : (if b ∈ T then some (HO.tbl #[]) else none) = some u := (if_neg c).symm.trans z
      by_cases d : b ∈ T
      · exact .inr ⟨d, (Option.some.inj ((if_pos d).symm.trans z2)).symm⟩
      · exact absurd ((if_neg d).symm.trans z2) (by intro y; cases y)
  have hok : HOk P w HA s1.heap := fun b u z => by
    rcases haO z with ⟨rfl, _, rfl⟩ | ⟨hb, rfl⟩
    · exact ⟨la, by rw [List.length_map]; exact lz, vs, _, rv, la⟩
    · exact ofT hb
  have seqA : SqL K HA a (ns.map V.int) := by
    by_cases c : own
    · exact .inl (.inr ⟨_, if_pos ⟨rfl, c⟩⟩)
    · cases hk : K.lookup a with
      | none => exact absurd (show own by show (K.lookup a).isNone = true; rw [hk]; rfl) c
      | some o =>
        have z := la.symm.trans (KX a o hk)
        cases z
        exact .inr ⟨_, vs.toArray, _, hk, rfl, rfl, rfl, by rw [List.size_toArray, lenV]; exact lz, by simpa using rv⟩
  -- objects that are not tracked stand in the hidden heap
  have plain : ∀ {b : Addr} {o : Obj}, s1.heap.get? b = some o → (∀ vs n, o.data ≠ .seq vs n) → o.data ≠ .fields #[] → HA b = none := fun {b o} z n1 n2 => by
    cases q : HA b with
    | none => rfl
    | some u =>
      rcases haO q with ⟨rfl, _, _⟩ | ⟨hb, _⟩
      · cases la.symm.trans z
        exact absurd rfl (n1 _ _)
      · cases (ofT hb).symm.trans z
        exact absurd rfl n2
  have nsH : ∀ {b : Addr} {m : Str → Option Value}, s1.heap.Ns b m → (hidT s1.heap HA).Ns b m := fun {b m} ⟨o, es, ep, z, dt, r⟩ =>
    ⟨o, es, ep, hidT_get z (plain z (fun _ _ y => by rw [dt] at y; cases y) fun y => by rw [dt] at y; cases y), dt, r⟩
  have KH : K.In (hidT s1.heap HA) := fun b o z => hidT_get (KX b o z) (by
    cases q : HA b with
    | none => rfl
    | some u =>
      rcases haO q with ⟨rfl, c, _⟩ | ⟨hb, _⟩
      · have c : (K.lookup b).isNone = true := c
        rw [z] at c
        cases c
      · obtain ⟨p, hp, rfl⟩ := inT hb
        rw [tabK p hp] at z
        cases z)
  have md : Mod K mg (hidT s1.heap HA) := by
    obtain ⟨mc, n1, n2⟩ := nol
    exact ⟨KH, nsH nsG, ⟨mb, nsH nsB, boot⟩, mc, nsH n1, n2⟩
  have notG : ∀ {b : Addr} {o : Obj}, s1.heap.get? b = some o → (∀ es n, o.data ≠ .dict es n) → b ≠ mainGlobals := fun {b o} z n q => by
    obtain ⟨o', es, ep, e, dt, _⟩ := nsG
    rw [q, e] at z
    cases z
    exact n _ _ dt
  have tb : ∀ p ∈ cs, LamX.TabB (hidT s1.heap HA) mg p.1 p.2 := fun p hp => by
    refine ⟨?_, ?_, fun z => notG (tab p hp) (fun _ _ y => by cases y) z.symm⟩
    · obtain ⟨o, us, file, tf, flags, tg, inF, text, tt, e1, r1, r2, r3, more⟩ := cd p hp
      refine ⟨o, us, file, tf, flags, tg, inF, text, tt, hidT_get e1 (plain e1 (fun _ _ y => by rw [r2] at y; cases y) fun y => ?_), r1, r2, r3, more⟩
      rw [r2] at y
      cases y
      simp at r3
    · obtain ⟨bm, ob, b1, b2, b3, b4, b5, b6⟩ := bmod
      refine ⟨bm, ob, b1, b2, notG b3 (fun _ _ y => by rw [b6] at y; cases y), fun q => ?_, hidT_get b3 (plain b3 (fun _ _ y => by rw [b6] at y; cases y) fun y => by rw [b6] at y; cases y), b4, b5, b6⟩
      rw [q, tab p hp] at b3
      cases b3
      cases b6
  have env : Env0 P w K mg (hidT s1.heap HA) callerA [] s1 HA := ⟨rfl, md, fun b o z => of_hidT z, Nat.le_of_eq (hidT_size _ _), trivial, fun b hb => (nomatch hb), hok, .of_eq gens⟩
  refine codeAny_mono ((F _ KH (nsH nsG) tb).runG callerA [] s1 HA ⟨[.ref a], []⟩ [.ref a] [.ref a] _ _ rfl room env (bnd s1 (.ref a)) (.cons rfl .nil) (hs HA (fun p hp => haT (List.mem_map.mpr ⟨p, hp, rfl⟩)) seqA)) fun r s2 z => ?_
  match r, z with
  | .error e, z => exact (noX HA e s2 z).elim
  | .ok .next, z => exact z.elim
  | .ok .brk, z => exact z.elim
  | .ok .cont, z => exact z.elim
  | .ok (.ret u), zz =>
    obtain ⟨v, H2, os, bare, un, hok2, rel, q⟩ := zz
    clear z
    have qv : v = .bl true := q
    subst qv
    obtain rfl : u = Value.bool true := rel
    have stays : ∀ {b : Addr} {o : Obj}, ¬ b ∈ T → s1.heap.get? b = some o → s2.heap.get? b = some o := fun {b o} nb zo => by
      cases y : HA b with
      | none => exact un.keep b o zo y (fun m => nomatch m) (fun m => nomatch m)
      | some u =>
        rcases haO y with ⟨rfl, _, rfl⟩ | ⟨hb, _⟩
        · obtain ⟨g1, _⟩ := hok2 b _ (un.frzs b _ _ y)
          cases la.symm.trans zo
          exact g1
        · exact absurd hb nb
    have grown : ∀ p ∈ cs, ∃ arr : Array Value, s2.heap.get? p.2 = some { cls := .none, data := .fields arr } := fun p hp => by
      obtain ⟨arr, y⟩ := un.tbls p.2 #[] (haT (List.mem_map.mpr ⟨p, hp, rfl⟩))
      exact ⟨_, hok2 p.2 _ y⟩
    refine ⟨rfl, ⟨fun b o z => ?_, fun b o z => ?_⟩, os, bare⟩
    · by_cases hb : b ∈ T
      · obtain ⟨p, hp, rfl⟩ := inT hb
        obtain ⟨arr, y⟩ := grown p hp
        cases (tab p hp).symm.trans z
        exact .inr (.inl ⟨((cd p hp).tab (tab p hp)).isCodeTable, rfl, #[], arr, rfl, by rw [Array.empty_append]; exact y⟩)
      · exact .inl (stays hb z)
    · by_cases hb : b ∈ T
      · obtain ⟨p, hp, rfl⟩ := inT hb
        obtain ⟨arr, y⟩ := grown p hp
        exact ⟨_, y⟩
      · exact ⟨o, stays hb z⟩
/-- what is asked of a law's def -/
def LawG (l : PySem.W.OpenLaw) (w : World) (K : PySem.W.Frag) (CX : CXT) (k n : Nat) (x : Str) (mg : Str → Option Value) (fa : Addr) (h : Heap) : Prop :=
  ∃ (fd : FuncData) (cs : List (Addr × Addr)) (sp : Sp), (∀ p ∈ cs, h.get? p.2 = some { cls := .none, data := .fields #[] }) ∧ (∀ p ∈ cs, K.lookup p.2 = none) ∧ (∀ p ∈ cs, PySem.W.CodeHd h p.1 p.2) ∧ (∀ (s : Shared) (u : Value), BindsTo s fd ⟨[u], []⟩ [(x, u)]) ∧
    (∀ (H : Hp) (a : Addr) (ns : List Int), ns.length ≤ n → (∀ z ∈ ns, Builtin.Int.intBits z ≤ 1048576) → (∀ p ∈ cs, H p.2 = some (.tbl #[])) → SqL K H a (ns.map V.int) → sp [.ref a] H (fun v _ => v = .bl true) fun _ _ _ => False) ∧
    ∀ base : Heap, K.In base → base.Ns mainGlobals mg → (∀ p ∈ cs, LamX.TabB base mg p.1 p.2) → FnG l.prog w K mg base CX k fa fd [x] sp
theorem walkG {l : PySem.W.OpenLaw} {n k : Nat} {q : Program} {loose : List Str} {XP : (Str → Option Value) → Heap → Prop} {YP : World → Heap → Prop} {d : DefRec} {CX : World → CXT} {x : Str}
    (hn : l.most = some n) (n2 : n ≤ sizeLine) (hdf : d.params.defaults = []) (room : Room k callerA)
    (F : ∀ (w : World) (mg : Str → Option Value) (fa : Addr) (h : Heap), YP w h → h.Ns mainGlobals mg → mg d.name = some (.ref fa) → ∃ K : PySem.W.Frag, K.In h ∧ LawG l w K (CX w) k n x mg fa h)
    (noX : ∀ (w : World) (H : Hp) (s : Shared) (e : Value) (s' : Shared), CX w [] H s (fun _ _ _ => False) e s' → False) : PySem.W.WalkO q loose XP YP l.row.toRowW d [] (fun f vs => PySem.call f vs) := by
  refine Att.attach_callB hn hdf fun w s0 s1 mg mb fa o pm cd doc a vs ns G Y ho hd hcd hmg hobj whole len bits gens => ?_
  obtain ⟨K, KX, fd, cs, sp, t1, t2, t3, bnd, hs, hF⟩ := F w mg fa _ Y G.T.g hmg
  exact law_callG KX G.T.g G.T.b G.T.builtins G.T.nolimit gens t1 t2 t3 G.T.bmain hobj whole (Nat.le_trans len n2) room hF bnd (fun H hH hS => hs H a ns len bits hH hS) fun H e s' => noX w H s1 e s'
end Gd
namespace Gd
open PySem PySem.Spec PyProof.Rows L2 My
/-- a def with lambdas, where no repr is under way -/
theorem okGC {P : Program} {w : World} {K : PySem.W.Frag} {mg : Str → Option Value} {base : Heap} {x qual : Str} {st : Stmt} {f : Addr} {fd : FuncData} {c : Addr} {N ps : List Str} {k : Nat} {sp : Sp} (F : FunC K x qual st f fd c) (S : FnScope N ps (defScope st))
    (ln : ∀ vs H Q E, sp vs H Q E → vs.length = ps.length)
    (body : ∀ (A : Around) (outer : List Env) (s : Shared) (H : Hp) (vs : List V) (Q : VK) (E : XK), (A.deeper (envOfC qual (defScope st) s.heap.objs.size f (.ref c))).guards = some [] → Room k (A.deeper (envOfC qual (defScope st) s.heap.objs.size f (.ref c))) → sp vs H Q E →
      ∃ t, PSs (cxOf CX0 P w K mg base N qual (defScope st) f (.ref c) A outer s H E).nox (defBody st) t ∧ t { nx := fun _ H' => Q .non H', rt := Q } (start N vs) H) : FnG P w K mg base CX0 (k + 1) f fd ps sp := by
  obtain ⟨oc, od, kV, doc, pm, an, ct, osl, rfl, lk, hcd⟩ := F.ex
  refine coreG lk hcd S ln fun A outer s H vs Q E g room hs => ?_
  obtain ⟨t, PT, ht⟩ := body A outer s H vs Q E g room hs
  exact ⟨t, PT.nox, ht⟩
end Gd
/-! ### how long the repr of data is -/
namespace ShL
open PySem PySem.Spec PyProof.Rows
theorem text_le : ∀ (ts : List Str) (k : Nat) (acc : Str), (textFrom k acc ts).length ≤ acc.length + piled ts
  | [], k, acc => Nat.le_refl _
  | t :: r, k, acc => by
    have ih := text_le r (k + 1) (acc ++ (if k > 0 then ", " else "" : String) ++ t)
    have e : (acc ++ (if k > 0 then ", " else "" : String) ++ t).length = acc.length + (if k > 0 then 2 else 0) + t.length := by
      rw [strLen_append, strLen_append]
      split <;> rfl
    rw [e] at ih
    have p : piled (t :: r) = t.length + 2 + piled r := by
      unfold piled
      rw [List.map_cons, List.sum_cons]
    have b : (if k > 0 then 2 else 0 : Nat) ≤ 2 := by split <;> omega
    show (textFrom (k + 1) _ r).length ≤ _
    omega
theorem list_le (ts : List Str) : (listText ts).length ≤ 2 + piled ts := by
  have h := text_le ts 0 "["
  have X : (listText ts).length = (textFrom 0 "[" ts).length + 1 := by
    unfold listText
    rw [strLen_append]
    rfl
  have y : ("[" : Str).length = 1 := by decide +kernel
  omega
theorem nums_show {m : Nat} (hm : m ≤ 1000000000) : ∀ l : List Nat, (∀ n ∈ l, n ≤ m) → PyData.showableAll (l.map fun n : Nat => PyData.int (n : Int)) = true ∧ PyData.hasDictAll (l.map fun n : Nat => PyData.int (n : Int)) = false ∧ piled (PyData.shownAll (l.map fun n : Nat => PyData.int (n : Int))) ≤ 13 * l.length
  | [], _ => ⟨by rw [List.map_nil, PyData.showableAll], by rw [List.map_nil, PyData.hasDictAll], by rw [List.map_nil, PyData.shownAll]; exact Nat.le_refl _⟩
  | n :: r, h => by
    obtain ⟨a, b, c⟩ := nums_show hm r fun x hx => h x (List.mem_cons_of_mem _ hx)
    have hn := h n (List.mem_cons_self ..)
    refine ⟨?_, ?_, ?_⟩
    · rw [List.map_cons, PyData.showableAll, PyData.showable, a, Bool.and_true]
      refine decide_eq_true ?_
      have : (n : Int).natAbs < 2 ^ 31 := by show n < 2 ^ 31; omega
      by_cases z : n = 0
      · subst z; decide
      · exact Nat.lt_of_lt_of_le ((Nat.log2_lt (by show n ≠ 0; exact z)).mpr this) (by decide)
    · rw [List.map_cons, PyData.hasDictAll, PyData.hasDict, b]
      rfl
    · have t : (Str.ofString (toString (n : Int))).length ≤ 11 := toString_length_le (by omega) (k := 11) (by decide) (by omega)
      rw [List.map_cons, PyData.shownAll, PyData.shown]
      unfold piled at c ⊢
      rw [List.map_cons, List.sum_cons, List.length_cons]
      have t2 : ((toString (n : Int) : String) : Str).length ≤ 11 := t
      omega
end ShL
/-! the head by one kernel run: what the top has left is read off the tree, at places that are said as numbers -/
namespace HX
open PySem PySem.Spec PyProof.Rows L2
abbrev FnZ : Type := Option (Str × Str × Arguments × FuncBody × Scope × Addr × List (Str × Addr) × Addr)
def rv : Option Addr → Value
  | none => .none
  | some a => .ref a
def vB : Option Addr → Value → Bool
  | none, .none => true
  | some a, .ref b => Nat.beq a b
  | _, _ => false
theorem vB_ok {o : Option Addr} {v : Value} (h : vB o v = true) : v = rv o := by
  cases o with
  | none => cases v <;> first | rfl | cases h
  | some a =>
    cases v with
    | ref b =>
      have e : a = b := Nat.eq_of_beq_eq_true h
      rw [e]
      rfl
    | _ => cases h
/-- one def: its place, name, qualified name, parameters, body, scope, cells, the places of its defaults and its code -/
structure FD where
  a : Addr
  name : Str
  qual : Str
  params : Arguments
  body : List Stmt
  scope : Scope
  cl : List (Str × Addr)
  dV : Option Addr
  kV : Option Addr
  cd : Option Addr
def fnY (K : PySem.W.Frag) (a : Addr) : FnZ := match K.lookup a with
  | some ⟨_, _, .func fd, _⟩ => some (fd.name, fd.qualname, fd.params, fd.body, fd.scope, fd.globals, fd.closure, fd.builtins)
  | _ => none
def FD.val (d : FD) : FnZ := some (d.name, d.qual, d.params, .stmts d.body, d.scope, mainGlobals, d.cl, builtinsNs)
def FD.ok (K : PySem.W.Frag) (d : FD) : Bool := (match K.lookup d.a with
  | some ⟨_, _, .func fd, _⟩ => vB d.dV fd.defaults && (vB d.kV fd.kwdefaults && vB d.cd fd.code)
  | _ => false) && PySem.W.codeIn K (rv d.cd) d.qual
theorem FD.told {K : PySem.W.Frag} {d : FD} (e : fnY K d.a = d.val) (c : d.ok K = true) :
    ∃ (oc : Value) (od : Option Addr) (doc pm : Value) (an : Option Addr) (ct : Value) (sl : Array (Option Value)), K.lookup d.a = some ⟨oc, od, .func { name := d.name, qualname := d.qual, params := d.params, body := .stmts d.body, scope := d.scope, globals := mainGlobals, closure := d.cl, defaults := rv d.dV, kwdefaults := rv d.kV, doc, pyModule := pm, annotations := an, code := rv d.cd, closureTuple := ct, builtins := builtinsNs }, sl⟩ ∧ PySem.W.codeIn K (rv d.cd) d.qual = true := by
  obtain ⟨c1, c2⟩ := He.ba c
  unfold fnY at e
  cases q : K.lookup d.a with
  | none =>
    rw [q] at e
    cases e
  | some o =>
    obtain ⟨oc, od, dt, osl⟩ := o
    rw [q] at e c1
    cases dt with
    | func fd =>
      obtain ⟨n1, n2, n3, n4, n5, n6, n7, n8, n9, n10, n11, n12, n13, n14, n15⟩ := fd
      have e2 : (some (n1, n2, n3, n4, n5, n6, n7, n15) : FnZ) = some (d.name, d.qual, d.params, .stmts d.body, d.scope, mainGlobals, d.cl, builtinsNs) := e
      simp only [Option.some.injEq, Prod.mk.injEq] at e2
      obtain ⟨h1, h2, h3, h4, h5, h6, h7, h8⟩ := e2
      have c3 : (vB d.dV n8 && (vB d.kV n9 && vB d.cd n13)) = true := c1
      obtain ⟨k1, k2⟩ := He.ba c3
      obtain ⟨k3, k4⟩ := He.ba k2
      have g1 := vB_ok k1
      have g2 := vB_ok k3
      have g3 := vB_ok k4
      subst h1 h2 h3 h4 h5 h6 h7 h8 g1 g2 g3
      exact ⟨oc, od, n10, n11, n12, n14, osl, rfl, c2⟩
    | _ => cases e
/-! facts -/
def refB (v : Option (Option Value)) (a : Addr) : Bool := match v with
  | some (some (.ref b)) => Nat.beq b a
  | _ => false
theorem refB_ok {v : Option (Option Value)} {a : Addr} (h : refB v a = true) : v = some (some (.ref a)) := by
  unfold refB at h
  split at h
  · rename_i b
    have e : b = a := Nat.eq_of_beq_eq_true h
    rw [e]
  · cases h
def noB (v : Option (Option Value)) : Bool := match v with
  | some none => true
  | _ => false
theorem noB_ok {v : Option (Option Value)} (h : noB v = true) : v = some none := by
  unfold noB at h
  split at h
  · rfl
  · cases h
def litB (v : Option (Option Value)) (u : V) : Bool := match v with
  | some (some x) => He.relB u x
  | _ => false
theorem litB_ok {v : Option (Option Value)} {u : V} (h : litB v u = true) : ∃ x, v = some (some x) ∧ RelV u x := by
  unfold litB at h
  split at h
  · exact ⟨_, rfl, He.relB_ok h⟩
  · cases h
theorem litInt {v : Option (Option Value)} {i : Int} (h : litB v (.int i) = true) : ∃ t, v = some (some (.int i t)) := by
  obtain ⟨x, e, t, rfl⟩ := litB_ok h
  exact ⟨t, e⟩
theorem litStr {v : Option (Option Value)} {z : Str} (h : litB v (.str z) = true) : ∃ t, v = some (some (.str z t)) := by
  obtain ⟨x, e, t, rfl⟩ := litB_ok h
  exact ⟨t, e⟩
theorem litBl {v : Option (Option Value)} {b : Bool} (h : litB v (.bl b) = true) : v = some (some (.bool b)) := by
  obtain ⟨x, e, rfl⟩ := litB_ok h
  exact e
theorem litNon {v : Option (Option Value)} (h : litB v .non = true) : v = some (some .none) := by
  obtain ⟨x, e, rfl⟩ := litB_ok h
  exact e
def cellB (K : PySem.W.Frag) (cc C : Addr) : Bool := match K.lookup cc with
  | some ⟨_, _, .cell (some (.ref b)), _⟩ => Nat.beq b C
  | _ => false
theorem cellB_ok {K : PySem.W.Frag} {cc C : Addr} (h : cellB K cc C = true) : ∃ cl cld csl, K.lookup cc = some ⟨cl, cld, .cell (some (.ref C)), csl⟩ := by
  unfold cellB at h
  split at h
  · rename_i b _ q
    have e : b = C := Nat.eq_of_beq_eq_true h
    rw [e] at q
    exact ⟨_, _, _, q⟩
  · cases h
def fileB (K : PySem.W.Frag) (cda : Addr) (file : Str) : Bool := match K.lookup cda with
  | some ⟨_, _, .fields vs, _⟩ => (match (vs[2]? : Option Value) with
    | some (.str f _) => file == f
    | _ => false)
  | _ => false
theorem fileB_ok {K : PySem.W.Frag} {cda : Addr} {file : Str} (h : fileB K cda file = true) : ∃ (ccl : Value) (cdd : Option Addr) (cvs : Array Value) (ccs : Array (Option Value)) (fil : Str) (tf : Tok), K.lookup cda = some ⟨ccl, cdd, .fields cvs, ccs⟩ ∧ cvs[2]? = some (.str fil tf) ∧ (file == fil) = true := by
  unfold fileB at h
  split at h
  · rename_i vs _ q
    split at h
    · rename_i f t q2
      exact ⟨_, _, vs, _, f, t, q, q2, h⟩
    · cases h
  · cases h
def seqB (K : PySem.W.Frag) (a : Addr) (vs : List V) : Bool := match K.lookup a with
  | some ⟨_, _, .seq its _, _⟩ => He.relAll vs its.toList
  | _ => false
theorem seqB_ok {K : PySem.W.Frag} {a : Addr} {vs : List V} (h : seqB K a vs = true) : ∃ (oc : Value) (od : Option Addr) (us : List Value) (n : Nat) (sl : Array (Option Value)), K.lookup a = some ⟨oc, od, .seq us.toArray n, sl⟩ ∧ Vals vs us := by
  unfold seqB at h
  split at h
  · rename_i its n _ q
    obtain ⟨us⟩ := its
    exact ⟨_, _, us, n, _, q, He.relAll_ok h⟩
  · cases h
def tupB (K : PySem.W.Frag) (a : Addr) (vs : List V) : Bool := match K.lookup a with
  | some ⟨.type c, _, .seq its _, _⟩ => decide (c = "tuple") && He.relAll vs its.toList
  | _ => false
theorem tupB_ok {K : PySem.W.Frag} {a : Addr} {vs : List V} (h : tupB K a vs = true) : ∃ (od : Option Addr) (us : List Value) (n : Nat) (sl : Array (Option Value)), K.lookup a = some ⟨.type "tuple", od, .seq us.toArray n, sl⟩ ∧ Vals vs us := by
  unfold tupB at h
  split at h
  · rename_i c _ its n _ q
    obtain ⟨us⟩ := its
    obtain ⟨h1, h2⟩ := He.ba h
    have e := of_decide_eq_true h1
    subst e
    exact ⟨_, us, n, _, q, He.relAll_ok h2⟩
  · cases h
/-! a part of the heap, at places that are said -/
theorem frG_none {g : Addr → Option Obj} {t : Addr} : ∀ {as : List Addr}, (as.all fun b => !(Nat.beq t b)) = true → (He.frG g as).lookup t = none
  | [], _ => rfl
  | b :: r, h => by
    obtain ⟨h1, h2⟩ := He.ba (show ((!(Nat.beq t b)) && r.all fun b => !(Nat.beq t b)) = true from h)
    have ih := frG_none (g := g) h2
    have ne : (t == b) = false := by
      cases q : (t == b) with
      | false => rfl
      | true =>
        have e : t = b := beq_iff_eq.mp q
        subst e
        have z : Nat.beq t t = true := Nat.beq_refl t
        rw [z] at h1
        cases h1
    unfold He.frG at ih ⊢
    rw [List.filterMap_cons]
    cases hb : g b with
    | none => exact ih
    | some o =>
      show List.lookup t ((b, o) :: _) = none
      rw [List.lookup_cons, ne]
      exact ih
def tabsB (g : Addr → Option Obj) (as ts : List Addr) : Bool := ts.all fun t => (as.all fun b => !(Nat.beq t b)) && (match g t with
  | some o => He.emptyTab o
  | none => false)
abbrev AlY : Type := List FnZ × Bool
def obsY (as ts : List Addr) (fn : List FD) (fs : List (List (PySem.W.Frag → Bool))) (g : Addr → Option Obj) : AlY :=
  (fn.map fun d => fnY (He.frG g as) d.a, (fn.all fun d => d.ok (He.frG g as)) && ((fs.all fun l => l.all fun f => f (He.frG g as)) && tabsB g as ts))
def valY (fn : List FD) : AlY := (fn.map FD.val, true)
structure SaysY (ts : List Addr) (fn : List FD) (fs : List (List (PySem.W.Frag → Bool))) (h : Heap) (K : PySem.W.Frag) : Prop where
  fns : fn.map (fun d => fnY K d.a) = fn.map FD.val
  oks : ∀ d ∈ fn, d.ok K = true
  fcs : ∀ l ∈ fs, ∀ f ∈ l, f K = true
  out : ∀ t ∈ ts, K.lookup t = none
  empty : ∀ t ∈ ts, h.get? t = some (PySem.W.tabObj #[])
theorem saysY_of {as ts : List Addr} {fn : List FD} {fs : List (List (PySem.W.Frag → Bool))} {h : Heap} (e : obsY as ts fn fs h.get? = valY fn) : SaysY ts fn fs h (He.frG h.get? as) := by
  have e1 : fn.map (fun d => fnY (He.frG h.get? as) d.a) = fn.map FD.val := congrArg (fun z : AlY => z.1) e
  have e2 : ((fn.all fun d => d.ok (He.frG h.get? as)) && ((fs.all fun l => l.all fun f => f (He.frG h.get? as)) && tabsB h.get? as ts)) = true := congrArg (fun z : AlY => z.2) e
  obtain ⟨h1, h2⟩ := He.ba e2
  obtain ⟨h3, h4⟩ := He.ba h2
  have key : ∀ t ∈ ts, (as.all fun b => !(Nat.beq t b)) = true ∧ ∃ o, h.get? t = some o ∧ He.emptyTab o = true := fun t ht => by
    obtain ⟨h5, h6⟩ := He.ba (List.all_eq_true.mp h4 t ht)
    refine ⟨h5, ?_⟩
    cases q : h.get? t with
    | none =>
      rw [q] at h6
      cases h6
    | some o =>
      rw [q] at h6
      exact ⟨o, rfl, h6⟩
  exact ⟨e1, fun d hd => List.all_eq_true.mp h1 d hd, fun l hl f hf => List.all_eq_true.mp (List.all_eq_true.mp h3 l hl) f hf, fun t ht => frG_none (key t ht).1, fun t ht => by
    obtain ⟨_, o, q, z⟩ := key t ht
    rw [q, He.emptyTab_eq z]⟩
def hookY (as ts : List Addr) (fn : List FD) (fs : List (List (PySem.W.Frag → Bool))) : PySem.W.Hook where
  α := AlY
  obs := fun s => obsY as ts fn fs s.heap.get?
  val := fun _ => valY fn
  says := fun _ h => ∃ K : PySem.W.Frag, K.In h ∧ SaysY ts fn fs h K
  of := fun _ _ e => ⟨_, He.frG_in, saysY_of e⟩
  keeps := fun _ _ _ ⟨K, hK, c⟩ k => ⟨K, PySem.W.Frag.In.keeps hK k, ⟨c.fns, c.oks, c.fcs, c.out, fun t ht => k _ _ (c.empty t ht)⟩⟩
theorem obsY_eq {as ts : List Addr} {fn : List FD} {fs : List (List (PySem.W.Frag → Bool))} {g : Addr → Option Obj} {s : Shared} (h : ∀ a, g a = s.heap.get? a) : obsY as ts fn fs g = (hookY as ts fn fs).obs s := by
  have e : g = s.heap.get? := funext h
  rw [e] <;> rfl
section
variable {ts : List Addr} {fn : List FD} {fs : List (List (PySem.W.Frag → Bool))} {h : Heap} {K : PySem.W.Frag}
theorem SaysY.fact (c : SaysY ts fn fs h K) (i j : Nat) {l : List (PySem.W.Frag → Bool)} {f : PySem.W.Frag → Bool} (hi : fs[i]? = some l := by rfl) (hj : l[j]? = some f := by rfl) : f K = true := c.fcs l (List.mem_of_getElem? hi) f (List.mem_of_getElem? hj)
theorem SaysY.def_ (c : SaysY ts fn fs h K) (i : Nat) {d : FD} (hi : fn[i]? = some d := by rfl) :
    ∃ (oc : Value) (od : Option Addr) (doc pm : Value) (an : Option Addr) (ct : Value) (sl : Array (Option Value)), K.lookup d.a = some ⟨oc, od, .func { name := d.name, qualname := d.qual, params := d.params, body := .stmts d.body, scope := d.scope, globals := mainGlobals, closure := d.cl, defaults := rv d.dV, kwdefaults := rv d.kV, doc, pyModule := pm, annotations := an, code := rv d.cd, closureTuple := ct, builtins := builtinsNs }, sl⟩ ∧ PySem.W.codeIn K (rv d.cd) d.qual = true := by
  have e2 : (fn.map fun d => fnY K d.a)[i]? = (fn.map FD.val)[i]? := by rw [c.fns]
  rw [List.getElem?_map, List.getElem?_map, hi] at e2
  exact FD.told (Option.some.inj e2) (c.oks d (List.mem_of_getElem? hi))
end
/-! .. and dicts of the module with text keys -/
abbrev DT : Type := Addr × List Str
abbrev AlZ : Type := AlY × List (Option (List (Option (Str × Int))))
def obsZ (as ts : List Addr) (fn : List FD) (fs : List (List (PySem.W.Frag → Bool))) (ds : List DT) (g : Addr → Option Obj) : AlZ := (obsY as ts fn fs g, ds.map fun d => He.dicW (He.frG g as) d.1)
def valZ (fn : List FD) (ds : List DT) (w : World) : AlZ := (valY fn, ds.map fun d => some (He.keysIn w.params d.2))
structure SaysZ (ts : List Addr) (fn : List FD) (fs : List (List (PySem.W.Frag → Bool))) (ds : List DT) (w : World) (h : Heap) (K : PySem.W.Frag) : Prop where
  y : SaysY ts fn fs h K
  t : (ds.map fun d => He.dicW K d.1) = ds.map fun d => some (He.keysIn w.params d.2)
def hookZ (as ts : List Addr) (fn : List FD) (fs : List (List (PySem.W.Frag → Bool))) (ds : List DT) : PySem.W.Hook where
  α := AlZ
  obs := fun s => obsZ as ts fn fs ds s.heap.get?
  val := fun w => valZ fn ds w
  says := fun w h => ∃ K : PySem.W.Frag, K.In h ∧ SaysZ ts fn fs ds w h K
  of := fun _ _ e => ⟨_, He.frG_in, saysY_of (congrArg (fun z : AlZ => z.1) e), congrArg (fun z : AlZ => z.2) e⟩
  keeps := fun _ _ _ ⟨K, hK, c⟩ k => ⟨K, PySem.W.Frag.In.keeps hK k, ⟨c.y.fns, c.y.oks, c.y.fcs, c.y.out, fun t ht => k _ _ (c.y.empty t ht)⟩, c.t⟩
theorem obsZ_eq {as ts : List Addr} {fn : List FD} {fs : List (List (PySem.W.Frag → Bool))} {ds : List DT} {g : Addr → Option Obj} {s : Shared} (h : ∀ a, g a = s.heap.get? a) : obsZ as ts fn fs ds g = (hookZ as ts fn fs ds).obs s := by
  have e : g = s.heap.get? := funext h
  rw [e] <;> rfl
theorem SaysZ.tab {ts : List Addr} {fn : List FD} {fs : List (List (PySem.W.Frag → Bool))} {ds : List DT} {w : World} {h : Heap} {K : PySem.W.Frag} (c : SaysZ ts fn fs ds w h K) (i : Nat) {d : DT} (hd : ds[i]? = some d := by rfl) : ∃ es n, L2.KDict K w d.1 es n := by
  have e2 : (ds.map fun t => He.dicW K t.1)[i]? = (ds.map fun t => some (He.keysIn w.params t.2))[i]? := by rw [c.t]
  rw [List.getElem?_map, List.getElem?_map, hd] at e2
  exact He.dicW_ok (Option.some.inj e2)
end HX
namespace K03
open PySem PySem.Spec PyProof.Rows L2 Evl My TL
def topS (i : Nat) : Stmt := PySem.Challenge.pw_blocksearch_k03_pages_told.main.body.getD i (.Pass ⟨0, 0, 0, 0⟩)
abbrev N_is_whole : List Str := ["thing"]
theorem sc_is_whole : FnScope N_is_whole ["thing"] (defScope (topS 21)) := ⟨rfl, rfl, rfl, by decide +kernel, rfl, by decide +kernel, by decide +kernel⟩
abbrev N_is_within : List Str := ["thing", "least", "most"]
theorem sc_is_within : FnScope N_is_within ["thing", "least", "most"] (defScope (topS 22)) := ⟨rfl, rfl, rfl, by decide +kernel, rfl, by decide +kernel, by decide +kernel⟩
abbrev N_is_word : List Str := ["thing", "sign"]
theorem sc_is_word : FnScope N_is_word ["thing"] (defScope (topS 26)) := ⟨rfl, rfl, rfl, by decide +kernel, rfl, by decide +kernel, by decide +kernel⟩
abbrev N_are_words : List Str := ["things", "thing"]
theorem sc_are_words : FnScope N_are_words ["things"] (defScope (topS 27)) := ⟨rfl, rfl, rfl, by decide +kernel, rfl, by decide +kernel, by decide +kernel⟩
abbrev N_check_word : List Str := ["word"]
theorem sc_check_word : FnScope N_check_word ["word"] (defScope (topS 28)) := ⟨rfl, rfl, rfl, by decide +kernel, rfl, by decide +kernel, by decide +kernel⟩
abbrev N_words_of : List Str := ["text", "words"]
theorem sc_words_of : FnScope N_words_of ["text"] (defScope (topS 29)) := ⟨rfl, rfl, rfl, by decide +kernel, rfl, by decide +kernel, by decide +kernel⟩
abbrev N_check_words : List Str := ["words"]
theorem sc_check_words : FnScope N_check_words ["words"] (defScope (topS 30)) := ⟨rfl, rfl, rfl, by decide +kernel, rfl, by decide +kernel, by decide +kernel⟩
abbrev N_check_page_number : List Str := ["number"]
theorem sc_check_page_number : FnScope N_check_page_number ["number"] (defScope (topS 34)) := ⟨rfl, rfl, rfl, by decide +kernel, rfl, by decide +kernel, by decide +kernel⟩
abbrev N_l_pool : List Str := ["_law_script", "_law_at", "_law_cell", "_law_far"]
theorem sc_l_pool : FnScope N_l_pool ["_law_script", "_law_at"] (defScope (topS 36)) := ⟨rfl, rfl, rfl, by decide +kernel, rfl, by decide +kernel, by decide +kernel⟩
abbrev N_l_take : List Str := ["_law_pool_here", "_law_many", "_law_digit", "_law_turn", "_law_one", "_law_other"]
theorem sc_l_take : FnScope N_l_take ["_law_pool_here", "_law_many"] (defScope (topS 37)) := ⟨rfl, rfl, rfl, by decide +kernel, rfl, by decide +kernel, by decide +kernel⟩
abbrev N_l_kinds : List Str := ["_law_pool_here", "_law_some", "_law_start"]
theorem sc_l_kinds : FnScope N_l_kinds ["_law_pool_here"] (defScope (topS 40)) := ⟨rfl, rfl, rfl, by decide +kernel, rfl, by decide +kernel, by decide +kernel⟩
abbrev N_l_words : List Str := ["_law_pool_here", "_law_kinds_here", "_law_most", "_law_k"]
theorem sc_l_words : FnScope N_l_words ["_law_pool_here", "_law_kinds_here", "_law_most"] (defScope (topS 41)) := ⟨rfl, rfl, rfl, by decide +kernel, rfl, by decide +kernel, by decide +kernel⟩
abbrev N_l_spots : List Str := ["_law_held", "_law_word", "_law_at"]
theorem sc_l_spots : FnScope N_l_spots ["_law_held", "_law_word"] (defScope (topS 42)) := ⟨rfl, rfl, rfl, by decide +kernel, rfl, by decide +kernel, by decide +kernel⟩
abbrev N_l_whole : List Str := ["_law_thing"]
theorem sc_l_whole : FnScope N_l_whole ["_law_thing"] (defScope (topS 43)) := ⟨rfl, rfl, rfl, by decide +kernel, rfl, by decide +kernel, by decide +kernel⟩
abbrev N_l_kind : List Str := ["_law_e", "_law_names", "_law_some"]
theorem sc_l_kind : FnScope N_l_kind ["_law_e"] (defScope (topS 44)) := ⟨rfl, rfl, rfl, by decide +kernel, rfl, by decide +kernel, by decide +kernel⟩
abbrev N_l_how : List Str := ["_law_deed", "_law_e"]
theorem sc_l_how : FnScope N_l_how ["_law_deed"] (defScope (topS 45)) := ⟨rfl, rfl, rfl, by decide +kernel, rfl, by decide +kernel, by decide +kernel⟩
abbrev N_l_right : List Str := ["_law_page", "_law_mark", "_law_held", "_law_every", "_law_ahead", "_law_kept", "_law_word", "_law_due", "_law_told", "_law_place"]
theorem sc_l_right : FnScope N_l_right ["_law_page", "_law_mark", "_law_held"] (defScope (topS 46)) := ⟨rfl, rfl, rfl, by decide +kernel, rfl, by decide +kernel, by decide +kernel⟩
abbrev N_law : List Str := ["_law_script", "_law_k", "_law_pool_here", "_law_sort", "_law_kinds_here", "_law_held", "_law_other", "_law_mark", "_law_further", "_law_pages", "_law_turn", "_law_bad", "_law_j"]
theorem sc_law : FnScope N_law ["_law_script"] (defScope (topS 47)) := ⟨rfl, rfl, rfl, by decide +kernel, rfl, by decide +kernel, by decide +kernel⟩
abbrev N_Page_init : List Str := ["self", "number", "text"]
theorem sc_Page_init : FnScope N_Page_init ["self", "number", "text"] (defScope (inClass (topS 33) 0)) := ⟨rfl, rfl, rfl, by decide +kernel, rfl, by decide +kernel, by decide +kernel⟩
abbrev N_Page_len : List Str := ["self"]
theorem sc_Page_len : FnScope N_Page_len ["self"] (defScope (inClass (topS 33) 2)) := ⟨rfl, rfl, rfl, by decide +kernel, rfl, by decide +kernel, by decide +kernel⟩
abbrev N_Page_str : List Str := ["self"]
theorem sc_Page_str : FnScope N_Page_str ["self"] (defScope (inClass (topS 33) 3)) := ⟨rfl, rfl, rfl, by decide +kernel, rfl, by decide +kernel, by decide +kernel⟩
abbrev N_Page_words : List Str := ["self"]
theorem sc_Page_words : FnScope N_Page_words ["self"] (defScope (inClass (topS 33) 5)) := ⟨rfl, rfl, rfl, by decide +kernel, rfl, by decide +kernel, by decide +kernel⟩
abbrev N_Page_places : List Str := ["self", "word", "at", "one"]
theorem sc_Page_places : FnScope N_Page_places ["self", "word"] (defScope (inClass (topS 33) 6)) := ⟨rfl, rfl, rfl, by decide +kernel, rfl, by decide +kernel, by decide +kernel⟩
abbrev N_Page_often : List Str := ["self", "word"]
theorem sc_Page_often : FnScope N_Page_often ["self", "word"] (defScope (inClass (topS 33) 7)) := ⟨rfl, rfl, rfl, by decide +kernel, rfl, by decide +kernel, by decide +kernel⟩
def howC (A : Nat → Addr) : HowC := ⟨[A 9, A 11, A 13, A 12, A 10], A 1, [A 18, A 19], [A 9, A 16, A 11, A 6, A 8, A 4, A 13, A 14, A 7, A 12, A 10, A 15, A 5, A 3, A 2, A 17]⟩
/-- what the top has left: A the defs' places, FD their data, TK the constants' tokens -/
structure TX (K : PySem.W.Frag) (mg : Str → Option Value) (A : Nat → Addr) (FD : Nat → FuncData) (TK : Nat → Tok) (CC : Nat → Addr) : Prop where
  f_is_whole : Fun K "is_whole" "is_whole" (topS 21) (A 21) (FD 21)
  b_is_whole : Binds K (FD 21) ["thing"] []
  g_is_whole : mg "is_whole" = some (.ref (A 21))
  f_is_within : Fun K "is_within" "is_within" (topS 22) (A 22) (FD 22)
  b_is_within : Binds K (FD 22) ["thing", "least", "most"] []
  g_is_within : mg "is_within" = some (.ref (A 22))
  f_is_word : Fun K "is_word" "is_word" (topS 26) (A 26) (FD 26)
  b_is_word : Binds K (FD 26) ["thing"] []
  g_is_word : mg "is_word" = some (.ref (A 26))
  f_are_words : Fun K "are_words" "are_words" (topS 27) (A 27) (FD 27)
  b_are_words : Binds K (FD 27) ["things"] []
  g_are_words : mg "are_words" = some (.ref (A 27))
  f_check_word : Fun K "check_word" "check_word" (topS 28) (A 28) (FD 28)
  b_check_word : Binds K (FD 28) ["word"] []
  g_check_word : mg "check_word" = some (.ref (A 28))
  f_words_of : Fun K "words_of" "words_of" (topS 29) (A 29) (FD 29)
  b_words_of : Binds K (FD 29) ["text"] []
  g_words_of : mg "words_of" = some (.ref (A 29))
  f_check_words : Fun K "check_words" "check_words" (topS 30) (A 30) (FD 30)
  b_check_words : Binds K (FD 30) ["words"] []
  g_check_words : mg "check_words" = some (.ref (A 30))
  f_check_page_number : Fun K "check_page_number" "check_page_number" (topS 34) (A 34) (FD 34)
  b_check_page_number : Binds K (FD 34) ["number"] []
  g_check_page_number : mg "check_page_number" = some (.ref (A 34))
  f_l_pool : Fun K "_law_pool" "_law_pool" (topS 36) (A 36) (FD 36)
  b_l_pool : Binds K (FD 36) ["_law_script", "_law_at"] []
  g_l_pool : mg "_law_pool" = some (.ref (A 36))
  f_l_take : Fun K "_law_take" "_law_take" (topS 37) (A 37) (FD 37)
  b_l_take : Binds K (FD 37) ["_law_pool_here", "_law_many"] []
  g_l_take : mg "_law_take" = some (.ref (A 37))
  f_l_kinds : Fun K "_law_kinds" "_law_kinds" (topS 40) (A 40) (FD 40)
  b_l_kinds : Binds K (FD 40) ["_law_pool_here"] []
  g_l_kinds : mg "_law_kinds" = some (.ref (A 40))
  f_l_words : Fun K "_law_words" "_law_words" (topS 41) (A 41) (FD 41)
  b_l_words : Binds K (FD 41) ["_law_pool_here", "_law_kinds_here", "_law_most"] []
  g_l_words : mg "_law_words" = some (.ref (A 41))
  f_l_spots : Fun K "_law_spots" "_law_spots" (topS 42) (A 42) (FD 42)
  b_l_spots : Binds K (FD 42) ["_law_held", "_law_word"] []
  g_l_spots : mg "_law_spots" = some (.ref (A 42))
  f_l_whole : Fun K "_law_whole" "_law_whole" (topS 43) (A 43) (FD 43)
  b_l_whole : Binds K (FD 43) ["_law_thing"] []
  g_l_whole : mg "_law_whole" = some (.ref (A 43))
  f_l_kind : Fun K "_law_kind" "_law_kind" (topS 44) (A 44) (FD 44)
  b_l_kind : Binds K (FD 44) ["_law_e"] []
  g_l_kind : mg "_law_kind" = some (.ref (A 44))
  f_l_how : Fun K "_law_how" "_law_how" (topS 45) (A 45) (FD 45)
  b_l_how : Binds K (FD 45) ["_law_deed"] []
  g_l_how : mg "_law_how" = some (.ref (A 45))
  f_l_right : Fun K "_law_right" "_law_right" (topS 46) (A 46) (FD 46)
  b_l_right : Binds K (FD 46) ["_law_page", "_law_mark", "_law_held"] []
  g_l_right : mg "_law_right" = some (.ref (A 46))
  F_law : FunC K "law" "law" (topS 47) (A 47) (FD 47) (CC 47)
  f_law : Fun K "law" "law" (topS 47) (A 47) (FD 47)
  b_law : Binds K (FD 47) ["_law_script"] []
  g_law : mg "law" = some (.ref (A 47))
  m_ValueError : mg "ValueError" = none
  m_abs : mg "abs" = none
  m_all : mg "all" = none
  m_bool : mg "bool" = none
  m_enumerate : mg "enumerate" = none
  m_int : mg "int" = none
  m_isinstance : mg "isinstance" = none
  m_len : mg "len" = none
  m_list : mg "list" = none
  m_max : mg "max" = none
  m_min : mg "min" = none
  m_range : mg "range" = none
  m_repr : mg "repr" = none
  m_str : mg "str" = none
  m_tuple : mg "tuple" = none
  c_MOST_LETTERS : mg "MOST_LETTERS" = some (.int 12 (TK 24))
  c_MOST_WORDS : mg "MOST_WORDS" = some (.int 120 (TK 25))
  c_MOST_NUMBER : mg "MOST_NUMBER" = some (.int 9999 (TK 32))
  k_Wrong : mg "Wrong" = some (.ref (A 1))
  k_NoWord : mg "NoWord" = some (.ref (A 2))
  k_NoText : mg "NoText" = some (.ref (A 3))
  k_NoNumber : mg "NoNumber" = some (.ref (A 4))
  k_NoSize : mg "NoSize" = some (.ref (A 5))
  k_NoLengths : mg "NoLengths" = some (.ref (A 6))
  k_NoQuery : mg "NoQuery" = some (.ref (A 7))
  k_NoName : mg "NoName" = some (.ref (A 8))
  k_NoCode : mg "NoCode" = some (.ref (A 9))
  k_NoRow : mg "NoRow" = some (.ref (A 10))
  k_NoEntries : mg "NoEntries" = some (.ref (A 11))
  k_NoQueryText : mg "NoQueryText" = some (.ref (A 12))
  k_NoPages : mg "NoPages" = some (.ref (A 13))
  k_NoQueries : mg "NoQueries" = some (.ref (A 14))
  k_NoShelf : mg "NoShelf" = some (.ref (A 15))
  k_NoDeed : mg "NoDeed" = some (.ref (A 16))
  k_Taken : mg "Taken" = some (.ref (A 17))
  k_NoPlace : mg "NoPlace" = some (.ref (A 18))
  k_NoSlot : mg "NoSlot" = some (.ref (A 19))
  k_Page : mg "Page" = some (.ref (A 33))
  cl_Page : Cls K (A 33)
  n_Page_number : NoAttr K (A 33) "number"
  n_Page_in_turn : NoAttr K (A 33) "in_turn"
  f_Page_init : FunD K "__init__" "Page.__init__" (defArgs (inClass (topS 33) 0)) (defBody (inClass (topS 33) 0)) (defScope (inClass (topS 33) 0)) [.str ""] [] (A 48) (FD 48)
  M_Page : Mk K (A 33) (A 48)
  f_Page_len : Fun K "__len__" "Page.__len__" (inClass (topS 33) 2) (A 49) (FD 49)
  b_Page_len : Binds K (FD 49) ["self"] []
  M_Page_len : Meth K (A 33) "__len__" (A 49)
  f_Page_str : Fun K "__str__" "Page.__str__" (inClass (topS 33) 3) (A 50) (FD 50)
  b_Page_str : Binds K (FD 50) ["self"] []
  M_Page_str : Meth K (A 33) "__str__" (A 50)
  f_Page_words : Fun K "words" "Page.words" (inClass (topS 33) 5) (A 51) (FD 51)
  b_Page_words : Binds K (FD 51) ["self"] []
  M_Page_words : Meth K (A 33) "words" (A 51)
  f_Page_places : Fun K "places" "Page.places" (inClass (topS 33) 6) (A 52) (FD 52)
  b_Page_places : Binds K (FD 52) ["self", "word"] []
  M_Page_places : Meth K (A 33) "places" (A 52)
  f_Page_often : Fun K "often" "Page.often" (inClass (topS 33) 7) (A 53) (FD 53)
  b_Page_often : Binds K (FD 53) ["self", "word"] []
  M_Page_often : Meth K (A 33) "often" (A 53)
  x_NoWord : PySem.W.excIn K (A 2) [.type "ValueError", .type "Exception", .type "BaseException", .type "object"] "ValueError.__new__" = true
  kc_NoWord : PySem.W.keepIn K (.ref (A 2)) = true
  br_NoWord : PySem.W.subIn K (.ref (A 2)) (.type "BaseException") = some true
  ty_NoWord : PySem.W.typeIn K (.ref (A 2)) = some (.type "type")
  h_NoWord : Plain K (howC A) (A 2) 14
end K03
namespace K03
open PySem PySem.Spec PyProof.Rows L2 My
def hd21 : HX.FD := ⟨342, "is_whole", "is_whole", defArgs (topS 21), defBody (topS 21), defScope (topS 21), [], none, none, (some 341)⟩
def hd22 : HX.FD := ⟨349, "is_within", "is_within", defArgs (topS 22), defBody (topS 22), defScope (topS 22), [], none, none, (some 348)⟩
def hd26 : HX.FD := ⟨354, "is_word", "is_word", defArgs (topS 26), defBody (topS 26), defScope (topS 26), [], none, none, (some 353)⟩
def hd27 : HX.FD := ⟨359, "are_words", "are_words", defArgs (topS 27), defBody (topS 27), defScope (topS 27), [], none, none, (some 358)⟩
def hd28 : HX.FD := ⟨366, "check_word", "check_word", defArgs (topS 28), defBody (topS 28), defScope (topS 28), [], none, none, (some 365)⟩
def hd29 : HX.FD := ⟨373, "words_of", "words_of", defArgs (topS 29), defBody (topS 29), defScope (topS 29), [], none, none, (some 372)⟩
def hd30 : HX.FD := ⟨380, "check_words", "check_words", defArgs (topS 30), defBody (topS 30), defScope (topS 30), [], none, none, (some 379)⟩
def hd34 : HX.FD := ⟨456, "check_page_number", "check_page_number", defArgs (topS 34), defBody (topS 34), defScope (topS 34), [], none, none, (some 455)⟩
def hd36 : HX.FD := ⟨463, "_law_pool", "_law_pool", defArgs (topS 36), defBody (topS 36), defScope (topS 36), [], none, none, (some 462)⟩
def hd37 : HX.FD := ⟨470, "_law_take", "_law_take", defArgs (topS 37), defBody (topS 37), defScope (topS 37), [], none, none, (some 469)⟩
def hd40 : HX.FD := ⟨489, "_law_kinds", "_law_kinds", defArgs (topS 40), defBody (topS 40), defScope (topS 40), [], none, none, (some 488)⟩
def hd41 : HX.FD := ⟨494, "_law_words", "_law_words", defArgs (topS 41), defBody (topS 41), defScope (topS 41), [], none, none, (some 493)⟩
def hd42 : HX.FD := ⟨499, "_law_spots", "_law_spots", defArgs (topS 42), defBody (topS 42), defScope (topS 42), [], none, none, (some 498)⟩
def hd43 : HX.FD := ⟨506, "_law_whole", "_law_whole", defArgs (topS 43), defBody (topS 43), defScope (topS 43), [], none, none, (some 505)⟩
def hd44 : HX.FD := ⟨513, "_law_kind", "_law_kind", defArgs (topS 44), defBody (topS 44), defScope (topS 44), [], none, none, (some 512)⟩
def hd45 : HX.FD := ⟨520, "_law_how", "_law_how", defArgs (topS 45), defBody (topS 45), defScope (topS 45), [], none, none, (some 519)⟩
def hd46 : HX.FD := ⟨525, "_law_right", "_law_right", defArgs (topS 46), defBody (topS 46), defScope (topS 46), [], none, none, (some 524)⟩
def hd47 : HX.FD := ⟨530, "law", "law", defArgs (topS 47), defBody (topS 47), defScope (topS 47), [], none, none, (some 529)⟩
def hd48 : HX.FD := ⟨395, "__init__", "Page.__init__", defArgs (inClass (topS 33) 0), defBody (inClass (topS 33) 0), defScope (inClass (topS 33) 0), [], (some 388), none, (some 394)⟩
def hd49 : HX.FD := ⟨409, "__len__", "Page.__len__", defArgs (inClass (topS 33) 2), defBody (inClass (topS 33) 2), defScope (inClass (topS 33) 2), [], none, none, (some 408)⟩
def hd50 : HX.FD := ⟨416, "__str__", "Page.__str__", defArgs (inClass (topS 33) 3), defBody (inClass (topS 33) 3), defScope (inClass (topS 33) 3), [], none, none, (some 415)⟩
def hd51 : HX.FD := ⟨430, "words", "Page.words", defArgs (inClass (topS 33) 5), defBody (inClass (topS 33) 5), defScope (inClass (topS 33) 5), [], none, none, (some 429)⟩
def hd52 : HX.FD := ⟨435, "places", "Page.places", defArgs (inClass (topS 33) 6), defBody (inClass (topS 33) 6), defScope (inClass (topS 33) 6), [], none, none, (some 434)⟩
def hd53 : HX.FD := ⟨442, "often", "Page.often", defArgs (inClass (topS 33) 7), defBody (inClass (topS 33) 7), defScope (inClass (topS 33) 7), [], none, none, (some 441)⟩
def hfn0 : List HX.FD := [hd21, hd22, hd26, hd27, hd28, hd29, hd30, hd34, hd36, hd37, hd40, hd41, hd42, hd43, hd44, hd45, hd46, hd47, hd48, hd49, hd50, hd51, hd52, hd53]
def hfn : List HX.FD := hfn0
def hfs0 : List (PySem.W.Frag → Bool) := [
  fun K => HX.refB (PySem.W.nsIn K mainGlobals "is_whole") 342,
  fun K => PySem.W.keepIn K (.ref 342),
  fun K => HX.refB (PySem.W.nsIn K mainGlobals "is_within") 349,
  fun K => PySem.W.keepIn K (.ref 349),
  fun K => HX.refB (PySem.W.nsIn K mainGlobals "is_word") 354,
  fun K => PySem.W.keepIn K (.ref 354),
  fun K => HX.refB (PySem.W.nsIn K mainGlobals "are_words") 359,
  fun K => PySem.W.keepIn K (.ref 359),
  fun K => HX.refB (PySem.W.nsIn K mainGlobals "check_word") 366,
  fun K => PySem.W.keepIn K (.ref 366),
  fun K => HX.refB (PySem.W.nsIn K mainGlobals "words_of") 373,
  fun K => PySem.W.keepIn K (.ref 373),
  fun K => HX.refB (PySem.W.nsIn K mainGlobals "check_words") 380,
  fun K => PySem.W.keepIn K (.ref 380),
  fun K => HX.refB (PySem.W.nsIn K mainGlobals "check_page_number") 456,
  fun K => PySem.W.keepIn K (.ref 456),
  fun K => HX.refB (PySem.W.nsIn K mainGlobals "_law_pool") 463,
  fun K => PySem.W.keepIn K (.ref 463),
  fun K => HX.refB (PySem.W.nsIn K mainGlobals "_law_take") 470,
  fun K => PySem.W.keepIn K (.ref 470),
  fun K => HX.refB (PySem.W.nsIn K mainGlobals "_law_kinds") 489,
  fun K => PySem.W.keepIn K (.ref 489),
  fun K => HX.refB (PySem.W.nsIn K mainGlobals "_law_words") 494,
  fun K => PySem.W.keepIn K (.ref 494),
  fun K => HX.refB (PySem.W.nsIn K mainGlobals "_law_spots") 499,
  fun K => PySem.W.keepIn K (.ref 499),
  fun K => HX.refB (PySem.W.nsIn K mainGlobals "_law_whole") 506,
  fun K => PySem.W.keepIn K (.ref 506),
  fun K => HX.refB (PySem.W.nsIn K mainGlobals "_law_kind") 513,
  fun K => PySem.W.keepIn K (.ref 513)]
def hfs1 : List (PySem.W.Frag → Bool) := [
  fun K => HX.refB (PySem.W.nsIn K mainGlobals "_law_how") 520,
  fun K => PySem.W.keepIn K (.ref 520),
  fun K => HX.refB (PySem.W.nsIn K mainGlobals "_law_right") 525,
  fun K => PySem.W.keepIn K (.ref 525),
  fun K => HX.refB (PySem.W.nsIn K mainGlobals "law") 530,
  fun K => PySem.W.keepIn K (.ref 530),
  fun K => HX.noB (PySem.W.nsIn K mainGlobals "ValueError"),
  fun K => HX.noB (PySem.W.nsIn K mainGlobals "abs"),
  fun K => HX.noB (PySem.W.nsIn K mainGlobals "all"),
  fun K => HX.noB (PySem.W.nsIn K mainGlobals "bool"),
  fun K => HX.noB (PySem.W.nsIn K mainGlobals "enumerate"),
  fun K => HX.noB (PySem.W.nsIn K mainGlobals "int"),
  fun K => HX.noB (PySem.W.nsIn K mainGlobals "isinstance"),
  fun K => HX.noB (PySem.W.nsIn K mainGlobals "len"),
  fun K => HX.noB (PySem.W.nsIn K mainGlobals "list"),
  fun K => HX.noB (PySem.W.nsIn K mainGlobals "max"),
  fun K => HX.noB (PySem.W.nsIn K mainGlobals "min"),
  fun K => HX.noB (PySem.W.nsIn K mainGlobals "range"),
  fun K => HX.noB (PySem.W.nsIn K mainGlobals "repr"),
  fun K => HX.noB (PySem.W.nsIn K mainGlobals "str"),
  fun K => HX.noB (PySem.W.nsIn K mainGlobals "tuple"),
  fun K => HX.litB (PySem.W.nsIn K mainGlobals "MOST_LETTERS") (.int 12),
  fun K => HX.litB (PySem.W.nsIn K mainGlobals "MOST_WORDS") (.int 120),
  fun K => HX.litB (PySem.W.nsIn K mainGlobals "MOST_NUMBER") (.int 9999),
  fun K => HX.refB (PySem.W.nsIn K mainGlobals "Wrong") 24,
  fun K => HX.refB (PySem.W.nsIn K mainGlobals "NoWord") 37,
  fun K => HX.refB (PySem.W.nsIn K mainGlobals "NoText") 49,
  fun K => HX.refB (PySem.W.nsIn K mainGlobals "NoNumber") 61,
  fun K => HX.refB (PySem.W.nsIn K mainGlobals "NoSize") 73,
  fun K => HX.refB (PySem.W.nsIn K mainGlobals "NoLengths") 85]
def hfs2 : List (PySem.W.Frag → Bool) := [
  fun K => HX.refB (PySem.W.nsIn K mainGlobals "NoQuery") 97,
  fun K => HX.refB (PySem.W.nsIn K mainGlobals "NoName") 109,
  fun K => HX.refB (PySem.W.nsIn K mainGlobals "NoCode") 131,
  fun K => HX.refB (PySem.W.nsIn K mainGlobals "NoRow") 153,
  fun K => HX.refB (PySem.W.nsIn K mainGlobals "NoEntries") 175,
  fun K => HX.refB (PySem.W.nsIn K mainGlobals "NoQueryText") 197,
  fun K => HX.refB (PySem.W.nsIn K mainGlobals "NoPages") 219,
  fun K => HX.refB (PySem.W.nsIn K mainGlobals "NoQueries") 241,
  fun K => HX.refB (PySem.W.nsIn K mainGlobals "NoShelf") 263,
  fun K => HX.refB (PySem.W.nsIn K mainGlobals "NoDeed") 285,
  fun K => HX.refB (PySem.W.nsIn K mainGlobals "Taken") 307,
  fun K => HX.refB (PySem.W.nsIn K mainGlobals "NoPlace") 319,
  fun K => HX.refB (PySem.W.nsIn K mainGlobals "NoSlot") 332,
  fun K => HX.refB (PySem.W.nsIn K mainGlobals "Page") 445,
  fun K => PySem.W.excIn K 37 [.type "ValueError", .type "Exception", .type "BaseException", .type "object"] "ValueError.__new__",
  fun K => PySem.W.keepIn K (.ref 37),
  fun K => decide (PySem.W.subIn K (.ref 37) (.type "BaseException") = some true),
  fun K => decide (PySem.W.typeIn K (.ref 37) = some (.type "type")),
  fun K => plainB K ⟨[131, 175, 219, 197, 153], 24, [319, 332], [131, 285, 175, 85, 109, 61, 219, 241, 97, 197, 153, 263, 73, 49, 37, 307]⟩ 37 14,
  fun K => PySem.W.plainGet K 445 Str.empty,
  fun K => PySem.W.hasDictIn K 445,
  fun K => PySem.W.plainOver K 445,
  fun K => He.eqO (PySem.W.findIn K (.ref 445) "__setattr__") (some (some (.builtin "object.__setattr__"))),
  fun K => PySem.W.makesIn K 445,
  fun K => PySem.W.keepIn K (.ref 445),
  fun K => HX.noB (PySem.W.findIn K (.ref 445) "number"),
  fun K => HX.noB (PySem.W.findIn K (.ref 445) "in_turn"),
  fun K => HX.refB (PySem.W.findIn K (.ref 445) "__init__") 395,
  fun K => PySem.W.isFn K (.ref 395),
  fun K => PySem.W.keepIn K (.ref 395)]
def hfs3 : List (PySem.W.Frag → Bool) := [
  fun K => HX.seqB K 388 [.str ""],
  fun K => HX.refB (PySem.W.findIn K (.ref 445) "__len__") 409,
  fun K => PySem.W.isFn K (.ref 409),
  fun K => PySem.W.keepIn K (.ref 409),
  fun K => HX.refB (PySem.W.findIn K (.ref 445) "__str__") 416,
  fun K => PySem.W.isFn K (.ref 416),
  fun K => PySem.W.keepIn K (.ref 416),
  fun K => HX.refB (PySem.W.findIn K (.ref 445) "words") 430,
  fun K => PySem.W.isFn K (.ref 430),
  fun K => PySem.W.keepIn K (.ref 430),
  fun K => HX.refB (PySem.W.findIn K (.ref 445) "places") 435,
  fun K => PySem.W.isFn K (.ref 435),
  fun K => PySem.W.keepIn K (.ref 435),
  fun K => HX.refB (PySem.W.findIn K (.ref 445) "often") 442,
  fun K => PySem.W.isFn K (.ref 442),
  fun K => PySem.W.keepIn K (.ref 442),
  fun K => PySem.W.codeHdIn K 529 527]
def hfs : List (List (PySem.W.Frag → Bool)) := [hfs0, hfs1, hfs2, hfs3]
def has0 : List Addr := [2, 3, 342, 341, 349, 348, 354, 353, 359, 358, 366, 365, 373, 372, 380, 379, 456, 455, 463, 462, 470, 469, 489, 488, 494, 493, 499, 498, 506, 505]
def has1 : List Addr := [513, 512, 520, 519, 525, 524, 530, 529, 24, 23, 37, 36, 49, 48, 61, 60, 73, 72, 85, 84, 97, 96, 109, 108, 131, 130, 153, 152, 175, 174]
def has2 : List Addr := [197, 196, 219, 218, 241, 240, 263, 262, 285, 284, 307, 306, 319, 318, 332, 331, 445, 444, 395, 394, 388, 409, 408, 416, 415, 430, 429, 435, 434, 442]
def has3 : List Addr := [441]
def has : List Addr := has0 ++ has1 ++ has2 ++ has3
def hts : List Addr := [527]
def hloose0 : List PySem.Str := [PySem.Str.ofString "Wrong", PySem.Str.ofString "NoWord", PySem.Str.ofString "NoText", PySem.Str.ofString "NoNumber", PySem.Str.ofString "NoSize", PySem.Str.ofString "NoLengths", PySem.Str.ofString "NoQuery", PySem.Str.ofString "NoName", PySem.Str.ofString "NoCode", PySem.Str.ofString "NoRow", PySem.Str.ofString "NoEntries", PySem.Str.ofString "NoQueryText", PySem.Str.ofString "NoPages", PySem.Str.ofString "NoQueries", PySem.Str.ofString "NoShelf", PySem.Str.ofString "NoDeed", PySem.Str.ofString "Taken", PySem.Str.ofString "NoPlace", PySem.Str.ofString "NoSlot", PySem.Str.ofString "is_whole", PySem.Str.ofString "is_within", PySem.Str.ofString "MOST_LETTERS", PySem.Str.ofString "MOST_WORDS", PySem.Str.ofString "is_word", PySem.Str.ofString "are_words", PySem.Str.ofString "check_word", PySem.Str.ofString "words_of", PySem.Str.ofString "check_words", PySem.Str.ofString "MOST_NUMBER", PySem.Str.ofString "Page"]
def hloose1 : List PySem.Str := [PySem.Str.ofString "check_page_number", PySem.Str.ofString "_law_pool", PySem.Str.ofString "_law_take", PySem.Str.ofString "_law_is_word", PySem.Str.ofString "_law_letters", PySem.Str.ofString "_law_kinds", PySem.Str.ofString "_law_words", PySem.Str.ofString "_law_spots", PySem.Str.ofString "_law_whole", PySem.Str.ofString "_law_kind", PySem.Str.ofString "_law_how", PySem.Str.ofString "_law_right"]
def hloose : List PySem.Str := hloose0 ++ hloose1
abbrev hR : PySem.W.OpenRow := PySem.W.OpenLaw.row PySem.Challenge.rw_blocksearch_k03_pages_told
abbrev hk : PySem.W.Hook := HX.hookY has hts hfn hfs
def hob (s : PySem.W.SharedT) : HX.AlY := HX.obsY has hts hfn hfs (HandSHeadRun.getT s)
theorem hob_eq (s : PySem.W.SharedT) : hob s = hk.obs s.abs := HX.obsY_eq (HandSHeadRun.getT_eq s)
set_option maxHeartbeats 0 in
theorem hrun (w : World) : HandSHeadRun.RunEq hR (PySem.W.view hR.prog [47]) hk hob 11868 hloose w := by
  intro os
  kernel_rfl
end K03
namespace K03
open PySem PySem.Spec PyProof.Rows L2 Evl My TL
section
variable {P : Program} {w : World} {K : PySem.W.Frag} {mg : Str → Option Value} {base : Heap} {A : Nat → Addr} {FD : Nat → FuncData} {TK : Nat → Tok} {CC : Nat → Addr}
/-! ### _law_take -/
def spTake : Sp := fun vs H Q _ => ∃ (p : Addr) (m : Int) (c : Nat), vs = [.ref p, .int m] ∧ Pl H p c ∧ 0 < m ∧ m < 1073741824 ∧ c < 1000000 ∧
  ∀ (d : Int) (H' : Hp), 0 ≤ d → d < m → Pl H' p (c + 1) → Fx p H H' → Q (.int d) H'
set_option maxHeartbeats 4000000 in
theorem ok_l_take (T : TX K mg A FD TK CC) : FnOk P w K mg base CX0 1 (A 37) (FD 37) ["_law_pool_here", "_law_many"] spTake := by
  refine T.f_l_take.ok sc_l_take (fun vs H Q E h => ?_) (fun cdv A' outer s H vs Q E hr h => ?_)
  · obtain ⟨p, m, c, rfl, _⟩ := h
    rfl
  · obtain ⟨p, m, c, rfl, ⟨g, b, k, hp, hg, hb, hb2, hk⟩, hm, hm2, hc, q⟩ := h
    refine ⟨_, (pss_cons (ps_if (pt_cmpR op_gt (pe_ix (ixLK (K := K) rfl) (pv 0) pe_int (fun _ _ => rfl)) pe_int (nomark _))
      (pss_cons (ps_set (i := 2) sc_l_take.nd rfl (.inl rfl) (pe_op op_mod (pe_ix (ixLK (K := K) rfl) (pv 0) pe_int (fun _ _ => rfl)) (pv 1)))
      (pss_cons (ps_asg (pe_op op_fdiv (pe_ix (ixLK (K := K) rfl) (pv 0) pe_int (fun _ _ => rfl)) (pv 1)) (pg_sub (pv 0) pe_int set_list))
      (pss_one (ps_ret (pv 2)))))
      pss_nil)
      (pss_cons (ps_asg (pe_op op_add (pe_ix (ixLK (K := K) rfl) (pv 0) pe_int (fun _ _ => rfl)) pe_int) (pg_sub (pv 0) pe_int set_list))
      (pss_cons (ps_set (i := 3) sc_l_take.nd rfl (.inl rfl) (pe_ix (ixLK (K := K) rfl) (pv 0) pe_int (fun _ _ => rfl)))
      (pss_cons (ps_set (i := 4) sc_l_take.nd rfl (.inl rfl) (pe_op op_mod (pe_op op_pow (pe_op op_add (pe_op op_add (pe_ix (ixLK (K := K) rfl) (pv 0) pe_int (fun _ _ => rfl)) (pe_op op_mul (pe_op op_mul pe_int (pv 3)) (pv 3))) pe_int) pe_int) pe_int))
      (pss_cons (ps_set (i := 5) sc_l_take.nd rfl (.inl rfl) (pe_op op_mod (pe_op op_add (pe_op op_pow (pv 4) pe_int) (pe_op op_mul pe_int (pv 3))) pe_int))
      (pss_one (ps_ret (pe_op op_mod (pe_op op_fdiv (pe_op op_add (pe_op op_mul (pv 4) pe_int) (pe_op op_mul (pv 5) (pv 5))) pe_int) (pv 1))))))))), ?_⟩
    refine ⟨.ref p, rfl, p, _, 0, .int g, rfl, rfl, SqL.of hp, atI_nat (j := 0) rfl, g, 0, rfl, rfl, _, rfl, ite2 (fun e => ?_) (fun e => ?_)⟩
    · refine ⟨.ref p, rfl, p, _, 0, .int g, rfl, rfl, SqL.of hp, atI_nat (j := 0) rfl, .int m, rfl, g, m, rfl, rfl, hm, ?_⟩
      refine ⟨.ref p, rfl, p, _, 0, .int g, rfl, rfl, SqL.of hp, atI_nat (j := 0) rfl, .int m, rfl, g, m, rfl, rfl, ⟨hm, hm2⟩, .ref p, rfl, p, _, 0, 0, rfl, rfl, hp, rfl, ?_⟩
      refine ⟨.int (g % m), rfl, ?_⟩
      exact q _ _ (Int.emod_nonneg _ (by omega)) (Int.emod_lt_of_pos _ hm) ⟨g / m, b, k, upd_same, Int.ediv_nonneg hg (by omega), hb, hb2, by omega⟩ Fx.upd
    · have hp1 : (upd H p (.lst [.int g, .int b, .int ((k : Int) + 1)])) p = some (.lst [.int g, .int b, .int ((k : Int) + 1)]) := upd_same
      refine ⟨.ref p, rfl, p, _, 2, .int k, rfl, rfl, SqL.of hp, atI_nat (j := 2) rfl, k, 1, rfl, rfl, .ref p, rfl, p, _, 2, 2, rfl, rfl, hp, rfl, ?_⟩
      refine ⟨.ref p, rfl, p, _, 2, .int ((k : Int) + 1), rfl, rfl, SqL.of hp1, atI_nat (j := 2) rfl, ?_⟩
      have t0 : (0 : Int) ≤ (k : Int) + 1 := by omega
      have t1 : (k : Int) + 1 ≤ 1000000 := by omega
      have s1 : 0 ≤ 69621 * ((k : Int) + 1) ∧ 69621 * ((k : Int) + 1) ≤ 69621000000 := by omega
      have s2 : 0 ≤ 69621 * ((k : Int) + 1) * ((k : Int) + 1) := mul_nn s1.1 t0
      have s3 : 69621 * ((k : Int) + 1) * ((k : Int) + 1) ≤ 69621000000 * 1000000 := mul_le s1.1 s1.2 t0 t1
      refine ⟨.ref p, rfl, p, _, 1, .int b, rfl, rfl, SqL.of hp1, atI_nat (j := 1) rfl, .int ((k : Int) + 1), rfl, 69621, (k : Int) + 1, rfl, rfl, .inl ⟨by decide, by decide⟩, .int ((k : Int) + 1), rfl, 69621 * ((k : Int) + 1), (k : Int) + 1, rfl, rfl, .inl ⟨by omega, by omega⟩,
        b, 69621 * ((k : Int) + 1) * ((k : Int) + 1), rfl, rfl, b + 69621 * ((k : Int) + 1) * ((k : Int) + 1), 3, rfl, rfl, b + 69621 * ((k : Int) + 1) * ((k : Int) + 1) + 3, 3, rfl, rfl, ⟨by decide, by decide, natAbs_lt (by omega) (by omega)⟩,
        _, 2147483629, rfl, rfl, (show (0 : Int) < 2147483629 by decide), ?_⟩
      have o0 : 0 ≤ (b + 69621 * ((k : Int) + 1) * ((k : Int) + 1) + 3) ^ Int.toNat 3 % 2147483629 := Int.emod_nonneg _ (by decide)
      have o1 : (b + 69621 * ((k : Int) + 1) * ((k : Int) + 1) + 3) ^ Int.toNat 3 % 2147483629 < 2147483629 := Int.emod_lt_of_pos _ (by decide)
      dsimp only
      generalize (b + 69621 * ((k : Int) + 1) * ((k : Int) + 1) + 3) ^ Int.toNat 3 % 2147483629 = one at o0 o1 ⊢
      refine ⟨.int one, rfl, one, 3, rfl, rfl, ⟨by decide, by decide, natAbs_lt o0 (by omega)⟩, .int ((k : Int) + 1), rfl, 30011, (k : Int) + 1, rfl, rfl, .inl ⟨by decide, by decide⟩, _, _, rfl, rfl, _, 998244353, rfl, rfl, (show (0 : Int) < 998244353 by decide), ?_⟩
      have r0 : 0 ≤ (one ^ Int.toNat 3 + 30011 * ((k : Int) + 1)) % 998244353 := Int.emod_nonneg _ (by decide)
      have r1 : (one ^ Int.toNat 3 + 30011 * ((k : Int) + 1)) % 998244353 < 998244353 := Int.emod_lt_of_pos _ (by decide)
      dsimp only
      generalize (one ^ Int.toNat 3 + 30011 * ((k : Int) + 1)) % 998244353 = other at r0 r1 ⊢
      refine ⟨.int one, rfl, one, 998244353, rfl, rfl, .inl ⟨by omega, by omega⟩, .int other, rfl, .int other, rfl, other, other, rfl, rfl, .inl ⟨by omega, by omega⟩, _, _, rfl, rfl, _, 1013, rfl, rfl, (show (0 : Int) < 1013 ∧ (1013 : Int) < 1073741824 by decide), .int m, rfl, _, m, rfl, rfl, hm, ?_⟩
      exact q _ _ (Int.emod_nonneg _ (by omega)) (Int.emod_lt_of_pos _ hm) ⟨g, b, k + 1, upd_same, hg, hb, hb2, by omega⟩ Fx.upd

/-! ### _law_pool -/
def spPool (K : PySem.W.Frag) : Sp := fun vs H Q _ => ∃ (a : Addr) (ns : List Int) (j : Nat), vs = [.ref a, .int (j : Int)] ∧ SqL K H a (ns.map V.int) ∧ ns.length ≤ 63 ∧ j ≤ 1000 ∧
  ∀ (p : Addr) (H' : Hp), H p = none → Ex H H' → Pl H' p 0 → Q (.ref p) H'
set_option maxHeartbeats 4000000 in
theorem ok_l_pool (T : TX K mg A FD TK CC) : FnOk P w K mg base CX0 1 (A 36) (FD 36) ["_law_script", "_law_at"] (spPool K) := by
  refine T.f_l_pool.ok sc_l_pool (fun vs H Q E h => ?_) (fun cdv A' outer s H vs Q E hr h => ?_)
  · obtain ⟨a, ns, j, rfl, _⟩ := h
    rfl
  · obtain ⟨a, ns, j, rfl, hS, hn, hj, q⟩ := h
    refine ⟨_, (pss_cons (ps_set (i := 2) sc_l_pool.nd rfl (.inl rfl) pe_int)
      (pss_cut (ps_if (pt_cmpR op_lt (pv 1) (pe_callB (lenK (K := K) rfl) (by rfl) T.m_len (by decide +kernel) (pa_cons (pv 0) pa_nil)) (nomark _))
      (pss_one (ps_set (i := 2) sc_l_pool.nd rfl (.inl rfl) (pe_ix (ixLK (K := K) rfl) (pv 0) (pv 1) (fun _ _ => rfl))))
      pss_nil)
      (pss_cons (ps_set (i := 3) sc_l_pool.nd rfl (.inl rfl) (pe_callB call_abs (by rfl) T.m_abs (by decide +kernel) (pa_cons (pv 2) pa_nil)))
      (pss_one (ps_ret (pe_lst (pa_cons (pe_op op_mul (pv 3) (pe_callTy call_int1 (by rfl) T.m_int (by decide +kernel) (pa_cons (pe_cmpR op_ge (pv 3) (pe_op op_pow pe_int pe_int) (nomark _)) pa_nil))) (pa_cons (pe_op op_add (pe_op op_add (pe_op op_mul (pe_op op_mod (pv 2) pe_int) pe_int) (pe_op op_mul pe_int (pv 1))) pe_int) (pa_cons pe_int pa_nil))))))))), ?_⟩
    refine ⟨fun σ' H' => H' = H ∧ ∃ z : Int, σ' = [some (.ref a), some (.int (j : Int)), some (.int z), none], ?_, ?_⟩
    · refine ⟨.int (j : Int), rfl, .ref a, rfl, a, _, rfl, .inl hS, _, _, rfl, rfl, _, rfl, ite2 (fun e => ?_) (fun e => ?_)⟩
      · have e0 : (j : Int) < ((ns.map V.int).length : Int) := of_decide_eq_true e
        have e1 : j < ns.length := by
          rw [List.length_map] at e0
          omega
        refine ⟨.ref a, rfl, .int (j : Int), rfl, a, _, _, .int ns[j], rfl, rfl, hS, atI_nat (j := j) ?_, rfl, ns[j], rfl⟩
        rw [List.getElem?_map, List.getElem?_eq_getElem e1]
        rfl
      · exact ⟨rfl, 0, rfl⟩
    · rintro σ' H' ⟨rfl, z, rfl⟩
      refine ⟨.int z, rfl, z, rfl, ?_⟩
      have f0 : 0 ≤ (if z < 0 then -z else z) := by split <;> omega
      generalize (if z < 0 then -z else z) = far at f0 ⊢
      refine ⟨.int far, rfl, .int far, rfl, 10, 18, rfl, rfl, ⟨by decide, by decide, by decide⟩, far, _, rfl, rfl, .inr ⟨_, rfl, ?_⟩⟩
      generalize hd : decide ((10 : Int) ^ Int.toNat 18 ≤ far) = big
      have m0 : 0 ≤ z % 2147483647 := Int.emod_nonneg _ (by decide)
      have m1 : z % 2147483647 < 2147483647 := Int.emod_lt_of_pos _ (by decide)
      refine ⟨far, _, rfl, rfl, .inr ⟨?_, ?_⟩, ?_⟩
      · cases big <;> decide
      · cases big <;> decide
      refine ⟨.int z, rfl, z, 2147483647, rfl, rfl, (show (0 : Int) < 2147483647 by decide), ?_⟩
      dsimp only
      generalize z % 2147483647 = y at m0 m1 ⊢
      refine ⟨y, 48271, rfl, rfl, .inl ⟨by omega, by omega⟩, .int (j : Int), rfl, 7919, (j : Int), rfl, rfl, .inl ⟨by decide, by decide⟩, _, _, rfl, rfl, _, 31, rfl, rfl, (by show 3 ≤ sizeLine; decide), fun p np => ?_⟩
      refine q p _ np (ex_upd np) ⟨_, _, 0, upd_same, ?_, ?_, ?_, Nat.le_refl _⟩
      · cases big
        · show (0 : Int) ≤ far * 0
          omega
        · show (0 : Int) ≤ far * 1
          omega
      · omega
      · omega

/-! ### texts: words, pieces between blanks -/
/-- a word: one to twelve letters a to z -/
def isW (z : Str) : Bool := decide (1 ≤ z.cps.size) && decide (z.cps.size ≤ 12) && z.cps.toList.all fun c => decide (97 ≤ c) && decide (c ≤ 122)
def wordV : V → Bool
  | .str z => isW z
  | _ => false
/-- the things that are asked of -/
inductive Th (H : Hp) : V → Prop
  | str (z : Str) (h : z.length ≤ 100000) : Th H (.str z)
  | non : Th H .non
  | bl (b : Bool) : Th H (.bl b)
  | int (i : Int) : Th H (.int i)
  | lst {a : Addr} {xs : List V} (h : H a = some (.lst xs)) : Th H (.ref a)
  | tup {a : Addr} {xs : List V} (h : H a = some (.tup xs)) : Th H (.ref a)
theorem Th.ex {H H' : Hp} {v : V} (t : Th H v) (e : Ex H H') : Th H' v := by
  cases t with
  | str z h => exact .str z h
  | non => exact .non
  | bl b => exact .bl b
  | int i => exact .int i
  | lst h => exact .lst (e _ _ h)
  | tup h => exact .tup (e _ _ h)
theorem Th.exN {H H' : Hp} {v : V} (t : Th H v) (e : LamX.ExtN H H') : Th H' v := by
  cases t with
  | str z h => exact .str z h
  | non => exact .non
  | bl b => exact .bl b
  | int i => exact .int i
  | lst h => exact .lst (e _ _ h (by intro ps z; cases z))
  | tup h => exact .tup (e _ _ h (by intro ps z; cases z))
/-- a text, or a thing of another kind -/
theorem Th.kinds (K : PySem.W.Frag) {H : Hp} {v : V} (t : Th H v) : (∃ z, v = .str z ∧ z.length ≤ 100000) ∨ (∃ ty, TyX K H v (.type ty) ∧ kitB ty "str" = some false ∧ wordV v = false ∧ ∀ z, v ≠ .str z) := by
  cases t with
  | str z h => exact .inl ⟨z, rfl, h⟩
  | non => exact .inr ⟨_, .base .non, by decide +kernel, rfl, fun z e => by cases e⟩
  | bl b => exact .inr ⟨_, .base (.bl b), by decide +kernel, rfl, fun z e => by cases e⟩
  | int i => exact .inr ⟨_, .base (.int i), by decide +kernel, rfl, fun z e => by cases e⟩
  | lst h => exact .inr ⟨_, .base (.lst h), by decide +kernel, rfl, fun z e => by cases e⟩
  | tup h => exact .inr ⟨_, .base (.tup h), by decide +kernel, rfl, fun z e => by cases e⟩
theorem lt_one (a b : Nat) : decide (([a] : List Nat) < [b]) = decide (a < b) := by
  by_cases h : a < b
  · rw [decide_eq_true h]
    exact decide_eq_true (List.Lex.rel h)
  · rw [decide_eq_false h]
    refine decide_eq_false fun z => ?_
    cases z with
    | rel h' => exact h h'
    | cons h' => cases h'
theorem isW_len {z : Str} (h : isW z = true) : z.length ≤ 12 := by
  unfold isW at h
  rw [Bool.and_eq_true, Bool.and_eq_true, decide_eq_true_eq, decide_eq_true_eq] at h
  exact h.1.2
/-! ### split by a blank, joined again -/
theorem spl_len : ∀ (xs acc : List Nat), (spl [32] 0 acc xs).length ≤ xs.length + 1
  | [], acc => Nat.le_refl _
  | c :: r, acc => by
    rw [spl]
    split
    · have := spl_len r []
      show (spl [32] 0 [] r).length + 1 ≤ (c :: r).length + 1
      rw [List.length_cons]
      omega
    · have := spl_len r (acc ++ [c])
      rw [List.length_cons]
      omega
theorem spl_short : ∀ (xs acc : List Nat), ∀ p ∈ spl [32] 0 acc xs, p.length ≤ acc.length + xs.length
  | [], acc, p, h => by
    rw [spl, List.mem_singleton] at h
    rw [h]
    exact Nat.le_refl _
  | c :: r, acc, p, h => by
    rw [spl] at h
    split at h
    · rcases List.mem_cons.mp h with rfl | h
      · omega
      · have := spl_short r [] p h
        rw [List.length_nil] at this
        rw [List.length_cons]
        omega
    · have := spl_short r (acc ++ [c]) p h
      rw [List.length_append, List.length_cons, List.length_nil] at this
      rw [List.length_cons]
      omega
theorem spl_ne (xs acc : List Nat) : spl [32] 0 acc xs ≠ [] := by
  cases xs with
  | nil => rw [spl]; simp
  | cons c r =>
    rw [spl]
    split
    · simp
    · exact spl_ne r (acc ++ [c])
theorem joinL_cons {S p : List Nat} {q : List (List Nat)} (h : q ≠ []) : joinL S (p :: q) = p ++ (S ++ joinL S q) := by
  cases q with
  | nil => exact absurd rfl h
  | cons x r => rw [joinL]
theorem join_spl : ∀ (xs acc : List Nat), joinL [32] (spl [32] 0 acc xs) = acc ++ xs
  | [], acc => by
    rw [spl, joinL, List.append_nil]
  | c :: r, acc => by
    rw [spl]
    split
    · rename_i h
      have hc : c = 32 := by simpa [pre] using h
      show joinL [32] (acc :: spl [32] 0 [] r) = _
      rw [joinL_cons (spl_ne r []), join_spl r [], hc]
      simp
    · rw [join_spl r (acc ++ [c])]
      simp
theorem split_tl (z : Str) : (Txt.split z " ").map tl = spl [32] 0 [] (tl z) := split_spl z " " (by decide) (kind_ok (by decide +kernel))
theorem join_split (z : Str) : Txt.join " " (Txt.split z " ") = z := by
  refine ext_tl ?_
  rw [join_eq, tl_join, split_tl]
  exact (join_spl (tl z) []).trans (List.nil_append _)
theorem tl_len (z : Str) : (tl z).length = z.length := by
  show z.cps.toList.length = z.cps.size
  simp
theorem split_len (z : Str) : (Txt.split z " ").length ≤ z.length + 1 := by
  have h := spl_len (tl z) []
  rw [← split_tl, List.length_map, tl_len] at h
  exact h
theorem split_short {z p : Str} (h : p ∈ Txt.split z " ") : p.length ≤ z.length := by
  have h2 : tl p ∈ spl [32] 0 [] (tl z) := by
    rw [← split_tl]
    exact List.mem_map_of_mem h
  have h3 := spl_short _ _ _ h2
  rw [tl_len, tl_len, List.length_nil] at h3
  omega
/-- the words of a text, if it were one -/
def piecesOf (z : Str) : List Str := if z.length = 0 then [] else Txt.split z " "
def okP (ps : List Str) : Bool := decide (ps.length ≤ 120) && ps.all isW
theorem pieces_len (z : Str) : (piecesOf z).length ≤ z.length + 1 := by
  unfold piecesOf
  split
  · exact Nat.zero_le _
  · exact split_len z
theorem pieces_short {z p : Str} (h : p ∈ piecesOf z) : p.length ≤ z.length := by
  unfold piecesOf at h
  split at h
  · cases h
  · exact split_short h
theorem join_pieces (z : Str) : Txt.join " " (piecesOf z) = z := by
  unfold piecesOf
  split
  · rename_i h
    refine ext_tl ?_
    rw [join_eq, tl_join]
    have : tl z = [] := List.length_eq_zero_iff.mp (by rw [tl_len]; exact h)
    rw [this]
    rfl
  · exact join_split z
/-! ### lists of texts, compared -/
theorem isW_ok {z : Str} (h : isW z = true) : PyData.canLay0 (.str z) = true := by
  unfold isW at h
  rw [Bool.and_eq_true, List.all_eq_true] at h
  show z.cps.all (fun c => decide (c < 0x110000)) = true
  rw [← Array.all_toList, List.all_eq_true]
  intro c hc
  have := h.2 c hc
  rw [Bool.and_eq_true, decide_eq_true_eq, decide_eq_true_eq] at this
  exact decide_eq_true (by omega)
theorem dpS {K : PySem.W.Frag} {H : Hp} : ∀ zs : List Str, DpAll K H (zs.map V.str) (zs.map PyData.str)
  | [] => .nil
  | z :: r => .cons (.str z) (dpS r)
theorem shapeS {zs : List Str} (h : zs.all isW = true) : SeqAt.shaped (.list (zs.map PyData.str)) = true := by
  have h1 : ∀ zs : List Str, zs.all isW = true → PyData.canLayAll0 (zs.map PyData.str) = true := by
    intro zs
    induction zs with
    | nil => intro _; rfl
    | cons z r ih =>
      intro h
      rw [List.all_cons, Bool.and_eq_true] at h
      rw [List.map_cons, PyData.canLayAll0, isW_ok h.1, ih h.2]
      rfl
  have h2 : ∀ zs : List Str, PyData.depthAll (zs.map PyData.str) = 0 := by
    intro zs
    induction zs with
    | nil => rfl
    | cons z r ih =>
      rw [List.map_cons, PyData.depthAll, ih, PyData.depth]
      rfl
  unfold SeqAt.shaped
  rw [PyData.canLay0, PyData.depth, h1 zs h, h2 zs]
  rfl
theorem eqvS {zs : List Str} (h : zs.all isW = true) : PyData.eqv (.list (zs.map PyData.str)) (.list (zs.map PyData.str)) = true := by
  refine SeqAt.eqv_refl _ ?_
  have := shapeS h
  unfold SeqAt.shaped at this
  rw [Bool.and_eq_true] at this
  exact this.1
theorem no_str {x y : Str} {A B : Prop} (h : x ≠ y) (b : B) : if decide (V.str x = V.str y) = true then A else B := by
  rw [decide_eq_false fun z => h (V.str.inj z)]
  exact b
theorem yes_str {x : Str} {A B : Prop} (a : A) : if decide (V.str x = V.str x) = true then A else B := by
  rw [decide_eq_true rfl]
  exact a
theorem yes_le {c A B : Prop} [Decidable c] (h : c) (a : A) : if decide c = true then A else B := by
  rw [decide_eq_true h]
  exact a
theorem no_le {c A B : Prop} [Decidable c] (h : ¬ c) (b : B) : if decide c = true then A else B := by
  rw [decide_eq_false h]
  exact b
theorem joinL_len (S : List Nat) : ∀ ps : List (List Nat), (joinL S ps).length ≤ (ps.map List.length).sum + ps.length * S.length
  | [] => Nat.zero_le _
  | [p] => by
    rw [joinL, List.map_cons, List.sum_cons, List.map_nil, List.sum_nil]
    omega
  | p :: q :: r => by
    have ih := joinL_len S (q :: r)
    rw [joinL, List.length_append, List.length_append, List.map_cons, List.sum_cons, List.length_cons, Nat.add_mul, Nat.one_mul]
    omega
theorem join_len (y : Str) (ps : List Str) : (Txt.join y ps).length ≤ (ps.map (·.length)).sum + ps.length * y.length := by
  have h := joinL_len (tl y) (ps.map tl)
  rw [← tl_join, ← join_eq, tl_len, tl_len, List.length_map, List.map_map] at h
  rw [show (ps.map (·.length)) = ps.map (List.length ∘ tl) from List.map_congr_left fun p _ => (tl_len p).symm]
  exact h
theorem sum_le {ps : List Str} {n : Nat} (h : ∀ p ∈ ps, p.length ≤ n) : (ps.map (·.length)).sum ≤ ps.length * n := by
  induction ps with
  | nil => simp
  | cons p r ih =>
    have h1 := h p (List.mem_cons_self ..)
    have h2 := ih fun x hx => h x (List.mem_cons_of_mem _ hx)
    rw [List.map_cons, List.sum_cons, List.length_cons, Nat.add_mul, Nat.one_mul]
    omega

/-! ### is_whole, is_within, is_word, are_words -/
/-- a word: one to twelve letters a to z -/
def spWholeI : Sp := fun vs H Q _ => ∃ i : Int, vs = [.int i] ∧ RetV (.bl true) H Q
theorem ok_is_whole (T : TX K mg A FD TK CC) : FnOk P w K mg base CX0 1 (A 21) (FD 21) ["thing"] spWholeI := by
  refine T.f_is_whole.ok sc_is_whole (fun vs H Q E h => ?_) (fun cdv A' outer s H vs Q E hr h => ?_)
  · obtain ⟨i, rfl, _⟩ := h
    rfl
  · obtain ⟨i, rfl, q⟩ := h
    refine ⟨_, (pss_one (ps_ret (pe_and (pe_callB (isiK (K := K) rfl) (by rfl) T.m_isinstance (by decide +kernel) (pa_cons (pv 0) (pa_cons (pe_bltn (v := .ty "int") (by rfl) T.m_int (by decide +kernel) rfl) pa_nil))) (pe_one (pe_not (pe_callB (isiK (K := K) rfl) (by rfl) T.m_isinstance (by decide +kernel) (pa_cons (pv 0) (pa_cons (pe_bltn (v := .ty "bool") (by rfl) T.m_bool (by decide +kernel) rfl) pa_nil)))))))), ?_⟩
    refine ⟨.int i, rfl, .int i, .ty "int", .type "int", .type "int", true, rfl, .ty _, .base (.int i), kit_ty (by decide +kernel), true, rfl, iteT ?_⟩
    exact ⟨.int i, rfl, .int i, .ty "bool", .type "int", .type "bool", false, rfl, .ty _, .base (.int i), kit_ty (by decide +kernel), false, rfl, ret_v q⟩
def spWithinI : Sp := fun vs H Q _ => ∃ i lo hi : Int, vs = [.int i, .int lo, .int hi] ∧ RetV (.bl (decide (lo ≤ i) && decide (i ≤ hi))) H Q
theorem ok_is_within (T : TX K mg A FD TK CC) : FnOk P w K mg base CX0 2 (A 22) (FD 22) ["thing", "least", "most"] spWithinI := by
  have G_is_whole := ok_is_whole (P := P) (w := w) (base := base) T
  refine T.f_is_within.ok sc_is_within (fun vs H Q E h => ?_) (fun cdv A' outer s H vs Q E hr h => ?_)
  · obtain ⟨i, lo, hi, rfl, _⟩ := h
    rfl
  · obtain ⟨i, lo, hi, rfl, q⟩ := h
    refine ⟨_, (pss_one (ps_ret (pe_and (pe_call G_is_whole hr (by rfl) T.g_is_whole T.f_is_whole.kp T.b_is_whole .nil pass0 (pa_cons (pv 0) pa_nil)) (pe_one (pe_chain op_le op_le (pv 1) (pv 0) (pv 2)))))), ?_⟩
    refine ⟨.int i, rfl, i, rfl, fun H1 e1 => ⟨true, rfl, iteT ?_⟩⟩
    refine ⟨.int lo, rfl, .int i, rfl, lo, i, rfl, rfl, _, rfl, ite2 (fun c => ?_) (fun c => ?_)⟩
    · refine ⟨.int hi, rfl, i, hi, rfl, rfl, ?_⟩
      have z := q.go e1
      rw [c, Bool.true_and] at z
      exact z
    · have z := q.go e1
      rw [Bool.eq_false_iff.mpr c, Bool.false_and] at z
      exact z
def spWordS : Sp := fun vs H Q _ => ∃ z : Str, vs = [.str z] ∧ z.length ≤ 100000 ∧ RetV (.bl (isW z)) H Q
set_option maxHeartbeats 4000000 in
theorem ok_is_word (T : TX K mg A FD TK CC) : FnOk P w K mg base CX0 1 (A 26) (FD 26) ["thing"] spWordS := by
  refine T.f_is_word.ok sc_is_word (fun vs H Q E h => ?_) (fun cdv A' outer s H vs Q E hr h => ?_)
  · obtain ⟨z, rfl, _⟩ := h
    rfl
  · obtain ⟨z, rfl, hz, q⟩ := h
    refine ⟨_, (pss_cons (ps_if (PW.pt (pw_or (pt_not (pt_val (pe_callB (isiK (K := K) rfl) (by rfl) T.m_isinstance (by decide +kernel) (pa_cons (pv 0) (pa_cons (pe_bltn (v := .ty "str") (by rfl) T.m_str (by decide +kernel) rfl) pa_nil))))) (pw_or1 (pt_not (pt_chain op_le op_le pe_int (pe_callB call_len_str (by rfl) T.m_len (by decide +kernel) (pa_cons (pv 0) pa_nil)) (pe_glob (v := .int 12) (by rfl) T.c_MOST_LETTERS ⟨_, rfl⟩))))))
      (pss_one (ps_ret pe_bl))
      pss_nil)
      (pss_one (ps_ret (pe_callB (allK (K := K) rfl rfl) (by rfl) T.m_all (by decide +kernel) (pa_cons (pe_lc (own := [("sign", 1)])  rfl sc_is_word.nd (pi_str (pv 0)) (blkOk_by (own := [("sign", 1)]) (N := N_is_word) (sc := defScope (topS 26)) (by decide +kernel)) (fun _ _ _ _ _ => (pg_name (i := 1) sc_is_word.nd rfl (Or.inl rfl))) (fun _ _ _ _ _ => pts_nil) (fun _ _ _ _ _ => (pe_chain op_le_str op_le_str pe_str (pv 1) pe_str))) pa_nil))))), ?_⟩
    refine ⟨.str z, rfl, .str z, .ty "str", .type "str", .type "str", true, rfl, .ty _, .base (.str z), kit_ty (by decide +kernel), true, rfl, iteF ?_⟩
    have no : ¬ (decide ((1 : Int) ≤ (z.length : Int)) = true ∧ decide ((z.length : Int) ≤ 12) = true) → isW z = false := fun h => by
      unfold isW
      have e : z.length = z.cps.size := rfl
      by_cases h1 : 1 ≤ z.cps.size
      · by_cases h2 : z.cps.size ≤ 12
        · exact absurd ⟨decide_eq_true (by omega), decide_eq_true (by omega)⟩ h
        · rw [decide_eq_false h2, Bool.and_false, Bool.false_and]
      · rw [decide_eq_false h1, Bool.false_and, Bool.false_and]
    refine ⟨.str z, rfl, z, rfl, sz hz, 1, (z.length : Int), rfl, rfl, _, rfl, ite2 (fun c1 => ?_) (fun c1 => ?_)⟩
    · refine ⟨(z.length : Int), 12, rfl, rfl, _, rfl, ?_⟩
      by_cases c2 : (z.length : Int) ≤ 12
      · rw [decide_eq_true c2]
        refine iteF ?_
        have e : z.length = z.cps.size := rfl
        have c1' : (1 : Int) ≤ (z.length : Int) := of_decide_eq_true c1
        refine ⟨.str z, rfl, z, rfl, fun D hD => ?_⟩
        refine lc_it (walk_str (z := z)) (fun i H' => Ex H H' ∧ H' D = some (.lst ((z.cps.toList.take i).map fun c => .bl (decide (97 ≤ c) && decide (c ≤ 122))))) ⟨Ex.new hD, upd_same⟩ (fun _ _ _ _ => True.intro) (fun i x H1 H2 hi p y => ?_) (fun H1 p => ?_)
        · obtain ⟨p1, p2⟩ := p
          obtain ⟨rfl, c, hc, rfl⟩ := y
          have g : z.cps.toList[i]? = some c := by
            rw [Array.getElem?_toList]
            exact hc
          have stepE : (z.cps.toList.take (i + 1)).map (fun c => V.bl (decide (97 ≤ c) && decide (c ≤ 122))) = (z.cps.toList.take i).map (fun c => V.bl (decide (97 ≤ c) && decide (c ≤ 122))) ++ [V.bl (decide (97 ≤ c) && decide (c ≤ 122))] := by
            rw [List.take_add_one, g, List.map_append]
            rfl
          have lenE : ((z.cps.toList.take i).map (fun c => V.bl (decide (97 ≤ c) && decide (c ≤ 122)))).length < sizeLine := by
            rw [List.length_map, List.length_take]
            refine sz_lt ?_
            have : z.cps.toList.length = z.cps.size := by simp
            omega
          refine ⟨rfl, .str ⟨#[c]⟩, rfl, _, _, rfl, rfl, _, rfl, ?_⟩
          have e1 : (!decide (((⟨#[c]⟩ : Str).cps.toList) < (Str.ofString "a").cps.toList)) = decide (97 ≤ c) := by
            show (!decide ([c] < [97])) = _
            rw [lt_one]
            by_cases h : 97 ≤ c
            · rw [decide_eq_true h, decide_eq_false (by omega)]
              rfl
            · rw [decide_eq_false h, decide_eq_true (by omega)]
              rfl
          have e2 : (!decide ((Str.ofString "z").cps.toList < (⟨#[c]⟩ : Str).cps.toList)) = decide (c ≤ 122) := by
            show (!decide ([122] < [c])) = _
            rw [lt_one]
            by_cases h : c ≤ 122
            · rw [decide_eq_true h, decide_eq_false (by omega)]
              rfl
            · rw [decide_eq_false h, decide_eq_true (by omega)]
              rfl
          refine ite2 (fun b1 => ?_) (fun b1 => ?_)
          · refine ⟨_, _, rfl, rfl, _, p2, lenE, Ex.mut p1 hD, ?_⟩
            rw [upd_same, stepE, ← e1, ← e2, b1, Bool.true_and]
          · refine ⟨_, p2, lenE, Ex.mut p1 hD, ?_⟩
            rw [upd_same, stepE, ← e1, Bool.eq_false_iff.mpr b1, Bool.false_and]
        · obtain ⟨p1, p2⟩ := p
          refine ⟨D, (z.cps.toList.map fun c => (decide (97 ≤ c) && decide (c ≤ 122))), rfl, SqL.of ?_, ?_⟩
          · rw [p2, List.take_of_length_le (by simp), List.map_map]
            rfl
          · have v := q.go p1
            have ev : isW z = ((z.cps.toList.map fun c => (decide (97 ≤ c) && decide (c ≤ 122))).all id) := by
              unfold isW
              rw [decide_eq_true (by omega), decide_eq_true (by omega), List.all_map]
              rfl
            rw [ev] at v
            exact v
      · rw [decide_eq_false c2]
        refine iteT ?_
        have v := ret_v q
        rw [no (fun h => c2 (of_decide_eq_true h.2))] at v
        exact v
    · have v := ret_v q
      rw [no (fun h => c1 h.1)] at v
      exact ⟨false, rfl, v⟩
/-- a list or a tuple of texts -/
def spWordsT (K : PySem.W.Frag) : Sp := fun vs H Q _ => ∃ (a : Addr) (zs : List Str), vs = [.ref a] ∧ (SqL K H a (zs.map V.str) ∨ SqT K H a (zs.map V.str)) ∧ zs.length ≤ 1000 ∧ (∀ z ∈ zs, z.length ≤ 100000) ∧ RetV (.bl (zs.all isW)) H Q
set_option maxHeartbeats 4000000 in
theorem ok_are_words (T : TX K mg A FD TK CC) : FnOk P w K mg base CX0 2 (A 27) (FD 27) ["things"] (spWordsT K) := by
  have G_is_word := ok_is_word (P := P) (w := w) (base := base) T
  refine T.f_are_words.ok sc_are_words (fun vs H Q E h => ?_) (fun cdv A' outer s H vs Q E hr h => ?_)
  · obtain ⟨a, zs, rfl, _⟩ := h
    rfl
  · obtain ⟨a, zs, rfl, hS, hl, hz, q⟩ := h
    refine ⟨_, (pss_one (ps_ret (pe_callB (allK (K := K) rfl rfl) (by rfl) T.m_all (by decide +kernel) (pa_cons (pe_lc (own := [("thing", 1)])  rfl sc_are_words.nd (piOr (piLK (K := K) rfl (pv 0)) (piTK (K := K) rfl (pv 0))) (blkOk_by (own := [("thing", 1)]) (N := N_are_words) (sc := defScope (topS 27)) (by decide +kernel)) (fun _ _ _ _ _ => (pg_name (i := 1) sc_are_words.nd rfl (Or.inl rfl))) (fun _ _ _ _ _ => pts_nil) (fun _ _ _ _ _ => (pe_call G_is_word hr (by rfl) T.g_is_word T.f_is_word.kp T.b_is_word .nil pass0 (pa_cons (pv 1) pa_nil)))) pa_nil)))), ?_⟩
    have fin : ∀ D H1, Ex H H1 → H1 D = some (.lst ((zs.take zs.length).map fun z => .bl (isW z))) → ∃ (p : Addr) (bs : List Bool), [V.ref D] = [V.ref p] ∧ SqL K H1 p (bs.map V.bl) ∧ Q (.bl (bs.all id)) H1 := fun D H1 p1 p2 => by
      refine ⟨D, zs.map isW, rfl, SqL.of ?_, ?_⟩
      · rw [p2, List.take_of_length_le (Nat.le_refl _), List.map_map]
        rfl
      · have v := q.go p1
        rw [show ((zs.map isW).all id) = zs.all isW by rw [List.all_map]; rfl]
        exact v
    have step : ∀ (D : Addr) (i : Nat) (x : V) (H1 : Hp), H D = none → (zs.map V.str)[i]? = some x → Ex H H1 ∧ H1 D = some (.lst ((zs.take i).map fun z => .bl (isW z))) → ∃ z, x = .str z ∧ z.length ≤ 100000 ∧ ∀ H2, Ex H1 H2 → ∃ acc, H2 D = some (.lst acc) ∧ acc.length < sizeLine ∧ Ex H (upd H2 D (.lst (acc ++ [.bl (isW z)]))) ∧ (upd H2 D (.lst (acc ++ [.bl (isW z)]))) D = some (.lst ((zs.take (i + 1)).map fun z => .bl (isW z))) := fun D i x H1 hD hx p => by
      obtain ⟨p1, p2⟩ := p
      rw [List.getElem?_map] at hx
      obtain ⟨z, g, rfl⟩ := Option.map_eq_some_iff.mp hx
      refine ⟨z, rfl, hz z (List.mem_of_getElem? g), fun H2 e2 => ⟨_, e2 _ _ p2, ?_, Ex.mut (p1.trans e2) hD, ?_⟩⟩
      · rw [List.length_map, List.length_take]
        exact sz_lt (by omega)
      · rw [upd_same, List.take_add_one, g, List.map_append]
        rfl
    rcases hS with hS | hS
    · refine .inl ⟨.ref a, rfl, a, rfl, ⟨_, hS⟩, fun D hD => ?_⟩
      refine lc_list (xs := zs.map V.str) (fun i H' => Ex H H' ∧ H' D = some (.lst ((zs.take i).map fun z => .bl (isW z)))) ⟨Ex.new hD, upd_same⟩ (fun i H' _ p => ex_l p.1 hS) (fun i x H1 hx p => ?_) (fun H1 p => ?_)
      · obtain ⟨z, rfl, hz', k⟩ := step D i x H1 hD hx p
        exact ⟨rfl, .str z, rfl, z, rfl, hz', fun H2 e2 => k H2 e2⟩
      · rw [List.length_map] at p
        exact fin D H1 p.1 p.2
    · refine .inr ⟨.ref a, rfl, a, rfl, ⟨_, hS⟩, fun D hD => ?_⟩
      refine lc_tup (xs := zs.map V.str) (fun i H' => Ex H H' ∧ H' D = some (.lst ((zs.take i).map fun z => .bl (isW z)))) ⟨Ex.new hD, upd_same⟩ (fun i H' _ p => ex_t p.1 hS) (fun i x H1 hx p => ?_) (fun H1 p => ?_)
      · obtain ⟨z, rfl, hz', k⟩ := step D i x H1 hD hx p
        exact ⟨rfl, .str z, rfl, z, rfl, hz', fun H2 e2 => k H2 e2⟩
      · rw [List.length_map] at p
        exact fin D H1 p.1 p.2

/-! ### words joined by blanks -/
theorem no32 {z : Str} (h : isW z = true) : 32 ∉ tl z := fun m => by
  unfold isW at h
  rw [Bool.and_eq_true, List.all_eq_true] at h
  have := h.2 32 m
  revert this
  decide
theorem isW_one {z : Str} (h : isW z = true) : 1 ≤ z.length := by
  unfold isW at h
  rw [Bool.and_eq_true, Bool.and_eq_true, decide_eq_true_eq, decide_eq_true_eq] at h
  exact h.1.1
theorem pieces_join {zs : List Str} (h : zs.all isW = true) : piecesOf (Txt.join " " zs) = zs := by
  cases zs with
  | nil => decide +kernel
  | cons z r =>
    have h1 : isW z = true := by
      rw [List.all_cons, Bool.and_eq_true] at h
      exact h.1
    have h2 : ¬ (Txt.join " " (z :: r)).length = 0 := by
      have e : (tl (Txt.join " " (z :: r))).length = (Txt.join " " (z :: r)).length := tl_len _
      rw [join_eq, tl_join] at e
      have l1 := isW_one h1
      rw [← tl_len] at l1
      intro e0
      rw [join_eq] at e0
      rw [e0, List.map_cons] at e
      cases r with
      | nil =>
        have e : (tl z).length = 0 := e
        omega
      | cons y t =>
        rw [List.map_cons, joinL, List.length_append] at e
        omega
    unfold piecesOf
    rw [if_neg h2]
    exact split_join (y := " ") (s := 32) (S := []) (by decide +kernel) (by decide +kernel) (by simp) fun p hp => no32 (List.all_eq_true.mp h p hp)
theorem len_sum (zs : List Str) (h : zs.all isW = true) : (zs.map (·.length)).sum ≤ 12 * zs.length := by
  induction zs with
  | nil => exact Nat.le_refl _
  | cons z r ih =>
    rw [List.all_cons, Bool.and_eq_true] at h
    have := ih h.2
    have := isW_len h.1
    rw [List.map_cons, List.sum_cons, List.length_cons]
    omega
theorem eqvAllS : ∀ zs ys : List Str, PyData.eqvAll (zs.map PyData.str) (ys.map PyData.str) = decide (zs = ys)
  | [], [] => by simp [PyData.eqvAll]
  | [], y :: ys => by simp [PyData.eqvAll]
  | z :: zs, [] => by simp [PyData.eqvAll]
  | z :: zs, y :: ys => by
    rw [List.map_cons, List.map_cons, PyData.eqvAll, eqvAllS zs ys, PyData.eqv]
    by_cases h1 : z = y
    · subst h1
      by_cases h2 : zs = ys
      · simp [h2]
      · simp [h2]
    · rw [show (z == y) = false from beq_eq_false_iff_ne.mpr h1, Bool.false_and]
      simp [h1]
theorem eqvL2 (zs ys : List Str) : PyData.eqv (.list (zs.map PyData.str)) (.list (ys.map PyData.str)) = decide (zs = ys) := by
  rw [PyData.eqv]
  exact eqvAllS zs ys
theorem eqvT2 (zs ys : List Str) : PyData.eqv (.tuple (zs.map PyData.str)) (.tuple (ys.map PyData.str)) = decide (zs = ys) := by
  rw [PyData.eqv]
  exact eqvAllS zs ys
theorem shapeT {zs : List Str} (h : zs.all isW = true) : SeqAt.shaped (.tuple (zs.map PyData.str)) = true := by
  have := shapeS h
  unfold SeqAt.shaped at this ⊢
  rw [show PyData.canLay0 (.tuple (zs.map PyData.str)) = PyData.canLay0 (.list (zs.map PyData.str)) by simp only [PyData.canLay0], show PyData.depth (.tuple (zs.map PyData.str)) = PyData.depth (.list (zs.map PyData.str)) by simp only [PyData.depth]]
  exact this
/-- signs that stand for themselves -/
theorem plain_sign : ∀ c, c < 123 → (c = 32 ∨ 97 ≤ c) → Builtin.Str.reprChar 39 c = [c] := by decide +kernel
theorem foldl_plain : ∀ (l : List Nat) (acc : Array Nat), (∀ c ∈ l, c = 32 ∨ (97 ≤ c ∧ c ≤ 122)) → l.foldl (fun out c => out ++ (Builtin.Str.reprChar 39 c).toArray) acc = acc ++ l.toArray
  | [], acc, _ => by simp
  | c :: r, acc, h => by
    have hc := h c (List.mem_cons_self ..)
    rw [List.foldl_cons, plain_sign c (by omega) (by omega), foldl_plain r _ fun d hd => h d (List.mem_cons_of_mem _ hd)]
    simp
theorem mem_joinL {c s : Nat} : ∀ {ps : List (List Nat)}, c ∈ joinL [s] ps → c = s ∨ ∃ p ∈ ps, c ∈ p
  | [], h => by cases h
  | [p], h => .inr ⟨p, List.mem_cons_self .., h⟩
  | p :: q :: r, h => by
    rw [joinL] at h
    rcases List.mem_append.mp h with h | h
    · exact .inr ⟨p, List.mem_cons_self .., h⟩
    · rcases List.mem_append.mp h with h | h
      · exact .inl (List.mem_singleton.mp h)
      · rcases mem_joinL h with h | ⟨x, hx, h⟩
        · exact .inl h
        · exact .inr ⟨x, List.mem_cons_of_mem _ hx, h⟩
theorem join_plain {zs : List Str} (h : zs.all isW = true) : ∀ c ∈ tl (Txt.join " " zs), c = 32 ∨ (97 ≤ c ∧ c ≤ 122) := by
  intro c hc
  rw [join_eq, tl_join] at hc
  rcases mem_joinL (s := 32) hc with h2 | ⟨p, hp, h2⟩
  · exact .inl h2
  · obtain ⟨z, hz, rfl⟩ := List.mem_map.mp hp
    have w := List.all_eq_true.mp h z hz
    unfold isW at w
    rw [Bool.and_eq_true, List.all_eq_true] at w
    have := w.2 c h2
    rw [Bool.and_eq_true, decide_eq_true_eq, decide_eq_true_eq] at this
    exact .inr this
theorem repr_join {zs : List Str} (h : zs.all isW = true) : reprText (Txt.join " " zs) = Str.ofString "'" ++ Txt.join " " zs ++ Str.ofString "'" := by
  have hp := join_plain h
  generalize Txt.join " " zs = z at hp ⊢
  have hq : reprQuote z = 39 := by
    unfold reprQuote
    have : z.cps.contains 39 = false := by
      rw [Bool.eq_false_iff]
      intro hc
      have := hp 39 (by
        show 39 ∈ z.cps.toList
        simpa using hc)
      omega
    rw [this, Bool.false_and]
    rfl
  refine ext_tl ?_
  unfold reprText
  rw [hq]
  show ((z.cps.foldl (fun out c => out ++ (Builtin.Str.reprChar 39 c).toArray) #[39]).push 39).toList = _
  rw [← Array.foldl_toList, foldl_plain _ _ hp]
  show _ = (Str.ofString "'" ++ z ++ Str.ofString "'").cps.toList
  show _ = ((Str.ofString "'").cps ++ z.cps ++ (Str.ofString "'").cps).toList
  rw [show (Str.ofString "'").cps = #[39] by decide +kernel]
  simp
theorem join_le {zs : List Str} (h : zs.all isW = true) (hl : zs.length ≤ 120) : (Txt.join " " zs).length ≤ 1560 := by
  have h1 := join_len " " zs
  have h2 := len_sum zs h
  rw [show (Str.ofString " ").length = 1 by decide +kernel] at h1
  omega

/-! ### _law_kinds -/
def nine : List Str := ["a", "b", "ab", "ba", "aa", "bab", "abcdefghijkl", "z", "aab"]
theorem nineW : (nine ++ nine).all isW = true := by decide +kernel
theorem nine_cut (j k : Nat) (hj : j < 9) (hk : k < 5) : ∃ zs : List Str, cutV (nine.map V.str ++ nine.map V.str) (some (j : Int)) (some ((j : Int) + 1 + (k : Int))) = zs.map V.str ∧ 1 ≤ zs.length ∧ zs.length ≤ 5 ∧ zs.all isW = true := by
  refine ⟨((nine ++ nine).drop j).take (1 + k), ?_, ?_, ?_, ?_⟩
  · unfold cutV
    rw [show ((j : Int) + 1 + (k : Int)) = ((j + 1 + k : Nat) : Int) by omega, HT.sIx_nat, HT.sIx_nat, ← List.map_append, List.length_map]
    rw [show (nine ++ nine).length = 18 from rfl, show min j 18 = j by omega, show min (j + 1 + k) 18 - j = 1 + k by omega, List.map_take, List.map_drop]
  · rw [List.length_take, List.length_drop, show (nine ++ nine).length = 18 from rfl]
    omega
  · rw [List.length_take, List.length_drop, show (nine ++ nine).length = 18 from rfl]
    omega
  · rw [List.all_eq_true]
    intro x hx
    exact List.all_eq_true.mp nineW x (List.mem_of_mem_drop (List.mem_of_mem_take hx))
/-- a list of one to five words at a -/
def Kn (H : Hp) (a : Addr) (zs : List Str) : Prop := H a = some (.lst (zs.map V.str)) ∧ 1 ≤ zs.length ∧ zs.length ≤ 5 ∧ zs.all isW = true
theorem Kn.ne {H : Hp} {a p : Addr} {zs : List Str} {c : Nat} (h : Kn H a zs) (hp : Pl H p c) : a ≠ p := by
  obtain ⟨g, b, k, h1, _⟩ := hp
  obtain ⟨h2, h3, _⟩ := h
  refine ne_of h2 h1 fun z => ?_
  cases zs with
  | nil => simp at h3
  | cons x r =>
    injection z with z
    rw [List.map_cons] at z
    injection z with z _
    cases z
theorem Kn.fx {H H' : Hp} {a p : Addr} {zs : List Str} {c : Nat} (h : Kn H a zs) (hp : Pl H p c) (f : Fx p H H') : Kn H' a zs := ⟨f a _ (h.ne hp) h.1, h.2⟩
theorem Kn.ex {H H' : Hp} {a : Addr} {zs : List Str} (h : Kn H a zs) (e : Ex H H') : Kn H' a zs := ⟨e _ _ h.1, h.2⟩
def spKinds : Sp := fun vs H Q _ => ∃ (p : Addr) (c : Nat), vs = [.ref p] ∧ Pl H p c ∧ c < 900000 ∧ ∀ (l : Addr) (zs : List Str) (H' : Hp), H l = none → Kn H' l zs → Pl H' p (c + 2) → Fx p H H' → Q (.ref l) H'
set_option maxHeartbeats 8000000 in
theorem ok_l_kinds (T : TX K mg A FD TK CC) : FnOk P w K mg base CX0 2 (A 40) (FD 40) ["_law_pool_here"] spKinds := by
  have G_l_take := ok_l_take (P := P) (w := w) (base := base) T
  refine T.f_l_kinds.ok (k := 1) sc_l_kinds (fun vs H Q E h => ?_) (fun cdv A' outer s H vs Q E hr h => ?_)
  · obtain ⟨p, c, rfl, _⟩ := h
    rfl
  · obtain ⟨p, c, rfl, hp, hc, q⟩ := h
    refine ⟨_, (pss_cons (ps_set (i := 1) sc_l_kinds.nd rfl (.inl rfl) (pe_lst (pa_cons pe_str (pa_cons pe_str (pa_cons pe_str (pa_cons pe_str (pa_cons pe_str (pa_cons pe_str (pa_cons pe_str (pa_cons pe_str (pa_cons pe_str pa_nil)))))))))))
      (pss_cons (ps_set (i := 2) sc_l_kinds.nd rfl (.inl rfl) (pe_call G_l_take hr (by rfl) T.g_l_take T.f_l_take.kp T.b_l_take .nil pass0 (pa_cons (pv 0) (pa_cons pe_int pa_nil))))
      (pss_one (ps_ret (pe_slice (slLK (K := K) rfl) (pe_op op_cat (pv 1) (pv 1)) (po_some (pv 2)) (po_some (pe_op op_add (pe_op op_add (pv 2) pe_int) (pe_call G_l_take hr (by rfl) T.g_l_take T.f_l_take.kp T.b_l_take .nil pass0 (pa_cons (pv 0) (pa_cons pe_int pa_nil)))))))))), ?_⟩
    refine ⟨by show 9 ≤ sizeLine; decide, fun s0 n0 => ?_⟩
    have e1 : Ex H (upd H s0 (.lst (nine.map V.str))) := Ex.new n0
    have hs1 : (upd H s0 (.lst (nine.map V.str))) s0 = some (.lst (nine.map V.str)) := upd_same
    have nsp : s0 ≠ p := by
      obtain ⟨xs, hx⟩ := hp.some
      exact (ne_of_none hx n0).symm
    refine ⟨.ref p, rfl, p, 9, c, rfl, hp.ex e1, by decide, by decide, by omega, fun d H2 d0 d1 hp2 f2 => ?_⟩
    have hs2 : H2 s0 = some (.lst (nine.map V.str)) := f2 _ _ nsp hs1
    refine ⟨.ref s0, rfl, .ref s0, rfl, s0, s0, _, _, rfl, rfl, hs2, hs2, by show 18 ≤ sizeLine; decide, fun r nr => ?_⟩
    have e3 : Ex H2 (upd H2 r (.lst (nine.map V.str ++ nine.map V.str))) := Ex.new nr
    have hr3 : (upd H2 r (.lst (nine.map V.str ++ nine.map V.str))) r = some (.lst (nine.map V.str ++ nine.map V.str)) := upd_same
    have nrp : r ≠ p := by
      obtain ⟨xs, hx⟩ := hp2.some
      exact (ne_of_none hx nr).symm
    refine ⟨.int d, rfl, d, rfl, .int d, rfl, d, 1, rfl, rfl, .ref p, rfl, p, 5, c + 1, rfl, hp2.ex e3, by decide, by decide, by omega, fun k H4 k0 k1 hp4 f4 => ?_⟩
    refine ⟨d + 1, k, rfl, rfl, d + 1 + k, rfl, r, _, rfl, SqL.of (f4 _ _ nrp hr3), fun l nl => ?_⟩
    obtain ⟨j, rfl⟩ := Int.eq_ofNat_of_zero_le d0
    obtain ⟨i, rfl⟩ := Int.eq_ofNat_of_zero_le k0
    obtain ⟨zs, ez, l1, l5, hw⟩ := nine_cut j i (by omega) (by omega)
    have fr : Fx p H H4 := ((Fx.ex e1).trans f2).trans ((Fx.ex e3).trans f4)
    refine q l zs _ (fx_free fr hp4 nl) ⟨?_, l1, l5, hw⟩ (hp4.ex (Ex.new nl)) (fr.trans (Fx.ex (Ex.new nl)))
    rw [upd_same, ez]

/-! ### _law_words, of any most -/
theorem pool_ne {H : Hp} {p a : Addr} {c : Nat} (h : Pl H p c) (n : H a = none) : a ≠ p := by
  obtain ⟨xs, hx⟩ := h.some
  exact (ne_of_none hx n).symm
theorem pl_upd {H : Hp} {p a : Addr} {c : Nat} {o : HO} (h : Pl H p c) (n : a ≠ p) : Pl (upd H a o) p c := by
  obtain ⟨g, b, k, x1, x2⟩ := h
  exact ⟨g, b, k, by rw [upd_ne n.symm]; exact x1, x2⟩
theorem at_word {zs : List Str} {d : Int} (h0 : 0 ≤ d) (h1 : d < (zs.length : Int)) (hw : zs.all isW = true) : ∃ z : Str, atI (zs.map V.str) d = some (.str z) ∧ isW z = true := by
  obtain ⟨j, rfl⟩ := Int.eq_ofNat_of_zero_le h0
  have hj : j < zs.length := by omega
  refine ⟨zs[j], atI_nat ?_, List.all_eq_true.mp hw _ (List.getElem_mem hj)⟩
  rw [List.getElem?_map, List.getElem?_eq_getElem hj]
  rfl
def spWordsK : Sp := fun vs H Q _ => ∃ (p kk : Addr) (zs : List Str) (c m : Nat), vs = [.ref p, .ref kk, .int (m : Int)] ∧ m ≤ 100 ∧ Pl H p c ∧ Kn H kk zs ∧ c < 900000 ∧ ∀ (l : Addr) (ys : List Str) (H' : Hp), l ≠ p → H l = none → H' l = some (.lst (ys.map V.str)) → ys.length ≤ m → ys.all isW = true → Pl H' p (c + 1 + m) → Fx p H H' → Q (.ref l) H'
set_option maxHeartbeats 8000000 in
theorem ok_l_words (T : TX K mg A FD TK CC) : FnOk P w K mg base CX0 2 (A 41) (FD 41) ["_law_pool_here", "_law_kinds_here", "_law_most"] spWordsK := by
  have G_l_take := ok_l_take (P := P) (w := w) (base := base) T
  refine T.f_l_words.ok (k := 1) sc_l_words (fun vs H Q E h => ?_) (fun cdv A' outer s H vs Q E hr h => ?_)
  · obtain ⟨p, kk, zs, c, m, rfl, _⟩ := h
    rfl
  · obtain ⟨p, kk, zs, c, m, rfl, hm, hp, hk, hc, q⟩ := h
    refine ⟨_, (pss_one (ps_ret (pe_lc (own := [("_law_k", 3)])  rfl sc_l_words.nd (pi_range1 (by rfl) T.m_range (pa_cons (pe_call G_l_take hr (by rfl) T.g_l_take T.f_l_take.kp T.b_l_take .nil pass0 (pa_cons (pv 0) (pa_cons (pe_op op_add (pv 2) pe_int) pa_nil))) pa_nil)) (blkOk_by (own := [("_law_k", 3)]) (N := N_l_words) (sc := defScope (topS 41)) (by decide +kernel)) (fun _ _ _ _ _ => (pg_name (i := 3) sc_l_words.nd rfl (Or.inl rfl))) (fun _ _ _ _ _ => pts_nil) (fun _ _ _ _ _ => (pe_ix (ixLK (K := K) rfl) (pv 1) (pe_call G_l_take hr (by rfl) T.g_l_take T.f_l_take.kp T.b_l_take .nil pass0 (pa_cons (pv 0) (pa_cons (pe_callB (lenK (K := K) rfl) (by rfl) T.m_len (by decide +kernel) (pa_cons (pv 1) pa_nil)) pa_nil))) (fun _ _ => rfl)))))), ?_⟩
    refine ⟨.ref p, rfl, .int (m : Int), rfl, (m : Int), 1, rfl, rfl, p, (m : Int) + 1, c, rfl, hp, by omega, by omega, by omega, fun n H2 n0 n1 hp2 f2 => ?_⟩
    refine ⟨n, rfl, by omega, by omega, fun D nD => ?_⟩
    have nDp := pool_ne hp2 nD
    have hk2 := hk.fx hp f2
    have nDk : D ≠ kk := (ne_of_none hk2.1 nD).symm
    refine lc_range (lo := 0) (n := n.toNat) (fun i H' => ∃ ys : List Str, ys.length = i ∧ ys.all isW = true ∧ H' D = some (.lst (ys.map V.str)) ∧ Pl H' p (c + 1 + i) ∧ Fx p H2 H') ⟨[], rfl, rfl, upd_same, hp2.ex (Ex.new nD), Fx.ex (Ex.new nD)⟩ (fun i H3 hi pv => ?_) (fun H3 pv => ?_)
    · obtain ⟨ys, yl, y1, hD, hp3, f3⟩ := pv
      have hk3 := hk2.fx hp2 f3
      refine ⟨rfl, .ref kk, rfl, .ref p, rfl, .ref kk, rfl, kk, _, rfl, .inl (SqL.of hk3.1), p, ((zs.map V.str).length : Int), c + 1 + i, rfl, hp3, ?_, ?_, by omega, fun e H4 e0 e1 hp4 f4 => ?_⟩
      · rw [List.length_map]
        have := hk3.2.1
        omega
      · rw [List.length_map]
        have := hk3.2.2.1
        omega
      rw [List.length_map] at e1
      have hk4 := hk3.fx hp3 f4
      obtain ⟨z, az, wz⟩ := at_word e0 e1 hk3.2.2.2
      refine ⟨kk, _, e, .str z, rfl, rfl, SqL.of hk4.1, az, _, f4 _ _ nDp hD, ?_, ys ++ [z], ?_, ?_, ?_, ?_, ?_⟩
      · rw [List.length_map]
        exact sz_lt (by omega)
      · rw [List.length_append, yl]
        rfl
      · rw [List.all_append, y1, List.all_cons, wz]
        rfl
      · rw [upd_same, List.map_append]
        rfl
      · exact pl_upd hp4 nDp
      · intro x o nx hx
        rw [upd_ne (ne_of_none hx nD)]
        exact f4 _ _ nx (f3 _ _ nx hx)
    · obtain ⟨ys, yl, y1, hD, hp3, f3⟩ := pv
      exact q D ys H3 nDp (fx_free f2 hp2 nD) hD (by omega) y1 (hp3.mono (by omega)) (f2.trans f3)

/-! ### _law_kind, _law_how -/
def spKind (K : PySem.W.Frag) (A : Nat → Addr) : Addr → Value → Option Addr → Sp := fun a cls d vs H Q _ => ∃ (C : Addr) (i : Nat) (nm : Str), vs = [.ref a] ∧ cls = .ref C ∧ Plain K (howC A) C i ∧ kindNames[i]? = some nm ∧ DictOk d H ∧ RetV (.str nm) H Q
theorem no_if {b : Bool} {X Y : Prop} (h : b = false) (y : Y) : if b = true then X else Y := by
  rw [h]
  exact y
set_option maxHeartbeats 16000000 in
theorem ok_l_kind (T : TX K mg A FD TK CC) : FnP P w K mg base CX0 1 (A 44) (FD 44) ["_law_e"] (spKind K A) := by
  refine fnP_of (k := 0) T.f_l_kind sc_l_kind (fun a cls d vs H Q E h => ?_) (fun cdv A' outer s H vs Q E p cls d hr hz hfl h => ?_)
  · obtain ⟨C, i, nm, rfl, _⟩ := h
    rfl
  · obtain ⟨C, i, nm, rfl, rfl, hp, hn, hd, q⟩ := h
    have EC := hp.ec
    have HH : Held (L2H.cxH CX0 P w K mg base N_l_kind "_law_kind" (defScope (topS 44)) (A 44) cdv A' outer s H E p) p.1 C d p.2 := ⟨List.mem_singleton.mpr rfl, hz, hfl⟩
    have hi : i < 16 := (List.getElem?_eq_some_iff.mp hn).1
    refine ⟨_, (pss_cons (ps_set (i := 1) sc_l_kind.nd rfl (.inl rfl) (pe_lst (pa_cons pe_str (pa_cons pe_str (pa_cons pe_str (pa_cons pe_str (pa_cons pe_str (pa_cons pe_str (pa_cons pe_str (pa_cons pe_str (pa_cons pe_str pa_nil)))))))))))
      (pss_cons (ps_set (i := 1) sc_l_kind.nd rfl (.inl rfl) (pe_op op_cat (pv 1) (pe_lst (pa_cons pe_str (pa_cons pe_str (pa_cons pe_str (pa_cons pe_str (pa_cons pe_str (pa_cons pe_str (pa_cons pe_str pa_nil))))))))))
      (pss_cons (ps_set (i := 2) sc_l_kind.nd rfl (.inl rfl) (pe_lst (pa_cons (pe_callB (isH (K := K) rfl EC HH) (by rfl) T.m_isinstance (by decide +kernel) (pa_cons (pv 0) (pa_cons (pe_glob (v := .ref (A 9)) (by rfl) T.k_NoCode rfl) pa_nil))) (pa_cons (pe_callB (isH (K := K) rfl EC HH) (by rfl) T.m_isinstance (by decide +kernel) (pa_cons (pv 0) (pa_cons (pe_glob (v := .ref (A 16)) (by rfl) T.k_NoDeed rfl) pa_nil))) (pa_cons (pe_callB (isH (K := K) rfl EC HH) (by rfl) T.m_isinstance (by decide +kernel) (pa_cons (pv 0) (pa_cons (pe_glob (v := .ref (A 11)) (by rfl) T.k_NoEntries rfl) pa_nil))) (pa_cons (pe_callB (isH (K := K) rfl EC HH) (by rfl) T.m_isinstance (by decide +kernel) (pa_cons (pv 0) (pa_cons (pe_glob (v := .ref (A 6)) (by rfl) T.k_NoLengths rfl) pa_nil))) pa_nil))))))
      (pss_cons (ps_set (i := 2) sc_l_kind.nd rfl (.inl rfl) (pe_op op_cat (pv 2) (pe_lst (pa_cons (pe_callB (isH (K := K) rfl EC HH) (by rfl) T.m_isinstance (by decide +kernel) (pa_cons (pv 0) (pa_cons (pe_glob (v := .ref (A 8)) (by rfl) T.k_NoName rfl) pa_nil))) (pa_cons (pe_callB (isH (K := K) rfl EC HH) (by rfl) T.m_isinstance (by decide +kernel) (pa_cons (pv 0) (pa_cons (pe_glob (v := .ref (A 4)) (by rfl) T.k_NoNumber rfl) pa_nil))) (pa_cons (pe_callB (isH (K := K) rfl EC HH) (by rfl) T.m_isinstance (by decide +kernel) (pa_cons (pv 0) (pa_cons (pe_glob (v := .ref (A 13)) (by rfl) T.k_NoPages rfl) pa_nil))) (pa_cons (pe_callB (isH (K := K) rfl EC HH) (by rfl) T.m_isinstance (by decide +kernel) (pa_cons (pv 0) (pa_cons (pe_glob (v := .ref (A 14)) (by rfl) T.k_NoQueries rfl) pa_nil))) pa_nil)))))))
      (pss_cons (ps_set (i := 2) sc_l_kind.nd rfl (.inl rfl) (pe_op op_cat (pv 2) (pe_lst (pa_cons (pe_callB (isH (K := K) rfl EC HH) (by rfl) T.m_isinstance (by decide +kernel) (pa_cons (pv 0) (pa_cons (pe_glob (v := .ref (A 7)) (by rfl) T.k_NoQuery rfl) pa_nil))) (pa_cons (pe_callB (isH (K := K) rfl EC HH) (by rfl) T.m_isinstance (by decide +kernel) (pa_cons (pv 0) (pa_cons (pe_glob (v := .ref (A 12)) (by rfl) T.k_NoQueryText rfl) pa_nil))) (pa_cons (pe_callB (isH (K := K) rfl EC HH) (by rfl) T.m_isinstance (by decide +kernel) (pa_cons (pv 0) (pa_cons (pe_glob (v := .ref (A 10)) (by rfl) T.k_NoRow rfl) pa_nil))) (pa_cons (pe_callB (isH (K := K) rfl EC HH) (by rfl) T.m_isinstance (by decide +kernel) (pa_cons (pv 0) (pa_cons (pe_glob (v := .ref (A 15)) (by rfl) T.k_NoShelf rfl) pa_nil))) pa_nil)))))))
      (pss_cons (ps_set (i := 2) sc_l_kind.nd rfl (.inl rfl) (pe_op op_cat (pv 2) (pe_lst (pa_cons (pe_callB (isH (K := K) rfl EC HH) (by rfl) T.m_isinstance (by decide +kernel) (pa_cons (pv 0) (pa_cons (pe_glob (v := .ref (A 5)) (by rfl) T.k_NoSize rfl) pa_nil))) (pa_cons (pe_callB (isH (K := K) rfl EC HH) (by rfl) T.m_isinstance (by decide +kernel) (pa_cons (pv 0) (pa_cons (pe_glob (v := .ref (A 3)) (by rfl) T.k_NoText rfl) pa_nil))) (pa_cons (pe_callB (isH (K := K) rfl EC HH) (by rfl) T.m_isinstance (by decide +kernel) (pa_cons (pv 0) (pa_cons (pe_glob (v := .ref (A 2)) (by rfl) T.k_NoWord rfl) pa_nil))) (pa_cons (pe_callB (isH (K := K) rfl EC HH) (by rfl) T.m_isinstance (by decide +kernel) (pa_cons (pv 0) (pa_cons (pe_glob (v := .ref (A 17)) (by rfl) T.k_Taken rfl) pa_nil))) pa_nil)))))))
      (pss_cons (ps_if (PW.pt (pw_or (pt_cmpR op_ne (pe_bm PySem.F.plainAttrs_list PySem.F.slot_list_count PySem.F.type_list_count (cntB (K := K) rfl) (pv 2) (pa_cons pe_bl pa_nil)) pe_int (nomark _)) (pw_or (pt_not (pt_val (pe_callB (isH (K := K) rfl EC HH) (by rfl) T.m_isinstance (by decide +kernel) (pa_cons (pv 0) (pa_cons (pe_bltn (v := .ty "ValueError") (by rfl) T.m_ValueError (by decide +kernel) rfl) pa_nil))))) (pw_or1 (pt_val (pe_callB (isHT (K := K) rfl EC HH) (by rfl) T.m_isinstance (by decide +kernel) (pa_cons (pv 0) (pa_cons (pe_tup (pa_cons (pe_glob (v := .ref (A 18)) (by rfl) T.k_NoPlace rfl) (pa_cons (pe_glob (v := .ref (A 19)) (by rfl) T.k_NoSlot rfl) pa_nil))) pa_nil))))))))
      (pss_one (ps_ret pe_str))
      pss_nil)
      (pss_one (ps_ret (pe_ix (ixLK (K := K) rfl) (pv 1) (pe_bm PySem.F.plainAttrs_list PySem.F.slot_list_index PySem.F.type_list_index (indexK (K := K) rfl) (pv 2) (pa_cons pe_bl pa_nil)) (fun _ _ => rfl))))))))))), ?_⟩
    refine ⟨by show 9 ≤ sizeLine; decide, fun l0 n0 => ?_⟩
    have e0 := Ex.new (o := .lst [V.str "code", .str "deed", .str "entries", .str "lengths", .str "name", .str "number", .str "pages", .str "queries", .str "query"]) n0
    refine ⟨.ref l0, rfl, by show 7 ≤ sizeLine; decide, fun l1 n1 => ?_⟩
    have e1 := e0.trans (Ex.new (o := .lst [V.str "text of query", .str "row", .str "shelf", .str "size", .str "text", .str "word", .str "taken"]) n1)
    refine ⟨l0, l1, _, _, rfl, rfl, Ex.new n1 _ _ upd_same, upd_same, by show 16 ≤ sizeLine; decide, fun l2 n2 => ?_⟩
    have e2 := e1.trans (Ex.new (o := .lst (kindNames.map V.str)) n2)
    have hN : (upd (upd (upd H l0 (.lst [V.str "code", .str "deed", .str "entries", .str "lengths", .str "name", .str "number", .str "pages", .str "queries", .str "query"])) l1 (.lst [V.str "text of query", .str "row", .str "shelf", .str "size", .str "text", .str "word", .str "taken"])) l2 (.lst (kindNames.map V.str))) l2 = some (.lst (kindNames.map V.str)) := upd_same
    show tSeq _ _ _ _ (upd (upd (upd H l0 (.lst [V.str "code", .str "deed", .str "entries", .str "lengths", .str "name", .str "number", .str "pages", .str "queries", .str "query"])) l1 (.lst [V.str "text of query", .str "row", .str "shelf", .str "size", .str "text", .str "word", .str "taken"])) l2 (.lst (kindNames.map V.str)))
    generalize (upd (upd (upd H l0 (.lst [V.str "code", .str "deed", .str "entries", .str "lengths", .str "name", .str "number", .str "pages", .str "queries", .str "query"])) l1 (.lst [V.str "text of query", .str "row", .str "shelf", .str "size", .str "text", .str "word", .str "taken"])) l2 (.lst (kindNames.map V.str))) = H2 at e2 hN ⊢
    have d2 := hd.ex e2
    refine ⟨.ref p.1, rfl, .ref (A 9), .ref (A 9), _, rfl, .own _, d2, hp.at (j := 0) rfl, .ref p.1, rfl, .ref (A 16), .ref (A 16), _, rfl, .own _, d2, hp.at (j := 1) rfl, .ref p.1, rfl, .ref (A 11), .ref (A 11), _, rfl, .own _, d2, hp.at (j := 2) rfl, .ref p.1, rfl, .ref (A 6), .ref (A 6), _, rfl, .own _, d2, hp.at (j := 3) rfl, by show 4 ≤ sizeLine; decide, fun m0 k0 => ?_⟩
    have x0 : Ex H2 _ := Ex.new (o := .lst [V.bl (decide (0 = i)), V.bl (decide (1 = i)), V.bl (decide (2 = i)), V.bl (decide (3 = i))]) k0
    have h0 : (upd H2 m0 (.lst [V.bl (decide (0 = i)), V.bl (decide (1 = i)), V.bl (decide (2 = i)), V.bl (decide (3 = i))])) m0 = some (.lst [V.bl (decide (0 = i)), V.bl (decide (1 = i)), V.bl (decide (2 = i)), V.bl (decide (3 = i))]) := upd_same
    generalize (upd H2 m0 (.lst [V.bl (decide (0 = i)), V.bl (decide (1 = i)), V.bl (decide (2 = i)), V.bl (decide (3 = i))])) = G0 at x0 h0 ⊢
    have c0 := d2.ex x0
    refine ⟨.ref m0, rfl, .ref p.1, rfl, .ref (A 8), .ref (A 8), _, rfl, .own _, c0, hp.at (j := 4) rfl, .ref p.1, rfl, .ref (A 4), .ref (A 4), _, rfl, .own _, c0, hp.at (j := 5) rfl, .ref p.1, rfl, .ref (A 13), .ref (A 13), _, rfl, .own _, c0, hp.at (j := 6) rfl, .ref p.1, rfl, .ref (A 14), .ref (A 14), _, rfl, .own _, c0, hp.at (j := 7) rfl, by show 4 ≤ sizeLine; decide, fun n1' j1 => ?_⟩
    have y1 : Ex G0 (upd G0 n1' (.lst [V.bl (decide (4 = i)), V.bl (decide (5 = i)), V.bl (decide (6 = i)), V.bl (decide (7 = i))])) := Ex.new j1
    refine ⟨m0, n1', _, _, rfl, rfl, y1 _ _ h0, upd_same, by show 8 ≤ sizeLine; decide, fun m1 k1 => ?_⟩
    have x1 : Ex G0 (upd (upd G0 n1' (.lst [V.bl (decide (4 = i)), V.bl (decide (5 = i)), V.bl (decide (6 = i)), V.bl (decide (7 = i))])) m1 (.lst ([V.bl (decide (0 = i)), V.bl (decide (1 = i)), V.bl (decide (2 = i)), V.bl (decide (3 = i))] ++ [V.bl (decide (4 = i)), V.bl (decide (5 = i)), V.bl (decide (6 = i)), V.bl (decide (7 = i))]))) := y1.trans (Ex.new k1)
    have h1 : (upd (upd G0 n1' (.lst [V.bl (decide (4 = i)), V.bl (decide (5 = i)), V.bl (decide (6 = i)), V.bl (decide (7 = i))])) m1 (.lst ([V.bl (decide (0 = i)), V.bl (decide (1 = i)), V.bl (decide (2 = i)), V.bl (decide (3 = i))] ++ [V.bl (decide (4 = i)), V.bl (decide (5 = i)), V.bl (decide (6 = i)), V.bl (decide (7 = i))]))) m1 = some (.lst ([V.bl (decide (0 = i)), V.bl (decide (1 = i)), V.bl (decide (2 = i)), V.bl (decide (3 = i))] ++ [V.bl (decide (4 = i)), V.bl (decide (5 = i)), V.bl (decide (6 = i)), V.bl (decide (7 = i))])) := upd_same
    generalize (upd (upd G0 n1' (.lst [V.bl (decide (4 = i)), V.bl (decide (5 = i)), V.bl (decide (6 = i)), V.bl (decide (7 = i))])) m1 (.lst ([V.bl (decide (0 = i)), V.bl (decide (1 = i)), V.bl (decide (2 = i)), V.bl (decide (3 = i))] ++ [V.bl (decide (4 = i)), V.bl (decide (5 = i)), V.bl (decide (6 = i)), V.bl (decide (7 = i))]))) = G1 at x1 h1 ⊢
    have c1 := c0.ex x1
    refine ⟨.ref m1, rfl, .ref p.1, rfl, .ref (A 7), .ref (A 7), _, rfl, .own _, c1, hp.at (j := 8) rfl, .ref p.1, rfl, .ref (A 12), .ref (A 12), _, rfl, .own _, c1, hp.at (j := 9) rfl, .ref p.1, rfl, .ref (A 10), .ref (A 10), _, rfl, .own _, c1, hp.at (j := 10) rfl, .ref p.1, rfl, .ref (A 15), .ref (A 15), _, rfl, .own _, c1, hp.at (j := 11) rfl, by show 4 ≤ sizeLine; decide, fun n2' j2 => ?_⟩
    have y2 : Ex G1 (upd G1 n2' (.lst [V.bl (decide (8 = i)), V.bl (decide (9 = i)), V.bl (decide (10 = i)), V.bl (decide (11 = i))])) := Ex.new j2
    refine ⟨m1, n2', _, _, rfl, rfl, y2 _ _ h1, upd_same, by show 12 ≤ sizeLine; decide, fun m2 k2 => ?_⟩
    have x2 : Ex G1 (upd (upd G1 n2' (.lst [V.bl (decide (8 = i)), V.bl (decide (9 = i)), V.bl (decide (10 = i)), V.bl (decide (11 = i))])) m2 (.lst (([V.bl (decide (0 = i)), V.bl (decide (1 = i)), V.bl (decide (2 = i)), V.bl (decide (3 = i))] ++ [V.bl (decide (4 = i)), V.bl (decide (5 = i)), V.bl (decide (6 = i)), V.bl (decide (7 = i))]) ++ [V.bl (decide (8 = i)), V.bl (decide (9 = i)), V.bl (decide (10 = i)), V.bl (decide (11 = i))]))) := y2.trans (Ex.new k2)
    have h2 : (upd (upd G1 n2' (.lst [V.bl (decide (8 = i)), V.bl (decide (9 = i)), V.bl (decide (10 = i)), V.bl (decide (11 = i))])) m2 (.lst (([V.bl (decide (0 = i)), V.bl (decide (1 = i)), V.bl (decide (2 = i)), V.bl (decide (3 = i))] ++ [V.bl (decide (4 = i)), V.bl (decide (5 = i)), V.bl (decide (6 = i)), V.bl (decide (7 = i))]) ++ [V.bl (decide (8 = i)), V.bl (decide (9 = i)), V.bl (decide (10 = i)), V.bl (decide (11 = i))]))) m2 = some (.lst (([V.bl (decide (0 = i)), V.bl (decide (1 = i)), V.bl (decide (2 = i)), V.bl (decide (3 = i))] ++ [V.bl (decide (4 = i)), V.bl (decide (5 = i)), V.bl (decide (6 = i)), V.bl (decide (7 = i))]) ++ [V.bl (decide (8 = i)), V.bl (decide (9 = i)), V.bl (decide (10 = i)), V.bl (decide (11 = i))])) := upd_same
    generalize (upd (upd G1 n2' (.lst [V.bl (decide (8 = i)), V.bl (decide (9 = i)), V.bl (decide (10 = i)), V.bl (decide (11 = i))])) m2 (.lst (([V.bl (decide (0 = i)), V.bl (decide (1 = i)), V.bl (decide (2 = i)), V.bl (decide (3 = i))] ++ [V.bl (decide (4 = i)), V.bl (decide (5 = i)), V.bl (decide (6 = i)), V.bl (decide (7 = i))]) ++ [V.bl (decide (8 = i)), V.bl (decide (9 = i)), V.bl (decide (10 = i)), V.bl (decide (11 = i))]))) = G2 at x2 h2 ⊢
    have c2 := c1.ex x2
    refine ⟨.ref m2, rfl, .ref p.1, rfl, .ref (A 5), .ref (A 5), _, rfl, .own _, c2, hp.at (j := 12) rfl, .ref p.1, rfl, .ref (A 3), .ref (A 3), _, rfl, .own _, c2, hp.at (j := 13) rfl, .ref p.1, rfl, .ref (A 2), .ref (A 2), _, rfl, .own _, c2, hp.at (j := 14) rfl, .ref p.1, rfl, .ref (A 17), .ref (A 17), _, rfl, .own _, c2, hp.at (j := 15) rfl, by show 4 ≤ sizeLine; decide, fun n3' j3 => ?_⟩
    have y3 : Ex G2 (upd G2 n3' (.lst [V.bl (decide (12 = i)), V.bl (decide (13 = i)), V.bl (decide (14 = i)), V.bl (decide (15 = i))])) := Ex.new j3
    refine ⟨m2, n3', _, _, rfl, rfl, y3 _ _ h2, upd_same, by show 16 ≤ sizeLine; decide, fun m3 k3 => ?_⟩
    have x3 : Ex G2 (upd (upd G2 n3' (.lst [V.bl (decide (12 = i)), V.bl (decide (13 = i)), V.bl (decide (14 = i)), V.bl (decide (15 = i))])) m3 (.lst ((([V.bl (decide (0 = i)), V.bl (decide (1 = i)), V.bl (decide (2 = i)), V.bl (decide (3 = i))] ++ [V.bl (decide (4 = i)), V.bl (decide (5 = i)), V.bl (decide (6 = i)), V.bl (decide (7 = i))]) ++ [V.bl (decide (8 = i)), V.bl (decide (9 = i)), V.bl (decide (10 = i)), V.bl (decide (11 = i))]) ++ [V.bl (decide (12 = i)), V.bl (decide (13 = i)), V.bl (decide (14 = i)), V.bl (decide (15 = i))]))) := y3.trans (Ex.new k3)
    have h3 : (upd (upd G2 n3' (.lst [V.bl (decide (12 = i)), V.bl (decide (13 = i)), V.bl (decide (14 = i)), V.bl (decide (15 = i))])) m3 (.lst ((([V.bl (decide (0 = i)), V.bl (decide (1 = i)), V.bl (decide (2 = i)), V.bl (decide (3 = i))] ++ [V.bl (decide (4 = i)), V.bl (decide (5 = i)), V.bl (decide (6 = i)), V.bl (decide (7 = i))]) ++ [V.bl (decide (8 = i)), V.bl (decide (9 = i)), V.bl (decide (10 = i)), V.bl (decide (11 = i))]) ++ [V.bl (decide (12 = i)), V.bl (decide (13 = i)), V.bl (decide (14 = i)), V.bl (decide (15 = i))]))) m3 = some (.lst ((([V.bl (decide (0 = i)), V.bl (decide (1 = i)), V.bl (decide (2 = i)), V.bl (decide (3 = i))] ++ [V.bl (decide (4 = i)), V.bl (decide (5 = i)), V.bl (decide (6 = i)), V.bl (decide (7 = i))]) ++ [V.bl (decide (8 = i)), V.bl (decide (9 = i)), V.bl (decide (10 = i)), V.bl (decide (11 = i))]) ++ [V.bl (decide (12 = i)), V.bl (decide (13 = i)), V.bl (decide (14 = i)), V.bl (decide (15 = i))])) := upd_same
    generalize (upd (upd G2 n3' (.lst [V.bl (decide (12 = i)), V.bl (decide (13 = i)), V.bl (decide (14 = i)), V.bl (decide (15 = i))])) m3 (.lst ((([V.bl (decide (0 = i)), V.bl (decide (1 = i)), V.bl (decide (2 = i)), V.bl (decide (3 = i))] ++ [V.bl (decide (4 = i)), V.bl (decide (5 = i)), V.bl (decide (6 = i)), V.bl (decide (7 = i))]) ++ [V.bl (decide (8 = i)), V.bl (decide (9 = i)), V.bl (decide (10 = i)), V.bl (decide (11 = i))]) ++ [V.bl (decide (12 = i)), V.bl (decide (13 = i)), V.bl (decide (14 = i)), V.bl (decide (15 = i))]))) = G3 at x3 h3 ⊢
    have c3 := c2.ex x3
    have xN : Ex H2 G3 := ((x0.trans x1).trans x2).trans x3
    have hm : G3 m3 = some (.lst ((hot16 i).map V.bl)) := h3
    refine ⟨.ref m3, rfl, .inl ⟨rfl, _, SqL.of hm⟩, m3, hot16 i, rfl, rfl, SqL.of hm, rfl, _, rfl, no_if (by rw [hot16_count i hi]; decide) ?_⟩
    refine ⟨.ref p.1, rfl, .ty "ValueError", .type "ValueError", true, rfl, .ty _, c3, hp.kv, true, rfl, ?_⟩
    refine ⟨.ref p.1, rfl, by show 2 ≤ sizeLine; decide, fun tp ntp => ?_⟩
    have xT : Ex G3 (upd G3 tp (.tup [.ref (A 18), .ref (A 19)])) := Ex.new ntp
    refine ⟨tp, _, _, false, rfl, upd_same, .cons (.own _) (.cons (.own _) .nil), c3.ex xT, hp.k2, false, rfl, ?_⟩
    refine ⟨.ref l2, rfl, .ref m3, rfl, .inl ⟨rfl, _, SqL.of (xT _ _ hm)⟩, m3, (hot16 i).map V.bl, .bl true, i, .bl true, rfl, rfl, SqL.of (xT _ _ hm), rfl, ?_, ?_, rfl, ?_, ?_⟩
    · rw [List.all_eq_true]
      intro x hx
      obtain ⟨b, _, rfl⟩ := List.mem_map.mp hx
      rfl
    · rw [List.getElem?_map, hot16_at i hi]
      rfl
    · intro m z hm' hz
      rw [List.getElem?_map, hot16_ahead i hi m hm'] at hz
      cases hz
      rfl
    · refine ⟨l2, _, i, .str nm, rfl, rfl, SqL.of ((xN.trans xT) _ _ hN), atI_nat ?_, q.go ((e2.trans xN).trans xT)⟩
      rw [List.getElem?_map, hn]
      rfl
/-- what the law's _law_how makes of a deed: its refusal's kind, or told -/
def TTHow (K : PySem.W.Frag) (A : Nat → Addr) : (XK → Hp → VK → Prop) → Hp → VK → Prop := fun tl H Q =>
  tl (fun cls d H' => ∃ (C : Addr) (i : Nat) (nm : Str), cls = .ref C ∧ Plain K (howC A) C i ∧ kindNames[i]? = some nm ∧ DictOk d H' ∧ RetV (.str nm) H' Q) H (fun _ H' => Q (.str "told") H')
set_option maxHeartbeats 16000000 in
theorem how_gives {X : Cx} (T : TX X.K X.mg A FD TK CC) {k : Nat} (hr : Room (k + 2) X.A) (cdg : Value) (qn : Str) :
    LamX.GivesTo X N_l_how "_law_how" (defScope (topS 45)) (A 45) cdg (defBody (topS 45)) "_law_deed" qn (TTHow X.K A) := by
  intro f c' s H Q tl act hc h
  have GK := ok_l_kind (P := X.prog) (w := X.w) (base := X.base) T
  have rm : ∀ a : Addr, L2H.RoomH 1 ((X.A.deeper (envOfC "_law_how" (defScope (topS 45)) s.heap.objs.size (A 45) cdg)).mark (some (.ref a))) := fun a =>
    let r := L2H.roomH_of ((hr.deeper (envOfC "_law_how" (defScope (topS 45)) s.heap.objs.size (A 45) cdg)).mono (show 1 ≤ k + 1 by omega))
    ⟨r.dp, r.un⟩
  refine ⟨_, pss_cons (ps_try_asMany (X := (cxOf C8.CX0 X.prog X.w X.K X.mg X.base N_l_how "_law_how" (defScope (topS 45)) (A 45) cdg X.A X.stack s H C8.E0).nox) (n := "_law_e") (i := 1)
      (tb := fun W D σ H => ∃ Ech : XK, (∀ cls d σ' H', Ech cls d H' → W cls d σ' H') ∧ σ[0]? = some (some (.ref f)) ∧ H c' = some (LamX.CodeO c' qn) ∧ tl Ech H (fun _ H' => D.nx σ H')) rfl rfl sc_l_how.nd rfl rfl takes0 (fun W pn xe tk _ => ?_)
      (HdsAs.cons (test_tup (.cons ⟨rfl, by decide, .inl T.k_NoCode⟩ (.cons ⟨rfl, by decide, .inl T.k_NoEntries⟩ (.cons ⟨rfl, by decide, .inl T.k_NoPages⟩ (.cons ⟨rfl, by decide, .inl T.k_NoQueryText⟩ (.cons ⟨rfl, by decide, .inl T.k_NoRow⟩ .nil))))) (by show 5 ≤ sizeLine; decide)) (fun _ _ _ _ _ _ _ => pss_never)
      (HdsAs.cons (ts := fun a cls d => tRet (tCallP (spKind X.K A) a cls d (tCons (tVar 1) tNil))) (test_name ⟨rfl, by decide, .inl T.k_Wrong⟩) (fun a oe cls d pn hz hf => pss_one (ps_ret (pe_callP (X := ((cxOf C8.CX0 X.prog X.w X.K X.mg X.base N_l_how "_law_how" (defScope (topS 45)) (A 45) cdg X.A X.stack s H C8.E0).nox).suite a ((a, oe) :: pn)) (p := (a, oe)) GK (rm a) (List.mem_cons_self ..) hz hf (by rfl) T.g_l_kind T.f_l_kind.kp T.b_l_kind (pa_cons (pv 1) pa_nil))))
      (HdsAs.cons (test_tup (.cons ⟨rfl, by decide, .inl T.k_NoPlace⟩ (.cons ⟨rfl, by decide, .inl T.k_NoSlot⟩ .nil)) (by show 2 ≤ sizeLine; decide)) (fun _ _ _ _ _ _ _ => pss_never) HdsAs.nil))))
    (pss_one (ps_ret pe_str)), ?_⟩
  · refine ⟨fun pins s' σ H' D I h' => ?_⟩
    obtain ⟨Ech, hW, h1, h2, h3⟩ := h'
    exact (pss_one (ps_expr (act W pn xe Ech _ _ tk hW))).run pins s' σ H' D I ⟨h1, h2, h3⟩
  · refine ⟨_, fun cls d σ' H' hE hl => ?_, rfl, hc, h⟩
    obtain ⟨C, i, nm, rfl, hp, hn, hd, q⟩ := hE
    refine ⟨false, hp.e5, (fun z => Bool.noConfusion z), fun _ => ⟨true, hp.ew, fun _ a na => ?_, fun z => Bool.noConfusion z⟩⟩
    match σ', hl with
    | [x, y], _ => exact ⟨.ref a, rfl, C, i, nm, rfl, rfl, hp, hn, hd, q⟩
set_option maxHeartbeats 8000000 in
theorem pe_how {X : Cx} (T : TX X.K X.mg A FD TK CC) {c Pt : Addr} {k : Nat} {params : Arguments} {body : Expr} {scope : Scope} {t : XK → TE} {p lpos pos : Pos} {Tt : List (Addr × Str)} (TB : LamX.TabB X.base X.mg c Pt) (hcode : X.env.code = .ref c) (hmT : (Pt, X.env.qual ++ "<lambda>") ∈ Tt)
    (hu : ∀ q ∈ Tt, q.1 = Pt → q.2 = X.env.qual ++ "<lambda>") (hr : Room (k + 4) X.A) (L : LamX.LamS X.env.scope scope)
    (hbody : ∀ (A' : Around) (outer : List Env) (s : Shared) (H : Hp) (E : XK) (f c' : Addr), Room (k + 2) (A'.deeper (LamX.lamEnv X scope s.heap.objs.size f c')) → PE (LamX.lamCx X A' outer s H E scope f c') body (t E))
    (hg : Gl X "_law_how" := by rfl) (hdef : defaultsOf params X.env = ([], []) := by rfl)
    (hbind : ∀ (q : Str) (cl : List (Str × Addr)) (pm cv ctv : Value), bindArgs (PySem.W.kla_fn "<lambda>" q params body scope cl pm cv ctv) ⟨[], []⟩ = pure [] := by intros; rfl) :
    PE X (.Call (.Name "_law_how" p) [.Lambda params body scope lpos] [] pos) (LamX.tLam Tt (TTHow X.K A) t) := by
  have B := T.b_l_how
  obtain ⟨oc, od, kV, doc, pm, an, cdv, ct, osl, e, lk, hcd⟩ := T.f_l_how.ex
  rw [e] at B lk
  exact LamX.pe_lamcall (k := k + 2) hg T.g_l_how T.f_l_how.kp lk hcd B sc_l_how rfl (.inl rfl) (how_gives T (k := k) (hr.mono (show k + 2 ≤ k + 4 by omega)) cdv _) TB hcode hmT hu hr L hdef hbind hbody

/-! ### words_of, Page(..): no refusal -/
def spCheckW : Sp := fun vs H Q _ => ∃ (a : Addr) (zs : List Str), vs = [.ref a] ∧ H a = some (.lst (zs.map V.str)) ∧ okP zs = true ∧ RetV .non H Q
set_option maxHeartbeats 4000000 in
theorem ok_check_words (T : TX K mg A FD TK CC) : FnOk P w K mg base CX0 3 (A 30) (FD 30) ["words"] spCheckW := by
  have G_are_words := ok_are_words (P := P) (w := w) (base := base) T
  refine T.f_check_words.ok sc_check_words (fun vs H Q E h => ?_) (fun cdv A' outer s H vs Q E hr h => ?_)
  · obtain ⟨a, zs, rfl, _⟩ := h
    rfl
  · obtain ⟨a, zs, rfl, hS, ho, q⟩ := h
    unfold okP at ho
    rw [Bool.and_eq_true, decide_eq_true_eq] at ho
    refine ⟨_, (pss_cons (ps_if (pt_cmpR op_gt (pe_callB (lenK (K := K) rfl) (by rfl) T.m_len (by decide +kernel) (pa_cons (pv 0) pa_nil)) (pe_glob (v := .int 120) (by rfl) T.c_MOST_WORDS ⟨_, rfl⟩) (nomark _))
      (pss_one ps_never)
      pss_nil)
      (pss_one (ps_if (pt_not (pt_val (pe_call G_are_words hr (by rfl) T.g_are_words T.f_are_words.kp T.b_are_words .nil pass0 (pa_cons (pv 0) pa_nil))))
      (pss_one ps_never)
      pss_nil))), ?_⟩
    refine ⟨.ref a, rfl, a, _, rfl, .inl (SqL.of hS), _, 120, rfl, rfl, _, rfl, ite2 (fun e => ?_) (fun e => ?_)⟩
    · have e : (120 : Int) < ((zs.map V.str).length : Int) := of_decide_eq_true e
      rw [List.length_map] at e
      omega
    · refine ⟨.ref a, rfl, a, zs, rfl, .inl (SqL.of hS), by omega, fun z hz => ?_, fun H1 e1 => ⟨_, rfl, ?_⟩⟩
      · have := isW_len (List.all_eq_true.mp ho.2 z hz)
        omega
      · rw [ho.2]
        exact q.go e1
def spWordsOf : Sp := fun vs H Q _ => ∃ z : Str, vs = [.str z] ∧ z.length ≤ 20000 ∧ okP (piecesOf z) = true ∧ RetL ((piecesOf z).map V.str) H Q
set_option maxHeartbeats 4000000 in
theorem ok_words_of (T : TX K mg A FD TK CC) : FnOk P w K mg base CX0 4 (A 29) (FD 29) ["text"] spWordsOf := by
  have G_check_words := ok_check_words (P := P) (w := w) (base := base) T
  refine T.f_words_of.ok sc_words_of (fun vs H Q E h => ?_) (fun cdv A' outer s H vs Q E hr h => ?_)
  · obtain ⟨z, rfl, _⟩ := h
    rfl
  · obtain ⟨z, rfl, hl, ho, q⟩ := h
    refine ⟨_, (pss_cons (ps_if (pt_not (pt_val (pe_callB (isiK (K := K) rfl) (by rfl) T.m_isinstance (by decide +kernel) (pa_cons (pv 0) (pa_cons (pe_bltn (v := .ty "str") (by rfl) T.m_str (by decide +kernel) rfl) pa_nil)))))
      (pss_one ps_never)
      pss_nil)
      (pss_cons (ps_set (i := 1) sc_words_of.nd rfl (.inl rfl) (pe_ifExp (pt_truth (pv 0) (by intro _; rfl)) (pe_split (pv 0) pe_str) (pe_lst pa_nil)))
      (pss_cons (ps_expr (pe_call G_check_words hr (by rfl) T.g_check_words T.f_check_words.kp T.b_check_words .nil pass0 (pa_cons (pv 1) pa_nil)))
      (pss_one (ps_ret (pv 1)))))), ?_⟩
    refine ⟨.str z, rfl, .str z, .ty "str", .type "str", .type "str", true, rfl, .ty _, .base (.str z), kit_ty (by decide +kernel), true, rfl, ?_⟩
    have fin : ∀ (p : Addr), H p = none → spCheckW [.ref p] (upd H p (.lst ((piecesOf z).map V.str))) (fun _ H' => ∃ v : V, ([some (.str z), some (.ref p)] : L2.St)[1]? = some (some v) ∧ Q v H') (fun _ _ _ => False) := fun p np =>
      ⟨p, _, rfl, upd_same, ho, fun H2 e2 => ⟨.ref p, rfl, q p H2 np ((Ex.new np).trans e2) (e2 _ _ upd_same)⟩⟩
    refine ⟨.str z, rfl, ((z.length : Int) != 0), ⟨sz (by omega), rfl⟩, ?_⟩
    by_cases h0 : z.length = 0
    · rw [show ((z.length : Int) != 0) = false by rw [h0]; rfl]
      refine ⟨Nat.zero_le _, fun p np => ?_⟩
      have f := fin p np
      rw [show piecesOf z = [] by unfold piecesOf; rw [if_pos h0]] at f
      exact ⟨.ref p, rfl, f⟩
    · rw [show ((z.length : Int) != 0) = true by simp [h0]]
      refine ⟨.str z, rfl, ⟨_, rfl⟩, z, " ", rfl, rfl, by decide +kernel, sz (by omega), fun p np => ?_⟩
      have f := fin p np
      rw [show piecesOf z = Txt.split z " " by unfold piecesOf; rw [if_neg h0]] at f
      exact ⟨.ref p, rfl, f⟩
def spCheckN : Sp := fun vs H Q _ => ∃ n : Int, vs = [.int n] ∧ 1 ≤ n ∧ n ≤ 9999 ∧ RetV .non H Q
set_option maxHeartbeats 4000000 in
theorem ok_check_page_number (T : TX K mg A FD TK CC) : FnOk P w K mg base CX0 3 (A 34) (FD 34) ["number"] spCheckN := by
  have G_is_within := ok_is_within (P := P) (w := w) (base := base) T
  refine T.f_check_page_number.ok sc_check_page_number (fun vs H Q E h => ?_) (fun cdv A' outer s H vs Q E hr h => ?_)
  · obtain ⟨n, rfl, _⟩ := h
    rfl
  · obtain ⟨n, rfl, h1, h2, q⟩ := h
    refine ⟨_, (pss_one (ps_if (pt_not (pt_val (pe_call G_is_within hr (by rfl) T.g_is_within T.f_is_within.kp T.b_is_within .nil pass0 (pa_cons (pv 0) (pa_cons pe_int (pa_cons (pe_glob (v := .int 9999) (by rfl) T.c_MOST_NUMBER ⟨_, rfl⟩) pa_nil))))))
      (pss_one ps_never)
      pss_nil)), ?_⟩
    refine ⟨.int n, rfl, n, 1, 9999, rfl, fun H1 e1 => ⟨_, rfl, ?_⟩⟩
    rw [decide_eq_true h1, decide_eq_true h2]
    exact q.go e1
/-- all but x stays -/
def ExI (x : Addr) (H H' : Hp) : Prop := ∀ b o, b ≠ x → H b = some o → H' b = some o
def spPInit (C : Addr) : Sp := fun vs H Q _ => ∃ (x dx : Addr) (n : Int) (z : Str), vs = [.ref x, .int n, .str z] ∧ H x = some (.ins C dx []) ∧ 1 ≤ n ∧ n ≤ 9999 ∧ z.length ≤ 20000 ∧ okP (piecesOf z) = true ∧
  ∀ H' t, ExI x H H' → H' x = some (.ins C dx [("number", .int n), ("in_turn", .ref t)]) → H' t = some (.tup ((piecesOf z).map V.str)) → Q .non H'
set_option maxHeartbeats 4000000 in
theorem ok_pinit (T : TX K mg A FD TK CC) : FnOk P w K mg base CX0 5 (A 48) (FD 48) ["self", "number", "text"] (spPInit (A 33)) := by
  have G_check_page_number := (ok_check_page_number (P := P) (w := w) (base := base) T).mono (show 3 ≤ 4 by decide)
  have G_words_of := ok_words_of (P := P) (w := w) (base := base) T
  refine T.f_Page_init.ok (k := 4) sc_Page_init (fun vs H Q E h => ?_) (fun cdv A' outer s H vs Q E hr h => ?_)
  · obtain ⟨x, dx, n, z, rfl, _⟩ := h
    rfl
  · obtain ⟨x, dx, n, z, rfl, hx, n1, n2, hl, ho, q⟩ := h
    refine ⟨_, (pss_cons (ps_expr (pe_call G_check_page_number hr (by rfl) T.g_check_page_number T.f_check_page_number.kp T.b_check_page_number .nil pass0 (pa_cons (pv 1) pa_nil)))
      (pss_cons (ps_fld (pv 0) (pv 1) rfl)
      (pss_one (ps_fld (pv 0) (pe_callTy (tupK (K := K) rfl) (by rfl) T.m_tuple (by decide +kernel) (pa_cons (pe_call G_words_of hr (by rfl) T.g_words_of T.f_words_of.kp T.b_words_of .nil pass0 (pa_cons (pv 2) pa_nil)) pa_nil)) rfl)))), ?_⟩
    refine ⟨.int n, rfl, n, rfl, n1, n2, fun H0 e0 => ?_⟩
    refine ⟨.int n, rfl, .ref x, rfl, x, A 33, dx, [], rfl, e0 _ _ hx, T.cl_Page, T.n_Page_number, (by show 0 < 1000; decide), ?_⟩
    have i1 : ExI x H (upd H0 x (.ins (A 33) dx (putF "number" (.int n) []))) := fun b o nb h => by rw [upd_ne nb]; exact e0 _ _ h
    have hx1 : (upd H0 x (.ins (A 33) dx (putF "number" (.int n) []))) x = some (.ins (A 33) dx (putF "number" (.int n) [])) := upd_same
    generalize (upd H0 x (.ins (A 33) dx (putF "number" (.int n) []))) = H1 at i1 hx1 ⊢
    refine ⟨.str z, rfl, z, rfl, hl, ho, fun p H2 np e2 hp => ?_⟩
    refine ⟨p, _, rfl, .inl ⟨SqL.of hp, fun tt ntt => ?_⟩⟩
    have e3 := Ex.new (o := .tup ((piecesOf z).map V.str)) ntt
    have hx3 := e3 _ _ (e2 _ _ hx1)
    refine ⟨.ref x, rfl, x, A 33, dx, _, rfl, hx3, T.cl_Page, T.n_Page_in_turn, (by show 1 < 1000; decide), q _ tt (fun b o nb h => ?_) upd_same ?_⟩
    · rw [upd_ne nb]
      exact e3 _ _ (e2 _ _ (i1 _ _ nb h))
    · rw [upd_ne (ne_of_none (e2 _ _ hx1) ntt).symm]
      exact upd_same

/-! ### a page, its methods -/
/-- at p stands a page of the number n and the words ws -/
def PageAt (C : Addr) (H : Hp) (p : Addr) (n : Int) (ws : List Str) : Prop := ∃ (dx t : Addr), H p = some (.ins C dx [("number", .int n), ("in_turn", .ref t)]) ∧ H t = some (.tup (ws.map V.str)) ∧ ws.length ≤ 120 ∧ ws.all isW = true
theorem PageAt.ex {C : Addr} {H H' : Hp} {p : Addr} {n : Int} {ws : List Str} (h : PageAt C H p n ws) (e : Ex H H') : PageAt C H' p n ws := by
  obtain ⟨dx, t, h1, h2, h3⟩ := h
  exact ⟨dx, t, e _ _ h1, e _ _ h2, h3⟩
def spPWords (C : Addr) : Sp := fun vs H Q _ => ∃ (p : Addr) (n : Int) (ws : List Str), vs = [.ref p] ∧ PageAt C H p n ws ∧ RetL (ws.map V.str) H Q
set_option maxHeartbeats 4000000 in
theorem ok_p_words (T : TX K mg A FD TK CC) : FnOk P w K mg base CX0 1 (A 51) (FD 51) ["self"] (spPWords (A 33)) := by
  refine T.f_Page_words.ok sc_Page_words (fun vs H Q E h => ?_) (fun cdv A' outer s H vs Q E hr h => ?_)
  · obtain ⟨p, n, ws, rfl, _⟩ := h
    rfl
  · obtain ⟨p, n, ws, rfl, ⟨dx, t, h1, h2, _⟩, q⟩ := h
    refine ⟨_, (pss_one (ps_ret (pe_callTy (listK (K := K) rfl) (by rfl) T.m_list (by decide +kernel) (pa_cons (fldK (K := K) rfl (pv 0) rfl) pa_nil)))), ?_⟩
    exact ⟨.ref p, rfl, p, A 33, dx, _, .ref t, rfl, h1, T.cl_Page, T.n_Page_in_turn, rfl, t, _, rfl, .inr (SqT.of h2), fun l nl => q l _ nl (Ex.new nl) upd_same⟩
def spPLen (C : Addr) : Sp := fun vs H Q _ => ∃ (p : Addr) (n : Int) (ws : List Str), vs = [.ref p] ∧ PageAt C H p n ws ∧ Q (.int (ws.length : Int)) H
set_option maxHeartbeats 4000000 in
theorem ok_p_len (T : TX K mg A FD TK CC) : FnOk P w K mg base CX0 1 (A 49) (FD 49) ["self"] (spPLen (A 33)) := by
  refine T.f_Page_len.ok sc_Page_len (fun vs H Q E h => ?_) (fun cdv A' outer s H vs Q E hr h => ?_)
  · obtain ⟨p, n, ws, rfl, _⟩ := h
    rfl
  · obtain ⟨p, n, ws, rfl, ⟨dx, t, h1, h2, _⟩, q⟩ := h
    refine ⟨_, (pss_one (ps_ret (pe_callB (lenK (K := K) rfl) (by rfl) T.m_len (by decide +kernel) (pa_cons (fldK (K := K) rfl (pv 0) rfl) pa_nil)))), ?_⟩
    refine ⟨.ref p, rfl, p, A 33, dx, _, .ref t, rfl, h1, T.cl_Page, T.n_Page_in_turn, rfl, t, _, rfl, .inr (SqT.of h2), ?_⟩
    rw [List.length_map]
    exact q
def spPStr (C : Addr) : Sp := fun vs H Q _ => ∃ (p : Addr) (n : Int) (ws : List Str), vs = [.ref p] ∧ PageAt C H p n ws ∧ Q (.str (Txt.join " " ws)) H
set_option maxHeartbeats 4000000 in
theorem ok_p_str (T : TX K mg A FD TK CC) : FnOk P w K mg base CX0 1 (A 50) (FD 50) ["self"] (spPStr (A 33)) := by
  refine T.f_Page_str.ok sc_Page_str (fun vs H Q E h => ?_) (fun cdv A' outer s H vs Q E hr h => ?_)
  · obtain ⟨p, n, ws, rfl, _⟩ := h
    rfl
  · obtain ⟨p, n, ws, rfl, ⟨dx, t, h1, h2, h3, h4⟩, q⟩ := h
    refine ⟨_, (pss_one (ps_ret (pe_join pe_str (fldK (K := K) rfl (pv 0) rfl)))), ?_⟩
    have ls := len_sum ws h4
    refine ⟨⟨_, rfl⟩, .ref p, rfl, p, A 33, dx, _, .ref t, rfl, h1, T.cl_Page, T.n_Page_in_turn, rfl, " ", t, ws, rfl, rfl, .inr (SqT.of h2), ?_, q⟩
    rw [show (Str.ofString " ").length = 1 by decide +kernel]
    omega

namespace Ax
/-! ### is_word of any thing -/
def spIsWord : Sp := fun vs H Q _ => ∃ v : V, vs = [v] ∧ Th H v ∧ RetV (.bl (wordV v)) H Q
set_option maxHeartbeats 4000000 in
theorem ok_is_word (T : TX K mg A FD TK CC) : FnOk P w K mg base CX0 1 (A 26) (FD 26) ["thing"] spIsWord := by
  refine T.f_is_word.ok sc_is_word (fun vs H Q E h => ?_) (fun cdv A' outer s H vs Q E hr h => ?_)
  · obtain ⟨v, rfl, _⟩ := h
    rfl
  · obtain ⟨v, rfl, ht, q⟩ := h
    refine ⟨_, (pss_cons (ps_if (PW.pt (pw_or (pt_not (pt_val (pe_callB (isiK (K := K) rfl) (by rfl) T.m_isinstance (by decide +kernel) (pa_cons (pv 0) (pa_cons (pe_bltn (v := .ty "str") (by rfl) T.m_str (by decide +kernel) rfl) pa_nil))))) (pw_or1 (pt_not (pt_chain op_le op_le pe_int (pe_callB call_len_str (by rfl) T.m_len (by decide +kernel) (pa_cons (pv 0) pa_nil)) (pe_glob (v := .int 12) (by rfl) T.c_MOST_LETTERS ⟨_, rfl⟩))))))
      (pss_one (ps_ret pe_bl))
      pss_nil)
      (pss_one (ps_ret (pe_callB (allK (K := K) rfl rfl) (by rfl) T.m_all (by decide +kernel) (pa_cons (pe_lc (own := [("sign", 1)])  rfl sc_is_word.nd (pi_str (pv 0)) (blkOk_by (own := [("sign", 1)]) (N := N_is_word) (sc := defScope (topS 26)) (by decide +kernel)) (fun _ _ _ _ _ => (pg_name (i := 1) sc_is_word.nd rfl (Or.inl rfl))) (fun _ _ _ _ _ => pts_nil) (fun _ _ _ _ _ => (pe_chain op_le_str op_le_str pe_str (pv 1) pe_str))) pa_nil))))), ?_⟩
    rcases ht.kinds K with ⟨z, rfl, hz⟩ | ⟨ty, t1, t2, t3, t4⟩
    · refine ⟨.str z, rfl, .str z, .ty "str", .type "str", .type "str", true, rfl, .ty _, .base (.str z), kit_ty (by decide +kernel), true, rfl, iteF ?_⟩
      have q : RetV (.bl (isW z)) H Q := q
      have no : ¬ (decide ((1 : Int) ≤ (z.length : Int)) = true ∧ decide ((z.length : Int) ≤ 12) = true) → isW z = false := fun h => by
        unfold isW
        have e : z.length = z.cps.size := rfl
        by_cases h1 : 1 ≤ z.cps.size
        · by_cases h2 : z.cps.size ≤ 12
          · exact absurd ⟨decide_eq_true (by omega), decide_eq_true (by omega)⟩ h
          · rw [decide_eq_false h2, Bool.and_false, Bool.false_and]
        · rw [decide_eq_false h1, Bool.false_and, Bool.false_and]
      refine ⟨.str z, rfl, z, rfl, sz hz, 1, (z.length : Int), rfl, rfl, _, rfl, ite2 (fun c1 => ?_) (fun c1 => ?_)⟩
      · refine ⟨(z.length : Int), 12, rfl, rfl, _, rfl, ?_⟩
        by_cases c2 : (z.length : Int) ≤ 12
        · rw [decide_eq_true c2]
          refine iteF ?_
          have e : z.length = z.cps.size := rfl
          have c1' : (1 : Int) ≤ (z.length : Int) := of_decide_eq_true c1
          refine ⟨.str z, rfl, z, rfl, fun D hD => ?_⟩
          refine lc_it (walk_str (z := z)) (fun i H' => Ex H H' ∧ H' D = some (.lst ((z.cps.toList.take i).map fun c => .bl (decide (97 ≤ c) && decide (c ≤ 122))))) ⟨Ex.new hD, upd_same⟩ (fun _ _ _ _ => True.intro) (fun i x H1 H2 hi p y => ?_) (fun H1 p => ?_)
          · obtain ⟨p1, p2⟩ := p
            obtain ⟨rfl, c, hc, rfl⟩ := y
            have g : z.cps.toList[i]? = some c := by
              rw [Array.getElem?_toList]
              exact hc
            have stepE : (z.cps.toList.take (i + 1)).map (fun c => V.bl (decide (97 ≤ c) && decide (c ≤ 122))) = (z.cps.toList.take i).map (fun c => V.bl (decide (97 ≤ c) && decide (c ≤ 122))) ++ [V.bl (decide (97 ≤ c) && decide (c ≤ 122))] := by
              rw [List.take_add_one, g, List.map_append]
              rfl
            have lenE : ((z.cps.toList.take i).map (fun c => V.bl (decide (97 ≤ c) && decide (c ≤ 122)))).length < sizeLine := by
              rw [List.length_map, List.length_take]
              refine sz_lt ?_
              have : z.cps.toList.length = z.cps.size := by simp
              omega
            refine ⟨rfl, .str ⟨#[c]⟩, rfl, _, _, rfl, rfl, _, rfl, ?_⟩
            have e1 : (!decide (((⟨#[c]⟩ : Str).cps.toList) < (Str.ofString "a").cps.toList)) = decide (97 ≤ c) := by
              show (!decide ([c] < [97])) = _
              rw [lt_one]
              by_cases h : 97 ≤ c
              · rw [decide_eq_true h, decide_eq_false (by omega)]
                rfl
              · rw [decide_eq_false h, decide_eq_true (by omega)]
                rfl
            have e2 : (!decide ((Str.ofString "z").cps.toList < (⟨#[c]⟩ : Str).cps.toList)) = decide (c ≤ 122) := by
              show (!decide ([122] < [c])) = _
              rw [lt_one]
              by_cases h : c ≤ 122
              · rw [decide_eq_true h, decide_eq_false (by omega)]
                rfl
              · rw [decide_eq_false h, decide_eq_true (by omega)]
                rfl
            refine ite2 (fun b1 => ?_) (fun b1 => ?_)
            · refine ⟨_, _, rfl, rfl, _, p2, lenE, Ex.mut p1 hD, ?_⟩
              rw [upd_same, stepE, ← e1, ← e2, b1, Bool.true_and]
            · refine ⟨_, p2, lenE, Ex.mut p1 hD, ?_⟩
              rw [upd_same, stepE, ← e1, Bool.eq_false_iff.mpr b1, Bool.false_and]
          · obtain ⟨p1, p2⟩ := p
            refine ⟨D, (z.cps.toList.map fun c => (decide (97 ≤ c) && decide (c ≤ 122))), rfl, SqL.of ?_, ?_⟩
            · rw [p2, List.take_of_length_le (by simp), List.map_map]
              rfl
            · have v := q.go p1
              have ev : isW z = ((z.cps.toList.map fun c => (decide (97 ≤ c) && decide (c ≤ 122))).all id) := by
                unfold isW
                rw [decide_eq_true (by omega), decide_eq_true (by omega), List.all_map]
                rfl
              rw [ev] at v
              exact v
        · rw [decide_eq_false c2]
          refine iteT ?_
          have v := ret_v q
          rw [no (fun h => c2 (of_decide_eq_true h.2))] at v
          exact v
      · have v := ret_v q
        rw [no (fun h => c1 h.1)] at v
        exact ⟨false, rfl, v⟩
    · rw [t3] at q
      exact ⟨v, rfl, v, .ty "str", .type ty, .type "str", false, rfl, .ty _, t1, kit_ty t2, false, rfl, ret_v q⟩

end Ax

/-! ### check_word, Page.places, Page.often of any things -/
def RetE (C : Addr) (H : Hp) (E : XK) : Prop := ∀ H', Ex H H' → E (.ref C) none H'
theorem RetE.go {C : Addr} {H H1 : Hp} {E : XK} (q : RetE C H E) (e : Ex H H1) : RetE C H1 E := fun H' x => q H' (e.trans x)
def spCkWdX (C : Addr) : Sp := fun vs H Q E => ∃ v : V, vs = [v] ∧ Th H v ∧ (wordV v = true → ∀ H', Ex H H' → Q .non H') ∧ (wordV v = false → RetE C H E)
set_option maxHeartbeats 4000000 in
theorem ok_check_wordX (T : TX K mg A FD TK CC) : FnOk P w K mg base (L2.CX P w) 2 (A 28) (FD 28) ["word"] (spCkWdX (A 2)) := by
  have G_is_word := Ax.ok_is_word (P := P) (w := w) (base := base) T
  refine T.f_check_word.okX (k := 1) sc_check_word (fun vs H Q E h => ?_) (fun cdv A' outer s H vs Q E hr h => ?_)
  · obtain ⟨v, rfl, _⟩ := h
    rfl
  · obtain ⟨v, rfl, hv, q, qe⟩ := h
    refine ⟨_, (pss_one (ps_if (pt_not (pt_val (pe_call G_is_word hr (by rfl) T.g_is_word T.f_is_word.kp T.b_is_word .nil pass0 (pa_cons (pv 0) pa_nil))))
      (pss_one (ps_raise rfl (takes_of rfl rfl rfl rfl) (pmk_own PySem.F.excBase_ValueError T.x_NoWord T.k_NoWord T.kc_NoWord (raises_own T.br_NoWord T.ty_NoWord) rfl)))
      pss_nil)), ?_⟩
    refine ⟨v, rfl, v, rfl, hv, fun H1 e1 => ⟨_, rfl, ?_⟩⟩
    cases hb : wordV v with
    | false => exact qe hb H1 e1
    | true => exact q hb H1 e1
/-- where w stands in xs, counted from k -/
def plc (w : Str) : Nat → List Str → List Nat
  | _, [] => []
  | k, x :: r => if x = w then k :: plc w (k + 1) r else plc w (k + 1) r
theorem plc_snoc (w x : Str) : ∀ (xs : List Str) (k : Nat), plc w k (xs ++ [x]) = plc w k xs ++ (if x = w then [k + xs.length] else [])
  | [], k => by
    show (if x = w then [k] else []) = [] ++ _
    rw [List.nil_append]
    rfl
  | y :: r, k => by
    rw [List.cons_append, plc, plc, plc_snoc w x r (k + 1), List.length_cons, show k + 1 + r.length = k + (r.length + 1) by omega]
    split
    · rw [List.cons_append]
    · rfl
theorem plc_len (w : Str) : ∀ (xs : List Str) (k : Nat), (plc w k xs).length ≤ xs.length
  | [], _ => Nat.le_refl _
  | y :: r, k => by
    have := plc_len w r (k + 1)
    rw [plc]
    split
    · rw [List.length_cons, List.length_cons]
      omega
    · rw [List.length_cons]
      omega
abbrev nV (n : Nat) : V := .int (n : Int)
def spPlacesX (C X : Addr) : Sp := fun vs H Q E => ∃ (p : Addr) (n : Int) (ws : List Str) (v : V), vs = [.ref p, v] ∧ PageAt C H p n ws ∧ Th H v ∧ (∀ z, v = .str z → isW z = true → RetL ((plc z 0 ws).map nV) H Q) ∧ (wordV v = false → RetE X H E)
theorem word_str {v : V} (h : wordV v = true) : ∃ z, v = .str z ∧ isW z = true := by
  cases v with
  | str z => exact ⟨z, rfl, h⟩
  | _ => cases h
set_option maxHeartbeats 4000000 in
theorem ok_p_placesX (T : TX K mg A FD TK CC) : FnOk P w K mg base (L2.CX P w) 3 (A 52) (FD 52) ["self", "word"] (spPlacesX (A 33) (A 2)) := by
  have G_check_word := ok_check_wordX (P := P) (w := w) (base := base) T
  refine T.f_Page_places.okX (k := 2) sc_Page_places (fun vs H Q E h => ?_) (fun cdv A' outer s H vs Q E hr h => ?_)
  · obtain ⟨p, n, ws, z, rfl, _⟩ := h
    rfl
  · obtain ⟨p, n, ws, v, rfl, ⟨dx, t, h1, h2, h3, h4⟩, hv, q, qe⟩ := h
    refine ⟨_, (pss_cons (ps_expr (pe_call G_check_word hr (by rfl) T.g_check_word T.f_check_word.kp T.b_check_word .nil (passes_call (takes_of rfl rfl rfl rfl) (fun _ _ _ _ h => h)) (pa_cons (pv 1) pa_nil)))
      (pss_one (ps_ret (pe_lc (own := [("at", 2), ("one", 3)])  rfl sc_Page_places.nd (EnT.pi_enumT (K := K) rfl (by rfl) T.m_enumerate (pa_cons (fldK (K := K) rfl (pv 0) rfl) pa_nil)) (blkOk_by (own := [("at", 2), ("one", 3)]) (N := N_Page_places) (sc := defScope (inClass (topS 33) 6)) (by decide +kernel)) (fun _ _ _ _ _ => (tupGK (K := K) (n := 2) rfl rfl (pgs_cons (pg_name (i := 2) sc_Page_places.nd rfl (Or.inl rfl)) (pgs_cons (pg_name (i := 3) sc_Page_places.nd rfl (Or.inl rfl)) pgs_nil)))) (fun _ _ _ _ _ => (pts_one (pt_cmpR op_eq (pv 3) (pv 1) (nomark _)))) (fun _ _ _ _ _ => (pv 2)))))), ?_⟩
    refine ⟨v, rfl, v, rfl, hv, fun hw H1 e1 => ?_, qe⟩
    obtain ⟨z, rfl, hz⟩ := word_str hw
    have q := q z rfl hz
    refine ⟨.ref p, rfl, p, A 33, dx, _, .ref t, rfl, e1 _ _ h1, T.cl_Page, T.n_Page_in_turn, rfl, t, _, rfl, SqT.of (e1 _ _ h2), fun D nD => ?_⟩
    refine lc_it (EnT.walkT (xs := ws.map V.str)) (fun i H' => Ex H1 H' ∧ H' D = some (.lst ((plc z 0 (ws.take i)).map nV))) ⟨Ex.new nD, upd_same⟩ (fun _ _ _ p => SqT.of (p.1 _ _ (e1 _ _ h2))) (fun i x H2 H3 hi p y => ?_) (fun H2 p => ?_)
    · obtain ⟨p1, p2⟩ := p
      obtain ⟨tp, u, v, rfl, ntp, rfl, hu, hv⟩ := y
      cases hu
      have hv : (ws.map V.str)[i]? = some v := hv
      rw [List.getElem?_map] at hv
      obtain ⟨x, g, rfl⟩ := Option.map_eq_some_iff.mp hv
      have e3 := Ex.new (o := .tup [.int (i : Nat), .str x]) ntp
      have il : i < ws.length := (List.getElem?_eq_some_iff.mp g).1
      have st : plc z 0 (ws.take (i + 1)) = plc z 0 (ws.take i) ++ (if x = z then [i] else []) := by
        rw [List.take_add_one, g]
        show plc z 0 (ws.take i ++ [x]) = _
        rw [plc_snoc, List.length_take, Nat.zero_add, Nat.min_eq_left (by omega)]
      refine ⟨tp, _, rfl, SqT.of upd_same, rfl, _, _, rfl, _, _, rfl, rfl, rfl, .str x, rfl, .str z, rfl, rfl, _, rfl, ite2 (fun c => ?_) (fun c => ?_)⟩
      · have c : x = z := V.str.inj (of_decide_eq_true c)
        refine ⟨.int (i : Nat), rfl, _, e3 _ _ p2, ?_, Ex.mut (p1.trans e3) nD, ?_⟩
        · rw [List.length_map]
          have := plc_len z (ws.take i) 0
          rw [List.length_take] at this
          exact sz_lt (by omega)
        · rw [upd_same, st, if_pos c, List.map_append]
          rfl
      · have c : ¬ x = z := fun e => c (decide_eq_true (congrArg V.str e))
        refine ⟨p1.trans e3, ?_⟩
        rw [st, if_neg c, List.append_nil]
        exact e3 _ _ p2
    · obtain ⟨p1, p2⟩ := p
      rw [List.length_map, List.take_length] at p2
      exact q D H2 (fresh_back e1 nD) (e1.trans p1) p2
def spOftenX (C X : Addr) : Sp := fun vs H Q E => ∃ (p : Addr) (n : Int) (ws : List Str) (v : V), vs = [.ref p, v] ∧ PageAt C H p n ws ∧ Th H v ∧ (∀ z, v = .str z → isW z = true → RetV (nV (plc z 0 ws).length) H Q) ∧ (wordV v = false → RetE X H E)
set_option maxHeartbeats 4000000 in
theorem ok_p_oftenX (T : TX K mg A FD TK CC) : FnOk P w K mg base (L2.CX P w) 4 (A 53) (FD 53) ["self", "word"] (spOftenX (A 33) (A 2)) := by
  have G_Page_places := ok_p_placesX (P := P) (w := w) (base := base) T
  refine T.f_Page_often.okX (k := 3) sc_Page_often (fun vs H Q E h => ?_) (fun cdv A' outer s H vs Q E hr h => ?_)
  · obtain ⟨p, n, ws, z, rfl, _⟩ := h
    rfl
  · obtain ⟨p, n, ws, v, rfl, hP, hv, q, qe⟩ := h
    obtain ⟨dx, t, h1, h2, h3, h4⟩ := id hP
    refine ⟨_, (pss_one (ps_ret (pe_callB (lenK (K := K) rfl) (by rfl) T.m_len (by decide +kernel) (pa_cons (pe_meth (pv 0) T.cl_Page T.M_Page_places G_Page_places hr T.b_Page_places .nil (passes_call (takes_of rfl rfl rfl rfl) (fun _ _ _ _ h => h)) (pa_cons (pv 1) pa_nil)) pa_nil)))), ?_⟩
    refine ⟨.ref p, rfl, p, dx, _, rfl, h1, rfl, v, rfl, p, n, ws, v, rfl, hP, hv, fun z hz hw => ?_, qe⟩
    intro D H2 nD e2 hD
    refine ⟨D, _, rfl, .inl (SqL.of hD), ?_⟩
    rw [List.length_map]
    exact q z hz hw H2 e2

/-! ### _law_spots, _law_right -/
theorem ne_sameV {v : V} : (!decide (v = v)) = false := by rw [decide_eq_true rfl]; rfl
def spLWhole : Sp := fun vs H Q _ => ∃ i : Int, vs = [.int i] ∧ Q (.bl true) H
set_option maxHeartbeats 4000000 in
theorem ok_l_whole (T : TX K mg A FD TK CC) : FnOk P w K mg base CX0 1 (A 43) (FD 43) ["_law_thing"] spLWhole := by
  refine T.f_l_whole.ok sc_l_whole (fun vs H Q E h => ?_) (fun cdv A' outer s H vs Q E hr h => ?_)
  · obtain ⟨v, rfl, _⟩ := h
    rfl
  · obtain ⟨i, rfl, q⟩ := h
    refine ⟨_, (pss_one (ps_ret (pe_and (pe_callB (isiK (K := K) rfl) (by rfl) T.m_isinstance (by decide +kernel) (pa_cons (pv 0) (pa_cons (pe_bltn (v := .ty "int") (by rfl) T.m_int (by decide +kernel) rfl) pa_nil))) (pe_one (pe_not (pe_callB (isiK (K := K) rfl) (by rfl) T.m_isinstance (by decide +kernel) (pa_cons (pv 0) (pa_cons (pe_bltn (v := .ty "bool") (by rfl) T.m_bool (by decide +kernel) rfl) pa_nil)))))))), ?_⟩
    refine ⟨.int i, rfl, .int i, .ty "int", .type "int", .type "int", true, rfl, .ty _, .base (.int i), kit_ty (by decide +kernel), true, rfl, ?_⟩
    exact ⟨.int i, rfl, .int i, .ty "bool", .type "int", .type "bool", false, rfl, .ty _, .base (.int i), kit_ty (by decide +kernel), false, rfl, q⟩
def spSpots : Sp := fun vs H Q _ => ∃ (h : Addr) (ws : List Str) (z : Str), vs = [.ref h, .str z] ∧ H h = some (.lst (ws.map V.str)) ∧ ws.length ≤ 120 ∧ RetL ((plc z 0 ws).map nV) H Q
set_option maxHeartbeats 4000000 in
theorem ok_l_spots (T : TX K mg A FD TK CC) : FnOk P w K mg base CX0 1 (A 42) (FD 42) ["_law_held", "_law_word"] spSpots := by
  refine T.f_l_spots.ok (k := 0) sc_l_spots (fun vs H Q E h => ?_) (fun cdv A' outer s H vs Q E hr h => ?_)
  · obtain ⟨p, ws, z, rfl, _⟩ := h
    rfl
  · obtain ⟨p, ws, z, rfl, hh, hl, q⟩ := h
    refine ⟨_, (pss_one (ps_ret (pe_lc (own := [("_law_at", 2)])  rfl sc_l_spots.nd (pi_range1 (by rfl) T.m_range (pa_cons (pe_callB (lenK (K := K) rfl) (by rfl) T.m_len (by decide +kernel) (pa_cons (pv 0) pa_nil)) pa_nil)) (blkOk_by (own := [("_law_at", 2)]) (N := N_l_spots) (sc := defScope (topS 42)) (by decide +kernel)) (fun _ _ _ _ _ => (pg_name (i := 2) sc_l_spots.nd rfl (Or.inl rfl))) (fun _ _ _ _ _ => (pts_one (pt_cmpR op_eq (pe_ix (ixLK (K := K) rfl) (pv 0) (pv 2) (fun _ _ => rfl)) (pv 1) (nomark _)))) (fun _ _ _ _ _ => (pv 2))))), ?_⟩
    refine ⟨.ref p, rfl, p, _, rfl, .inl (SqL.of hh), ((ws.map V.str).length : Int), rfl, by rw [List.length_map]; omega, by rw [List.length_map]; omega, fun D nD => ?_⟩
    refine lc_range (lo := 0) (n := ((ws.map V.str).length : Int).toNat) (fun i H' => Ex H H' ∧ H' D = some (.lst ((plc z 0 (ws.take i)).map nV))) ⟨Ex.new nD, upd_same⟩ (fun i H2 hi p => ?_) (fun H2 p => ?_)
    · obtain ⟨p1, p2⟩ := p
      rw [show ((ws.map V.str).length : Int).toNat = ws.length by rw [List.length_map]; rfl] at hi
      have g : ws[i]? = some ws[i] := List.getElem?_eq_getElem hi
      have st : plc z 0 (ws.take (i + 1)) = plc z 0 (ws.take i) ++ (if ws[i] = z then [i] else []) := by
        rw [List.take_add_one, g]
        show plc z 0 (ws.take i ++ [ws[i]]) = _
        rw [plc_snoc, List.length_take, Nat.zero_add, Nat.min_eq_left (by omega)]
      have ai : atI (ws.map V.str) ((0 : Int) + i) = some (.str ws[i]) := by
        rw [Int.zero_add]
        exact atI_nat (by rw [List.getElem?_map, g]; rfl)
      refine ⟨rfl, .ref p, rfl, .int ((0 : Int) + i), rfl, p, _, _, _, rfl, rfl, SqL.of (p1 _ _ hh), ai, .str z, rfl, rfl, _, rfl, ite2 (fun c => ?_) (fun c => ?_)⟩
      · have c : ws[i] = z := V.str.inj (of_decide_eq_true c)
        refine ⟨.int ((0 : Int) + i), rfl, _, p2, ?_, Ex.mut p1 nD, ?_⟩
        · rw [List.length_map]
          have := plc_len z (ws.take i) 0
          rw [List.length_take] at this
          exact sz_lt (by omega)
        · rw [upd_same, st, if_pos c, List.map_append, Int.zero_add]
          rfl
      · have c : ¬ ws[i] = z := fun e => c (decide_eq_true (congrArg V.str e))
        refine ⟨p1, ?_⟩
        rw [st, if_neg c, List.append_nil]
        exact p2
    · obtain ⟨p1, p2⟩ := p
      rw [show ((ws.map V.str).length : Int).toNat = ws.length by rw [List.length_map]; rfl, List.take_length] at p2
      exact q D H2 nD p1 p2
/-- data of a list of numbers -/
def nD (l : List Nat) : PyData := .list (l.map fun n : Nat => PyData.int (n : Int))
theorem nD_all {K : PySem.W.Frag} {H : Hp} : ∀ l : List Nat, DpAll K H (l.map nV) (l.map fun n : Nat => PyData.int (n : Int))
  | [] => .nil
  | _ :: r => .cons (.int _) (nD_all r)
theorem nD_dp {K : PySem.W.Frag} {H : Hp} {a : Addr} {l : List Nat} (h : H a = some (.lst (l.map nV))) : Dp K H (.ref a) (nD l) := .lst (SqL.of h) (nD_all l)
theorem nD_lay : ∀ l : List Nat, PyData.canLayAll0 (l.map fun n : Nat => PyData.int (n : Int)) = true
  | [] => by rw [List.map_nil, PyData.canLayAll0]
  | _ :: r => by rw [List.map_cons, PyData.canLayAll0, PyData.canLay0, nD_lay r]; rfl
theorem nD_depth : ∀ l : List Nat, PyData.depthAll (l.map fun n : Nat => PyData.int (n : Int)) = 0
  | [] => by rw [List.map_nil, PyData.depthAll]
  | _ :: r => by rw [List.map_cons, PyData.depthAll, PyData.depth, nD_depth r]; rfl
theorem nD_sh (l : List Nat) : SeqAt.shaped (nD l) = true := by
  unfold SeqAt.shaped nD
  rw [PyData.canLay0, nD_lay, PyData.depth, nD_depth]
  rfl
theorem nD_eq (l : List Nat) : PyData.eqv (nD l) (nD l) = true := SeqAt.eqv_refl _ (SeqAt.canLay_of_shaped (nD_sh l))
theorem plc_lt (w : Str) : ∀ (xs : List Str) (k m : Nat), m ∈ plc w k xs → m < k + xs.length
  | [], _, _, h => nomatch h
  | y :: r, k, m, h => by
    rw [plc] at h
    rw [List.length_cons]
    split at h
    · rcases List.mem_cons.mp h with rfl | h
      · omega
      · have := plc_lt w r (k + 1) m h
        omega
    · have := plc_lt w r (k + 1) m h
      omega
theorem cutV_to03 {xs : List V} {n : Nat} : cutV xs none (some (n : Int)) = xs.take n := by
  unfold cutV
  rw [HT.sIx_nat]
  show (xs.drop 0).take (min n xs.length - 0) = _
  rw [List.drop_zero, Nat.sub_zero]
  rcases Nat.le_total n xs.length with h | h
  · rw [Nat.min_eq_left h]
  · rw [Nat.min_eq_right h, List.take_of_length_le (Nat.le_refl _), List.take_of_length_le h]
theorem rep_allT (n : Nat) : (List.replicate n true).all id = true := by
  induction n with
  | zero => rfl
  | succ n ih => rw [List.replicate_succ, List.all_cons, ih]; rfl
def spRight03 (C : Addr) : Sp := fun vs H Q _ => ∃ (p h : Addr) (n : Int) (ws : List Str), vs = [.ref p, .int n, .ref h] ∧ PageAt C H p n ws ∧ H h = some (.lst (ws.map V.str)) ∧ ∀ H', Ex H H' → Q (.bl true) H'
theorem strs_same {K : PySem.W.Frag} {H : Hp} {a b : Addr} {ws : List Str} {R : V → Hp → Prop} (hw : ws.all isW = true) (h1 : H a = some (.lst (ws.map V.str))) (h2 : H b = some (.lst (ws.map V.str))) (q : R (.bl false) H) : rNeD K (.ref a) (.ref b) H R := by
  refine ⟨.list (ws.map PyData.str), .list (ws.map PyData.str), .lst (SqL.of h1) (dpS ws), .lst (SqL.of h2) (dpS ws), shapeS hw, shapeS hw, ?_⟩
  rw [eqvS hw]
  exact q
theorem nums_same {K : PySem.W.Frag} {H : Hp} {a b : Addr} {l : List Nat} {R : V → Hp → Prop} (h1 : H a = some (.lst (l.map nV))) (h2 : H b = some (.lst (l.map nV))) (q : R (.bl false) H) : rNeD K (.ref a) (.ref b) H R := by
  refine ⟨nD l, nD l, nD_dp h1, nD_dp h2, nD_sh l, nD_sh l, ?_⟩
  rw [nD_eq]
  exact q
set_option maxHeartbeats 8000000 in
theorem ok_l_right (T : TX K mg A FD TK CC) : Gd.FnG P w K mg base CX0 8 (A 46) (FD 46) ["_law_page", "_law_mark", "_law_held"] (spRight03 (A 33)) := by
  have G_l_whole := (ok_l_whole (P := P) (w := w) (base := base) T).mono (show 1 ≤ 7 by decide)
  have G_l_spots := (ok_l_spots (P := P) (w := w) (base := base) T).mono (show 1 ≤ 7 by decide)
  have G_Page_words := (ok_p_words (P := P) (w := w) (base := base) T).mono (show 1 ≤ 7 by decide)
  have G_Page_places := (ok_p_placesX (P := P) (w := w) (base := base) T).mono (show 3 ≤ 7 by decide)
  have G_Page_often := (ok_p_oftenX (P := P) (w := w) (base := base) T).mono (show 4 ≤ 7 by decide)
  have G_Page_len := (ok_p_len (P := P) (w := w) (base := base) T).mono (show 1 ≤ 6 by decide)
  have G_Page_str := (ok_p_str (P := P) (w := w) (base := base) T).mono (show 1 ≤ 5 by decide)
  refine Gd.okG (k := 7) T.f_l_right sc_l_right (fun vs H Q E h => ?_) (fun cdv A' outer s H vs Q E hgd hr h => ?_)
  · obtain ⟨p, h, n, ws, rfl, _⟩ := h
    rfl
  · obtain ⟨p, h, n, ws, rfl, hP, hh, q⟩ := h
    obtain ⟨dx, t, h1, h2, h3, h4⟩ := id hP
    refine ⟨_, (pss_cons (ps_if (PW.pt (pw_or (pt_not (pt_val (pe_call G_l_whole hr (by rfl) T.g_l_whole T.f_l_whole.kp T.b_l_whole .nil pass0 (pa_cons (fldK (K := K) rfl (pv 0) rfl) pa_nil)))) (pw_or (pt_cmpR op_ne (fldK (K := K) rfl (pv 0) rfl) (pv 1) (nomark _)) (pw_or1 (pt_cmpR (neDK (K := K) rfl hr.units) (pe_meth0 (pv 0) T.cl_Page T.M_Page_words G_Page_words hr T.b_Page_words .nil pass0) (pv 2) (nomark _))))))
      (pss_one (ps_ret pe_bl))
      pss_nil)
      (pss_cons (ps_set (i := 3) sc_l_right.nd rfl (.inl rfl) (pe_meth0 (pv 0) T.cl_Page T.M_Page_words G_Page_words hr T.b_Page_words .nil pass0))
      (pss_cons (ps_expr (pe_bm PySem.F.plainAttrs_list PySem.F.slot_list_append PySem.F.type_list_append mt_append (pv 3) (pa_cons pe_str pa_nil)))
      (pss_cons (ps_set (i := 4) sc_l_right.nd rfl (.inl rfl) (pe_meth (pv 0) T.cl_Page T.M_Page_places G_Page_places hr T.b_Page_places .nil passL (pa_cons (pe_ix (ixLK (K := K) rfl) (pe_op op_cat (pv 2) (pe_lst (pa_cons pe_str pa_nil))) pe_int (fun _ _ => rfl)) pa_nil)))
      (pss_cons (ps_set (i := 5) sc_l_right.nd rfl (.inl rfl) (pe_callB (Gd.reprK (K := K) rfl hgd hr.units) (by rfl) T.m_repr (by decide +kernel) (pa_cons (pv 4) pa_nil)))
      (pss_cons (ps_for PassesOwn.never rfl (piLK (K := K) rfl (pe_op op_cat (pe_slice (slLK (K := K) rfl) (pv 2) po_none (po_some pe_int)) (pe_lst (pa_cons pe_str (pa_cons pe_str (pa_cons pe_str (pa_cons pe_str (pa_cons pe_str pa_nil)))))))) (pg_name (i := 6) sc_l_right.nd rfl (.inl rfl))
      (pss_cons (ps_set (i := 7) sc_l_right.nd rfl (.inl rfl) (pe_call G_l_spots hr (by rfl) T.g_l_spots T.f_l_spots.kp T.b_l_spots .nil pass0 (pa_cons (pv 2) (pa_cons (pv 6) pa_nil))))
      (pss_cons (ps_set (i := 8) sc_l_right.nd rfl (.inl rfl) (pe_meth (pv 0) T.cl_Page T.M_Page_places G_Page_places hr T.b_Page_places .nil passL (pa_cons (pv 6) pa_nil)))
      (pss_cons (ps_if (PW.pt (pw_or (pt_not (pt_val (pe_callB (isiK (K := K) rfl) (by rfl) T.m_isinstance (by decide +kernel) (pa_cons (pv 8) (pa_cons (pe_bltn (v := .ty "list") (by rfl) T.m_list (by decide +kernel) rfl) pa_nil))))) (pw_or (pt_cmpR (neDK (K := K) rfl hr.units) (pv 8) (pv 7) (nomark _)) (pw_or1 (pt_not (pt_val (pe_callB (allK (K := K) rfl rfl) (by rfl) T.m_all (by decide +kernel) (pa_cons (pe_lc (own := [("_law_place", 9)])  rfl sc_l_right.nd (piLK (K := K) rfl (pv 8)) (blkOk_by (own := [("_law_place", 9)]) (N := N_l_right) (sc := defScope (topS 46)) (by decide +kernel)) (fun _ _ _ _ _ => (pg_name (i := 9) sc_l_right.nd rfl (Or.inl rfl))) (fun _ _ _ _ _ => pts_nil) (fun _ _ _ _ _ => (pe_call G_l_whole hr (by rfl) T.g_l_whole T.f_l_whole.kp T.b_l_whole .nil pass0 (pa_cons (pv 9) pa_nil)))) pa_nil))))))))
      (pss_one (ps_ret pe_bl))
      pss_nil)
      (pss_cons (ps_expr (pe_bm PySem.F.plainAttrs_list PySem.F.slot_list_append PySem.F.type_list_append mt_append (pv 8) (pa_cons pe_int pa_nil)))
      (pss_cons (ps_if (PW.pt (pw_or (pt_not (pt_val (pe_call G_l_whole hr (by rfl) T.g_l_whole T.f_l_whole.kp T.b_l_whole .nil pass0 (pa_cons (pe_meth (pv 0) T.cl_Page T.M_Page_often G_Page_often hr T.b_Page_often .nil passL (pa_cons (pv 6) pa_nil)) pa_nil)))) (pw_or (pt_cmpR op_ne (pe_meth (pv 0) T.cl_Page T.M_Page_often G_Page_often hr T.b_Page_often .nil passL (pa_cons (pv 6) pa_nil)) (pe_callB (lenK (K := K) rfl) (by rfl) T.m_len (by decide +kernel) (pa_cons (pv 7) pa_nil)) (nomark _)) (pw_or1 (pt_cmpR (neDK (K := K) rfl hr.units) (pe_meth (pv 0) T.cl_Page T.M_Page_places G_Page_places hr T.b_Page_places .nil passL (pa_cons (pv 6) pa_nil)) (pv 7) (nomark _))))))
      (pss_one (ps_ret pe_bl))
      pss_nil)
      (pss_one (ps_if (PW.pt (pw_or (pt_cmpR (neDK (K := K) rfl hr.units) (pv 8) (pe_op op_cat (pv 7) (pe_lst (pa_cons pe_int pa_nil))) (nomark _)) (pw_or1 (pt_cmpR op_ne (pe_callB (Gd.reprK (K := K) rfl hgd hr.units) (by rfl) T.m_repr (by decide +kernel) (pa_cons (pv 4) pa_nil)) (pv 5) (nomark _)))))
      (pss_one (ps_ret pe_bl))
      pss_nil))))))))
      (pss_cons (ps_if (PW.pt (pw_or (pt_cmpR (neDK (K := K) rfl hr.units) (pe_meth0 (pv 0) T.cl_Page T.M_Page_words G_Page_words hr T.b_Page_words .nil pass0) (pv 2) (nomark _)) (pw_or1 (pt_cmpR (neDK (K := K) rfl hr.units) (pv 3) (pe_op op_cat (pv 2) (pe_lst (pa_cons pe_str pa_nil))) (nomark _)))))
      (pss_one (ps_ret pe_bl))
      pss_nil)
      (pss_one (ps_ret (pe_and (pe_cmpR op_eq (pe_callB (Own.cr_lenO G_Page_len T.M_Page_len T.b_Page_len pass0 hr) (by rfl) T.m_len (by decide +kernel) (pa_cons (pv 0) pa_nil)) (pe_callB (lenK (K := K) rfl) (by rfl) T.m_len (by decide +kernel) (pa_cons (pv 2) pa_nil)) (nomark _)) (pe_one (pe_cmpR op_eq (pe_callTy (Own.cr_strO G_Page_str T.M_Page_str T.b_Page_str pass0 hr) (by rfl) T.m_str (by decide +kernel) (pa_cons (pv 0) pa_nil)) (pe_join pe_str (pv 2)) (nomark _))))))))))))), ?_⟩
    refine ⟨.ref p, rfl, p, A 33, dx, _, .int n, rfl, h1, T.cl_Page, T.n_Page_number, rfl, n, rfl, _, rfl, iteF ?_⟩
    refine ⟨.ref p, rfl, p, A 33, dx, _, .int n, rfl, h1, T.cl_Page, T.n_Page_number, rfl, .int n, rfl, rfl, _, rfl, ?_⟩
    rw [ne_sameV]
    refine iteF ?_
    refine ⟨.ref p, rfl, p, dx, _, rfl, h1, rfl, p, n, ws, rfl, hP, fun D1 H1 nD1 e1 hD1 => ?_⟩
    refine ⟨.ref h, rfl, strs_same h4 hD1 (e1 _ _ hh) ⟨_, rfl, iteF ?_⟩⟩
    -- what is told is changed
    refine ⟨.ref p, rfl, p, dx, _, rfl, e1 _ _ h1, rfl, p, n, ws, rfl, hP.ex e1, fun EV H2 nEV e2 hEV => ?_⟩
    refine ⟨.ref EV, rfl, .inl ⟨rfl, _, SqL.of hEV⟩, EV, _, .str "a", rfl, rfl, hEV, by rw [List.length_map]; exact sz_lt (by omega), ?_⟩
    have x2 : Ex H (upd H2 EV (.lst (ws.map V.str ++ [.str "a"]))) := Ex.mut (e1.trans e2) (fresh_back e1 nEV)
    have hE := upd_same (H := H2) (a := EV) (o := .lst (ws.map V.str ++ [.str "a"]))
    show tSeq _ _ _ _ (upd H2 EV (.lst (ws.map V.str ++ [.str "a"])))
    generalize (upd H2 EV (.lst (ws.map V.str ++ [.str "a"]))) = H3 at x2 hE ⊢
    have wa : isW ("a" : Str) = true := by decide +kernel
    obtain ⟨z0, a0, w0⟩ : ∃ z0 : Str, atI (ws.map V.str ++ [V.str "a"]) 0 = some (.str z0) ∧ isW z0 = true := by
      match ws, h4 with
      | [], _ => exact ⟨"a", atI_nat (j := 0) rfl, wa⟩
      | z :: r, h => exact ⟨z, atI_nat (j := 0) rfl, by rw [List.all_cons, Bool.and_eq_true] at h; exact h.1⟩
    refine ⟨.ref p, rfl, p, dx, _, rfl, x2 _ _ h1, rfl, .ref h, rfl, by show 1 ≤ sizeLine; decide, fun L1 nL1 => ?_⟩
    have y1 := Ex.new (o := .lst [V.str "a"]) nL1
    refine ⟨h, L1, _, _, rfl, rfl, y1 _ _ (x2 _ _ hh), upd_same, by rw [List.length_map]; exact sz (by show _ + 1 ≤ _; omega), fun L2 nL2 => ?_⟩
    have y2 := y1.trans (Ex.new (o := .lst (ws.map V.str ++ [V.str "a"])) nL2)
    refine ⟨L2, _, 0, _, rfl, rfl, SqL.of upd_same, a0, p, n, ws, .str z0, rfl, hP.ex (x2.trans y2), .str z0 (by have := isW_len w0; omega), fun z hz _ => ?_, fun hb => by rw [show wordV (.str z0) = isW z0 from rfl, w0] at hb; cases hb⟩
    cases hz
    intro AH H4 nAH e4 hAH
    have x4 := x2.trans (y2.trans e4)
    have hE4 := (y2.trans e4) _ _ hE
    obtain ⟨s1, s2, s3⟩ := ShL.nums_show (m := 1000) (by decide) (plc z0 0 ws) (fun m hm => by have := plc_lt z0 ws 0 m hm; omega)
    have s3 : (PyData.shown (nD (plc z0 0 ws))).length ≤ sizeLine := by
      have l1 := ShL.list_le (PyData.shownAll ((plc z0 0 ws).map fun n : Nat => PyData.int (n : Int)))
      have l2 := plc_len z0 ws 0
      unfold nD
      rw [PyData.shown]
      exact sz (by omega)
    have s1 : PyData.showable (nD (plc z0 0 ws)) = true := by unfold nD; rw [PyData.showable]; exact s1
    have s2 : PyData.hasDict (nD (plc z0 0 ws)) = false := by unfold nD; rw [PyData.hasDict]; exact s2
    have s4 : PyData.depth (nD (plc z0 0 ws)) ≤ 60 := by unfold nD; rw [PyData.depth, nD_depth]; decide
    refine ⟨.ref AH, rfl, AH, nD (plc z0 0 ws), rfl, nD_dp hAH, s1, s2, s4, s3, ?_⟩
    have S5 : ∃ us : List Str, us.all isW = true ∧ us.length ≤ 13 ∧ cutV (ws.map V.str) none (some 8) ++ [V.str "a", .str "b", .str "ab", .str "zz", .str "abcdefghijkl"] = us.map V.str := by
      refine ⟨ws.take 8 ++ (["a", "b", "ab", "zz", "abcdefghijkl"] : List Str), ?_, ?_, ?_⟩
      · rw [List.all_append, Bool.and_eq_true]
        exact ⟨List.all_eq_true.mpr fun x hx => List.all_eq_true.mp h4 x (List.mem_of_mem_take hx), by decide +kernel⟩
      · rw [List.length_append, List.length_take]
        show min 8 ws.length + 5 ≤ 13
        omega
      · rw [show (some (8 : Int)) = some ((8 : Nat) : Int) from rfl, cutV_to03, List.map_append, List.map_take]
        rfl
    obtain ⟨us, u1, u2, u3⟩ := S5
    refine ⟨.ref h, rfl, 8, rfl, h, _, rfl, SqL.of (x4 _ _ hh), fun S1 nS1 => ?_⟩
    have y5 := Ex.new (o := .lst (cutV (ws.map V.str) none (some 8))) nS1
    refine ⟨by show 5 ≤ sizeLine; decide, fun S2 nS2 => ?_⟩
    have y6 := Ex.new (o := .lst [V.str "a", .str "b", .str "ab", .str "zz", .str "abcdefghijkl"]) nS2
    have ul : (us.map V.str).length ≤ 13 := by rw [List.length_map]; exact u2
    have ul2 : (cutV (ws.map V.str) none (some 8)).length + 5 ≤ 13 := by
      rw [← u3, List.length_append] at ul
      exact ul
    refine ⟨S1, S2, _, _, rfl, rfl, y6 _ _ upd_same, upd_same, sz (by show _ + 5 ≤ _; omega), fun S3 nS3 => ?_⟩
    rw [u3]
    have y7 := (y5.trans y6).trans (Ex.new (o := .lst (us.map V.str)) nS3)
    have hS3 := upd_same (H := upd (upd H4 S1 (.lst (cutV (ws.map V.str) none (some 8)))) S2 (.lst [V.str "a", .str "b", .str "ab", .str "zz", .str "abcdefghijkl"])) (a := S3) (o := .lst (us.map V.str))
    generalize (upd (upd (upd H4 S1 (.lst (cutV (ws.map V.str) none (some 8)))) S2 (.lst [V.str "a", .str "b", .str "ab", .str "zz", .str "abcdefghijkl"])) S3 (.lst (us.map V.str))) = H5 at y7 hS3 ⊢
    have x5 := x4.trans y7
    have hE5 := y7 _ _ hE4
    have hA5 := y7 _ _ hAH
    clear y1 y2 y5 y6 y7 nS1 nS2 nS3 nL1 nL2 e4 hAH nAH hE4 hE x4 x2 e1 e2 hEV hD1 u3 ul ul2
    refine ⟨S3, rfl, ⟨_, SqL.of hS3⟩, ?_⟩
    refine for_list (K := K) (a := S3) (xs := us.map V.str) (fun j σ2 Hm => ∃ w6 w7 w8 w9 : Option V, σ2 = [some (.ref p), some (.int n), some (.ref h), some (.ref EV), some (.ref AH), some (.str (PyData.shown (nD (plc z0 0 ws)))), w6, w7, w8, w9] ∧ Ex H5 Hm) ⟨_, _, _, _, rfl, Ex.refl _⟩ (fun j σ2 Hm _ pj => ?_) (fun j v σ2 Hm gv pj => ?_) (fun σ2 Hm pj => ?_)
    · obtain ⟨_, _, _, _, _, e⟩ := pj
      exact SqL.of (e _ _ hS3)
    · obtain ⟨w6, w7, w8, w9, rfl, em⟩ := pj
      obtain ⟨z, hz, rfl⟩ := List.mem_map.mp (List.mem_of_getElem? gv)
      have wz := List.all_eq_true.mp u1 z hz
      have lz := isW_len wz
      have Tz : Th Hm (.str z) := .str z (by omega)
      have em0 := x5.trans em
      refine ⟨.ref h, rfl, .str z, rfl, h, ws, z, rfl, em0 _ _ hh, h3, fun DU H6 nDU e6 hDU => ?_⟩
      have o6 := em0.trans e6
      refine ⟨.ref p, rfl, p, dx, _, rfl, o6 _ _ h1, rfl, .str z, rfl, p, n, ws, .str z, rfl, hP.ex o6, .str z (by omega), fun z' hz' _ => ?_, fun hb => by rw [show wordV (.str z) = isW z from rfl, wz] at hb; cases hb⟩
      cases hz'
      intro TD H7 nTD e7 hTD
      have o7 := o6.trans e7
      have hD7 := e7 _ _ hDU
      refine ⟨.ref TD, rfl, .ref TD, .ty "list", .type "list", .type "list", true, rfl, .ty _, .base (.lst hTD), kit_ty (by decide +kernel), _, rfl, iteF ?_⟩
      refine ⟨.ref TD, rfl, .ref DU, rfl, nums_same hTD hD7 ⟨_, rfl, iteF ?_⟩⟩
      refine ⟨.ref TD, rfl, TD, rfl, ⟨_, SqL.of hTD⟩, fun D nD8 => ?_⟩
      refine lc_list (K := K) (xs := (plc z 0 ws).map nV) (fun i H' => Ex H7 H' ∧ H' D = some (.lst ((List.replicate i true).map V.bl))) ⟨Ex.new nD8, upd_same⟩ (fun i H' _ z => SqL.of (z.1 _ _ hTD)) (fun i v H' gv z => ?_) (fun H8 z => ?_)
      · obtain ⟨z1, z2⟩ := z
        obtain ⟨m, hm, rfl⟩ := List.mem_map.mp (List.mem_of_getElem? gv)
        have li : i < ((plc z 0 ws).map nV).length := (List.getElem?_eq_some_iff.mp gv).1
        rw [List.length_map] at li
        have pl := plc_len z ws 0
        refine ⟨rfl, nV m, rfl, (m : Int), rfl, _, z2, ?_, Ex.mut z1 nD8, ?_⟩
        · rw [List.length_map, List.length_replicate]
          exact sz_lt (by omega)
        · rw [upd_same, List.replicate_succ', List.map_append]
          rfl
      obtain ⟨z1, z2⟩ := z
      refine ⟨D, _, rfl, SqL.of z2, ?_⟩
      rw [rep_allT]
      refine ⟨_, rfl, iteF ?_⟩
      have o8 := o7.trans z1
      have hT8 := z1 _ _ hTD
      have hD8 := z1 _ _ hD7
      have em8 : Ex Hm H8 := ((e6.trans e7).trans z1)
      have nDT := ne_of_none hDU nTD
      have fT := fresh_back e6 nTD
      clear z1 z2 nD8 hD7 hTD hDU o7 o6 em0 Tz
      have pl := plc_len z ws 0
      refine ⟨.ref TD, rfl, .inl ⟨rfl, _, SqL.of hT8⟩, TD, _, .int 0, rfl, rfl, hT8, by rw [List.length_map]; exact sz_lt (by omega), ?_⟩
      have em9 : Ex Hm (upd H8 TD (.lst ((plc z 0 ws).map nV ++ [.int 0]))) := Ex.mut em8 fT
      have hD9 : (upd H8 TD (.lst ((plc z 0 ws).map nV ++ [.int 0]))) DU = some (.lst ((plc z 0 ws).map nV)) := by rw [upd_ne nDT]; exact hD8
      have hT9 := upd_same (H := H8) (a := TD) (o := .lst ((plc z 0 ws).map nV ++ [.int 0]))
      show tSeq _ _ _ _ (upd H8 TD (.lst ((plc z 0 ws).map nV ++ [.int 0])))
      generalize (upd H8 TD (.lst ((plc z 0 ws).map nV ++ [.int 0]))) = H9 at em9 hD9 hT9 ⊢
      clear hT8 hD8 em8 o8
      have o9 := x5.trans (em.trans em9)
      have Tz : ∀ Hx : Hp, Th Hx (.str z) := fun Hx => .str z (by omega)
      have nob : ∀ {Hx : Hp} {Ex' : XK}, wordV (.str z) = false → RetE (A 2) Hx Ex' := fun hb => by rw [show wordV (.str z) = isW z from rfl, wz] at hb; cases hb
      refine ⟨.ref p, rfl, p, dx, _, rfl, o9 _ _ h1, rfl, .str z, rfl, p, n, ws, .str z, rfl, hP.ex o9, Tz _, fun z' hz' _ => ?_, nob⟩
      cases hz'
      intro HA eA
      refine ⟨_, rfl, _, rfl, iteF ?_⟩
      have oA := o9.trans eA
      refine ⟨.ref p, rfl, p, dx, _, rfl, oA _ _ h1, rfl, .str z, rfl, p, n, ws, .str z, rfl, hP.ex oA, Tz _, fun z' hz' _ => ?_, nob⟩
      cases hz'
      intro HB eB
      have oB := oA.trans eB
      have hDB := (eA.trans eB) _ _ hD9
      refine ⟨.ref DU, rfl, DU, _, rfl, .inl (SqL.of hDB), rfl, _, rfl, ?_⟩
      rw [List.length_map, ne_sameV]
      refine iteF ?_
      refine ⟨.ref p, rfl, p, dx, _, rfl, oB _ _ h1, rfl, .str z, rfl, p, n, ws, .str z, rfl, hP.ex oB, Tz _, fun z' hz' _ => ?_, nob⟩
      cases hz'
      intro PC HC nPC eC hPC
      refine ⟨.ref DU, rfl, nums_same hPC (eC _ _ hDB) ⟨_, rfl, iteF ?_⟩⟩
      have eAC := (eA.trans eB).trans eC
      have hDC := eAC _ _ hD9
      have hTC := eAC _ _ hT9
      have oC := o9.trans eAC
      refine ⟨.ref TD, rfl, .ref DU, rfl, by show 1 ≤ sizeLine; decide, fun M1 nM1 => ?_⟩
      have m1 := Ex.new (o := .lst [V.int 0]) nM1
      refine ⟨DU, M1, _, _, rfl, rfl, m1 _ _ hDC, upd_same, by rw [List.length_map]; exact sz (by show _ + 1 ≤ _; omega), fun M2 nM2 => ?_⟩
      have m2 := m1.trans (Ex.new (o := .lst ((plc z 0 ws).map nV ++ [V.int 0])) nM2)
      have ap : (plc z 0 ws).map nV ++ [V.int 0] = (plc z 0 ws ++ [0]).map nV := by rw [List.map_append]; rfl
      have hT2 := m2 _ _ hTC
      have hM2 := upd_same (H := upd HC M1 (.lst [V.int 0])) (a := M2) (o := .lst ((plc z 0 ws).map nV ++ [V.int 0]))
      rw [ap] at hT2 hM2 ⊢
      rw [ap] at m2
      refine nums_same hT2 hM2 ⟨_, rfl, iteF ?_⟩
      have hAz := m2 _ _ (eAC _ _ (em9 _ _ (em _ _ hA5)))
      refine ⟨.ref AH, rfl, AH, nD (plc z0 0 ws), rfl, nD_dp hAz, s1, s2, s4, s3, .str _, rfl, rfl, _, rfl, ?_⟩
      rw [ne_sameV]
      refine iteF ?_
      exact ⟨_, _, _, _, rfl, (em.trans em9).trans (eAC.trans m2)⟩
    · obtain ⟨w6, w7, w8, w9, rfl, em⟩ := pj
      have em0 := x5.trans em
      refine ⟨.ref p, rfl, p, dx, _, rfl, em0 _ _ h1, rfl, p, n, ws, rfl, hP.ex em0, fun D H6 nD e6 hD => ?_⟩
      refine ⟨.ref h, rfl, strs_same h4 hD (e6 _ _ (em0 _ _ hh)) ⟨_, rfl, iteF ?_⟩⟩
      have o6 := em0.trans e6
      have hE6 := e6 _ _ (em _ _ hE5)
      refine ⟨.ref EV, rfl, .ref h, rfl, by show 1 ≤ sizeLine; decide, fun M1 nM1 => ?_⟩
      have m1 := Ex.new (o := .lst [V.str "a"]) nM1
      refine ⟨h, M1, _, _, rfl, rfl, m1 _ _ (o6 _ _ hh), upd_same, by rw [List.length_map]; exact sz (by show _ + 1 ≤ _; omega), fun M2 nM2 => ?_⟩
      have m2 := m1.trans (Ex.new (o := .lst (ws.map V.str ++ [V.str "a"])) nM2)
      have hM2 := upd_same (H := upd H6 M1 (.lst [V.str "a"])) (a := M2) (o := .lst (ws.map V.str ++ [V.str "a"]))
      have ap : ws.map V.str ++ [V.str "a"] = (ws ++ (["a"] : List Str)).map V.str := by rw [List.map_append]; rfl
      have wp : (ws ++ (["a"] : List Str)).all isW = true := by rw [List.all_append, h4]; exact wa
      rw [ap] at hE6 hM2 m2 ⊢
      refine strs_same wp (m2 _ _ hE6) hM2 ⟨_, rfl, iteF ?_⟩
      have o7 := o6.trans m2
      have hPz := hP.ex o7
      refine ⟨.ref p, rfl, p, dx, _, rfl, o7 _ _ h1, p, n, ws, rfl, hPz, _, rfl, ⟨by omega, by omega⟩, .ref h, rfl, h, _, rfl, .inl (SqL.of (o7 _ _ hh)), rfl, _, rfl, ?_⟩
      rw [List.length_map, decide_eq_true rfl]
      refine (if_pos rfl).mpr ?_
      refine ⟨.ref p, rfl, p, dx, _, rfl, o7 _ _ h1, p, n, ws, rfl, hPz, _, rfl, ⟨_, rfl⟩, .ref h, rfl, " ", h, ws, rfl, rfl, .inl (SqL.of (o7 _ _ hh)), ?_, rfl, ?_⟩
      · have ls := len_sum ws h4
        rw [show (Str.ofString " ").length = 1 by decide +kernel]
        omega
      · rw [decide_eq_true rfl]
        exact q _ o7

/-! tables of lambdas -/
abbrev lamQ (n : Str) : Str := n ++ ".<locals>." ++ "<lambda>"
abbrev TabL (PR : Addr) : List (Addr × Str) := [(PR, lamQ "law")]
theorem fx_new {p : Addr} {H H1 H2 : Hp} (n : H p = none) (e : Ex H H1) (f : Fx p H1 H2) : Ex H H2 := fun a o h => f a o (ne_of_none h n) (e a o h)
theorem maxmin (n : Nat) : 1 ≤ (if (if (n : Int) < 8 then (n : Int) else 8) > 1 then (if (n : Int) < 8 then (n : Int) else 8) else 1) ∧ (if (if (n : Int) < 8 then (n : Int) else 8) > 1 then (if (n : Int) < 8 then (n : Int) else 8) else 1) ≤ 8 := by
  constructor
  · split <;> split <;> omega
  · split <;> split <;> omega
theorem lst_exN {H H' : Hp} {a : Addr} {xs : List V} (e : LamX.ExtN H H') (h : H a = some (.lst xs)) : H' a = some (.lst xs) := e _ _ h (by intro ps z; cases z)
theorem tup_exN {H H' : Hp} {a : Addr} {xs : List V} (e : LamX.ExtN H H') (h : H a = some (.tup xs)) : H' a = some (.tup xs) := e _ _ h (by intro ps z; cases z)
theorem sql_exN {K : PySem.W.Frag} {H H' : Hp} {a : Addr} {xs : List V} (e : LamX.ExtN H H') (h : SqL K H a xs) : SqL K H' a xs := by
  rcases h with (h | ⟨o, h⟩) | h
  · exact .inl (.inl (lst_exN e h))
  · exact .inl (.inr ⟨o, e _ _ h (by intro ps z; cases z)⟩)
  · exact .inr h
theorem sqt_exN {K : PySem.W.Frag} {H H' : Hp} {a : Addr} {xs : List V} (e : LamX.ExtN H H') (h : SqT K H a xs) : SqT K H' a xs := by
  rcases h with (h | ⟨o, h⟩) | h
  · exact .inl (.inl (tup_exN e h))
  · exact .inl (.inr ⟨o, e _ _ h (by intro ps z; cases z)⟩)
  · exact .inr h
theorem fx_newN {p : Addr} {H H1 H2 : Hp} (n : H p = none) (e : LamX.ExtN H H1) (f : Fx p H1 H2) : LamX.ExtN H H2 := fun a o h t => f a o (ne_of_none h n) (e a o h t)
theorem tabs_fx {Tt : List (Addr × Str)} {H H' : Hp} {p : Addr} {c : Nat} (t : LamX.Tabs Tt H) (hp : Pl H p c) (f : Fx p H H') : LamX.Tabs Tt H' := fun q hq => by
  obtain ⟨ps, h1, h2, h3⟩ := t q hq
  obtain ⟨xs, hx⟩ := hp.some
  refine ⟨ps, f _ _ (ne_of h1 hx (by intro z; cases z)) h1, h2, fun pos cv hc => ?_⟩
  obtain ⟨c, e1, e2⟩ := h3 pos cv hc
  exact ⟨c, e1, f _ _ (ne_of e2 hx (by intro z; cases z)) e2⟩

/-! pages made in a law -/
theorem bindsP (T : TX K mg A FD TK CC) : ∃ ds, Vals ([] : List V) ds ∧ Binds K (FD 48) ["self", "number", "text"] ds := by
  obtain ⟨ds2, R2, B2⟩ := T.f_Page_init.binds1 (ps := ["self", "number", "text"]) 3 1 (by simp) rfl (fun _ _ _ _ _ _ _ us its hl1 hl2 => match us, its, hl1, hl2 with | [_, _, _], [_], _, _ => ⟨_, rfl, rfl⟩)
  exact ⟨ds2, R2, B2⟩
theorem jbound {ws : List Str} (h : ws.all isW = true) (hl : ws.length ≤ 120) : (ws.map (·.length)).sum + ws.length * (Str.ofString " ").length ≤ 16777216 := by
  have := len_sum ws h
  rw [show (Str.ofString " ").length = 1 by decide +kernel]
  omega
theorem mk_page {C : Addr} {H : Hp} {x dx : Addr} {n : Int} {ws : List Str} {R : Hp → Prop} {E : XK} (nx : H x = none) (ndx : H dx = none) (h1 : 1 ≤ n) (h2 : n ≤ 9999) (hl : ws.length ≤ 120) (hw : ws.all isW = true) (q : ∀ H', Ex H H' → PageAt C H' x n ws → R H') :
    spPInit C [.ref x, .int n, .str (Txt.join " " ws)] (upd (upd H dx (.own x)) x (.ins C dx [])) (fun v H2 => v = .non ∧ R H2) E := by
  have ep := pieces_join hw
  refine ⟨x, dx, n, _, rfl, upd_same, h1, h2, by have := join_le hw hl; omega, ?_, fun H' t i hx ht => ⟨rfl, q H' (fun c o h => ?_) ⟨dx, t, hx, ?_, hl, hw⟩⟩⟩
  · rw [ep]
    unfold okP
    rw [decide_eq_true hl, hw]
    rfl
  · refine i c o (ne_of_none h nx) ?_
    rw [upd_ne (ne_of_none h nx), upd_ne (ne_of_none h ndx)]
    exact h
  · rw [ep] at ht
    exact ht
theorem PageAt.fx {C : Addr} {H H' : Hp} {q p : Addr} {n : Int} {ws : List Str} {c : Nat} (h : PageAt C H q n ws) (f : Fx p H H') (hp : Pl H p c) : PageAt C H' q n ws := by
  obtain ⟨dx, t, h1, h2, h3⟩ := h
  obtain ⟨ys, hy⟩ := hp.some
  exact ⟨dx, t, f _ _ (ne_of h1 hy (by intro z; cases z)) h1, f.tup hp h2, h3⟩
theorem PageAt.upl {C : Addr} {H : Hp} {q D : Addr} {n : Int} {ws : List Str} {xs : List V} {o : HO} (h : PageAt C H q n ws) (hD : H D = some (.lst xs)) : PageAt C (upd H D o) q n ws := by
  obtain ⟨dx, t, h1, h2, h3⟩ := h
  exact ⟨dx, t, by rw [upd_ne (ne_of h1 hD (by intro z; cases z))]; exact h1, by rw [upd_ne (ne_of h2 hD (by intro z; cases z))]; exact h2, h3⟩

/-! ### the law -/
def spLaw (K : PySem.W.Frag) (Tt : List (Addr × Str)) : Sp := fun vs H Q _ => ∃ (a : Addr) (ns : List Int), vs = [.ref a] ∧ SqL K H a (ns.map V.int) ∧ ns.length ≤ 63 ∧ LamX.Tabs Tt H ∧ ∀ H', Q (.bl true) H'
theorem vals_rev : ∀ {zs : List V} {ws : List Value}, Vals zs ws → Vals zs.reverse ws.reverse
  | _, _, .nil => .nil
  | _, _, .cons h t => by
    rw [List.reverse_cons, List.reverse_cons]
    exact (vals_rev t).append (.cons h .nil)
theorem cmul_small {x y : Int} (hx : x.natAbs < 200) (hy : y.natAbs < 200) : CMul x y := by
  have a : (2 : Int) ^ 64 = 18446744073709551616 := by decide
  exact .inl (by rw [a]; omega)
theorem PageAt.exN {C : Addr} {H H' : Hp} {q : Addr} {n : Int} {ws : List Str} (h : PageAt C H q n ws) (e : LamX.ExtN H H') : PageAt C H' q n ws := by
  obtain ⟨dx, t, h1, h2, h3⟩ := h
  exact ⟨dx, t, e _ _ h1 (by intro ps z; cases z), tup_exN e h2, h3⟩
/-- where the turn stands -/
structure S03 (C : Addr) (H' H1 : Hp) (p kk hd : Addr) (zs ws : List Str) (c : Nat) (H : Hp) : Prop where
  pl : Pl H p c
  fx : Fx p H1 H
  kn : Kn H kk zs
  nd : hd ≠ p
  at_ : H hd = some (.lst (ws.map V.str))
  l : ws.length ≤ 120
  w : ws.all isW = true
theorem S03.go {C : Addr} {H' H1 : Hp} {p kk hd : Addr} {zs ws : List Str} {c c' : Nat} {H J : Hp} (s : S03 C H' H1 p kk hd zs ws c H) (f : Fx p H J) (hp : Pl J p c') : S03 C H' H1 p kk hd zs ws c' J := ⟨hp, s.fx.trans f, s.kn.fx s.pl f, s.nd, f _ _ s.nd s.at_, s.l, s.w⟩
set_option maxHeartbeats 16000000 in
theorem ok_law (T : TX K mg A FD TK CC) {PR : Addr} (TBL : LamX.TabB base mg (CC 47) PR) : Gd.FnG P w K mg base CX0 12 (A 47) (FD 47) ["_law_script"] (spLaw K (TabL PR)) := by
  have G_l_pool := (ok_l_pool (P := P) (w := w) (base := base) T).mono (show 1 ≤ 11 by decide)
  have G_l_take := (ok_l_take (P := P) (w := w) (base := base) T).mono (show 1 ≤ 11 by decide)
  have G_l_kinds := (ok_l_kinds (P := P) (w := w) (base := base) T).mono (show 2 ≤ 11 by decide)
  have G_l_words := (ok_l_words (P := P) (w := w) (base := base) T).mono (show 2 ≤ 11 by decide)
  have G_l_right := (ok_l_right (P := P) (w := w) (base := base) T).mono (show 8 ≤ 11 by decide)
  have G_Page := (ok_pinit (P := P) (w := w) (base := base) T).mono (show 5 ≤ 10 by decide)
  have G_Page_places_lam := (ok_p_placesX (P := P) (w := w) (base := base) T).mono (show 3 ≤ 9 by decide)
  have G_Page_often_lam := (ok_p_oftenX (P := P) (w := w) (base := base) T).mono (show 4 ≤ 9 by decide)
  obtain ⟨ds2, R2_Page, B2_Page⟩ := T.f_Page_init.binds1 (ps := ["self", "number", "text"]) 3 1 (by simp) rfl (fun _ _ _ _ _ _ _ us its hl1 hl2 => match us, its, hl1, hl2 with | [_, _, _], [_], _, _ => ⟨_, rfl, rfl⟩)
  obtain ⟨ds1, R1_Page, B1_Page⟩ := T.f_Page_init.binds1 (ps := ["self", "number", "text"]) 2 0 (by simp) rfl (fun _ _ _ _ _ _ _ us its hl1 hl2 => match us, its, hl1, hl2 with | [_, _], [_], _, _ => ⟨_, rfl, rfl⟩)
  obtain ⟨its3, KB_Page⟩ := T.f_Page_init.kbindsD (ps := ["self", "number", "text"]) 1 ["text", "number"] (fun us _ ws => us ++ ws.reverse) (by simp) (fun r1 _ r3 => r1.append (vals_rev r3)) (fun _ _ _ _ _ _ _ us its ws hl1 hl2 hl3 => match us, its, ws, hl1, hl2, hl3 with | [_], [_], [_, _], _, _, _ => ⟨_, rfl, rfl⟩)
  have hmL : (PR, lamQ "law") ∈ TabL PR := List.mem_cons_self ..
  have huL : ∀ q ∈ TabL PR, q.1 = PR → q.2 = lamQ "law" := fun q hq _ => by rw [List.mem_singleton.mp hq]
  refine Gd.okGC (k := 11) T.F_law sc_law (fun vs H Q E h => ?_) (fun A' outer s H vs Q E hgd hr h => ?_)
  · obtain ⟨a, ns, rfl, _⟩ := h
    rfl
  · obtain ⟨a, ns, rfl, hS, hn, hT, q⟩ := h
    refine ⟨_, (pss_cons (ps_for PassesOwn.never rfl (pi_range1 (by rfl) T.m_range (pa_cons (pe_callB (call_max2 rfl) (by rfl) T.m_max (by decide +kernel) (pa_cons pe_int (pa_cons (pe_callB (call_min2 rfl) (by rfl) T.m_min (by decide +kernel) (pa_cons pe_int (pa_cons (pe_callB (lenK (K := K) rfl) (by rfl) T.m_len (by decide +kernel) (pa_cons (pv 0) pa_nil)) pa_nil))) pa_nil))) pa_nil)) (pg_name (i := 1) sc_law.nd rfl (.inl rfl))
      (pss_cons (ps_set (i := 2) sc_law.nd rfl (.inl rfl) (pe_call G_l_pool hr (by rfl) T.g_l_pool T.f_l_pool.kp T.b_l_pool .nil pass0 (pa_cons (pv 0) (pa_cons (pv 1) pa_nil))))
      (pss_cons (ps_set (i := 3) sc_law.nd rfl (.inl rfl) (pe_call G_l_take hr (by rfl) T.g_l_take T.f_l_take.kp T.b_l_take .nil pass0 (pa_cons (pv 2) (pa_cons pe_int pa_nil))))
      (pss_cons (ps_set (i := 4) sc_law.nd rfl (.inr rfl) (pe_call G_l_kinds hr (by rfl) T.g_l_kinds T.f_l_kinds.kp T.b_l_kinds .nil pass0 (pa_cons (pv 2) pa_nil)))
      (pss_cons (ps_set (i := 5) sc_law.nd rfl (.inl rfl) (pe_call G_l_words hr (by rfl) T.g_l_words T.f_l_words.kp T.b_l_words .nil pass0 (pa_cons (pv 2) (pa_cons (pv 4) (pa_cons pe_int pa_nil)))))
      (pss_cut (ps_if (pt_cmpR op_eq (pv 3) pe_int (nomark _))
      (pss_one (ps_setLc (i := 5) (own := [("_law_j", 12)])  rfl sc_law.nd rfl rfl (sw_true rfl rfl rfl (by decide +kernel)) (pi_range1 (by rfl) T.m_range (pa_cons (pe_op op_add pe_int (pe_call G_l_take hr (by rfl) T.g_l_take T.f_l_take.kp T.b_l_take .nil pass0 (pa_cons (pv 2) (pa_cons pe_int pa_nil)))) pa_nil)) (blkOk_by (own := [("_law_j", 12)]) (N := N_law) (sc := defScope (topS 47)) (by decide +kernel)) (fun _ _ _ _ _ => (pg_name (i := 12) sc_law.nd rfl (Or.inl rfl))) (fun _ _ _ _ _ => pts_nil) (fun _ _ _ _ _ => (pe_ix (ixLK (K := K) rfl) (pv 4) (pe_op op_mod (pe_op op_mul (pv 12) (pv 12)) (pe_callB (lenK (K := K) rfl) (by rfl) T.m_len (by decide +kernel) (pa_cons (pv 4) pa_nil))) (fun _ _ => rfl)))))
      pss_nil)
      (pss_cons (ps_set (i := 6) sc_law.nd rfl (.inl rfl) (pe_call G_l_words hr (by rfl) T.g_l_words T.f_l_words.kp T.b_l_words .nil pass0 (pa_cons (pv 2) (pa_cons (pv 4) (pa_cons pe_int pa_nil)))))
      (pss_cons (ps_par (by rfl) sc_law.nd (i := 7) (j := 8) rfl rfl (by decide) rfl rfl (pa_cons (pe_op op_add pe_int (pe_call G_l_take hr (by rfl) T.g_l_take T.f_l_take.kp T.b_l_take .nil pass0 (pa_cons (pv 2) (pa_cons pe_int pa_nil)))) (pa_cons (pe_op op_add pe_int (pe_call G_l_take hr (by rfl) T.g_l_take T.f_l_take.kp T.b_l_take .nil pass0 (pa_cons (pv 2) (pa_cons pe_int pa_nil)))) pa_nil)) (by rfl))
      (pss_cons (ps_set (i := 9) sc_law.nd rfl (.inr rfl) (pe_lst (pa_cons (pe_make T.M_Page G_Page hr (by rfl) T.k_Page B2_Page R2_Page pass0 (pa_cons (pv 7) (pa_cons (pe_join pe_str (pv 5)) pa_nil))) (pa_cons (pe_makeK0 T.M_Page G_Page hr (by rfl) T.k_Page KB_Page pass0 (pk_cons (pe_join pe_str (pv 6)) (pk_cons (pv 8) pk_nil))) pa_nil))))
      (pss_cut (ps_if (pt_cmpR op_eq (pv 3) pe_int (nomark _))
      (pss_cons (ps_asg (pe_make T.M_Page G_Page hr (by rfl) T.k_Page B1_Page R1_Page pass0 (pa_cons (pv 8) pa_nil)) (pg_sub (pv 9) pe_int set_list))
      (pss_one (ps_set (i := 6) sc_law.nd rfl (.inl rfl) (pe_lst pa_nil))))
      pss_nil)
      (pss_cons (ps_for PassesOwn.never rfl (pi_range1 (by rfl) T.m_range (pa_cons pe_int pa_nil)) (pg_name (i := 10) sc_law.nd rfl (.inl rfl))
      (pss_one (ps_if (PW.pt (pw_or (pt_not (pt_val (Gd.pe_callG G_l_right hgd hr (by rfl) T.g_l_right T.f_l_right.kp T.b_l_right .nil pass0 (pa_cons (pe_ix (ixLK (K := K) rfl) (pv 9) pe_int (fun _ _ => rfl)) (pa_cons (pv 7) (pa_cons (pv 5) pa_nil)))))) (pw_or1 (pt_not (pt_val (Gd.pe_callG G_l_right hgd hr (by rfl) T.g_l_right T.f_l_right.kp T.b_l_right .nil pass0 (pa_cons (pe_ix (ixLK (K := K) rfl) (pv 9) pe_int (fun _ _ => rfl)) (pa_cons (pv 8) (pa_cons (pv 6) pa_nil)))))))))
      (pss_one (ps_ret pe_bl))
      pss_nil)))
      (pss_one (ps_for PassesOwn.never rfl (piTK (K := K) rfl (pe_tup (pa_cons pe_str (pa_cons pe_str (pa_cons pe_str (pa_cons pe_non (pa_cons pe_int (pa_cons (pe_tup (pa_cons pe_str pa_nil)) (pa_cons (pe_lst (pa_cons pe_str pa_nil)) (pa_cons pe_str pa_nil)))))))))) (pg_name (i := 11) sc_law.nd rfl (.inr rfl))
      (pss_cons (ps_if (pt_cmpR op_ne (pe_how T TBL rfl hmL huL hr (LamX.lamS_by (sc := defScope (topS 47)) (by decide +kernel)) (fun _ _ _ _ E _ _ hr2 => (pe_meth (pe_ix (ixLK (K := K) rfl) (pv 9) pe_int (fun _ _ => rfl)) T.cl_Page T.M_Page_places G_Page_places_lam hr2 T.b_Page_places .nil (passes_call (takes_of rfl rfl rfl rfl) (fun _ _ _ _ h => h)) (pa_cons (pv 11) pa_nil)))) pe_str (nomark _))
      (pss_one (ps_ret pe_bl))
      pss_nil)
      (pss_one (ps_if (pt_cmpR op_ne (pe_how T TBL rfl hmL huL hr (LamX.lamS_by (sc := defScope (topS 47)) (by decide +kernel)) (fun _ _ _ _ E _ _ hr2 => (pe_meth (pe_ix (ixLK (K := K) rfl) (pv 9) pe_int (fun _ _ => rfl)) T.cl_Page T.M_Page_often G_Page_often_lam hr2 T.b_Page_often .nil (passes_call (takes_of rfl rfl rfl rfl) (fun _ _ _ _ h => h)) (pa_cons (pv 11) pa_nil)))) pe_str (nomark _))
      (pss_one (ps_ret pe_bl))
      pss_nil))))))))))))))))
      (pss_one (ps_ret pe_bl))), ?_⟩
    refine ⟨.ref a, rfl, a, _, rfl, .inl hS, 8, _, rfl, 1, _, rfl, (if (if ((ns.map V.int).length : Int) < 8 then ((ns.map V.int).length : Int) else 8) > 1 then (if ((ns.map V.int).length : Int) < 8 then ((ns.map V.int).length : Int) else 8) else 1), rfl, ?_, ?_, ?_⟩
    · have := maxmin (ns.map V.int).length
      omega
    · have := maxmin (ns.map V.int).length
      omega
    have hmm := maxmin (ns.map V.int).length
    generalize (if (if ((ns.map V.int).length : Int) < 8 then ((ns.map V.int).length : Int) else 8) > 1 then (if ((ns.map V.int).length : Int) < 8 then ((ns.map V.int).length : Int) else 8) else 1) = nn at hmm ⊢
    refine for_range (lo := 0) (n := nn.toNat) (fun i σ' H' => ∃ y1 y2 y3 y4 y5 y6 y7 y8 y9 y10 y11 y12 : Option V, σ' = [some (.ref a), y1, y2, y3, y4, y5, y6, y7, y8, y9, y10, y11, y12] ∧ LamX.ExtN H H' ∧ LamX.Tabs (TabL PR) H') ⟨none, none, none, none, none, none, none, none, none, none, none, none, rfl, LamX.ExtN.refl H, hT⟩ (fun i σ' H' hi pv => ?_) (fun σ' H' pv => ?_)
    rotate_left
    · exact q H'
    obtain ⟨y1, y2, y3, y4, y5, y6, y7, y8, y9, y10, y11, y12, rfl, e0, T0⟩ := pv
    refine ⟨.ref a, rfl, .int ((0 : Int) + i), rfl, a, ns, i, ?_, sql_exN e0 hS, hn, by omega, fun p H1 np e1 hp1 => ?_⟩
    · show [V.ref a, V.int ((0 : Int) + i)] = [V.ref a, V.int (i : Int)]
      rw [Int.zero_add]
    refine ⟨.ref p, rfl, p, 8, _, rfl, hp1, by decide, by decide, by decide, fun so H2 s0 s8 hp2 f2 => ?_⟩
    refine ⟨.ref p, rfl, p, _, rfl, hp2, by decide, fun kk zs H3 nkk hk3 hp3 f3 => ?_⟩
    refine ⟨.ref p, rfl, .ref kk, rfl, p, kk, zs, _, 30, rfl, by decide, hp3, hk3, by decide, fun hd ws H4 hdp nhd hhd wl ww hp4 f4 => ?_⟩
    have hk4 := (hk3.fx hp3 f4)
    have S4 : S03 (A 33) H' H1 p kk hd zs ws 100 H4 := ⟨hp4.mono (by omega), (f2.trans f3).trans f4, hk4, hdp, hhd, by omega, ww⟩
    clear f2 f3 f4 hk3 hk4 hp2 hp3 hp4 wl ww hhd hdp nhd nkk
    refine ⟨fun σ2 Hm => ∃ (hd : Addr) (ws : List Str), σ2 = [some (.ref a), some (.int ((0 : Int) + i)), some (.ref p), some (.int so), some (.ref kk), some (.ref hd), y6, y7, y8, y9, y10, y11, y12] ∧ S03 (A 33) H' H1 p kk hd zs ws 300 Hm, ?_, fun σ2 Hm ph => ?_⟩
    · refine ⟨.int so, rfl, rfl, _, rfl, ite2 (fun c => ?_) (fun c => ⟨hd, ws, rfl, { S4 with pl := S4.pl.mono (by omega) }⟩)⟩
      refine ⟨.ref p, rfl, p, 2, _, rfl, S4.pl, by decide, by decide, by decide, fun d H5 d0 d1 hp5 f5 => ⟨119, d, rfl, rfl, _, rfl, by omega, by omega, fun D nD => ?_⟩⟩
      have S5 := S4.go f5 hp5
      refine lc_range (lo := 0) (n := (119 + d).toNat) (fun i H'' => Ex H5 H'' ∧ ∃ us : List Str, us.length = i ∧ us.all isW = true ∧ H'' D = some (.lst (us.map V.str))) ⟨Ex.new nD, [], rfl, rfl, upd_same⟩ (fun i H6 hi pv => ?_) (fun H6 pv => ?_)
      · obtain ⟨e6, us, ul, uw, hD⟩ := pv
        have hk6 := S5.kn.ex e6
        have kl := hk6.2.1
        have il : i < 121 := by omega
        have m0 := Int.emod_nonneg (((0 : Int) + i) * ((0 : Int) + i)) (show ((zs.map V.str).length : Int) ≠ 0 by rw [List.length_map]; omega)
        have m1 := Int.emod_lt_of_pos (((0 : Int) + i) * ((0 : Int) + i)) (show 0 < ((zs.map V.str).length : Int) by rw [List.length_map]; omega)
        obtain ⟨z, az, wz⟩ := at_word m0 (by rw [List.length_map] at m1 ⊢; exact m1) hk6.2.2.2
        refine ⟨rfl, .ref kk, rfl, .int ((0 : Int) + i), rfl, .int ((0 : Int) + i), rfl, (0 : Int) + i, (0 : Int) + i, rfl, rfl, cmul_small (by omega) (by omega), .ref kk, rfl, kk, _, rfl, .inl (SqL.of hk6.1), _, _, rfl, rfl, by rw [List.length_map]; omega, kk, _, _, .str z, rfl, rfl, SqL.of hk6.1, az, _, hD, by rw [List.length_map]; exact sz_lt (by omega), Ex.mut e6 nD, us ++ [z], ?_, ?_, ?_⟩
        · rw [List.length_append, ul]
          rfl
        · rw [List.all_append, uw, List.all_cons, wz]
          rfl
        · rw [upd_same, List.map_append]
          rfl
      · obtain ⟨e6, us, ul, uw, hD⟩ := pv
        exact ⟨D, us, rfl, S5.pl.ex e6 |>.mono (by omega), S5.fx.trans (Fx.ex e6), S5.kn.ex e6, pool_ne S5.pl nD, hD, by omega, uw⟩
    obtain ⟨hd, ws, rfl, S5⟩ := ph
    clear S4 s0 s8
    refine ⟨.ref p, rfl, .ref kk, rfl, p, kk, zs, _, 9, rfl, by decide, S5.pl, S5.kn, by decide, fun ho ws2 H6 hop nho hho ol ow hp6 f6 => ?_⟩
    have S6 := S5.go f6 hp6
    refine ⟨.ref p, rfl, p, 9999, _, rfl, S6.pl, by decide, by decide, by decide, fun m1 H7 m10 m11 hp7 f7 => ⟨1, m1, rfl, rfl, .ref p, rfl, p, 9999, _, rfl, hp7, by decide, by decide, by decide, fun m2 H8 m20 m21 hp8 f8 => ⟨1, m2, rfl, rfl, ?_⟩⟩⟩
    have S8 := (S6.go f7 hp7).go f8 hp8
    have hho8 := f8 _ _ hop (f7 _ _ hop hho)
    have X8 : Ex H' H8 := fx_new np e1 S8.fx
    obtain ⟨_, _, _, hdp, hhd, wl, ww⟩ := S8
    clear S5 S6 f6 f7 f8 hp6 hp7 hp8 hho hop nho
    refine ⟨_, _, rfl, .int (1 + m1), rfl, ⟨_, rfl⟩, .ref hd, rfl, " ", hd, ws, rfl, rfl, .inl (SqL.of hhd), jbound ww wl, fun b1 dx1 nb1 ndx1 _ => mk_page nb1 ndx1 (by omega) (by omega) wl ww fun H9 x9 hP1 => ?_⟩
    refine ⟨⟨_, rfl⟩, .ref ho, rfl, " ", ho, ws2, rfl, rfl, .inl (SqL.of (x9 _ _ hho8)), jbound ow (by omega), .int (1 + m2), rfl, rfl, rfl, fun b2 dx2 nb2 ndx2 _ => mk_page nb2 ndx2 (by omega) (by omega) (by omega) ow fun HA xA hP2 => ?_⟩
    have hP1 := hP1.ex xA
    have xB := x9.trans xA
    have hhdA := xB _ _ hhd
    have hhoA := xB _ _ hho8
    have XA := X8.trans xB
    clear x9 xA xB hhd hho8 X8 nb1 ndx1 nb2 ndx2
    refine ⟨by show 2 ≤ sizeLine; decide, fun PG nPG => ?_⟩
    have xC := Ex.new (o := .lst [V.ref b1, .ref b2]) nPG
    have hPG := upd_same (H := HA) (a := PG) (o := .lst [V.ref b1, .ref b2])
    have fPG : H' PG = none := fresh_back XA nPG
    generalize (upd HA PG (.lst [V.ref b1, .ref b2])) = HC at xC hPG ⊢
    have XC := XA.trans xC
    have hP1 := hP1.ex xC
    have hP2 := hP2.ex xC
    have hhdC := xC _ _ hhdA
    have hhoC := xC _ _ hhoA
    clear hhdA hhoA XA xC nPG
    refine ⟨fun σ2 Hm => ∃ (b2 ho : Addr) (ws2 : List Str), σ2 = [some (.ref a), some (.int ((0 : Int) + i)), some (.ref p), some (.int so), some (.ref kk), some (.ref hd), some (.ref ho), some (.int (1 + m1)), some (.int (1 + m2)), some (.ref PG), y10, y11, y12] ∧
      Ex H' Hm ∧ PageAt (A 33) Hm b1 (1 + m1) ws ∧ PageAt (A 33) Hm b2 (1 + m2) ws2 ∧ Hm hd = some (.lst (ws.map V.str)) ∧ Hm ho = some (.lst (ws2.map V.str)) ∧ Hm PG = some (.lst [.ref b1, .ref b2]), ?_, fun σ2 Hm ph => ?_⟩
    · refine ⟨.int so, rfl, rfl, _, rfl, ite2 (fun c => ?_) (fun c => ⟨b2, ho, ws2, rfl, XC, hP1, hP2, hhdC, hhoC, hPG⟩)⟩
      refine ⟨.int (1 + m2), rfl, fun b3 dx3 nb3 ndx3 _ => mk_page (ws := []) nb3 ndx3 (by omega) (by omega) (by decide) rfl fun HD xD hP3 => ?_⟩
      have hPGD := xD _ _ hPG
      refine ⟨.ref PG, rfl, PG, _, 1, 1, rfl, rfl, hPGD, rfl, ?_⟩
      have XE : Ex H' (upd HD PG (.lst [V.ref b1, .ref b3])) := Ex.mut (XC.trans xD) fPG
      have nhd : hd ≠ PG := fun e => by rw [e, hPG] at hhdC; cases ws <;> simp at hhdC
      have hhdE : (upd HD PG (.lst [V.ref b1, .ref b3])) hd = some (.lst (ws.map V.str)) := by rw [upd_ne nhd]; exact xD _ _ hhdC
      have hP1E := (hP1.ex xD).upl (o := .lst [V.ref b1, .ref b3]) hPGD
      have hP3E := hP3.upl (o := .lst [V.ref b1, .ref b3]) hPGD
      have hPGE := upd_same (H := HD) (a := PG) (o := .lst [V.ref b1, .ref b3])
      refine ⟨Nat.zero_le _, fun ho3 nho3 => ?_⟩
      have xF := Ex.new (o := .lst []) nho3
      exact ⟨b3, ho3, [], rfl, XE.trans xF, hP1E.ex xF, hP3E.ex xF, xF _ _ hhdE, upd_same, xF _ _ hPGE⟩
    clear hP1 hP2 hhdC hhoC hPG XC
    obtain ⟨b2, ho, ws2, rfl, XC, hP1, hP2, hhd, hho, hPG⟩ := ph
    have T9 : LamX.Tabs (TabL PR) Hm := LamX.Tabs.ext T0 XC
    refine ⟨2, rfl, by decide, by decide, ?_⟩
    refine for_range (lo := 0) (n := 2) (fun j σ2 Hn => ∃ y10 : Option V, σ2 = [some (.ref a), some (.int ((0 : Int) + i)), some (.ref p), some (.int so), some (.ref kk), some (.ref hd), some (.ref ho), some (.int (1 + m1)), some (.int (1 + m2)), some (.ref PG), y10, y11, y12] ∧ Ex Hm Hn) ⟨y10, rfl, Ex.refl _⟩ (fun j σ2 Hn hj pv => ?_) (fun σ2 Hn pv => ?_)
    · obtain ⟨y10, rfl, en⟩ := pv
      refine ⟨.ref PG, rfl, PG, _, 0, _, rfl, rfl, SqL.of (en _ _ hPG), atI_nat (j := 0) rfl, .int (1 + m1), rfl, .ref hd, rfl, b1, hd, _, ws, rfl, hP1.ex en, en _ _ hhd, fun Hx ex => ⟨_, rfl, iteF ?_⟩⟩
      have eo := en.trans ex
      refine ⟨.ref PG, rfl, PG, _, 1, _, rfl, rfl, SqL.of (eo _ _ hPG), atI_nat (j := 1) rfl, .int (1 + m2), rfl, .ref ho, rfl, b2, ho, _, ws2, rfl, hP2.ex eo, eo _ _ hho, fun Hy ey => ⟨_, rfl, iteF ?_⟩⟩
      exact ⟨_, rfl, eo.trans ey⟩
    obtain ⟨y10', rfl, en⟩ := pv
    have hPG := en _ _ hPG
    have hP1 := hP1.ex en
    have hP2 := hP2.ex en
    have XN := XC.trans en
    have T9 : LamX.Tabs (TabL PR) Hn := LamX.Tabs.ext T9 en
    clear hhd hho XC en
    refine ⟨by show 1 ≤ sizeLine; decide, fun t1 nt1 => ?_⟩
    have x1 := Ex.new (o := .tup [V.str "a"]) nt1
    have h1 := upd_same (H := Hn) (a := t1) (o := .tup [V.str "a"])
    generalize (upd Hn t1 (.tup [V.str "a"])) = J1 at x1 h1 ⊢
    refine ⟨by show 1 ≤ sizeLine; decide, fun t2 nt2 => ?_⟩
    have x2 := Ex.new (o := .lst [V.str "a"]) nt2
    have h2 := upd_same (H := J1) (a := t2) (o := .lst [V.str "a"])
    generalize (upd J1 t2 (.lst [V.str "a"])) = J2 at x2 h2 ⊢
    refine ⟨by show 8 ≤ sizeLine; decide, fun t3 nt3 => ?_⟩
    have x3 := Ex.new (o := .tup [V.str "", .str "A", .str "a b", .non, .int 1, .ref t1, .ref t2, .str "abcdefghijklm"]) nt3
    have h3 := upd_same (H := J2) (a := t3) (o := .tup [V.str "", .str "A", .str "a b", .non, .int 1, .ref t1, .ref t2, .str "abcdefghijklm"])
    generalize (upd J2 t3 (.tup [V.str "", .str "A", .str "a b", .non, .int 1, .ref t1, .ref t2, .str "abcdefghijklm"])) = J3 at x3 h3 ⊢
    have xx := (x1.trans x2).trans x3
    have hPG := xx _ _ hPG
    have hP1 := hP1.ex xx
    have hP2 := hP2.ex xx
    have XN := XN.trans xx
    have T9 : LamX.Tabs (TabL PR) J3 := LamX.Tabs.ext T9 xx
    have odd : ∀ v ∈ [V.str "", .str "A", .str "a b", .non, .int 1, .ref t1, .ref t2, .str "abcdefghijklm"], Th J3 v ∧ wordV v = false := fun v hv => by
      simp only [List.mem_cons, List.not_mem_nil, or_false] at hv
      rcases hv with rfl | rfl | rfl | rfl | rfl | rfl | rfl | rfl
      · exact ⟨.str _ (by decide +kernel), by decide +kernel⟩
      · exact ⟨.str _ (by decide +kernel), by decide +kernel⟩
      · exact ⟨.str _ (by decide +kernel), by decide +kernel⟩
      · exact ⟨.non, rfl⟩
      · exact ⟨.int _, rfl⟩
      · exact ⟨.tup (x3 _ _ (x2 _ _ h1)), rfl⟩
      · exact ⟨.lst (x3 _ _ h2), rfl⟩
      · exact ⟨.str _ (by decide +kernel), by decide +kernel⟩
    clear x1 x2 x3 xx h1 h2 nt1 nt2 nt3
    refine ⟨t3, rfl, ⟨_, SqT.of h3⟩, ?_⟩
    generalize [V.str "", .str "A", .str "a b", .non, .int 1, .ref t1, .ref t2, .str "abcdefghijklm"] = things at odd h3 ⊢
    refine for_tup (K := K) (xs := things) (fun j σ2 Hn => ∃ y10 y11 : Option V, σ2 = [some (.ref a), some (.int ((0 : Int) + i)), some (.ref p), some (.int so), some (.ref kk), some (.ref hd), some (.ref ho), some (.int (1 + m1)), some (.int (1 + m2)), some (.ref PG), y10, y11, y12] ∧ LamX.ExtN J3 Hn ∧ LamX.Tabs (TabL PR) Hn) ⟨_, _, rfl, LamX.ExtN.refl _, T9⟩ (fun j σ2 Hn _ pj => ?_) (fun j v σ2 Hn gv pj => ?_) (fun σ2 Hn pj => ?_)
    · obtain ⟨_, _, _, en, _⟩ := pj
      exact SqT.of (tup_exN en h3)
    · obtain ⟨y10, y11, rfl, en, Tn⟩ := pj
      obtain ⟨th, wv⟩ := odd v (List.mem_of_getElem? gv)
      refine ⟨Tn, fun HN eN TN => ?_⟩
      have zz := en.trans eN
      have hPx := hP1.exN zz
      obtain ⟨dx, tt, g1, _⟩ := id hPx
      refine ⟨.ref PG, rfl, PG, _, 0, _, rfl, rfl, SqL.of (lst_exN zz hPG), atI_nat (j := 0) rfl, b1, dx, _, rfl, g1, rfl, v, rfl, b1, _, ws, v, rfl, hPx, th.exN zz, (fun z hz hw => absurd wv (by rw [hz, show wordV (.str z) = isW z from rfl, hw]; decide)), fun _ H4 e4 => ?_⟩
      refine ⟨A 2, 14, "word", rfl, T.h_NoWord, rfl, (fun dd z => by cases z), fun H5 e5 => ?_⟩
      refine ⟨rfl, _, rfl, ?_⟩
      rw [ne_sameV]
      refine iteF ?_
      have x5 := e4.trans e5
      have zz := zz.trans (LamX.ExtN.of x5)
      have T5 := LamX.Tabs.ext TN x5
      clear hPx g1
      refine ⟨T5, fun HM eM TM => ?_⟩
      have zz := zz.trans eM
      have hPx := hP2.exN zz
      obtain ⟨dx, tt, g1, _⟩ := id hPx
      refine ⟨.ref PG, rfl, PG, _, 1, _, rfl, rfl, SqL.of (lst_exN zz hPG), atI_nat (j := 1) rfl, b2, dx, _, rfl, g1, rfl, v, rfl, b2, _, ws2, v, rfl, hPx, th.exN zz, (fun z hz hw => absurd wv (by rw [hz, show wordV (.str z) = isW z from rfl, hw]; decide)), fun _ H4 e4 => ?_⟩
      refine ⟨A 2, 14, "word", rfl, T.h_NoWord, rfl, (fun dd z => by cases z), fun H5 e5 => ?_⟩
      refine ⟨rfl, _, rfl, ?_⟩
      rw [ne_sameV]
      refine iteF ?_
      have x6 := e4.trans e5
      exact ⟨_, _, rfl, zz.trans (LamX.ExtN.of x6), LamX.Tabs.ext TM x6⟩
    · obtain ⟨y10, y11, rfl, en, Tn⟩ := pj
      exact ⟨_, _, _, _, _, _, _, _, _, _, _, _, rfl, e0.trans ((LamX.ExtN.of XN).trans en), Tn⟩

end
set_option maxHeartbeats 8000000 in
theorem all_mk {l : PySem.W.OpenLaw} {w : World} {K : PySem.W.Frag} {h : Heap} {mg : Str → Option Value} {fa : Addr} (X : K.In h) (G : h.Ns mainGlobals mg) (hfa : mg "law" = some (.ref fa))
    {f21 : Addr} {od21 an21 : Option Addr} {sl21 : Array (Option Value)} {oc21 kV21 dc21 pm21 cd21 ct21 : Value}
    (a21 : PySem.W.nsIn K mainGlobals "is_whole" = some (some (.ref f21))) (l21 : K.lookup f21 = some ⟨oc21, od21, .func (PySem.W.fnOf "is_whole" "is_whole" (defArgs (topS 21)) (defBody (topS 21)) (defScope (topS 21)) .none kV21 dc21 pm21 an21 cd21 ct21), sl21⟩) (c21 : PySem.W.codeIn K cd21 "is_whole" = true) (k21 : PySem.W.keepIn K (.ref f21) = true)
    {f22 : Addr} {od22 an22 : Option Addr} {sl22 : Array (Option Value)} {oc22 kV22 dc22 pm22 cd22 ct22 : Value}
    (a22 : PySem.W.nsIn K mainGlobals "is_within" = some (some (.ref f22))) (l22 : K.lookup f22 = some ⟨oc22, od22, .func (PySem.W.fnOf "is_within" "is_within" (defArgs (topS 22)) (defBody (topS 22)) (defScope (topS 22)) .none kV22 dc22 pm22 an22 cd22 ct22), sl22⟩) (c22 : PySem.W.codeIn K cd22 "is_within" = true) (k22 : PySem.W.keepIn K (.ref f22) = true)
    {f26 : Addr} {od26 an26 : Option Addr} {sl26 : Array (Option Value)} {oc26 kV26 dc26 pm26 cd26 ct26 : Value}
    (a26 : PySem.W.nsIn K mainGlobals "is_word" = some (some (.ref f26))) (l26 : K.lookup f26 = some ⟨oc26, od26, .func (PySem.W.fnOf "is_word" "is_word" (defArgs (topS 26)) (defBody (topS 26)) (defScope (topS 26)) .none kV26 dc26 pm26 an26 cd26 ct26), sl26⟩) (c26 : PySem.W.codeIn K cd26 "is_word" = true) (k26 : PySem.W.keepIn K (.ref f26) = true)
    {f27 : Addr} {od27 an27 : Option Addr} {sl27 : Array (Option Value)} {oc27 kV27 dc27 pm27 cd27 ct27 : Value}
    (a27 : PySem.W.nsIn K mainGlobals "are_words" = some (some (.ref f27))) (l27 : K.lookup f27 = some ⟨oc27, od27, .func (PySem.W.fnOf "are_words" "are_words" (defArgs (topS 27)) (defBody (topS 27)) (defScope (topS 27)) .none kV27 dc27 pm27 an27 cd27 ct27), sl27⟩) (c27 : PySem.W.codeIn K cd27 "are_words" = true) (k27 : PySem.W.keepIn K (.ref f27) = true)
    {f28 : Addr} {od28 an28 : Option Addr} {sl28 : Array (Option Value)} {oc28 kV28 dc28 pm28 cd28 ct28 : Value}
    (a28 : PySem.W.nsIn K mainGlobals "check_word" = some (some (.ref f28))) (l28 : K.lookup f28 = some ⟨oc28, od28, .func (PySem.W.fnOf "check_word" "check_word" (defArgs (topS 28)) (defBody (topS 28)) (defScope (topS 28)) .none kV28 dc28 pm28 an28 cd28 ct28), sl28⟩) (c28 : PySem.W.codeIn K cd28 "check_word" = true) (k28 : PySem.W.keepIn K (.ref f28) = true)
    {f29 : Addr} {od29 an29 : Option Addr} {sl29 : Array (Option Value)} {oc29 kV29 dc29 pm29 cd29 ct29 : Value}
    (a29 : PySem.W.nsIn K mainGlobals "words_of" = some (some (.ref f29))) (l29 : K.lookup f29 = some ⟨oc29, od29, .func (PySem.W.fnOf "words_of" "words_of" (defArgs (topS 29)) (defBody (topS 29)) (defScope (topS 29)) .none kV29 dc29 pm29 an29 cd29 ct29), sl29⟩) (c29 : PySem.W.codeIn K cd29 "words_of" = true) (k29 : PySem.W.keepIn K (.ref f29) = true)
    {f30 : Addr} {od30 an30 : Option Addr} {sl30 : Array (Option Value)} {oc30 kV30 dc30 pm30 cd30 ct30 : Value}
    (a30 : PySem.W.nsIn K mainGlobals "check_words" = some (some (.ref f30))) (l30 : K.lookup f30 = some ⟨oc30, od30, .func (PySem.W.fnOf "check_words" "check_words" (defArgs (topS 30)) (defBody (topS 30)) (defScope (topS 30)) .none kV30 dc30 pm30 an30 cd30 ct30), sl30⟩) (c30 : PySem.W.codeIn K cd30 "check_words" = true) (k30 : PySem.W.keepIn K (.ref f30) = true)
    {f34 : Addr} {od34 an34 : Option Addr} {sl34 : Array (Option Value)} {oc34 kV34 dc34 pm34 cd34 ct34 : Value}
    (a34 : PySem.W.nsIn K mainGlobals "check_page_number" = some (some (.ref f34))) (l34 : K.lookup f34 = some ⟨oc34, od34, .func (PySem.W.fnOf "check_page_number" "check_page_number" (defArgs (topS 34)) (defBody (topS 34)) (defScope (topS 34)) .none kV34 dc34 pm34 an34 cd34 ct34), sl34⟩) (c34 : PySem.W.codeIn K cd34 "check_page_number" = true) (k34 : PySem.W.keepIn K (.ref f34) = true)
    {f36 : Addr} {od36 an36 : Option Addr} {sl36 : Array (Option Value)} {oc36 kV36 dc36 pm36 cd36 ct36 : Value}
    (a36 : PySem.W.nsIn K mainGlobals "_law_pool" = some (some (.ref f36))) (l36 : K.lookup f36 = some ⟨oc36, od36, .func (PySem.W.fnOf "_law_pool" "_law_pool" (defArgs (topS 36)) (defBody (topS 36)) (defScope (topS 36)) .none kV36 dc36 pm36 an36 cd36 ct36), sl36⟩) (c36 : PySem.W.codeIn K cd36 "_law_pool" = true) (k36 : PySem.W.keepIn K (.ref f36) = true)
    {f37 : Addr} {od37 an37 : Option Addr} {sl37 : Array (Option Value)} {oc37 kV37 dc37 pm37 cd37 ct37 : Value}
    (a37 : PySem.W.nsIn K mainGlobals "_law_take" = some (some (.ref f37))) (l37 : K.lookup f37 = some ⟨oc37, od37, .func (PySem.W.fnOf "_law_take" "_law_take" (defArgs (topS 37)) (defBody (topS 37)) (defScope (topS 37)) .none kV37 dc37 pm37 an37 cd37 ct37), sl37⟩) (c37 : PySem.W.codeIn K cd37 "_law_take" = true) (k37 : PySem.W.keepIn K (.ref f37) = true)
    {f40 : Addr} {od40 an40 : Option Addr} {sl40 : Array (Option Value)} {oc40 kV40 dc40 pm40 cd40 ct40 : Value}
    (a40 : PySem.W.nsIn K mainGlobals "_law_kinds" = some (some (.ref f40))) (l40 : K.lookup f40 = some ⟨oc40, od40, .func (PySem.W.fnOf "_law_kinds" "_law_kinds" (defArgs (topS 40)) (defBody (topS 40)) (defScope (topS 40)) .none kV40 dc40 pm40 an40 cd40 ct40), sl40⟩) (c40 : PySem.W.codeIn K cd40 "_law_kinds" = true) (k40 : PySem.W.keepIn K (.ref f40) = true)
    {f41 : Addr} {od41 an41 : Option Addr} {sl41 : Array (Option Value)} {oc41 kV41 dc41 pm41 cd41 ct41 : Value}
    (a41 : PySem.W.nsIn K mainGlobals "_law_words" = some (some (.ref f41))) (l41 : K.lookup f41 = some ⟨oc41, od41, .func (PySem.W.fnOf "_law_words" "_law_words" (defArgs (topS 41)) (defBody (topS 41)) (defScope (topS 41)) .none kV41 dc41 pm41 an41 cd41 ct41), sl41⟩) (c41 : PySem.W.codeIn K cd41 "_law_words" = true) (k41 : PySem.W.keepIn K (.ref f41) = true)
    {f42 : Addr} {od42 an42 : Option Addr} {sl42 : Array (Option Value)} {oc42 kV42 dc42 pm42 cd42 ct42 : Value}
    (a42 : PySem.W.nsIn K mainGlobals "_law_spots" = some (some (.ref f42))) (l42 : K.lookup f42 = some ⟨oc42, od42, .func (PySem.W.fnOf "_law_spots" "_law_spots" (defArgs (topS 42)) (defBody (topS 42)) (defScope (topS 42)) .none kV42 dc42 pm42 an42 cd42 ct42), sl42⟩) (c42 : PySem.W.codeIn K cd42 "_law_spots" = true) (k42 : PySem.W.keepIn K (.ref f42) = true)
    {f43 : Addr} {od43 an43 : Option Addr} {sl43 : Array (Option Value)} {oc43 kV43 dc43 pm43 cd43 ct43 : Value}
    (a43 : PySem.W.nsIn K mainGlobals "_law_whole" = some (some (.ref f43))) (l43 : K.lookup f43 = some ⟨oc43, od43, .func (PySem.W.fnOf "_law_whole" "_law_whole" (defArgs (topS 43)) (defBody (topS 43)) (defScope (topS 43)) .none kV43 dc43 pm43 an43 cd43 ct43), sl43⟩) (c43 : PySem.W.codeIn K cd43 "_law_whole" = true) (k43 : PySem.W.keepIn K (.ref f43) = true)
    {f44 : Addr} {od44 an44 : Option Addr} {sl44 : Array (Option Value)} {oc44 kV44 dc44 pm44 cd44 ct44 : Value}
    (a44 : PySem.W.nsIn K mainGlobals "_law_kind" = some (some (.ref f44))) (l44 : K.lookup f44 = some ⟨oc44, od44, .func (PySem.W.fnOf "_law_kind" "_law_kind" (defArgs (topS 44)) (defBody (topS 44)) (defScope (topS 44)) .none kV44 dc44 pm44 an44 cd44 ct44), sl44⟩) (c44 : PySem.W.codeIn K cd44 "_law_kind" = true) (k44 : PySem.W.keepIn K (.ref f44) = true)
    {f45 : Addr} {od45 an45 : Option Addr} {sl45 : Array (Option Value)} {oc45 kV45 dc45 pm45 cd45 ct45 : Value}
    (a45 : PySem.W.nsIn K mainGlobals "_law_how" = some (some (.ref f45))) (l45 : K.lookup f45 = some ⟨oc45, od45, .func (PySem.W.fnOf "_law_how" "_law_how" (defArgs (topS 45)) (defBody (topS 45)) (defScope (topS 45)) .none kV45 dc45 pm45 an45 cd45 ct45), sl45⟩) (c45 : PySem.W.codeIn K cd45 "_law_how" = true) (k45 : PySem.W.keepIn K (.ref f45) = true)
    {f46 : Addr} {od46 an46 : Option Addr} {sl46 : Array (Option Value)} {oc46 kV46 dc46 pm46 cd46 ct46 : Value}
    (a46 : PySem.W.nsIn K mainGlobals "_law_right" = some (some (.ref f46))) (l46 : K.lookup f46 = some ⟨oc46, od46, .func (PySem.W.fnOf "_law_right" "_law_right" (defArgs (topS 46)) (defBody (topS 46)) (defScope (topS 46)) .none kV46 dc46 pm46 an46 cd46 ct46), sl46⟩) (c46 : PySem.W.codeIn K cd46 "_law_right" = true) (k46 : PySem.W.keepIn K (.ref f46) = true)
    {f47 : Addr} {od47 an47 : Option Addr} {sl47 : Array (Option Value)} {oc47 kV47 dc47 pm47 ct47 : Value} {cc47 : Addr}
    (a47 : PySem.W.nsIn K mainGlobals "law" = some (some (.ref f47))) (l47 : K.lookup f47 = some ⟨oc47, od47, .func (PySem.W.fnOf "law" "law" (defArgs (topS 47)) (defBody (topS 47)) (defScope (topS 47)) .none kV47 dc47 pm47 an47 (.ref cc47) ct47), sl47⟩) (c47 : PySem.W.codeIn K (.ref cc47) "law" = true) (k47 : PySem.W.keepIn K (.ref f47) = true)
    (z_ValueError : PySem.W.nsIn K mainGlobals "ValueError" = some none)
    (z_abs : PySem.W.nsIn K mainGlobals "abs" = some none)
    (z_all : PySem.W.nsIn K mainGlobals "all" = some none)
    (z_bool : PySem.W.nsIn K mainGlobals "bool" = some none)
    (z_enumerate : PySem.W.nsIn K mainGlobals "enumerate" = some none)
    (z_int : PySem.W.nsIn K mainGlobals "int" = some none)
    (z_isinstance : PySem.W.nsIn K mainGlobals "isinstance" = some none)
    (z_len : PySem.W.nsIn K mainGlobals "len" = some none)
    (z_list : PySem.W.nsIn K mainGlobals "list" = some none)
    (z_max : PySem.W.nsIn K mainGlobals "max" = some none)
    (z_min : PySem.W.nsIn K mainGlobals "min" = some none)
    (z_range : PySem.W.nsIn K mainGlobals "range" = some none)
    (z_repr : PySem.W.nsIn K mainGlobals "repr" = some none)
    (z_str : PySem.W.nsIn K mainGlobals "str" = some none)
    (z_tuple : PySem.W.nsIn K mainGlobals "tuple" = some none)
    {tk24 : Tok} (e24 : PySem.W.nsIn K mainGlobals "MOST_LETTERS" = some (some (.int 12 tk24)))
    {tk25 : Tok} (e25 : PySem.W.nsIn K mainGlobals "MOST_WORDS" = some (some (.int 120 tk25)))
    {tk32 : Tok} (e32 : PySem.W.nsIn K mainGlobals "MOST_NUMBER" = some (some (.int 9999 tk32)))
    {f1 : Addr} (a1 : PySem.W.nsIn K mainGlobals "Wrong" = some (some (.ref f1)))
    {f2 : Addr} (a2 : PySem.W.nsIn K mainGlobals "NoWord" = some (some (.ref f2)))
    {f3 : Addr} (a3 : PySem.W.nsIn K mainGlobals "NoText" = some (some (.ref f3)))
    {f4 : Addr} (a4 : PySem.W.nsIn K mainGlobals "NoNumber" = some (some (.ref f4)))
    {f5 : Addr} (a5 : PySem.W.nsIn K mainGlobals "NoSize" = some (some (.ref f5)))
    {f6 : Addr} (a6 : PySem.W.nsIn K mainGlobals "NoLengths" = some (some (.ref f6)))
    {f7 : Addr} (a7 : PySem.W.nsIn K mainGlobals "NoQuery" = some (some (.ref f7)))
    {f8 : Addr} (a8 : PySem.W.nsIn K mainGlobals "NoName" = some (some (.ref f8)))
    {f9 : Addr} (a9 : PySem.W.nsIn K mainGlobals "NoCode" = some (some (.ref f9)))
    {f10 : Addr} (a10 : PySem.W.nsIn K mainGlobals "NoRow" = some (some (.ref f10)))
    {f11 : Addr} (a11 : PySem.W.nsIn K mainGlobals "NoEntries" = some (some (.ref f11)))
    {f12 : Addr} (a12 : PySem.W.nsIn K mainGlobals "NoQueryText" = some (some (.ref f12)))
    {f13 : Addr} (a13 : PySem.W.nsIn K mainGlobals "NoPages" = some (some (.ref f13)))
    {f14 : Addr} (a14 : PySem.W.nsIn K mainGlobals "NoQueries" = some (some (.ref f14)))
    {f15 : Addr} (a15 : PySem.W.nsIn K mainGlobals "NoShelf" = some (some (.ref f15)))
    {f16 : Addr} (a16 : PySem.W.nsIn K mainGlobals "NoDeed" = some (some (.ref f16)))
    {f17 : Addr} (a17 : PySem.W.nsIn K mainGlobals "Taken" = some (some (.ref f17)))
    {f18 : Addr} (a18 : PySem.W.nsIn K mainGlobals "NoPlace" = some (some (.ref f18)))
    {f19 : Addr} (a19 : PySem.W.nsIn K mainGlobals "NoSlot" = some (some (.ref f19)))
    {f33 : Addr} (a33 : PySem.W.nsIn K mainGlobals "Page" = some (some (.ref f33)))
    (xx2 : PySem.W.excIn K f2 [.type "ValueError", .type "Exception", .type "BaseException", .type "object"] "ValueError.__new__" = true) (xk2 : PySem.W.keepIn K (.ref f2) = true) (xb2 : PySem.W.subIn K (.ref f2) (.type "BaseException") = some true) (xt2 : PySem.W.typeIn K (.ref f2) = some (.type "type"))
    (xh2 : plainB K ⟨[f9, f11, f13, f12, f10], f1, [f18, f19], [f9, f16, f11, f6, f8, f4, f13, f14, f7, f12, f10, f15, f5, f3, f2, f17]⟩ f2 14 = true)
    (pg33 : PySem.W.plainGet K f33 Str.empty = true) (hd33 : PySem.W.hasDictIn K f33 = true) (po33 : PySem.W.plainOver K f33 = true) (sa33 : PySem.W.findIn K (.ref f33) "__setattr__" = some (some (.builtin "object.__setattr__"))) (mk33 : PySem.W.makesIn K f33 = true) (kc33 : PySem.W.keepIn K (.ref f33) = true)
    (na33_number : PySem.W.findIn K (.ref f33) "number" = some none)
    (na33_in_turn : PySem.W.findIn K (.ref f33) "in_turn" = some none)
    {f48 : Addr} {od48 an48 : Option Addr} {sl48 : Array (Option Value)} {oc48 kV48 dc48 pm48 cd48 ct48 : Value}
    (a48 : PySem.W.findIn K (.ref f33) "__init__" = some (some (.ref f48))) (i48 : PySem.W.isFn K (.ref f48) = true)
    {DT48 nd48 : Nat} {ocd48 : Value} {odd48 : Option Addr} {sld48 : Array (Option Value)} {td48_0 : Tok}
    (l48 : K.lookup f48 = some ⟨oc48, od48, .func (PySem.W.fnOf "__init__" "Page.__init__" (defArgs (inClass (topS 33) 0)) (defBody (inClass (topS 33) 0)) (defScope (inClass (topS 33) 0)) (.ref DT48) kV48 dc48 pm48 an48 cd48 ct48), sl48⟩) (c48 : PySem.W.codeIn K cd48 "Page.__init__" = true) (k48 : PySem.W.keepIn K (.ref f48) = true)
    (dt48 : K.lookup DT48 = some ⟨ocd48, odd48, .seq #[.str "" td48_0] nd48, sld48⟩)
    {f49 : Addr} {od49 an49 : Option Addr} {sl49 : Array (Option Value)} {oc49 kV49 dc49 pm49 cd49 ct49 : Value}
    (a49 : PySem.W.findIn K (.ref f33) "__len__" = some (some (.ref f49))) (i49 : PySem.W.isFn K (.ref f49) = true)
    (l49 : K.lookup f49 = some ⟨oc49, od49, .func (PySem.W.fnOf "__len__" "Page.__len__" (defArgs (inClass (topS 33) 2)) (defBody (inClass (topS 33) 2)) (defScope (inClass (topS 33) 2)) .none kV49 dc49 pm49 an49 cd49 ct49), sl49⟩) (c49 : PySem.W.codeIn K cd49 "Page.__len__" = true) (k49 : PySem.W.keepIn K (.ref f49) = true)
    {f50 : Addr} {od50 an50 : Option Addr} {sl50 : Array (Option Value)} {oc50 kV50 dc50 pm50 cd50 ct50 : Value}
    (a50 : PySem.W.findIn K (.ref f33) "__str__" = some (some (.ref f50))) (i50 : PySem.W.isFn K (.ref f50) = true)
    (l50 : K.lookup f50 = some ⟨oc50, od50, .func (PySem.W.fnOf "__str__" "Page.__str__" (defArgs (inClass (topS 33) 3)) (defBody (inClass (topS 33) 3)) (defScope (inClass (topS 33) 3)) .none kV50 dc50 pm50 an50 cd50 ct50), sl50⟩) (c50 : PySem.W.codeIn K cd50 "Page.__str__" = true) (k50 : PySem.W.keepIn K (.ref f50) = true)
    {f51 : Addr} {od51 an51 : Option Addr} {sl51 : Array (Option Value)} {oc51 kV51 dc51 pm51 cd51 ct51 : Value}
    (a51 : PySem.W.findIn K (.ref f33) "words" = some (some (.ref f51))) (i51 : PySem.W.isFn K (.ref f51) = true)
    (l51 : K.lookup f51 = some ⟨oc51, od51, .func (PySem.W.fnOf "words" "Page.words" (defArgs (inClass (topS 33) 5)) (defBody (inClass (topS 33) 5)) (defScope (inClass (topS 33) 5)) .none kV51 dc51 pm51 an51 cd51 ct51), sl51⟩) (c51 : PySem.W.codeIn K cd51 "Page.words" = true) (k51 : PySem.W.keepIn K (.ref f51) = true)
    {f52 : Addr} {od52 an52 : Option Addr} {sl52 : Array (Option Value)} {oc52 kV52 dc52 pm52 cd52 ct52 : Value}
    (a52 : PySem.W.findIn K (.ref f33) "places" = some (some (.ref f52))) (i52 : PySem.W.isFn K (.ref f52) = true)
    (l52 : K.lookup f52 = some ⟨oc52, od52, .func (PySem.W.fnOf "places" "Page.places" (defArgs (inClass (topS 33) 6)) (defBody (inClass (topS 33) 6)) (defScope (inClass (topS 33) 6)) .none kV52 dc52 pm52 an52 cd52 ct52), sl52⟩) (c52 : PySem.W.codeIn K cd52 "Page.places" = true) (k52 : PySem.W.keepIn K (.ref f52) = true)
    {f53 : Addr} {od53 an53 : Option Addr} {sl53 : Array (Option Value)} {oc53 kV53 dc53 pm53 cd53 ct53 : Value}
    (a53 : PySem.W.findIn K (.ref f33) "often" = some (some (.ref f53))) (i53 : PySem.W.isFn K (.ref f53) = true)
    (l53 : K.lookup f53 = some ⟨oc53, od53, .func (PySem.W.fnOf "often" "Page.often" (defArgs (inClass (topS 33) 7)) (defBody (inClass (topS 33) 7)) (defScope (inClass (topS 33) 7)) .none kV53 dc53 pm53 an53 cd53 ct53), sl53⟩) (c53 : PySem.W.codeIn K cd53 "Page.often" = true) (k53 : PySem.W.keepIn K (.ref f53) = true)
    {P47 : Addr} (tb47 : h.get? P47 = some (PySem.W.tabObj #[])) (tn47 : K.lookup P47 = none) (th47 : PySem.W.codeHdIn K cc47 P47 = true)
    : Gd.LawG l w K CX0 12 63 "_law_script" mg fa h := by
  have e := hfa.symm.trans (PySem.W.mg_of X G a47)
  cases e
  let A : Nat → Addr := fun i => ([0, f1, f2, f3, f4, f5, f6, f7, f8, f9, f10, f11, f12, f13, f14, f15, f16, f17, f18, f19, 0, f21, f22, 0, 0, 0, f26, f27, f28, f29, f30, 0, 0, f33, f34, 0, f36, f37, 0, 0, f40, f41, f42, f43, f44, f45, f46, fa, f48, f49, f50, f51, f52, f53] : List Addr).getD i 0
  let FD : Nat → FuncData := fun i => ([PySem.W.fnOf "law" "law" (defArgs (topS 47)) (defBody (topS 47)) (defScope (topS 47)) .none kV47 dc47 pm47 an47 (.ref cc47) ct47, PySem.W.fnOf "law" "law" (defArgs (topS 47)) (defBody (topS 47)) (defScope (topS 47)) .none kV47 dc47 pm47 an47 (.ref cc47) ct47, PySem.W.fnOf "law" "law" (defArgs (topS 47)) (defBody (topS 47)) (defScope (topS 47)) .none kV47 dc47 pm47 an47 (.ref cc47) ct47, PySem.W.fnOf "law" "law" (defArgs (topS 47)) (defBody (topS 47)) (defScope (topS 47)) .none kV47 dc47 pm47 an47 (.ref cc47) ct47, PySem.W.fnOf "law" "law" (defArgs (topS 47)) (defBody (topS 47)) (defScope (topS 47)) .none kV47 dc47 pm47 an47 (.ref cc47) ct47, PySem.W.fnOf "law" "law" (defArgs (topS 47)) (defBody (topS 47)) (defScope (topS 47)) .none kV47 dc47 pm47 an47 (.ref cc47) ct47, PySem.W.fnOf "law" "law" (defArgs (topS 47)) (defBody (topS 47)) (defScope (topS 47)) .none kV47 dc47 pm47 an47 (.ref cc47) ct47, PySem.W.fnOf "law" "law" (defArgs (topS 47)) (defBody (topS 47)) (defScope (topS 47)) .none kV47 dc47 pm47 an47 (.ref cc47) ct47, PySem.W.fnOf "law" "law" (defArgs (topS 47)) (defBody (topS 47)) (defScope (topS 47)) .none kV47 dc47 pm47 an47 (.ref cc47) ct47, PySem.W.fnOf "law" "law" (defArgs (topS 47)) (defBody (topS 47)) (defScope (topS 47)) .none kV47 dc47 pm47 an47 (.ref cc47) ct47, PySem.W.fnOf "law" "law" (defArgs (topS 47)) (defBody (topS 47)) (defScope (topS 47)) .none kV47 dc47 pm47 an47 (.ref cc47) ct47, PySem.W.fnOf "law" "law" (defArgs (topS 47)) (defBody (topS 47)) (defScope (topS 47)) .none kV47 dc47 pm47 an47 (.ref cc47) ct47, PySem.W.fnOf "law" "law" (defArgs (topS 47)) (defBody (topS 47)) (defScope (topS 47)) .none kV47 dc47 pm47 an47 (.ref cc47) ct47, PySem.W.fnOf "law" "law" (defArgs (topS 47)) (defBody (topS 47)) (defScope (topS 47)) .none kV47 dc47 pm47 an47 (.ref cc47) ct47, PySem.W.fnOf "law" "law" (defArgs (topS 47)) (defBody (topS 47)) (defScope (topS 47)) .none kV47 dc47 pm47 an47 (.ref cc47) ct47, PySem.W.fnOf "law" "law" (defArgs (topS 47)) (defBody (topS 47)) (defScope (topS 47)) .none kV47 dc47 pm47 an47 (.ref cc47) ct47, PySem.W.fnOf "law" "law" (defArgs (topS 47)) (defBody (topS 47)) (defScope (topS 47)) .none kV47 dc47 pm47 an47 (.ref cc47) ct47, PySem.W.fnOf "law" "law" (defArgs (topS 47)) (defBody (topS 47)) (defScope (topS 47)) .none kV47 dc47 pm47 an47 (.ref cc47) ct47, PySem.W.fnOf "law" "law" (defArgs (topS 47)) (defBody (topS 47)) (defScope (topS 47)) .none kV47 dc47 pm47 an47 (.ref cc47) ct47, PySem.W.fnOf "law" "law" (defArgs (topS 47)) (defBody (topS 47)) (defScope (topS 47)) .none kV47 dc47 pm47 an47 (.ref cc47) ct47, PySem.W.fnOf "law" "law" (defArgs (topS 47)) (defBody (topS 47)) (defScope (topS 47)) .none kV47 dc47 pm47 an47 (.ref cc47) ct47, PySem.W.fnOf "is_whole" "is_whole" (defArgs (topS 21)) (defBody (topS 21)) (defScope (topS 21)) .none kV21 dc21 pm21 an21 cd21 ct21, PySem.W.fnOf "is_within" "is_within" (defArgs (topS 22)) (defBody (topS 22)) (defScope (topS 22)) .none kV22 dc22 pm22 an22 cd22 ct22, PySem.W.fnOf "law" "law" (defArgs (topS 47)) (defBody (topS 47)) (defScope (topS 47)) .none kV47 dc47 pm47 an47 (.ref cc47) ct47, PySem.W.fnOf "law" "law" (defArgs (topS 47)) (defBody (topS 47)) (defScope (topS 47)) .none kV47 dc47 pm47 an47 (.ref cc47) ct47, PySem.W.fnOf "law" "law" (defArgs (topS 47)) (defBody (topS 47)) (defScope (topS 47)) .none kV47 dc47 pm47 an47 (.ref cc47) ct47, PySem.W.fnOf "is_word" "is_word" (defArgs (topS 26)) (defBody (topS 26)) (defScope (topS 26)) .none kV26 dc26 pm26 an26 cd26 ct26, PySem.W.fnOf "are_words" "are_words" (defArgs (topS 27)) (defBody (topS 27)) (defScope (topS 27)) .none kV27 dc27 pm27 an27 cd27 ct27, PySem.W.fnOf "check_word" "check_word" (defArgs (topS 28)) (defBody (topS 28)) (defScope (topS 28)) .none kV28 dc28 pm28 an28 cd28 ct28, PySem.W.fnOf "words_of" "words_of" (defArgs (topS 29)) (defBody (topS 29)) (defScope (topS 29)) .none kV29 dc29 pm29 an29 cd29 ct29, PySem.W.fnOf "check_words" "check_words" (defArgs (topS 30)) (defBody (topS 30)) (defScope (topS 30)) .none kV30 dc30 pm30 an30 cd30 ct30, PySem.W.fnOf "law" "law" (defArgs (topS 47)) (defBody (topS 47)) (defScope (topS 47)) .none kV47 dc47 pm47 an47 (.ref cc47) ct47, PySem.W.fnOf "law" "law" (defArgs (topS 47)) (defBody (topS 47)) (defScope (topS 47)) .none kV47 dc47 pm47 an47 (.ref cc47) ct47, PySem.W.fnOf "law" "law" (defArgs (topS 47)) (defBody (topS 47)) (defScope (topS 47)) .none kV47 dc47 pm47 an47 (.ref cc47) ct47, PySem.W.fnOf "check_page_number" "check_page_number" (defArgs (topS 34)) (defBody (topS 34)) (defScope (topS 34)) .none kV34 dc34 pm34 an34 cd34 ct34, PySem.W.fnOf "law" "law" (defArgs (topS 47)) (defBody (topS 47)) (defScope (topS 47)) .none kV47 dc47 pm47 an47 (.ref cc47) ct47, PySem.W.fnOf "_law_pool" "_law_pool" (defArgs (topS 36)) (defBody (topS 36)) (defScope (topS 36)) .none kV36 dc36 pm36 an36 cd36 ct36, PySem.W.fnOf "_law_take" "_law_take" (defArgs (topS 37)) (defBody (topS 37)) (defScope (topS 37)) .none kV37 dc37 pm37 an37 cd37 ct37, PySem.W.fnOf "law" "law" (defArgs (topS 47)) (defBody (topS 47)) (defScope (topS 47)) .none kV47 dc47 pm47 an47 (.ref cc47) ct47, PySem.W.fnOf "law" "law" (defArgs (topS 47)) (defBody (topS 47)) (defScope (topS 47)) .none kV47 dc47 pm47 an47 (.ref cc47) ct47, PySem.W.fnOf "_law_kinds" "_law_kinds" (defArgs (topS 40)) (defBody (topS 40)) (defScope (topS 40)) .none kV40 dc40 pm40 an40 cd40 ct40, PySem.W.fnOf "_law_words" "_law_words" (defArgs (topS 41)) (defBody (topS 41)) (defScope (topS 41)) .none kV41 dc41 pm41 an41 cd41 ct41, PySem.W.fnOf "_law_spots" "_law_spots" (defArgs (topS 42)) (defBody (topS 42)) (defScope (topS 42)) .none kV42 dc42 pm42 an42 cd42 ct42, PySem.W.fnOf "_law_whole" "_law_whole" (defArgs (topS 43)) (defBody (topS 43)) (defScope (topS 43)) .none kV43 dc43 pm43 an43 cd43 ct43, PySem.W.fnOf "_law_kind" "_law_kind" (defArgs (topS 44)) (defBody (topS 44)) (defScope (topS 44)) .none kV44 dc44 pm44 an44 cd44 ct44, PySem.W.fnOf "_law_how" "_law_how" (defArgs (topS 45)) (defBody (topS 45)) (defScope (topS 45)) .none kV45 dc45 pm45 an45 cd45 ct45, PySem.W.fnOf "_law_right" "_law_right" (defArgs (topS 46)) (defBody (topS 46)) (defScope (topS 46)) .none kV46 dc46 pm46 an46 cd46 ct46, PySem.W.fnOf "law" "law" (defArgs (topS 47)) (defBody (topS 47)) (defScope (topS 47)) .none kV47 dc47 pm47 an47 (.ref cc47) ct47, PySem.W.fnOf "__init__" "Page.__init__" (defArgs (inClass (topS 33) 0)) (defBody (inClass (topS 33) 0)) (defScope (inClass (topS 33) 0)) (.ref DT48) kV48 dc48 pm48 an48 cd48 ct48, PySem.W.fnOf "__len__" "Page.__len__" (defArgs (inClass (topS 33) 2)) (defBody (inClass (topS 33) 2)) (defScope (inClass (topS 33) 2)) .none kV49 dc49 pm49 an49 cd49 ct49, PySem.W.fnOf "__str__" "Page.__str__" (defArgs (inClass (topS 33) 3)) (defBody (inClass (topS 33) 3)) (defScope (inClass (topS 33) 3)) .none kV50 dc50 pm50 an50 cd50 ct50, PySem.W.fnOf "words" "Page.words" (defArgs (inClass (topS 33) 5)) (defBody (inClass (topS 33) 5)) (defScope (inClass (topS 33) 5)) .none kV51 dc51 pm51 an51 cd51 ct51, PySem.W.fnOf "places" "Page.places" (defArgs (inClass (topS 33) 6)) (defBody (inClass (topS 33) 6)) (defScope (inClass (topS 33) 6)) .none kV52 dc52 pm52 an52 cd52 ct52, PySem.W.fnOf "often" "Page.often" (defArgs (inClass (topS 33) 7)) (defBody (inClass (topS 33) 7)) (defScope (inClass (topS 33) 7)) .none kV53 dc53 pm53 an53 cd53 ct53] : List FuncData).getD i (PySem.W.fnOf "law" "law" (defArgs (topS 47)) (defBody (topS 47)) (defScope (topS 47)) .none kV47 dc47 pm47 an47 (.ref cc47) ct47)
  let TK : Nat → Tok := fun i => ([0, 0, 0, 0, 0, 0, 0, 0, 0, 0, 0, 0, 0, 0, 0, 0, 0, 0, 0, 0, 0, 0, 0, 0, tk24, tk25, 0, 0, 0, 0, 0, 0, tk32] : List Tok).getD i 0
  let CC : Nat → Addr := fun i => ([0, 0, 0, 0, 0, 0, 0, 0, 0, 0, 0, 0, 0, 0, 0, 0, 0, 0, 0, 0, 0, 0, 0, 0, 0, 0, 0, 0, 0, 0, 0, 0, 0, 0, 0, 0, 0, 0, 0, 0, 0, 0, 0, 0, 0, 0, 0, cc47] : List Addr).getD i 0
  have T : TX K mg A FD TK CC := {
    f_is_whole := fun_mk (st := topS 21) l21 c21 k21
    b_is_whole := (fun_mk (st := topS 21) l21 c21 k21).binds (ps := ["thing"]) fun _ _ _ _ _ _ us hl => match us, hl with | [_], _ => rfl
    g_is_whole := PySem.W.mg_of X G a21
    f_is_within := fun_mk (st := topS 22) l22 c22 k22
    b_is_within := (fun_mk (st := topS 22) l22 c22 k22).binds (ps := ["thing", "least", "most"]) fun _ _ _ _ _ _ us hl => match us, hl with | [_, _, _], _ => rfl
    g_is_within := PySem.W.mg_of X G a22
    f_is_word := fun_mk (st := topS 26) l26 c26 k26
    b_is_word := (fun_mk (st := topS 26) l26 c26 k26).binds (ps := ["thing"]) fun _ _ _ _ _ _ us hl => match us, hl with | [_], _ => rfl
    g_is_word := PySem.W.mg_of X G a26
    f_are_words := fun_mk (st := topS 27) l27 c27 k27
    b_are_words := (fun_mk (st := topS 27) l27 c27 k27).binds (ps := ["things"]) fun _ _ _ _ _ _ us hl => match us, hl with | [_], _ => rfl
    g_are_words := PySem.W.mg_of X G a27
    f_check_word := fun_mk (st := topS 28) l28 c28 k28
    b_check_word := (fun_mk (st := topS 28) l28 c28 k28).binds (ps := ["word"]) fun _ _ _ _ _ _ us hl => match us, hl with | [_], _ => rfl
    g_check_word := PySem.W.mg_of X G a28
    f_words_of := fun_mk (st := topS 29) l29 c29 k29
    b_words_of := (fun_mk (st := topS 29) l29 c29 k29).binds (ps := ["text"]) fun _ _ _ _ _ _ us hl => match us, hl with | [_], _ => rfl
    g_words_of := PySem.W.mg_of X G a29
    f_check_words := fun_mk (st := topS 30) l30 c30 k30
    b_check_words := (fun_mk (st := topS 30) l30 c30 k30).binds (ps := ["words"]) fun _ _ _ _ _ _ us hl => match us, hl with | [_], _ => rfl
    g_check_words := PySem.W.mg_of X G a30
    f_check_page_number := fun_mk (st := topS 34) l34 c34 k34
    b_check_page_number := (fun_mk (st := topS 34) l34 c34 k34).binds (ps := ["number"]) fun _ _ _ _ _ _ us hl => match us, hl with | [_], _ => rfl
    g_check_page_number := PySem.W.mg_of X G a34
    f_l_pool := fun_mk (st := topS 36) l36 c36 k36
    b_l_pool := (fun_mk (st := topS 36) l36 c36 k36).binds (ps := ["_law_script", "_law_at"]) fun _ _ _ _ _ _ us hl => match us, hl with | [_, _], _ => rfl
    g_l_pool := PySem.W.mg_of X G a36
    f_l_take := fun_mk (st := topS 37) l37 c37 k37
    b_l_take := (fun_mk (st := topS 37) l37 c37 k37).binds (ps := ["_law_pool_here", "_law_many"]) fun _ _ _ _ _ _ us hl => match us, hl with | [_, _], _ => rfl
    g_l_take := PySem.W.mg_of X G a37
    f_l_kinds := fun_mk (st := topS 40) l40 c40 k40
    b_l_kinds := (fun_mk (st := topS 40) l40 c40 k40).binds (ps := ["_law_pool_here"]) fun _ _ _ _ _ _ us hl => match us, hl with | [_], _ => rfl
    g_l_kinds := PySem.W.mg_of X G a40
    f_l_words := fun_mk (st := topS 41) l41 c41 k41
    b_l_words := (fun_mk (st := topS 41) l41 c41 k41).binds (ps := ["_law_pool_here", "_law_kinds_here", "_law_most"]) fun _ _ _ _ _ _ us hl => match us, hl with | [_, _, _], _ => rfl
    g_l_words := PySem.W.mg_of X G a41
    f_l_spots := fun_mk (st := topS 42) l42 c42 k42
    b_l_spots := (fun_mk (st := topS 42) l42 c42 k42).binds (ps := ["_law_held", "_law_word"]) fun _ _ _ _ _ _ us hl => match us, hl with | [_, _], _ => rfl
    g_l_spots := PySem.W.mg_of X G a42
    f_l_whole := fun_mk (st := topS 43) l43 c43 k43
    b_l_whole := (fun_mk (st := topS 43) l43 c43 k43).binds (ps := ["_law_thing"]) fun _ _ _ _ _ _ us hl => match us, hl with | [_], _ => rfl
    g_l_whole := PySem.W.mg_of X G a43
    f_l_kind := fun_mk (st := topS 44) l44 c44 k44
    b_l_kind := (fun_mk (st := topS 44) l44 c44 k44).binds (ps := ["_law_e"]) fun _ _ _ _ _ _ us hl => match us, hl with | [_], _ => rfl
    g_l_kind := PySem.W.mg_of X G a44
    f_l_how := fun_mk (st := topS 45) l45 c45 k45
    b_l_how := (fun_mk (st := topS 45) l45 c45 k45).binds (ps := ["_law_deed"]) fun _ _ _ _ _ _ us hl => match us, hl with | [_], _ => rfl
    g_l_how := PySem.W.mg_of X G a45
    f_l_right := fun_mk (st := topS 46) l46 c46 k46
    b_l_right := (fun_mk (st := topS 46) l46 c46 k46).binds (ps := ["_law_page", "_law_mark", "_law_held"]) fun _ _ _ _ _ _ us hl => match us, hl with | [_, _, _], _ => rfl
    g_l_right := PySem.W.mg_of X G a46
    F_law := ⟨⟨oc47, od47, kV47, dc47, pm47, an47, ct47, sl47, rfl, l47, c47⟩, k47⟩
    f_law := fun_mk (st := topS 47) l47 c47 k47
    b_law := (fun_mk (st := topS 47) l47 c47 k47).binds (ps := ["_law_script"]) fun _ _ _ _ _ _ us hl => match us, hl with | [_], _ => rfl
    g_law := PySem.W.mg_of X G a47
    m_ValueError := PySem.W.mg_none_of X G z_ValueError
    m_abs := PySem.W.mg_none_of X G z_abs
    m_all := PySem.W.mg_none_of X G z_all
    m_bool := PySem.W.mg_none_of X G z_bool
    m_enumerate := PySem.W.mg_none_of X G z_enumerate
    m_int := PySem.W.mg_none_of X G z_int
    m_isinstance := PySem.W.mg_none_of X G z_isinstance
    m_len := PySem.W.mg_none_of X G z_len
    m_list := PySem.W.mg_none_of X G z_list
    m_max := PySem.W.mg_none_of X G z_max
    m_min := PySem.W.mg_none_of X G z_min
    m_range := PySem.W.mg_none_of X G z_range
    m_repr := PySem.W.mg_none_of X G z_repr
    m_str := PySem.W.mg_none_of X G z_str
    m_tuple := PySem.W.mg_none_of X G z_tuple
    c_MOST_LETTERS := PySem.W.mg_of X G e24
    c_MOST_WORDS := PySem.W.mg_of X G e25
    c_MOST_NUMBER := PySem.W.mg_of X G e32
    k_Wrong := PySem.W.mg_of X G a1
    k_NoWord := PySem.W.mg_of X G a2
    k_NoText := PySem.W.mg_of X G a3
    k_NoNumber := PySem.W.mg_of X G a4
    k_NoSize := PySem.W.mg_of X G a5
    k_NoLengths := PySem.W.mg_of X G a6
    k_NoQuery := PySem.W.mg_of X G a7
    k_NoName := PySem.W.mg_of X G a8
    k_NoCode := PySem.W.mg_of X G a9
    k_NoRow := PySem.W.mg_of X G a10
    k_NoEntries := PySem.W.mg_of X G a11
    k_NoQueryText := PySem.W.mg_of X G a12
    k_NoPages := PySem.W.mg_of X G a13
    k_NoQueries := PySem.W.mg_of X G a14
    k_NoShelf := PySem.W.mg_of X G a15
    k_NoDeed := PySem.W.mg_of X G a16
    k_Taken := PySem.W.mg_of X G a17
    k_NoPlace := PySem.W.mg_of X G a18
    k_NoSlot := PySem.W.mg_of X G a19
    k_Page := PySem.W.mg_of X G a33
    cl_Page := ⟨pg33, hd33, po33, sa33⟩
    n_Page_number := na33_number
    n_Page_in_turn := na33_in_turn
    f_Page_init := ⟨⟨oc48, od48, .ref DT48, kV48, dc48, pm48, an48, cd48, ct48, sl48, rfl, l48, c48, .inr ⟨by simp, DT48, _, [_], nd48, rfl, dt48, rfl, (.cons ⟨_, rfl⟩ .nil)⟩, .inl rfl⟩, k48⟩
    M_Page := ⟨mk33, a48, i48, kc33⟩
    f_Page_len := fun_mk (st := inClass (topS 33) 2) l49 c49 k49
    b_Page_len := (fun_mk (st := inClass (topS 33) 2) l49 c49 k49).binds (ps := ["self"]) fun _ _ _ _ _ _ us hl => match us, hl with | [_], _ => rfl
    M_Page_len := ⟨a49, i49, k49⟩
    f_Page_str := fun_mk (st := inClass (topS 33) 3) l50 c50 k50
    b_Page_str := (fun_mk (st := inClass (topS 33) 3) l50 c50 k50).binds (ps := ["self"]) fun _ _ _ _ _ _ us hl => match us, hl with | [_], _ => rfl
    M_Page_str := ⟨a50, i50, k50⟩
    f_Page_words := fun_mk (st := inClass (topS 33) 5) l51 c51 k51
    b_Page_words := (fun_mk (st := inClass (topS 33) 5) l51 c51 k51).binds (ps := ["self"]) fun _ _ _ _ _ _ us hl => match us, hl with | [_], _ => rfl
    M_Page_words := ⟨a51, i51, k51⟩
    f_Page_places := fun_mk (st := inClass (topS 33) 6) l52 c52 k52
    b_Page_places := (fun_mk (st := inClass (topS 33) 6) l52 c52 k52).binds (ps := ["self", "word"]) fun _ _ _ _ _ _ us hl => match us, hl with | [_, _], _ => rfl
    M_Page_places := ⟨a52, i52, k52⟩
    f_Page_often := fun_mk (st := inClass (topS 33) 7) l53 c53 k53
    b_Page_often := (fun_mk (st := inClass (topS 33) 7) l53 c53 k53).binds (ps := ["self", "word"]) fun _ _ _ _ _ _ us hl => match us, hl with | [_, _], _ => rfl
    M_Page_often := ⟨a53, i53, k53⟩
    x_NoWord := xx2
    kc_NoWord := xk2
    br_NoWord := xb2
    ty_NoWord := xt2
    h_NoWord := plain_of xh2 }
  refine ⟨FD 47, [(cc47, P47)], spLaw K [(P47, lamQ "law")], (fun p hp => by
      simp only [List.mem_cons, List.not_mem_nil, or_false] at hp
      subst hp
      exact tb47), (fun p hp => by
      simp only [List.mem_cons, List.not_mem_nil, or_false] at hp
      subst hp
      exact tn47), (fun p hp => by
      simp only [List.mem_cons, List.not_mem_nil, or_false] at hp
      subst hp
      exact PySem.W.codeHd_of_K X th47), fun s v => .of_eq rfl, fun H a ns hl _ hT hS => ⟨a, ns, rfl, hS, hl, ?_, fun _ => rfl⟩, fun base _ _ hB => ok_law T (hB (cc47, P47) (by simp))⟩
  intro p hp
  simp only [List.mem_cons, List.not_mem_nil, or_false] at hp
  subst hp
  exact LamX.TabS.nil (hT (cc47, P47) (by simp))
set_option maxHeartbeats 0 in
theorem hmk {w : World} {K : PySem.W.Frag} {h : Heap} {mg : Str → Option Value} {fa : Addr} (X : K.In h) (G : h.Ns mainGlobals mg) (hfa : mg "law" = some (.ref fa)) (c : HX.SaysY hts hfn hfs h K) : Gd.LawG PySem.Challenge.rw_blocksearch_k03_pages_told w K CX0 12 63 "_law_script" mg fa h := by
  obtain ⟨oc21, od21, dc21, pm21, an21, ct21, sl21, l21, c21⟩ := c.def_ 0 (d := hd21)
  obtain ⟨oc22, od22, dc22, pm22, an22, ct22, sl22, l22, c22⟩ := c.def_ 1 (d := hd22)
  obtain ⟨oc26, od26, dc26, pm26, an26, ct26, sl26, l26, c26⟩ := c.def_ 2 (d := hd26)
  obtain ⟨oc27, od27, dc27, pm27, an27, ct27, sl27, l27, c27⟩ := c.def_ 3 (d := hd27)
  obtain ⟨oc28, od28, dc28, pm28, an28, ct28, sl28, l28, c28⟩ := c.def_ 4 (d := hd28)
  obtain ⟨oc29, od29, dc29, pm29, an29, ct29, sl29, l29, c29⟩ := c.def_ 5 (d := hd29)
  obtain ⟨oc30, od30, dc30, pm30, an30, ct30, sl30, l30, c30⟩ := c.def_ 6 (d := hd30)
  obtain ⟨oc34, od34, dc34, pm34, an34, ct34, sl34, l34, c34⟩ := c.def_ 7 (d := hd34)
  obtain ⟨oc36, od36, dc36, pm36, an36, ct36, sl36, l36, c36⟩ := c.def_ 8 (d := hd36)
  obtain ⟨oc37, od37, dc37, pm37, an37, ct37, sl37, l37, c37⟩ := c.def_ 9 (d := hd37)
  obtain ⟨oc40, od40, dc40, pm40, an40, ct40, sl40, l40, c40⟩ := c.def_ 10 (d := hd40)
  obtain ⟨oc41, od41, dc41, pm41, an41, ct41, sl41, l41, c41⟩ := c.def_ 11 (d := hd41)
  obtain ⟨oc42, od42, dc42, pm42, an42, ct42, sl42, l42, c42⟩ := c.def_ 12 (d := hd42)
  obtain ⟨oc43, od43, dc43, pm43, an43, ct43, sl43, l43, c43⟩ := c.def_ 13 (d := hd43)
  obtain ⟨oc44, od44, dc44, pm44, an44, ct44, sl44, l44, c44⟩ := c.def_ 14 (d := hd44)
  obtain ⟨oc45, od45, dc45, pm45, an45, ct45, sl45, l45, c45⟩ := c.def_ 15 (d := hd45)
  obtain ⟨oc46, od46, dc46, pm46, an46, ct46, sl46, l46, c46⟩ := c.def_ 16 (d := hd46)
  obtain ⟨oc47, od47, dc47, pm47, an47, ct47, sl47, l47, c47⟩ := c.def_ 17 (d := hd47)
  obtain ⟨t_e24, e24⟩ := HX.litInt (c.fact 1 21)
  obtain ⟨t_e25, e25⟩ := HX.litInt (c.fact 1 22)
  obtain ⟨t_e32, e32⟩ := HX.litInt (c.fact 1 23)
  obtain ⟨oc48, od48, dc48, pm48, an48, ct48, sl48, l48, c48⟩ := c.def_ 18 (d := hd48)
  obtain ⟨ocd48, odd48, usd48, nd48, sld48, dt48, vsd48⟩ := HX.seqB_ok (c.fact 3 0)
  obtain _ | ⟨⟨td48_0, rfl⟩, vsd48⟩ := vsd48
  cases vsd48
  obtain ⟨oc49, od49, dc49, pm49, an49, ct49, sl49, l49, c49⟩ := c.def_ 19 (d := hd49)
  obtain ⟨oc50, od50, dc50, pm50, an50, ct50, sl50, l50, c50⟩ := c.def_ 20 (d := hd50)
  obtain ⟨oc51, od51, dc51, pm51, an51, ct51, sl51, l51, c51⟩ := c.def_ 21 (d := hd51)
  obtain ⟨oc52, od52, dc52, pm52, an52, ct52, sl52, l52, c52⟩ := c.def_ 22 (d := hd52)
  obtain ⟨oc53, od53, dc53, pm53, an53, ct53, sl53, l53, c53⟩ := c.def_ 23 (d := hd53)
  refine all_mk (l := PySem.Challenge.rw_blocksearch_k03_pages_told) (w := w) X G hfa (a21 := HX.refB_ok (c.fact 0 0)) (l21 := l21) (c21 := c21) (k21 := (c.fact 0 1)) (a22 := HX.refB_ok (c.fact 0 2)) (l22 := l22) (c22 := c22) (k22 := (c.fact 0 3)) (a26 := HX.refB_ok (c.fact 0 4)) (l26 := l26) (c26 := c26) (k26 := (c.fact 0 5)) (a27 := HX.refB_ok (c.fact 0 6)) (l27 := l27) (c27 := c27) (k27 := (c.fact 0 7)) (a28 := HX.refB_ok (c.fact 0 8)) (l28 := l28) (c28 := c28) (k28 := (c.fact 0 9)) (a29 := HX.refB_ok (c.fact 0 10)) (l29 := l29) (c29 := c29) (k29 := (c.fact 0 11)) (a30 := HX.refB_ok (c.fact 0 12)) (l30 := l30) (c30 := c30) (k30 := (c.fact 0 13)) (a34 := HX.refB_ok (c.fact 0 14)) (l34 := l34) (c34 := c34) (k34 := (c.fact 0 15)) (a36 := HX.refB_ok (c.fact 0 16)) (l36 := l36) (c36 := c36) (k36 := (c.fact 0 17)) (a37 := HX.refB_ok (c.fact 0 18)) (l37 := l37) (c37 := c37) (k37 := (c.fact 0 19)) (a40 := HX.refB_ok (c.fact 0 20)) (l40 := l40) (c40 := c40) (k40 := (c.fact 0 21)) (a41 := HX.refB_ok (c.fact 0 22)) (l41 := l41) (c41 := c41) (k41 := (c.fact 0 23)) (a42 := HX.refB_ok (c.fact 0 24)) (l42 := l42) (c42 := c42) (k42 := (c.fact 0 25)) (a43 := HX.refB_ok (c.fact 0 26)) (l43 := l43) (c43 := c43) (k43 := (c.fact 0 27)) (a44 := HX.refB_ok (c.fact 0 28)) (l44 := l44) (c44 := c44) (k44 := (c.fact 0 29)) (a45 := HX.refB_ok (c.fact 1 0)) (l45 := l45) (c45 := c45) (k45 := (c.fact 1 1)) (a46 := HX.refB_ok (c.fact 1 2)) (l46 := l46) (c46 := c46) (k46 := (c.fact 1 3)) (a47 := HX.refB_ok (c.fact 1 4)) (l47 := l47) (c47 := c47) (k47 := (c.fact 1 5)) (z_ValueError := HX.noB_ok (c.fact 1 6)) (z_abs := HX.noB_ok (c.fact 1 7)) (z_all := HX.noB_ok (c.fact 1 8)) (z_bool := HX.noB_ok (c.fact 1 9)) (z_enumerate := HX.noB_ok (c.fact 1 10)) (z_int := HX.noB_ok (c.fact 1 11)) (z_isinstance := HX.noB_ok (c.fact 1 12)) (z_len := HX.noB_ok (c.fact 1 13)) (z_list := HX.noB_ok (c.fact 1 14)) (z_max := HX.noB_ok (c.fact 1 15)) (z_min := HX.noB_ok (c.fact 1 16)) (z_range := HX.noB_ok (c.fact 1 17)) (z_repr := HX.noB_ok (c.fact 1 18)) (z_str := HX.noB_ok (c.fact 1 19)) (z_tuple := HX.noB_ok (c.fact 1 20)) (e24 := e24) (e25 := e25) (e32 := e32) (a1 := HX.refB_ok (c.fact 1 24)) (a2 := HX.refB_ok (c.fact 1 25)) (a3 := HX.refB_ok (c.fact 1 26)) (a4 := HX.refB_ok (c.fact 1 27)) (a5 := HX.refB_ok (c.fact 1 28)) (a6 := HX.refB_ok (c.fact 1 29)) (a7 := HX.refB_ok (c.fact 2 0)) (a8 := HX.refB_ok (c.fact 2 1)) (a9 := HX.refB_ok (c.fact 2 2)) (a10 := HX.refB_ok (c.fact 2 3)) (a11 := HX.refB_ok (c.fact 2 4)) (a12 := HX.refB_ok (c.fact 2 5)) (a13 := HX.refB_ok (c.fact 2 6)) (a14 := HX.refB_ok (c.fact 2 7)) (a15 := HX.refB_ok (c.fact 2 8)) (a16 := HX.refB_ok (c.fact 2 9)) (a17 := HX.refB_ok (c.fact 2 10)) (a18 := HX.refB_ok (c.fact 2 11)) (a19 := HX.refB_ok (c.fact 2 12)) (a33 := HX.refB_ok (c.fact 2 13)) (xx2 := (c.fact 2 14)) (xk2 := (c.fact 2 15)) (xb2 := of_decide_eq_true (c.fact 2 16)) (xt2 := of_decide_eq_true (c.fact 2 17)) (xh2 := (c.fact 2 18)) (pg33 := (c.fact 2 19)) (hd33 := (c.fact 2 20)) (po33 := (c.fact 2 21)) (sa33 := He.eqO_ok (c.fact 2 22)) (mk33 := (c.fact 2 23)) (kc33 := (c.fact 2 24)) (na33_number := HX.noB_ok (c.fact 2 25)) (na33_in_turn := HX.noB_ok (c.fact 2 26)) (a48 := HX.refB_ok (c.fact 2 27)) (i48 := (c.fact 2 28)) (l48 := l48) (c48 := c48) (k48 := (c.fact 2 29)) (dt48 := dt48) (a49 := HX.refB_ok (c.fact 3 1)) (i49 := (c.fact 3 2)) (l49 := l49) (c49 := c49) (k49 := (c.fact 3 3)) (a50 := HX.refB_ok (c.fact 3 4)) (i50 := (c.fact 3 5)) (l50 := l50) (c50 := c50) (k50 := (c.fact 3 6)) (a51 := HX.refB_ok (c.fact 3 7)) (i51 := (c.fact 3 8)) (l51 := l51) (c51 := c51) (k51 := (c.fact 3 9)) (a52 := HX.refB_ok (c.fact 3 10)) (i52 := (c.fact 3 11)) (l52 := l52) (c52 := c52) (k52 := (c.fact 3 12)) (a53 := HX.refB_ok (c.fact 3 13)) (i53 := (c.fact 3 14)) (l53 := l53) (c53 := c53) (k53 := (c.fact 3 15)) (tb47 := (c.empty 527 (by decide))) (tn47 := (c.out 527 (by decide))) (th47 := (c.fact 3 16))
end K03
open PySem PySem.W PySem.Calls PyProof.Rows
set_option maxHeartbeats 0 in
theorem PySem.Challenge.cw_blocksearch_k03_pages_told_holds : PySem.Challenge.rw_blocksearch_k03_pages_told.Holds := by
  w_on; o_law
  refine HandSHeadRun.head_any (r := OpenLaw.row PySem.Challenge.rw_blocksearch_k03_pages_told) (q := view (OpenLaw.row PySem.Challenge.rw_blocksearch_k03_pages_told).prog [47]) (H := K03.hk) (ob := K03.hob) (M := 11868) (loose := K03.hloose) (d := HandSHeadRun.topDef (OpenLaw.row PySem.Challenge.rw_blocksearch_k03_pages_told).prog 47) (kwd := []) K03.hob_eq (by kernel_rfl) (fun s => by kernel_rfl) K03.hrun (by kernel_rfl) (by kernel_rfl) (by kernel_rfl) (by rfl) (by first | assumption | decide +kernel) (by decide +kernel) ⟨rfl, rfl, rfl, rfl, rfl, by decide +kernel⟩ ?hw ?hc
  case hw => w_witness2
  case hc =>
    refine Gd.walkG (l := PySem.Challenge.rw_blocksearch_k03_pages_told) (n := 63) (k := 12) (x := "_law_script") (CX := fun _ => L2.CX0) rfl (by decide) (by kernel_rfl) ⟨rfl, by decide, by decide⟩ ?F (fun _ _ _ _ _ z => z)
    intro w mg fa h Y G hmg0
    obtain ⟨K, KX, c⟩ := Y
    have hmg : mg ("law" : PySem.Str) = some (.ref fa) := by
      have e : (HandSHeadRun.topDef (OpenLaw.row PySem.Challenge.rw_blocksearch_k03_pages_told).prog 47).name = ("law" : PySem.Str) := by kernel_rfl
      rw [← e]
      exact hmg0
    exact ⟨K, KX, K03.hmk KX G hmg c⟩

