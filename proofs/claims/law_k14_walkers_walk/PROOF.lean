import PyProof.Rows.All
import Wide.All
import OpenK.AllK
import Wide.FinOn
import HandS.ForMost
import HandS.Defaults
import HandS.IsInst
import HandS.Walk
import HandS.Exc
import HandS.TryOnly
import HandS.ExcOwn
import HandS.WordsExc
import HandS.ExcIs
import HandS.HotCalls
import HandS.Lambda
import HandS.EndTab
import HandS.Evl
import HandS.More
import HandS.Text
import HandS.Deep
import HandS.Style
import HandS.Star
import HandS.Zip
import HandS.FStr
import HandS.ExcInit
import HandS.ExcField
import KE.KExcIs
import KE.KNestM
import KE.KSuper
import KE.KExcSuper
import KE.GoesMore
import PyProof.EnumMake
import HandS.Wide
import HandS.MakeKw
import HandS.MakeKwOnly
import HandS.Conv
import HandS.Sort
import HandS.OwnEq
import KE.KCallOwn
import HandS.Dict
import HandS.WordsDict
import HandS.Codes
import PySem.Challenge.RW_blocksearch_k14_walkers_walk
set_option Elab.async false
set_option linter.all false
set_option maxRecDepth 100000
namespace My
open PySem PySem.Spec PyProof.Rows L2 Evl
/-- the pool at p: three ints, at most c draws mixed so far -/
def Pl (H : Hp) (p : Addr) (c : Nat) : Prop := ∃ (g b : Int) (k : Nat), H p = some (.lst [.int g, .int b, .int (k : Int)]) ∧ 0 ≤ g ∧ 0 ≤ b ∧ b < 281474976710656 ∧ k ≤ c
/-- all but p stays -/
def Fx (p : Addr) (H H' : Hp) : Prop := ∀ a o, a ≠ p → H a = some o → H' a = some o
theorem Fx.refl (p : Addr) (H : Hp) : Fx p H H := fun _ _ _ h => h
theorem Fx.trans {p : Addr} {H H1 H2 : Hp} (a : Fx p H H1) (b : Fx p H1 H2) : Fx p H H2 := fun x o n h => b x o n (a x o n h)
theorem Fx.ex {p : Addr} {H H' : Hp} (e : Ex H H') : Fx p H H' := fun a o _ h => e a o h
theorem Fx.upd {p : Addr} {H : Hp} {o : HO} : Fx p H (L2.upd H p o) := fun a u n h => by
  rw [upd_ne n]
  exact h
theorem Pl.mono {H : Hp} {p : Addr} {c c' : Nat} (h : Pl H p c) (l : c ≤ c') : Pl H p c' := by
  obtain ⟨g, b, k, h1, h2, h3, h4, h5⟩ := h
  exact ⟨g, b, k, h1, h2, h3, h4, Nat.le_trans h5 l⟩
theorem Pl.ex {H H' : Hp} {p : Addr} {c : Nat} (h : Pl H p c) (e : Ex H H') : Pl H' p c := by
  obtain ⟨g, b, k, h1, h2⟩ := h
  exact ⟨g, b, k, e _ _ h1, h2⟩
theorem Pl.some {H : Hp} {p : Addr} {c : Nat} (h : Pl H p c) : ∃ xs, H p = some (.lst xs) := by
  obtain ⟨g, b, k, h1, _⟩ := h
  exact ⟨_, h1⟩
/-- what is free behind was free ahead -/
theorem fx_free {p a : Addr} {H H' : Hp} {c : Nat} (f : Fx p H H') (h : Pl H' p c) (e : H' a = none) : H a = none := by
  cases q : H a with
  | none => rfl
  | some o =>
    have n : a ≠ p := fun z => by
      obtain ⟨xs, hx⟩ := h.some
      rw [z, hx] at e
      cases e
    rw [f a o n q] at e
    cases e
/-- a tuple is not the pool -/
theorem Fx.tup {p a : Addr} {H H' : Hp} {xs : List V} {c : Nat} (f : Fx p H H') (hp : Pl H p c) (h : H a = some (.tup xs)) : H' a = some (.tup xs) := by
  obtain ⟨ys, hy⟩ := hp.some
  exact f a _ (ne_of h hy (by intro z; cases z)) h
theorem ex_upd {H : Hp} {p : Addr} {o : HO} (h : H p = none) : Ex H (L2.upd H p o) := Ex.new h
theorem ret_v {v : V} {H : Hp} {Q : VK} (q : RetV v H Q) : Q v H := q H (Ex.refl H)
theorem sz {n : Nat} (h : n ≤ 100000) : n ≤ sizeLine := sz_of h
theorem natAbs_lt {z : Int} {n : Nat} (h0 : 0 ≤ z) (h : z < (n : Int)) : z.natAbs < n := by omega
/-- a * b ≤ A * B -/
theorem mul_le {a b A B : Int} (h0 : 0 ≤ a) (h1 : a ≤ A) (h2 : 0 ≤ b) (h3 : b ≤ B) : a * b ≤ A * B := Int.mul_le_mul h1 h3 h2 (Int.le_trans h0 h1)
theorem mul_nn {a b : Int} (h0 : 0 ≤ a) (h1 : 0 ≤ b) : 0 ≤ a * b := Int.mul_nonneg h0 h1
section
variable {X : Cx} {K : PySem.W.Frag}
theorem lenK (h : X.K = K) : CallR X (.builtin "len") (rLenS K) := by subst h; exact call_len_seq
theorem listK (h : X.K = K) : CallR X (.type "list") (rListS K) := by subst h; exact call_list_of
def rTupS (K : PySem.W.Frag) : List V → Hp → VK → Prop := fun xs H Q => ∃ p ys, xs = [.ref p] ∧ ((SqL K H p ys ∧ ∀ l, H l = none → Q (.ref l) (L2.upd H l (.tup ys))) ∨ (SqT K H p ys ∧ Q (.ref p) H))
theorem tupK (h : X.K = K) : CallR X (.type "tuple") (rTupS K) := by subst h; exact call_tuple_of
theorem ixLK (h : X.K = K) : IxR X (rIxL K) := by subst h; exact ix_list
theorem ixTK (h : X.K = K) : IxR X (rIxT K) := by subst h; exact ix_tup
theorem slLK (h : X.K = K) : SlR X (rSlL K) := by subst h; exact sl_list
theorem inK (h : X.K = K) : OpR X (compareOp .In) (rIn K false) := by subst h; exact op_in_seq
theorem isiK (h : X.K = K) : CallR X (.builtin "isinstance") (rIsi K) := by subst h; exact call_isi
theorem allK (h : X.K = K) (hc : X.calm = true) : CallR X (.builtin "all") (rAll K) := by subst h; exact cr_all hc
theorem maxK (h : X.K = K) (hc : X.calm = true) : CallR X (.builtin "max") (rMax K) := by subst h; exact cr_max hc
theorem minK (h : X.K = K) (hc : X.calm = true) : CallR X (.builtin "min") (rMin K) := by subst h; exact cr_min hc
theorem fldK {e : Expr} {f : Str} {pos : Pos} {ta : TE} (h : X.K = K) (he : PE X e ta) (hb : attributeBase e f X.env (eval e X.env) = eval e X.env) : PE X (.Attribute e f pos) (tFld K ta f) := by subst h; exact pe_fld he hb
theorem tupGK {es : List Expr} {k : Nat} {t : TGs} {n : Nat} {pos : Pos} (h : X.K = K) (hc : X.calm = true) (hg : PGs X es t) (hn : (assignEach es X.env).length = n := by rfl) (hst : (assignEach es X.env).findIdx? (·.1) = none := by rfl) : PG X (.Tuple es k pos) (gTup K n t) := by subst h; exact pg_tup hc hg hn hst
theorem eqDK (h : X.K = K) (hu : X.A.units + 64 < cLine) : OpR X (compareOp .Eq) (rEqD K) := by subst h; exact op_eqD hu
theorem neDK (h : X.K = K) (hu : X.A.units + 64 < cLine) : OpR X (compareOp .NotEq) (rNeD K) := by subst h; exact op_neD hu
theorem indexK (h : X.K = K) : MtR X "list.index" (rIndex K) := by subst h; exact mt_index
theorem piOr {tg e : Expr} {w1 w2 : TI} (h1 : PI X tg e w1) (h2 : PI X tg e w2) : PI X tg e (fun σ H R => w1 σ H R ∨ w2 σ H R) := ⟨fun pins s σ H R I h => h.elim (fun h => h1.run pins s σ H R I h) (fun h => h2.run pins s σ H R I h)⟩
theorem piLK {tg l : Expr} {tl : TE} (h : X.K = K) (hl : PE X l tl) : PI X tg l (iList K tl) := by subst h; exact pi_list hl
theorem piTK {tg l : Expr} {tl : TE} (h : X.K = K) (hl : PE X l tl) : PI X tg l (iTup K tl) := by subst h; exact pi_tup hl
end
end My
namespace My
open PySem PySem.Spec PyProof.Rows L2 Evl
/-- the matching of an exception with the classes of a tuple -/
theorem loop_all {M : Model} {A : Around} {E : Value → Shared → Prop} {s : Shared} {f : Value → PUnit → Sem (ForInStep PUnit)} : ∀ {cs : List Value}, (∀ c ∈ cs, ∀ Q : ForInStep PUnit → Shared → Prop, Q (.yield ()) s → wpAny M A (f c ()) Q E s) →
    ∀ {Q : PUnit → Shared → Prop}, Q () s → wpAny M A (forIn cs PUnit.unit f) Q E s
  | [], _, Q, q => by
    rw [List.forIn_nil]
    exact wpAny_pure q
  | c :: r, hf, Q, q => by
    rw [List.forIn_cons]
    exact wpAny_bind (hf c (List.mem_cons_self ..) _ (loop_all (fun x hx => hf x (List.mem_cons_of_mem _ hx)) q))
theorem loop_any {M : Model} {A : Around} {E : Value → Shared → Prop} {s : Shared} {K : PySem.W.Frag} {cls : Value} {f : Value → Option Bool × PUnit → Sem (ForInStep (Option Bool × PUnit))} :
    ∀ {cs : List Value} {b : Bool}, PySem.W.exmAny K cls cs = some b →
      (∀ c b1, PySem.W.exmOne K cls c = some b1 → ∀ Q : ForInStep (Option Bool × PUnit) → Shared → Prop, Q (if b1 then .done (some true, ()) else .yield (none, ())) s → wpAny M A (f c (none, ())) Q E s) →
    ∀ {Q : Option Bool × PUnit → Shared → Prop}, Q (if b then some true else none, ()) s → wpAny M A (forIn cs ((none, ()) : Option Bool × PUnit) f) Q E s
  | [], b, hx, _, Q, q => by
    rw [List.forIn_nil]
    cases (show some false = some b from hx)
    exact wpAny_pure q
  | c :: r, b, hx, hf, Q, q => by
    obtain ⟨b1, d1, x1, x2, e⟩ := PySem.W.exmAny_cons hx
    rw [List.forIn_cons]
    refine wpAny_bind (hf c b1 x1 _ ?_)
    cases b1 with
    | true =>
      rw [e] at q
      exact wpAny_pure q
    | false =>
      rw [e] at q
      exact loop_any x2 hf q
theorem exm_in {K : PySem.W.Frag} {cls : Value} : ∀ {cs : List Value} {b : Bool}, PySem.W.exmAny K cls cs = some b → ∀ c ∈ cs, ∃ b1, PySem.W.exmOne K cls c = some b1
  | [], _, _, c, h => absurd h (by simp)
  | x :: r, b, hx, c, h => by
    obtain ⟨b1, d1, x1, x2, e⟩ := PySem.W.exmAny_cons hx
    rcases List.mem_cons.mp h with rfl | h
    · exact ⟨b1, x1⟩
    · exact exm_in x2 c h
theorem exm_many {M : Model} {K : PySem.W.Frag} {cls : Value} {e tp : Addr} {b : Bool} {h : Heap} {cs : List Value} {o : Obj} {n : Nat} (KX : K.In h) (LT : PySem.W.Looks M h (typeOf (.ref e)) cls)
    (ho : h.get? tp = some o) (hc : o.cls = .type "tuple") (hd : o.data = .seq cs.toArray n) (hx : PySem.W.exmAny K cls cs = some b) : PySem.W.Looks M h (excMatches (.ref e) (.ref tp)) b := by
  have ty : PySem.W.Looks M h (isInstance (.ref tp) (.type "tuple")) true := by
    have l0 : PySem.W.Looks M h (typeOf (.ref tp)) (.type "tuple") := fun A Q E s k q => wpAny_typeOf_ref (k _ _ ho) (by rw [hc]; exact q)
    exact l0.andThen (PySem.W.Looks.of_pure isSubtype_tuple_tuple)
  intro A Q E s k q
  unfold excMatches
  refine wpAny_bind ((ty.keeps k).here ?_)
  rw [if_pos rfl]
  refine wpAny_bind (wpAny_seqItems (k _ _ ho) hd ?_)
  refine wpAny_bind (wpAny_pure ?_)
  refine wpAny_bind (loop_all (fun c hm Q' q' => ?_) ?_)
  · obtain ⟨b1, x1⟩ := exm_in hx c (by simpa using hm)
    obtain ⟨l1, _⟩ := PySem.W.exm_cls (M := M) KX x1
    refine wpAny_bind ((l1.keeps k).here ?_)
    exact wpAny_pure q'
  · refine wpAny_bind ((LT.keeps k).here (wpAny_bind (loop_any (cs := cs) hx (fun c b1 x1 Q' q' => ?_) ?_)))
    · obtain ⟨_, l2⟩ := PySem.W.exm_cls (M := M) KX x1
      refine wpAny_bind ((l2.keeps k).here ?_)
      cases b1 with
      | true => exact wpAny_pure q'
      | false => exact wpAny_pure q'
    · cases b with
      | true => exact wpAny_pure q
      | false => exact wpAny_pure q
/-- what a clause's classes are: the test is run in the suite's context, it may lay a tuple -/
def TestR (X : Cx) (t : Expr) (cs : List Value) : Prop := ∀ (a : Addr) (pn : List (Addr × Obj)) (σ : L2.St) (H : Hp) (s : Shared) (cls : Value) (b : Bool) (Q : Bool → Shared → Prop) (E : Value → Shared → Prop),
  Inv (X.suite a pn) [] σ H s → PySem.W.Looks (model X.prog X.w) s.heap (typeOf (.ref a)) cls → PySem.W.exmAny X.K cls cs = some b →
    (∀ h', (∀ x o, s.heap.get? x = some o → h'.get? x = some o) → Q b { s with heap := h' }) →
    wpAny (model X.prog X.w) (X.A.mark (some (.ref a))) (eval t X.env) (fun c s₁ => wpAny (model X.prog X.w) (X.A.mark (some (.ref a))) (excMatches (.ref a) c) Q E s₁) E s
theorem name_runs {X : Cx} {x : Str} {c : Value} {np : Pos} (hc : Names X x c) {a : Addr} {pn : List (Addr × Obj)} {σ : L2.St} {H : Hp} {s : Shared} (I : Inv (X.suite a pn) [] σ H s) {Q : Value → Shared → Prop} {E : Value → Shared → Prop} (q : Q c s) :
    wpAny (model X.prog X.w) (X.A.mark (some (.ref a))) (eval (.Name x np) X.env) Q E s := by
  obtain ⟨g1, g2, g3 | ⟨g3, g4, g5⟩⟩ := hc
  · exact ld_glob (X := X.suite a pn) I g1 g3 q g2
  · exact ld_blt (X := X.suite a pn) I g1 g3 g4 q g5 g2
theorem test_name {X : Cx} {x : Str} {c : Value} {np : Pos} (hc : Names X x c) : TestR X (.Name x np) [c] := by
  intro a pn σ H s cls b Q E I LT hx q
  refine name_runs hc I ?_
  obtain ⟨b1, d1, x1, x2, e⟩ := PySem.W.exmAny_cons hx
  cases (show some false = some d1 from x2)
  rw [Bool.or_false] at e
  rw [e] at q
  exact (PySem.W.exm_one I.kIn LT x1).here (q s.heap fun _ _ h => h)
inductive NamesAll (X : Cx) : List Expr → List Value → Prop
  | nil : NamesAll X [] []
  | cons {x : Str} {c : Value} {np : Pos} {es : List Expr} {cs : List Value} : Names X x c → NamesAll X es cs → NamesAll X (.Name x np :: es) (c :: cs)
theorem names_run {X : Cx} {pos : Pos} {a : Addr} {pn : List (Addr × Obj)} {σ : L2.St} {H : Hp} {s : Shared} (I : Inv (X.suite a pn) [] σ H s) : ∀ {es : List Expr} {cs : List Value}, NamesAll X es cs → ∀ {Q : List Value → Shared → Prop} {E : Value → Shared → Prop}, Q cs s →
    wpAny (model X.prog X.w) (X.A.mark (some (.ref a))) (spliced (backTo pos (starEach es X.env))) Q E s
  | _, _, .nil, Q, E, q => Calls.spliced_nil q
  | _, _, .cons (x := x) (np := np) (es := es) hn hr, Q, E, q => by
    show wpAny _ _ (spliced ((false, eval (.Name x np) X.env) :: backTo pos (starEach es X.env))) _ _ s
    exact Calls.spliced_cons (name_runs hn I (names_run I hr q))
theorem test_tup {X : Cx} {es : List Expr} {cs : List Value} {k : Nat} {pos : Pos} (hn : NamesAll X es cs) (hl : cs.length ≤ sizeLine) : TestR X (.Tuple es k pos) cs := by
  intro a pn σ H s cls b Q E I LT hx q
  refine wpAny_Tuple_spliced (names_run I hn ⟨hl, ?_⟩)
  have kp : ∀ x o, s.heap.get? x = some o → (s.heap.push { cls := .type "tuple", data := .seq cs.toArray }).get? x = some o := fun x o e => Heap.get?_push_of_some _ e
  exact (exm_many (I.kIn.keeps kp) (LT.keeps kp) (Heap.get?_push_size _ rfl) rfl rfl hx).here (q _ kp)
/-- what the clauses wish of an exception of the body; slot i is the name's -/
def wAsMany (K : PySem.W.Frag) (Wout : WX) (i : Nat) (D : Ends) : List (List Value × (Addr → Value → Option Addr → TS)) → WX
  | [] => Wout
  | (cs, ts) :: r => fun cls d σ H => ∃ b, PySem.W.exmAny K cls cs = some b ∧
      (b = true → ∀ a, H a = none → ts a cls d { nx := fun σ' H' => D.nx (σ'.set i none) H', rt := D.rt, bk := fun σ' H' => D.bk (σ'.set i none) H', ct := fun σ' H' => D.ct (σ'.set i none) H' } (σ.set i (some (.ref a))) H) ∧
      (b = false → wAsMany K Wout i D r cls d σ H)
inductive HdsAs (X : Cx) (n : Str) : List ExceptHandler → List (List Value × (Addr → Value → Option Addr → TS)) → Prop
  | nil : HdsAs X n [] []
  | cons {t : Expr} {cs : List Value} {ts : Addr → Value → Option Addr → TS} {b₀ : Stmt} {suite : List Stmt} {pos' : Pos} {hds : List ExceptHandler} {l : List (List Value × (Addr → Value → Option Addr → TS))} (ht : TestR X t cs)
      (hsu : ∀ (a : Addr) (oe : Obj) (cls : Value) (d : Option Addr) (pn : List (Addr × Obj)), Zc cls d oe → (∃ vs, oe.data = .fields vs) → PSs (X.suite a ((a, oe) :: pn)) (b₀ :: suite) (ts a cls d)) (r : HdsAs X n hds l) :
      HdsAs X n (.ExceptHandler (some t) (some n) (b₀ :: suite) pos' :: hds) ((cs, ts) :: l)
theorem fly_kept {B h h' : Heap} {l : List Env} {a : Addr} {Z : Obj → Prop} (f : HandSPX.FlyingZ B l a Z h) (k : ∀ x o, h.get? x = some o → h'.get? x = some o) : HandSPX.FlyingZ B l a Z h' := by
  obtain ⟨f1, f2, f3, oe, vs, T, oT, ts, g1, g2, g3, g4, g5, g6, g7, g8, g9⟩ := f
  exact ⟨fun b o e => k _ _ (f1 b o e), f2, f3.of_keeps fun b o e _ => ⟨o, k b o e, rfl⟩, oe, vs, T, oT, ts, k _ _ g1, g2, g3, g4, g5, g6, k _ _ g7, g8, g9⟩
section
variable {X : Cx} {n : Str} {i : Nat} {body : List Stmt} {h₀ : ExceptHandler} {hds : List ExceptHandler} {l : List (List Value × (Addr → Value → Option Addr → TS))} {pos : Pos} {tb : WX → TS} {Wout : WX}
set_option maxHeartbeats 4000000 in
theorem ps_try_asMany (hs : X.stack = X.env :: X.outer) (hf : X.env.frame = some X.env.locals) (hN : X.N.Nodup) (hi : X.N[i]? = some n) (hln : X.env.kindOf n = some .local) (tk : Takes X Wout)
    (hb : ∀ (W : WX) (pn : List (Addr × Obj)) (xe : Value → Shared → Prop), Takes (X.tr pn xe) W → PassesOwn (model X.prog X.w) X.A X.env xe → PSs (X.tr pn xe) body (tb W))
    (hh : HdsAs X n (h₀ :: hds) l) : PS X (.Try body (h₀ :: hds) [] [] pos) (fun D σ H => tb (fun cls d σ' H' => σ'.length = X.N.length → wAsMany X.K Wout i D l cls d σ' H') D σ H) := by
  refine ⟨fun pins s σ H D I h => wpAny_Try_except ?_⟩
  have ok := I.ok
  have hfr : X.A.frames = some (X.env :: X.outer) := by rw [ok.frames, hs]
  refine wpAny_mono ((hb (fun cls d σ' H' => σ'.length = X.N.length → wAsMany X.K Wout i D l cls d σ' H') (X.pn ++ pins) _ (fun u s' xx => ?_) PassesOwn.looking).run [] s σ H D (I.toTry _) h) (fun f s1 hsp => ?_) (fun e s1 he => he)
  · obtain ⟨a, B, sI, pins', σ', H', cls, d, rfl, J', nb, up, sky, na, os, ag, wish⟩ := xx
    have J : Inv X pins σ' H' sI := J'.ofTry ok
    rw [show (X.tr (X.pn ++ pins) _).stack = X.env :: X.outer from hs] at sky
    refine Sky.land Zc.steady hfr hf sky fun h3 fl up3 => ?_
    have up4 := up.trans up3
    have apart : ∀ {g : Heap}, HandSPX.FlyingZ B (X.env :: X.outer) a (Zc cls d) g → a ∉ frs (X.env :: X.outer) := fun {g} fg hm => by
      obtain ⟨oe, vs, e1, _, e3⟩ := fg.there
      obtain ⟨_, o', e', hnf⟩ := fg.2.2.1.mem hm
      rw [e1] at e'
      cases e'
      exact hnf _ e3
    have nfr := apart fl
    have nL : a ≠ X.env.locals := fun z => nfr (List.mem_filterMap.mpr ⟨X.env, List.mem_cons_self, by rw [hf, z]⟩)
    have nF : a ∉ X.fs := fun hm => by
      obtain ⟨e, he, q⟩ := List.mem_filterMap.mp hm
      exact nfr (List.mem_filterMap.mpr ⟨e, List.mem_cons_of_mem _ he, q⟩)
    have go : ∀ {hds' : List ExceptHandler} {l' : List (List Value × (Addr → Value → Option Addr → TS))}, HdsAs X n hds' l' → ∀ h', HandSPX.FlyingZ B (X.env :: X.outer) a (Zc cls d) h' → sI.heap.UpToSlots h' → wAsMany X.K Wout i D l' cls d σ' H' →
        wpAny (model X.prog X.w) X.A (handleBy (.ref a) X.env hds') (SP X pins D) X.xe { s' with heap := h' } := by
      intro hds' l' hk
      induction hk with
      | nil =>
        intro h' fg ug wi
        refine wpAny_handleBy_nil ?_
        obtain ⟨_, _, _, oe, vs, T, oT, ts', he, hz, hd, h1, _⟩ := id fg
        unfold PySem.passOn
        refine wpAny_bind (wpAny_field he hd h1 ?_)
        rw [if_neg (show ¬ ((Value.ref T == Value.none) = true) by simp)]
        have fin : wpAny (model X.prog X.w) X.A (setFlight (.ref a) X.env.frame) (fun _ s4 => wpAny (model X.prog X.w) X.A (throw (.ref a) : Sem Flow) (SP X pins D) X.xe s4) X.xe { s' with heap := h' } := by
          rw [hf]
          refine HandSPX.setFlight_upZ fg fun h4 hh4 u4 => wpAny_throw (tk _ _ ⟨a, B, sI, pins, σ', H', cls, d, rfl, J, nb, ug.trans u4, .inr (.inr ?_), na, os, ag, wi⟩)
          rw [hs]
          exact hh4
        first
          | exact wpAny_bind (wpAny_pure (wpAny_bind fin))
          | exact wpAny_bind fin
      | @cons t cs ts b₀ suite pos' hds2 l2 ht hsu r ih =>
        intro h' fg ug wi
        obtain ⟨b, hb1, hyes, hno⟩ := wi
        have J3 : Inv X pins σ' H' { s' with heap := h' } := J.landed nb fg.1 ug os ag
        obtain ⟨oe3, vs3, he3, hz3, hd3⟩ := fg.there
        refine wpAny_handleBy_cons (codeAny_handlers_test ?_) (by intro q; cases q)
        refine ht a _ σ' H' _ cls b _ _ (J3.suite he3 hd3 na nL nF) (fun A Q E s k q => wpAny_typeOf_ref (k _ _ he3) (by rw [hz3.1]; exact q)) hb1 fun h5 k5 => ?_
        have f5 := fly_kept fg k5
        have u5 := ug.trans (Heap.UpToSlots.of_keeps k5)
        cases b with
        | false => exact ih h5 f5 u5 (hno rfl)
        | true =>
          refine codeAny_handlers_suite_as ?_
          refine HandSPX.lands_againZ f5 fun h6 f6 u6 => ?_
          have J6 : Inv X pins σ' H' { s' with heap := h6 } := J.landed nb f6.1 (u5.trans u6) os ag
          obtain ⟨oe6, vs6, he6, hz6, hd6⟩ := f6.there
          have S6 := J6.suite he6 hd6 na nL nF
          refine store_ok (X := X.suite a ((a, oe6) :: (X.pn ++ pins))) (v := .ref a) S6 hN hi (.inl hln) rfl (fun s7 S7 => ?_) (.inr hln)
          refine wpAny_mono ((hsu a oe6 cls d (X.pn ++ pins) hz6 ⟨_, hd6⟩).run [] s7 _ H' _ S7 (hyes rfl a na)) (fun f s8 hsp => ?_) (fun _ _ z => False.elim z)
          have gone : ∀ {σ8 : L2.St} {H8 : Hp} {Q : Shared → Prop}, Inv (X.suite a ((a, oe6) :: (X.pn ++ pins))) [] σ8 H8 s8 → (∀ s9, Inv X pins (σ8.set i none) H8 s9 → Q s9) →
              wpAny (model X.prog X.w) X.A (do bindName X.env n .none; unbindBehindTheSuite X.env n pos') (fun _ s9 => Q s9) X.xe s8 := fun {σ8 H8 Q} S8 hq => gone_ok (S8.unsuite ok) hN hi hln hq
          cases f with
          | ret u =>
            obtain ⟨v8, σ8, H8, S8, r8, q8⟩ := hsp
            exact gone S8 fun s9 J9 => ⟨_, _, _, J9, r8, q8⟩
          | next =>
            obtain ⟨σ8, H8, S8, q8⟩ := hsp
            exact gone S8 fun s9 J9 => ⟨_, _, J9, q8⟩
          | brk =>
            obtain ⟨σ8, H8, S8, q8⟩ := hsp
            exact gone S8 fun s9 J9 => ⟨_, _, J9, q8⟩
          | cont =>
            obtain ⟨σ8, H8, S8, q8⟩ := hsp
            exact gone S8 fun s9 J9 => ⟨_, _, J9, q8⟩
    exact go hh h3 fl up4 (wish J.len)
  · cases f with
    | ret u =>
      obtain ⟨v, σ2, H2, J2, r, q⟩ := hsp
      exact ⟨v, σ2, H2, J2.ofTry ok, r, q⟩
    | next =>
      obtain ⟨σ2, H2, J2, q⟩ := hsp
      exact wpAny_execs_nil ⟨σ2, H2, J2.ofTry ok, q⟩
    | brk =>
      obtain ⟨σ2, H2, J2, q⟩ := hsp
      exact ⟨σ2, H2, J2.ofTry ok, q⟩
    | cont =>
      obtain ⟨σ2, H2, J2, q⟩ := hsp
      exact ⟨σ2, H2, J2.ofTry ok, q⟩
end
structure ExcD (K : PySem.W.Frag) (D : Addr) : Prop where
  hc : (PySem.W.clsIn K D).isSome = true
  hg : PySem.W.findIn K (.ref D) "__getattribute__" = some (some (.builtin "BaseException.__getattribute__"))
  hk : PySem.W.findIn K (.ref D) "__getattr__" = some none
  hs : PySem.W.subIn K (.ref D) (.type "BaseException") = some true
  ha : PySem.W.findIn K (.ref D) "__class__" = some (some (.builtin "object.__class__"))
  hn : PySem.W.specialIn K (.builtin "object.__class__") "__get__" = some (some (.builtin "getset_descriptor.__get__"))
  ht : PySem.W.takesIn K (.builtin "object.__class__") = some true
  hm : PySem.W.mroIn K D (.type "object") = some true
/-- the exception at a, held by a pin: an instance of D; its dict d, if it has one, is tracked -/
structure Held (X : Cx) (a D : Addr) (d : Option Addr) (oe : Obj) : Prop where
  pn : (a, oe) ∈ X.pn
  zc : Zc (.ref D) d oe
  fl : ∃ vs, oe.data = .fields vs
def DictOk (d : Option Addr) (H : Hp) : Prop := ∀ dd, d = some dd → ∃ fs, H dd = some (.xd fs)
section
variable {X : Cx} {K : PySem.W.Frag} {a D : Addr} {d : Option Addr} {oe : Obj}
theorem held_at (hh : Held X a D d oe) {pins : List (Addr × Obj)} {σ : L2.St} {H : Hp} {s : Shared} (I : Inv X pins σ H s) (hd : DictOk d H) : ∃ od, PySem.W.InstAt s.heap a oe D od := by
  have hg := (I.pin (a, oe) (List.mem_append_left _ hh.pn)).1
  obtain ⟨vs, hv⟩ := hh.fl
  obtain ⟨c1, c2⟩ := hh.zc
  have no : PySem.W.notCls oe = true := by
    obtain ⟨oc, odd, odt, osl⟩ := oe
    simp only at hv
    subst hv
    rfl
  cases d with
  | none => exact ⟨none, hg, c1, no, by rw [c2]; exact True.intro⟩
  | some dd =>
    obtain ⟨fs, hf⟩ := hd dd rfl
    obtain ⟨mA, ⟨o, es, ep, e1, _⟩, _⟩ := (show ObjOk X.prog X.w H s.heap dd (.xd fs) from I.hok dd _ hf)
    exact ⟨some o, hg, c1, no, by rw [c2]; exact e1⟩
def rIsH (K : PySem.W.Frag) (D a : Addr) (d : Option Addr) : List V → Hp → VK → Prop := fun xs H Q => ∃ (c : V) (cv : Value) (b : Bool), xs = [.ref a, c] ∧ ClsV c cv ∧ DictOk d H ∧ PySem.W.kitOne K (.ref D) cv = some b ∧ Q (.bl b) H
theorem isH (h : X.K = K) (C : ExcD K D) (hh : Held X a D d oe) : CallR X (.builtin "isinstance") (rIsH K D a d) := by
  subst h
  intro pins s σ H xs us Q I r q
  obtain ⟨c, cv, b, rfl, hc, hd, e, q⟩ := q
  obtain ⟨u1, u2, rfl, r1, r2⟩ := vals2 r
  cases (show u1 = Value.ref a from r1)
  have e2 := hc.eq r2
  subst e2
  obtain ⟨od, J⟩ := held_at hh I hd
  exact PySem.W.kia_one (PySem.W.kitx_exc (od := od) C.hc C.hg C.hk C.hs C.ha C.hn C.ht C.hm) I.kIn J e (fun z => nomatch z) fun tk => ⟨.bl b, H, I.tok tk, rfl, q⟩
def rIsHT (K : PySem.W.Frag) (D a : Addr) (d : Option Addr) : List V → Hp → VK → Prop := fun xs H Q => ∃ (tp : Addr) (cs : List V) (ws : List Value) (b : Bool), xs = [.ref a, .ref tp] ∧ H tp = some (.tup cs) ∧ Paired ClsV cs ws ∧ DictOk d H ∧ PySem.W.kitAny K (.ref D) ws = some b ∧ Q (.bl b) H
theorem isHT (h : X.K = K) (C : ExcD K D) (hh : Held X a D d oe) : CallR X (.builtin "isinstance") (rIsHT K D a d) := by
  subst h
  intro pins s σ H xs us Q I r q
  obtain ⟨tp, cs, ws, b, rfl, hT, k, hd, e, q⟩ := q
  obtain ⟨u1, u2, rfl, r1, r2⟩ := vals2 r
  cases (show u1 = Value.ref a from r1)
  cases (show u2 = Value.ref tp from r2)
  obtain ⟨od, J⟩ := held_at hh I hd
  obtain ⟨_, its, rv, o, h1, h2, n, h3⟩ := (show ObjOk X.prog X.w H s.heap tp (.tup cs) from I.hok tp _ hT)
  have e3 := ClsV.all k rv
  subst e3
  obtain ⟨oc, odd, dt, sl⟩ := o
  simp only at h2 h3
  subst h2 h3
  exact PySem.W.kia_tup (PySem.W.kitx_exc (od := od) C.hc C.hg C.hk C.hs C.ha C.hn C.ht C.hm) I.kIn J h1 e (fun z => nomatch z) fun tk => ⟨.bl b, H, I.tok tk, rfl, q⟩
def rCntB (K : PySem.W.Frag) : V → List V → Hp → VK → Prop := fun x xs H Q => ∃ (p : Addr) (bs : List Bool), x = .ref p ∧ xs = [.bl true] ∧ SqL K H p (bs.map V.bl) ∧ Q (.int (bs.count true : Nat)) H
def eqT (v : Value) : Bool := match v with
  | .bool b => b
  | _ => false
theorem bools_of : ∀ {bs : List Bool} {us : List Value}, Vals (bs.map V.bl) us → us = bs.map Value.bool
  | [], _, .nil => rfl
  | b :: r, _, .cons h t => by
    cases (show _ = Value.bool b from h)
    rw [bools_of t]
    rfl
theorem countT : ∀ bs : List Bool, (bs.map Value.bool).countP eqT = bs.count true
  | [] => rfl
  | b :: r => by
    rw [List.map_cons, List.countP_cons, countT r, List.count_cons]
    cases b <;> rfl
theorem cntB (h : X.K = K) : MtR X "list.count" (rCntB K) := by
  subst h
  intro pins s σ H x xs v us Q I rx rxs q
  obtain ⟨p, bs, rfl, rfl, hs, q⟩ := q
  cases (show v = Value.ref p from rx)
  obtain ⟨u, rfl, ru⟩ := vals1 rxs
  cases (show u = Value.bool true from ru)
  obtain ⟨its, rv, ⟨⟨cls, dd, data, sl⟩, n, ho, hc, hdn, hd⟩, hlen⟩ := I.list hs
  simp only at hc hd
  subst hc hd
  have eb := bools_of rv
  subst eb
  refine call_meets PySem.F.slot_list_count ⟨_, ho, rfl⟩ PySem.F.entry_list_count (PySem.F.args_list_count_2 _ _)
    (SeqAt.list_countAt p (bs.map Value.bool).toArray n dd sl (.bool true) eqT) ⟨ho, fun y hy => ?_, ?_⟩
  · have hy : y ∈ bs.map Value.bool := by simpa using hy
    obtain ⟨b, _, rfl⟩ := List.mem_map.mp hy
    have z := SeqAt.EqAt.bool_bool (A := X.A.in1) (s := s) b true
    have e : (b == true) = eqT (.bool b) := by cases b <;> rfl
    rw [e] at z
    exact z
  · refine ⟨.int (bs.count true : Nat), H, I.tok _, ⟨s.toks, ?_⟩, q⟩
    show Value.int (((bs.map Value.bool).toArray.toList.countP eqT : Nat) : Int) s.toks = _
    rw [List.toList_toArray, countT]
end
structure FnP (P : Program) (w : World) (K : PySem.W.Frag) (mg : Str → Option Value) (base : Heap) (CX : CXT) (k : Nat) (f : Addr) (fd : FuncData) (ps : List Str) (sp : Addr → Value → Option Addr → Sp) : Prop where
  len : ∀ a cls d vs H Q E, sp a cls d vs H Q E → vs.length = ps.length
  run : ∀ (A : Around) (outer : List Env) (s : Shared) (H : Hp) (args : Args) (us : List Value) (vs : List V) (Q : VK) (E : XK) (p : Addr × Obj) (cls : Value) (d : Option Addr), L2H.RoomH k A → L2H.PinOk outer H s p → Zc cls d p.2 → (∃ vs, p.2.data = .fields vs) → Env0 P w K mg base A outer s H → BindsTo s fd args (ps.zip us) → Vals vs us → sp p.1 cls d vs H Q E →
    codeAny (model P w) A (.call (.ref f) args) (CR CX outer P w H s Q E) s
theorem fnP_of {CX : CXT} {P : Program} {w : World} {K : PySem.W.Frag} {mg : Str → Option Value} {base : Heap} {k : Nat} {x qual : Str} {st : Stmt} {f : Addr} {fd : FuncData} {N ps : List Str} {sp : Addr → Value → Option Addr → Sp} (F : Fun K x qual st f fd) (S : FnScope N ps (defScope st))
    (len : ∀ a cls d vs H Q E, sp a cls d vs H Q E → vs.length = ps.length)
    (hbody : ∀ (cdv : Value) (A : Around) (outer : List Env) (s : Shared) (H : Hp) (vs : List V) (Q : VK) (E : XK) (p : Addr × Obj) (cls : Value) (d : Option Addr), L2H.RoomH k (A.deeper (envOfC qual (defScope st) s.heap.objs.size f cdv)) → Zc cls d p.2 → (∃ vs, p.2.data = .fields vs) → sp p.1 cls d vs H Q E →
      ∃ t, PSs (L2H.cxH CX P w K mg base N qual (defScope st) f cdv A outer s H E p) (defBody st) t ∧ t { nx := fun _ H' => Q .non H', rt := Q } (L2.start N vs) H) : FnP P w K mg base CX (k + 1) f fd ps sp := by
  obtain ⟨oc, od, kV, doc, pm, an, cdv, ct, osl, rfl, lk, hcd⟩ := F.ex
  refine ⟨len, fun A outer s H args us vs Q E p cls d hr hpin hz hfl e0 hb r hsp => ?_⟩
  have keepB : ∀ b o, base.get? b = some o → s.heap.get? b = some o := fun b o e => (e0.bs b o e).1
  have hkind : ∀ y ∈ ps.zip us, (defScope st).names.lookup y.1 = some .local ∨ ((defScope st).names.lookup y.1 = some .cell ∧ ((cellsFrom (s.heap.objs.size + 1) (defScope st).names []).lookup y.1).isSome = true) := by
    rintro ⟨n, v⟩ hy
    exact (S.par n (List.of_mem_zip hy).1).imp id fun q => ⟨q, PySem.W.cellsFrom_some _ _ _ (.inl q)⟩
  refine codeAny_call_function hr.depth (e0.mod.kin.keeps keepB _ _ lk) rfl S.co S.gen rfl (PySem.W.codeRec_of (e0.mod.kin.keeps keepB) hcd) (hb _ _ _ _ ?_)
  refine wpAny_newFunctionEnv_cells S.kind hkind fun env he s1 z => ?_
  subst he
  refine ⟨(e0.mod.nolimit.keeps keepB).keeps z.toInCall.keep, codeAny_func ?_⟩
  obtain ⟨t, ht, hq⟩ := hbody cdv A outer s H vs Q E p cls d (hr.deeper _) hz hfl hsp
  refine wpAny_mono (ht.run [] s1 (L2.start N vs) H _ (L2H.inv_startH S hpin e0 (len _ _ _ _ _ _ _ hsp) r z) hq) (fun fl s' hs => ?_) fun e s' hs => hs
  cases fl with
  | ret u =>
    obtain ⟨v, σ', H', J, rv, q⟩ := hs
    exact ⟨v, H', J.os, J.bare, J.base, J.hok, rv, q⟩
  | next =>
    obtain ⟨σ', H', J, q⟩ := hs
    exact ⟨.non, H', J.os, J.bare, J.base, J.hok, rfl, q⟩
  | brk =>
    obtain ⟨_, _, _, q⟩ := hs
    exact False.elim q
  | cont =>
    obtain ⟨_, _, _, q⟩ := hs
    exact False.elim q
def tCallP (sp : Addr → Value → Option Addr → Sp) (a : Addr) (cls : Value) (d : Option Addr) (t : TA) : TE := fun σ H Q => t σ H fun vs H1 => sp a cls d vs H1 Q E0
theorem pe_callP {X : Cx} {k : Nat} {f : Addr} {fd : FuncData} {ps : List Str} {sp : Addr → Value → Option Addr → Sp} {x : Str} {q pos : Pos} {e : Expr} {es : List Expr} {t : TA} {p : Addr × Obj} {cls : Value} {d : Option Addr} (F : FnP X.prog X.w X.K X.mg X.base CX0 k f fd ps sp) (hr : L2H.RoomH k X.A) (hp : p ∈ X.pn) (hz : Zc cls d p.2) (hfl : ∃ vs, p.2.data = .fields vs)
    (hg : Gl X x) (hm : X.mg x = some (.ref f)) (hk : PySem.W.keepIn X.K (.ref f) = true) (hb : Binds X.K fd ps []) (ha : PA X (e :: es) t) (hdb : (x == ("__debug__" : Str)) = false := by decide)
    (he : starEach (e :: es) X.env = (false, eval e X.env) :: starEach es X.env := by rfl) (hpl : (backTo pos (starEach es X.env)).any (·.1) = false := by rfl) : PE X (.Call (.Name x q) (e :: es) [] pos) (tCallP sp p.1 cls d t) := by
  refine ⟨fun pins s σ H Q I h => wpAny_Call_Name_kw (ld_glob I hg hm ?_ hdb)⟩
  refine PySem.W.callWith_K (h₀ := X.base) I.ok.mod.kin hk (thn (ha.run pos pins s σ H _ I h) fun us s1 ⟨vs, H1, I1, r, z⟩ => ⟨I1.kIn, ?_⟩) he hpl
  have hl : us.length = ps.length := by rw [← r.length]; exact F.len _ _ _ _ _ _ _ z
  have b := hb s1 us I1.kIn (by rw [List.append_nil]; exact hl)
  rw [List.append_nil] at b
  have P1 := I1.pin p (List.mem_append_left _ hp)
  refine wpAny_call (codeAny_mono (F.run X.A X.stack s1 H1 ⟨us, []⟩ us vs Q E0 p cls d hr ⟨P1.1, P1.2.1, fun hm => (List.mem_cons.mp (I1.stkSub p.1 hm)).elim P1.2.2.1 P1.2.2.2.1, P1.2.2.2.2⟩ hz hfl I1.env0 b r z) fun rr s' hq => ?_)
  cases rr with
  | error e => exact (show False from hq).elim
  | ok fl =>
    cases fl with
    | ret u => exact I1.after hq
    | next => exact False.elim hq
    | brk => exact False.elim hq
    | cont => exact False.elim hq
structure FunC (K : PySem.W.Frag) (x qual : Str) (st : Stmt) (f : Addr) (fd : FuncData) (c : Addr) : Prop where
  ex : ∃ (oc : Value) (od : Option Addr) (kV doc pm : Value) (an : Option Addr) (ct : Value) (osl : Array (Option Value)),
    fd = PySem.W.fnOf x qual (defArgs st) (defBody st) (defScope st) .none kV doc pm an (.ref c) ct ∧ K.lookup f = some ⟨oc, od, .func fd, osl⟩ ∧ PySem.W.codeIn K (.ref c) qual = true
  kp : PySem.W.keepIn K (.ref f) = true
theorem FunC.ok {P : Program} {w : World} {K : PySem.W.Frag} {mg : Str → Option Value} {base : Heap} {x qual : Str} {st : Stmt} {f : Addr} {fd : FuncData} {c : Addr} {N ps : List Str} {k : Nat} {sp : Sp} (F : FunC K x qual st f fd c) (S : FnScope N ps (defScope st))
    (len : ∀ vs H Q E, sp vs H Q E → vs.length = ps.length)
    (hbody : ∀ (A : Around) (outer : List Env) (s : Shared) (H : Hp) (vs : List V) (Q : VK) (E : XK), Room k (A.deeper (envOfC qual (defScope st) s.heap.objs.size f (.ref c))) → sp vs H Q E →
      ∃ t, PSs (cxOf CX0 P w K mg base N qual (defScope st) f (.ref c) A outer s H E).nox (defBody st) t ∧ t { nx := fun _ H' => Q .non H', rt := Q } (start N vs) H) : FnOk P w K mg base CX0 (k + 1) f fd ps sp := by
  obtain ⟨oc, od, kV, doc, pm, an, ct, osl, rfl, lk, hcd⟩ := F.ex
  refine fn_of lk hcd S len fun A outer s H vs Q E hr hsp => ?_
  obtain ⟨t, h, q⟩ := hbody A outer s H vs Q E hr hsp
  exact ⟨t, h.nox, q⟩
def excDB (K : PySem.W.Frag) (D : Addr) : Bool := (PySem.W.clsIn K D).isSome && (decide (PySem.W.findIn K (.ref D) "__getattribute__" = some (some (.builtin "BaseException.__getattribute__"))) && (decide (PySem.W.findIn K (.ref D) "__getattr__" = some none) &&
  (decide (PySem.W.subIn K (.ref D) (.type "BaseException") = some true) && (decide (PySem.W.findIn K (.ref D) "__class__" = some (some (.builtin "object.__class__"))) && (decide (PySem.W.specialIn K (.builtin "object.__class__") "__get__" = some (some (.builtin "getset_descriptor.__get__"))) &&
  (decide (PySem.W.takesIn K (.builtin "object.__class__") = some true) && decide (PySem.W.mroIn K D (.type "object") = some true)))))))
theorem excD_of {K : PySem.W.Frag} {D : Addr} (h : excDB K D = true) : ExcD K D := by
  unfold excDB at h
  simp only [Bool.and_eq_true, decide_eq_true_eq] at h
  obtain ⟨h1, h2, h3, h4, h5, h6, h7, h8⟩ := h
  exact ⟨h1, h2, h3, h4, h5, h6, h7, h8⟩
/-- the classes that the law's helpers name, by their places -/
structure HowC where
  five : List Addr
  wrong : Addr
  two : List Addr
  all : List Addr
/-- C is the i-th class under Wrong, one without a field at -/
def plainB (K : PySem.W.Frag) (hc : HowC) (C : Addr) (i : Nat) : Bool := excDB K C && (decide (PySem.W.exmAny K (.ref C) (hc.five.map Value.ref) = some false) && (decide (PySem.W.exmAny K (.ref C) [.ref hc.wrong] = some true) &&
  (decide ((hc.all.map fun D => PySem.W.kitOne K (.ref C) (.ref D)) = (List.range hc.all.length).map fun j => some (decide (j = i))) && (decide (PySem.W.kitOne K (.ref C) (.type "ValueError") = some true) && decide (PySem.W.kitAny K (.ref C) (hc.two.map Value.ref) = some false)))))
structure Plain (K : PySem.W.Frag) (hc : HowC) (C : Addr) (i : Nat) : Prop where
  ec : ExcD K C
  e5 : PySem.W.exmAny K (.ref C) (hc.five.map Value.ref) = some false
  ew : PySem.W.exmAny K (.ref C) [.ref hc.wrong] = some true
  k : (hc.all.map fun D => PySem.W.kitOne K (.ref C) (.ref D)) = (List.range hc.all.length).map fun j => some (decide (j = i))
  kv : PySem.W.kitOne K (.ref C) (.type "ValueError") = some true
  k2 : PySem.W.kitAny K (.ref C) (hc.two.map Value.ref) = some false
theorem plain_of {K : PySem.W.Frag} {hc : HowC} {C : Addr} {i : Nat} (h : plainB K hc C i = true) : Plain K hc C i := by
  unfold plainB at h
  simp only [Bool.and_eq_true, decide_eq_true_eq] at h
  obtain ⟨h1, h2, h3, h4, h5, h6⟩ := h
  exact ⟨excD_of h1, h2, h3, h4, h5, h6⟩
theorem DictOk.ex {d : Option Addr} {H H' : Hp} (h : DictOk d H) (e : Ex H H') : DictOk d H' := fun dd hd => by
  obtain ⟨fs, hf⟩ := h dd hd
  exact ⟨fs, e _ _ hf⟩
def kindNames : List Str := ["code", "deed", "entries", "lengths", "name", "number", "pages", "queries", "query", "text of query", "row", "shelf", "size", "text", "word", "taken"]
def hot16 (i : Nat) : List Bool := [decide (0 = i), decide (1 = i), decide (2 = i), decide (3 = i)] ++ [decide (4 = i), decide (5 = i), decide (6 = i), decide (7 = i)] ++ [decide (8 = i), decide (9 = i), decide (10 = i), decide (11 = i)] ++ [decide (12 = i), decide (13 = i), decide (14 = i), decide (15 = i)]
theorem hot16_count : ∀ i, i < 16 → (hot16 i).count true = 1 := by decide
theorem hot16_at : ∀ i, i < 16 → (hot16 i)[i]? = some true := by decide
theorem hot16_ahead : ∀ i, i < 16 → ∀ m, m < i → (hot16 i)[m]? = some false := by decide
end My
namespace EnT
open PySem PySem.Spec PyProof.Rows L2
open AutoSeq1 (wpAny_loadPart')
abbrev tIt (t : Addr) : Obj := { cls := .type "tuple_iterator", data := .fields #[.ref t, .int 0 0] }
abbrev eIt (it : Addr) : Obj := { cls := .type "enumerate", data := .fields #[.none, .bool false, .ref it, rawInt 0, .none, .none] }
set_option maxHeartbeats 2000000 in
theorem newT (t : Addr) (items : Array Value) (n : Nat) (dct : Option Addr) (sl : Array (Option Value)) :
    Meets (Builtin.«enumerate.__new__» ⟨[.type "enumerate", .ref t], []⟩) (fun _ R s => s.heap.get? t = some { cls := .type "tuple", dict := dct, data := .seq items n, slots := sl } ∧ R (.ok (.ret (.ref (s.heap.push (tIt t)).objs.size))) { s with heap := (s.heap.push (tIt t)).push (eIt s.heap.objs.size) }) :=
  .of_wp fun prog w A R s z => by
    obtain ⟨hp, g, d, tk, os⟩ := s
    obtain ⟨ht, z⟩ := z
    have hS := sub_enumerate
    have hT : Heap.IsTuple (Shared.heap ⟨hp, g, d, tk, os⟩) t items := ⟨_, ht, rfl, n, rfl⟩
    wp_walk using wpAny_loadPart' ht
    refine wpAny_stack_any (fun _ => wpAny_pure ?_)
    split
    · rename_i cc _ _ _ _ _; cases (cc == Value.type "enumerate") <;> (wp_walk using wpAny_loadPart' ht, wpAny_pyIter_tuple hT; exact ⟨_, rfl, z⟩)
    · wp_walk using wpAny_loadPart' ht, wpAny_pyIter_tuple hT; exact ⟨_, rfl, z⟩
theorem callT {prog : Program} {w : World} {A : Around} {E : Value → Shared → Prop} {s : Shared} {t : Addr} {items : Array Value} {Q : Value → Shared → Prop} (hT : s.heap.IsTuple t items)
    (k : ∀ h', IsEnum h' (s.heap.objs.size + 1) s.heap.objs.size 0 .none → h'.IsTupleIter s.heap.objs.size t 0 → h'.objs.size = s.heap.objs.size + 2 → (∀ b o, s.heap.get? b = some o → h'.get? b = some o) → Q (.ref (s.heap.objs.size + 1)) { s with heap := h' }) :
    wpAny (model prog w) A (call (.type "enumerate") [.ref t]) Q E s := by
  obtain ⟨⟨c, dct, dt, sl⟩, ht, c1, n, d1⟩ := hT
  simp only at c1 d1
  subst c1 d1
  refine callType_new F.called_enumerate (by decide) (F.typeCall_enumerate_1 _) (F.newCall_enumerate_1 _) (fun ob => F.args_object_init_2 ob _) F.entry_enumerate_new (newT t items n dct sl) ⟨ht, ?_⟩
  have z : (s.heap.push (tIt t)).objs.size = s.heap.objs.size + 1 := Heap.size_push ..
  show _ ∧ _
  rw [z]
  have e1 : IsEnum ((s.heap.push (tIt t)).push (eIt s.heap.objs.size)) (s.heap.objs.size + 1) s.heap.objs.size 0 .none := by
    have e0 := Heap.get?_push_size (s.heap.push (tIt t)) (o := eIt s.heap.objs.size) rfl
    rw [z] at e0
    exact e0
  exact ⟨⟨_, e1, rfl⟩, k _ e1 ⟨_, Heap.get?_push_of_some _ (Heap.get?_push_size _ rfl), rfl, rfl⟩ (by rw [Heap.size_push, z]) (fun b o x => Heap.get?_push_of_some _ (Heap.get?_push_of_some _ x))⟩
/-- the tuple at a, each item in a new pair -/
def IteT (K : PySem.W.Frag) (a : Addr) : It :=
  ⟨fun i H => ∃ (xs : List V) (x : V), SqT K H a xs ∧ xs[i]? = some x, fun i H v H' => ∃ T x, v = .ref T ∧ H T = none ∧ H' = upd H T (.tup [.int (i : Nat), x]) ∧ ∀ xs, SqT K H a xs → xs[i]? = some x, fun i H => ∃ xs : List V, SqT K H a xs ∧ xs.length ≤ i ∧ i ≤ xs.length⟩
set_option maxHeartbeats 2000000 in
theorem turnT {P : Program} {w : World} {K : PySem.W.Frag} {elts : List Expr} {kk : Nat} {tpos : Pos} (a e it : Addr) (na : a ≠ it) (nea : e ≠ a) :
    Turn P w K (.Tuple elts kk tpos) (IteT K a) [e, it] e (fun i h => (∃ old, IsEnum h e it ((i : Nat) : Int) old) ∧ h.IsTupleIter it a i ∧ e ≠ it) where
  mem := by simp
  obj := fun i h st b hb => by
    obtain ⟨⟨old, he⟩, ⟨o, ho, hc, hd⟩, _⟩ := st
    have z : b = e ∨ b = it := by simpa using hb
    rcases z with rfl | rfl
    · exact ⟨_, he, fun v q => nomatch q⟩
    · exact ⟨o, ho, fun v q => by rw [hd] at q; cases q⟩
  keep := fun i h h' st k => by
    obtain ⟨⟨old, he⟩, hi, ne⟩ := st
    exact ⟨⟨old, k e (by simp) _ he⟩, hi.at (fun o q => k it (by simp) o q), ne⟩
  item := by
    intro X hP hw hK hc i pins s σ H E I hf st hg
    subst hP; subst hw; subst hK
    obtain ⟨⟨old, he⟩, hit, hne⟩ := st
    obtain ⟨xs, x, hq, hx⟩ := hg
    obtain ⟨its, rv, pt, hz⟩ := I.tuple hq
    obtain ⟨u, hu, ru⟩ := rv.get hx
    have l1 : e < s.heap.objs.size := Heap.lt_size he
    have l2 : it < s.heap.objs.size := by obtain ⟨_, q, _⟩ := hit; exact Heap.lt_size q
    have il : i < its.toArray.size := by rw [List.size_toArray]; exact (List.getElem?_eq_some_iff.mp hu).1
    refine wpAny_pyNext_enum_itemD (Draws.tuple (A := X.A.in1) (prog := X.prog) (w := X.w) (show X.A.in1.handled = none from I.ok.hd hc) it a na its.toArray) he ⟨hit, pt⟩ il hne (by simp [hne, nea]) fun v h' tk hv ho hst hT hsz hk => ?_
    have ev : v = u := by
      have : its[i]? = some v := by simpa using hv
      rw [hu] at this
      exact (Option.some.inj this).symm
    subst ev
    refine ⟨_, rfl, wpAny_letOwnedTupleGo_enum (s := { s with heap := h', toks := tk + 1 }) ho fun h2 he2 sb => ?_⟩
    have hT2 : h2.get? s.heap.objs.size = some { cls := .type "tuple", data := .seq #[.int i tk, v] } := (sb.2 _ (Nat.ne_of_gt l1)).trans hT
    have nw : ObjOk X.prog X.w (upd H s.heap.objs.size (.tup [.int (i : Nat), x])) h2 s.heap.objs.size (.tup [.int (i : Nat), x]) := ⟨by show 2 ≤ sizeLine; decide, [.int i tk, v], .cons ⟨_, rfl⟩ (.cons ru .nil), ⟨_, hT2, rfl, _, rfl⟩⟩
    have I1 : Inv X pins σ (upd H s.heap.objs.size (.tup [.int (i : Nat), x])) { s with heap := h2, toks := tk + 1 } := I.turnedNew (ch := [e, it]) (fun b ob hb q => (sb.2 b (fun z => hb (by simp [z]))).trans (hk b ob (fun z => hb (by simp [z])) (fun z => hb (by simp [z])) q)) hf (Nat.le_refl _) nw
    refine ⟨.ref s.heap.objs.size, _, I1, rfl, ⟨_, x, rfl, I.hok.fresh (Nat.le_refl _), rfl, fun ys hy => by rw [I.tuple_inj hy hq]; exact hx⟩, ⟨⟨v, ?_⟩, hst.1.at (fun o q => (sb.2 it (Ne.symm hne)).trans q), hne⟩, fun b hb => ?_⟩
    · rw [show ((i + 1 : Nat) : Int) = (i : Int) + 1 by omega]; exact he2
    · have z : b = e ∨ b = it := by simpa using hb
      have lb : b < s.heap.objs.size := by rcases z with rfl | rfl <;> assumption
      rw [upd_ne (Nat.ne_of_lt lb)]; exact (hf b hb).1
  done := by
    intro X hP hw hK hc i pins s σ H E I hf st hg
    subst hP; subst hw; subst hK
    obtain ⟨⟨old, he⟩, hit, hne⟩ := st
    obtain ⟨xs, hq, h1, h2⟩ := hg
    obtain ⟨its, rv, pt, hz⟩ := I.tuple hq
    obtain ⟨f0, f1, f2, f3, f4, f5⟩ := hf it (by simp)
    have hl := rv.length
    have ei : i = its.toArray.size := by rw [List.size_toArray]; omega
    subst ei
    exact wpAny_pyNext_enum_endD (Draws.tuple (A := X.A.in1) (prog := X.prog) (w := X.w) (show X.A.in1.handled = none from I.ok.hd hc) it a na its.toArray) he ⟨hit, pt⟩ fun h' eb => ⟨rfl, I.turned (t' := s.toks) (fun b o hb q => eb b o hb q) f0 f1 f3 f4 f5⟩
  self := fun A i s Q E st h => wpAny_pyIter_enum st.1.choose_spec h
def iEnumT (K : PySem.W.Frag) (ta : TA) : TI := fun σ H R => ta σ H fun vs H1 => ∃ a xs, vs = [.ref a] ∧ SqT K H1 a xs ∧ R (IteT K a) H1
set_option maxHeartbeats 2000000 in
theorem pi_enumT {X : Cx} {K : PySem.W.Frag} {e : Expr} {ta : TA} {p pos tpos : Pos} {elts : List Expr} {kk : Nat} (hX : X.K = K) (hg : Gl X "enumerate") (hm : X.mg "enumerate" = none) (ha : PA X [e] ta) (hs : starEach [e] X.env = [(false, eval e X.env)] := by rfl) :
    PI X (.Tuple elts kk tpos) (.Call (.Name "enumerate" p) [e] [] pos) (iEnumT K ta) := by
  subst hX
  refine ⟨fun pins s σ H R I h => Call_ (ld_blt I hg hm boot_enumerate (PyProof.Rows.callWith_type1 (thn (ha.run pos pins s σ H _ I h) fun us s1 ⟨vs, H1, I1, r1, q1⟩ => ?_) hs rfl))⟩
  obtain ⟨a, xs, ex, hq, q⟩ := q1
  subst ex
  cases r1 with
  | cons r rr =>
    cases rr
    cases r
    obtain ⟨its, rv, pt, hz⟩ := I1.tuple hq
    have la : a < s1.heap.objs.size := by obtain ⟨o, ho, _⟩ := pt; exact Heap.lt_size ho
    refine callT pt fun h' he hit hsz hk => wpAny_pyIter_enum he ?_
    have I2 : Inv X pins σ H1 { s1 with heap := h' } := I1.kept (t' := s1.toks) hk
    refine ⟨s1.heap.objs.size + 1, [s1.heap.objs.size + 1, s1.heap.objs.size], _, _, H1, rfl, I2, turnT a (s1.heap.objs.size + 1) s1.heap.objs.size (Nat.ne_of_lt la) (Nat.ne_of_gt (Nat.lt_succ_of_lt la)), ⟨⟨.none, he⟩, hit, Nat.succ_ne_self _⟩, fun b hb => ?_, q⟩
    have z : b = s1.heap.objs.size + 1 ∨ b = s1.heap.objs.size := by simpa using hb
    have lb : s1.heap.objs.size ≤ b := by
      rcases z with z | z
      · rw [z]; exact Nat.le_succ _
      · rw [z]; exact Nat.le_refl _
    exact I1.fpOk lb (I1.hok.fresh lb)
theorem walkT {K : PySem.W.Frag} {a : Addr} {xs : List V} : Walk (IteT K a) xs.length (fun H => SqT K H a xs) (YPair (fun i => some (.int (i : Nat))) (fun i => xs[i]?)) := by
  refine ⟨fun i _ hi q => ⟨xs, xs[i], q, by simp [hi]⟩, fun _ q => ⟨xs, q, Nat.le_refl _, Nat.le_refl _⟩, fun i H v H' _ q y => ?_⟩
  obtain ⟨T, x, h1, h2, h3, h4⟩ := y
  exact ⟨T, .int (i : Nat), x, h1, h2, h3, rfl, h4 xs q⟩
end EnT
namespace XSup
open PySem PySem.Spec PyProof.Rows L2
/-- the exception's field, read in an except clause, whatever its class -/
def tXfE (K : PySem.W.Frag) (a : Addr) (cls : Value) (d : Option Addr) (f : Str) (te : TE) : TE := fun σ H Q => te σ H fun x H1 => x = .ref a ∧ ∃ C : Addr, cls = .ref C ∧ XfC K C ∧ PySem.W.findIn K (.ref C) f = some none ∧ ∃ (dd : Addr) (fs : List (Str × V)) (v : V), d = some dd ∧ H1 dd = some (.xd fs) ∧ fs.lookup f = some v ∧ Q v H1
theorem attr_tail {X : Cx} {a C dd : Addr} {oe : Obj} {cls : Value} {d : Option Addr} {pn pins : List (Addr × Obj)} {n : Str} {x v : V} {u : Value} {s1 : Shared} {σ : L2.St} {H1 : Hp} {fs : List (Str × V)} {Q : VK} (T : XfC X.K C) (hno : PySem.W.findIn X.K (.ref C) n = some none) (hz : Zc cls d oe) (hf : ∃ vs, oe.data = .fields vs)
    (J1 : Inv (X.suite a ((a, oe) :: pn)) pins σ H1 s1) (rx : RelV x u) (ex : x = .ref a) (ec : cls = .ref C) (ed : d = some dd) (ea : H1 dd = some (.xd fs)) (l : fs.lookup n = some v) (q : Q v H1) :
    wpAny (model X.prog X.w) (X.suite a ((a, oe) :: pn)).A (getAttr u n true) (EP (X.suite a ((a, oe) :: pn)) pins σ Q) (X.suite a ((a, oe) :: pn)).xe s1 := by
  subst ex ec ed
  cases rx
  have held := (J1.pin (a, oe) (List.mem_append_left _ List.mem_cons_self)).1
  obtain ⟨vs, dat⟩ := hf
  obtain ⟨mA, names, rel⟩ := (show ObjOk X.prog X.w H1 s1.heap dd (.xd fs) from J1.hok dd _ ea)
  obtain ⟨od, ho, look⟩ := lookIn_ns names
  obtain ⟨u2, hu, ru⟩ := RelO.some_of (v := v) (o := mA n) (by rw [← l]; exact rel n)
  have inst : PySem.W.InstAt s1.heap a oe C (some od) := ⟨held, hz.1, by unfold PySem.W.notCls; rw [dat] <;> rfl, by rw [hz.2]; exact ho⟩
  exact HandSPX.exc_get J1.kIn inst T.ga T.gg T.exC (PySem.W.findObj_own T.hdC hno rfl (by rw [look, hu])) (handed_of ru) ⟨v, H1, J1.tok _, ru, q⟩
theorem pe_xfE {X : Cx} {a : Addr} {oe : Obj} {cls : Value} {d : Option Addr} {pn : List (Addr × Obj)} {e : Expr} {te : TE} {pos : Pos} {n : Str} (hz : Zc cls d oe) (hf : ∃ vs, oe.data = .fields vs) (he : PE (X.suite a ((a, oe) :: pn)) e te)
    (hb : attributeBase e n X.env (eval e X.env) = eval e X.env := by rfl) : PE (X.suite a ((a, oe) :: pn)) (.Attribute e n pos) (tXfE X.K a cls d n te) := by
  refine ⟨fun pins s σ H Q I h => attr_of hb (thn (he.run pins s σ H _ I h) fun u s1 hh => ?_)⟩
  obtain ⟨x, H1, I1, rx, ex, C, ec, T, hno, dd, fs, v, ed, ea, l, q⟩ := hh
  exact (attr_tail (X := X) (pn := pn) T hno hz hf I1 rx ex ec ed ea l q)
end XSup
namespace My
open PySem PySem.Spec PyProof.Rows L2
structure FiveC (K : PySem.W.Frag) (hc : HowC) (C : Addr) (i : Nat) : Prop where
  ec : ExcD K C
  e5 : PySem.W.exmAny K (.ref C) (hc.five.map Value.ref) = some true
  k : (hc.all.map fun D => PySem.W.kitOne K (.ref C) (.ref D)) = (List.range hc.all.length).map fun j => some (decide (j = i))
  kv : PySem.W.kitOne K (.ref C) (.type "ValueError") = some true
  k2 : PySem.W.kitAny K (.ref C) (hc.two.map Value.ref) = some false
  xf : XfC K C
  no : PySem.W.findIn K (.ref C) "at" = some none
end My
namespace Own
open PySem PySem.Spec PyProof.Rows L2
section
variable {X : Cx} {K : PySem.W.Frag} {pins : List (Addr × Obj)} {s : Shared} {σ : L2.St} {H : Hp} {CX : CXT} {C f : Addr} {fd : FuncData} {ps : List Str} {sp : Sp} {E : XK} {n : Nat}
/-- the def at f is run on us, somewhere below the running body -/
theorem run_own {A : Around} {vs : List V} {us : List Value} {Q : VK} (F : FnOk X.prog X.w X.K X.mg X.base CX n f fd ps sp) (hb : Binds X.K fd ps []) (hx : Passes CX X E) (sb : Sub X n A) (I : Inv X pins σ H s) (r : Vals vs us) (h : sp vs H Q E) :
    wpAny (model X.prog X.w) A (call (.ref f) us) (EP X pins σ Q) X.xe s := by
  have e0 : Env0 X.prog X.w X.K X.mg X.base A X.stack s H := by
    have e := I.env0
    exact ⟨by rw [sb.fr]; exact e.frames, e.mod, e.bs, e.bsz, e.funs, e.frf, e.hok, e.bare⟩
  have hl := F.len _ _ _ _ h
  have hl2 := r.length
  refine wpAny_call (codeAny_mono (F.run A X.stack s H ⟨us, []⟩ us vs _ E sb.room e0 (by
    have z := hb s us I.kIn (by simp; omega)
    simpa using z) r h) fun q s' hq => ?_)
  cases q with
  | error e => exact hx pins σ H s e s' I hq
  | ok fl =>
    cases fl with
    | ret w => exact I.after hq
    | next => exact False.elim hq
    | brk => exact False.elim hq
    | cont => exact False.elim hq
/-- x == y by x's own def: y is an instance of the same class, or of a type that doesn't go first -/
def OthK (K : PySem.W.Frag) (C : Addr) (H : Hp) (y : V) : Prop := (∃ b dy gs, y = .ref b ∧ H b = some (.ins C dy gs)) ∨ ∃ T, TyX K H y (.type T) ∧ PySem.W.notFirst K C (.type T) = true
theorem oth_looks {y : V} {u : Value} (I : Inv X pins σ H s) (ry : RelV y u) (h : OthK X.K C H y) : ∃ tb, PySem.W.Looks (model X.prog X.w) s.heap (typeOf u) tb ∧ PySem.W.notFirst X.K C tb = true := by
  rcases h with ⟨b, dy, gs, rfl, hb⟩ | ⟨T, ty, nf⟩
  · cases ry
    obtain ⟨mB, J, _⟩ := ins_get I.hok hb
    obtain ⟨od, J, _⟩ := J.look
    exact ⟨_, J.type, by simp [PySem.W.notFirst]⟩
  · obtain ⟨P, Z, p, _⟩ := kit_of I ry ty
    exact ⟨_, Z.ty _ _ I.kIn p, nf⟩
section
variable {M : Model} {prog : Program} {w : World} {A : Around} {E : Value → Shared → Prop} {s : Shared} {x : Addr} {ox : Obj} {od : Option Obj}
theorem ifBound_ne {args : List Value} {Q : Option Value → Shared → Prop} (Z : K.In s.heap) (I : PySem.W.InstAt s.heap x ox C od) (hs : PySem.W.findIn K (.ref C) "__ne__" = some (some (.builtin "object.__ne__")))
    (h : wpAny M A (call (.builtin "object.__ne__") (.ref x :: args)) (fun v => Q (some v)) E s) : wpAny M A (callSpecialIfBound? (.ref x) "__ne__" args) Q E s := by
  have fin : wpAny M A (call (.builtin "object.__ne__") ([.ref x] ++ args) >>= fun v => pure (some v)) Q E s := wpAny_bind (wpAny_mono h (fun v s' z => wpAny_pure z) fun _ _ z => z)
  simp only [callSpecialIfBound?, bindSpecialIfBound?]
  refine wpAny_holding (wpAny_bind (wpAny_bind (wpAny_bind (I.type.here ((PySem.W.looks_findIn Z hs).here (wpAny_bind (wpAny_askSetting (wpAny_ite ?_))))))))
  split
  · exact wpAny_bind (wpAny_of_eq (F.cmp_object.ne.bind _) (wpAny_pure fin))
  · exact wpAny_tryCatch (wpAny_bind (wpAny_of_eq (F.cmp_object.ne.bind _) (wpAny_pure fin)))
theorem call_ne {u : Value} {f : Addr} {Q : Value → Shared → Prop} (hu : A.in1.units < cLine) (Z : K.In s.heap) (I : PySem.W.InstAt s.heap x ox C od) (hm : PySem.W.mroIn K C (.type "object") = some true) (hs : PySem.W.findIn K (.ref C) "__eq__" = some (some (.ref f))) (hf : PySem.W.isFn K (.ref f) = true)
    (h : wpAny (model prog w) A.in1 (call (.ref f) [.ref x, u]) (fun v s' => ∃ b, v = .bool b ∧ Q (.bool (!b)) s') E s) : wpAny (model prog w) A (call (.builtin "object.__ne__") [.ref x, u]) Q E s := by
  refine wpAny_call (codeAny_call_builtin F.cmp_object.ne.plain F.cmpEntry_ne (PySem.W.check_slot F.cmpKind_ne F.cmpSplit_ne (I.type.andThen (PySem.W.looks_mroIn Z hm)) (F.cmpArgs_ne _ _) ?_))
  unfold Builtin.«object.__ne__»
  refine wpAny_bind (m := slotArgs "__ne__" 1 _) (wpAny_pure ?_)
  refine wpAny_bind (wpAny_cRoomFor hu ?_)
  refine wpAny_bind (m := callSpecialIfBound? (.ref x) (Str.ofString "__eq__") _) (PySem.W.ifBound_K Z I hs hf (wpAny_mono h (fun v s' z => ?_) fun _ _ z => z))
  obtain ⟨b, rfl, q⟩ := z
  exact wpAny_bind (wpAny_truthy_bool (wpAny_pure q))
end
/-- x != y by x's own == -/
def rNeO (K : PySem.W.Frag) (C : Addr) (sp : Sp) (E : XK) : R2 := fun x y H Q => ∃ a dx fs, x = .ref a ∧ H a = some (.ins C dx fs) ∧ OthK K C H y ∧ sp [x, y] H (fun v H' => ∃ b : Bool, v = .bl b ∧ Q (.bl (!b)) H') E
theorem op_neO (F : FnOk X.prog X.w X.K X.mg X.base CX n f fd ps sp) (m : Meth X.K C "__eq__" f) (hb : Binds X.K fd ps []) (hx : Passes CX X E) (hr : Room (n + 1) X.A) (hne : PySem.W.findIn X.K (.ref C) "__ne__" = some (some (.builtin "object.__ne__"))) (hm : PySem.W.mroIn X.K C (.type "object") = some true) (hK : X.K = K) : OpR X (compareOp .NotEq) (rNeO K C sp E) := by
  subst hK
  intro pins s σ H x y v u Q I rx ry h
  obtain ⟨a, dx, fs, rfl, ha, ho, h⟩ := h
  cases rx
  obtain ⟨mA, J, _⟩ := ins_get I.hok ha
  obtain ⟨od, J, _⟩ := J.look
  obtain ⟨tb, ht, hn⟩ := oth_looks I ry ho
  have one : wpAny (model X.prog X.w) X.A (tryCompare (.ref a) "__ne__" u) (fun r s' => ∃ v, r = some v ∧ EP X pins σ Q v s') X.xe s := by
    unfold tryCompare
    refine wpAny_bind (ifBound_ne I.kIn J hne (call_ne hr.in1.units0 I.kIn J hm m.at_ m.fn (wpAny_mono (run_own F hb hx ⟨hr.in1, rfl⟩ I (vs := [.ref a, y]) (.cons rfl (.cons ry .nil)) h) (fun v s' q => ?_) fun _ _ z => z)))
    obtain ⟨z, H', I', rz, b, rfl, q⟩ := q
    cases rz
    exact ⟨b, rfl, wpAny_pure ⟨_, rfl, .bl (!b), H', I', rfl, q⟩⟩
  show wpAny (model X.prog X.w) X.A (richCompare .NotEq (.ref a) u) (EP X pins σ Q) X.xe s
  unfold richCompare
  simp only [oneThing_ref]
  refine wpAny_holding (wpAny_bind (wpAny_cRoomFor hr.units0 (wpAny_bind (J.type.here (wpAny_bind (ht.here ?_))))))
  split
  · rename_i q
    have e : PySem.W.subIn X.K tb (.ref C) = some false := by
      rcases Bool.or_eq_true_iff.mp hn with e | e
      · rw [beq_iff_eq.mp e] at q; simp at q
      · exact beq_iff_eq.mp e
    refine wpAny_bind ((PySem.W.looks_subIn I.kIn e).here ?_)
    simp only [Bool.false_eq_true, if_false]
    refine wpAny_bind (wpAny_mono one (fun r s' z => ?_) fun _ _ e => e)
    obtain ⟨v, rfl, hq⟩ := z
    exact wpAny_pure hq
  · refine wpAny_bind (wpAny_pure ?_)
    simp only [Bool.false_eq_true, if_false]
    refine wpAny_bind (wpAny_mono one (fun r s' z => ?_) fun _ _ e => e)
    obtain ⟨v, rfl, hq⟩ := z
    exact wpAny_pure hq
end
end Own
namespace OwnT
open PySem PySem.Spec PyProof.Rows L2
open AutoSeq1 (wpAny_loadPart')
open MeetsSeq MeetsSeq2 MeetsSeq3 SeqRoads2
section
variable {X : Cx} {K : PySem.W.Frag} {CX : CXT} {C f : Addr} {fd : FuncData} {ps : List Str} {E : XK} {n : Nat} {R : Addr → Addr → Bool → Hp → Prop}
/-- two rules for one operator -/
def rOr (r r' : R2) : R2 := fun x y H Q => r x y H Q ∨ r' x y H Q
theorem op_or {fn : Value → Value → Sem Value} {r r' : R2} (h : OpR X fn r) (h' : OpR X fn r') : OpR X fn (rOr r r') := by
  intro pins s σ H x y v u Q I rx ry q
  rcases q with q | q
  · exact h pins s σ H x y v u Q I rx ry q
  · exact h' pins s σ H x y v u Q I rx ry q
end
end OwnT
namespace My
open PySem PySem.Spec PyProof.Rows L2
def placeB (K : PySem.W.Frag) (hc : HowC) (C : Addr) : Bool := excDB K C && (decide (PySem.W.exmAny K (.ref C) (hc.five.map Value.ref) = some false) && (decide (PySem.W.exmAny K (.ref C) [.ref hc.wrong] = some false) &&
  (decide (PySem.W.exmAny K (.ref C) (hc.two.map Value.ref) = some true) && (decide (PySem.W.kitOne K (.ref C) (.type "IndexError") = some true) && decide ((hc.two.map fun D => PySem.W.kitOne K (.ref C) (.ref D)) = [some true, some false])))))
structure PlaceC (K : PySem.W.Frag) (hc : HowC) (C : Addr) : Prop where
  ec : ExcD K C
  e5 : PySem.W.exmAny K (.ref C) (hc.five.map Value.ref) = some false
  ew : PySem.W.exmAny K (.ref C) [.ref hc.wrong] = some false
  e2 : PySem.W.exmAny K (.ref C) (hc.two.map Value.ref) = some true
  ki : PySem.W.kitOne K (.ref C) (.type "IndexError") = some true
  k2 : (hc.two.map fun D => PySem.W.kitOne K (.ref C) (.ref D)) = [some true, some false]
theorem place_of {K : PySem.W.Frag} {hc : HowC} {C : Addr} (h : placeB K hc C = true) : PlaceC K hc C := by
  unfold placeB at h
  simp only [Bool.and_eq_true, decide_eq_true_eq] at h
  obtain ⟨h1, h2, h3, h4, h5, h6⟩ := h
  exact ⟨excD_of h1, h2, h3, h4, h5, h6⟩
section
variable {X : Cx} {K : PySem.W.Frag} {a : Addr} {d : Option Addr} {cls : Value} {oe : Obj}
def rIsE (K : PySem.W.Frag) (cls : Value) (a : Addr) (d : Option Addr) : List V → Hp → VK → Prop := fun xs H Q => ∃ D : Addr, cls = .ref D ∧ ExcD K D ∧ rIsH K D a d xs H Q
theorem isE (h : X.K = K) (hp : (a, oe) ∈ X.pn) (hz : Zc cls d oe) (hf : ∃ vs, oe.data = .fields vs) : CallR X (.builtin "isinstance") (rIsE K cls a d) := by
  intro pins s σ H xs us Q I r q
  obtain ⟨D, rfl, EC, q⟩ := q
  exact isH h EC ⟨hp, hz, hf⟩ pins s σ H xs us Q I r q
end
end My
namespace K14
open PySem PySem.Spec PyProof.Rows L2 Evl My TL
def topS (i : Nat) : Stmt := PySem.Challenge.pw_blocksearch_k14_walkers_walk.main.body.getD i (.Pass ⟨0, 0, 0, 0⟩)
abbrev N_is_whole : List Str := ["thing"]
theorem sc_is_whole : FnScope N_is_whole ["thing"] (defScope (topS 22)) := ⟨rfl, rfl, rfl, by decide +kernel, rfl, by decide +kernel, by decide +kernel⟩
abbrev N_is_within : List Str := ["thing", "least", "most"]
theorem sc_is_within : FnScope N_is_within ["thing", "least", "most"] (defScope (topS 23)) := ⟨rfl, rfl, rfl, by decide +kernel, rfl, by decide +kernel, by decide +kernel⟩
abbrev N_is_count : List Str := ["thing"]
theorem sc_is_count : FnScope N_is_count ["thing"] (defScope (topS 27)) := ⟨rfl, rfl, rfl, by decide +kernel, rfl, by decide +kernel, by decide +kernel⟩
abbrev N_code : List Str := ["number", "signs", "digit"]
theorem sc_code : FnScope N_code ["number"] (defScope (topS 28)) := ⟨rfl, rfl, rfl, by decide +kernel, rfl, by decide +kernel, by decide +kernel⟩
abbrev N_code_all : List Str := ["numbers", "at", "number"]
theorem sc_code_all : FnScope N_code_all ["numbers"] (defScope (topS 29)) := ⟨rfl, rfl, rfl, by decide +kernel, rfl, by decide +kernel, by decide +kernel⟩
abbrev N_code_entries : List Str := ["entries", "texts", "slot", "places"]
theorem sc_code_entries : FnScope N_code_entries ["entries"] (defScope (topS 30)) := ⟨rfl, rfl, rfl, by decide +kernel, rfl, by decide +kernel, by decide +kernel⟩
abbrev N_decode_entries : List Str := ["text", "many", "at", "slot_gaps", "entries", "slot", "further", "place_gaps"]
theorem sc_decode_entries : FnScope N_decode_entries ["text"] (defScope (topS 31)) := ⟨rfl, rfl, rfl, by decide +kernel, rfl, by decide +kernel, by decide +kernel⟩
abbrev N_check_entries : List Str := ["entries", "ahead", "at", "entry"]
theorem sc_check_entries : FnScope N_check_entries ["entries"] (defScope (topS 32)) := ⟨rfl, rfl, rfl, by decide +kernel, rfl, by decide +kernel, by decide +kernel⟩
abbrev N_is_entry : List Str := ["thing"]
theorem sc_is_entry : FnScope N_is_entry ["thing"] (defScope (topS 33)) := ⟨rfl, rfl, rfl, by decide +kernel, rfl, by decide +kernel, by decide +kernel⟩
abbrev N_are_places : List Str := ["thing"]
theorem sc_are_places : FnScope N_are_places ["thing"] (defScope (topS 34)) := ⟨rfl, rfl, rfl, by decide +kernel, rfl, by decide +kernel, by decide +kernel⟩
abbrev N_first_fall : List Str := ["things", "ahead", "at", "thing"]
theorem sc_first_fall : FnScope N_first_fall ["things"] (defScope (topS 35)) := ⟨rfl, rfl, rfl, by decide +kernel, rfl, by decide +kernel, by decide +kernel⟩
abbrev N_gaps_of : List Str := ["numbers", "gaps", "ahead", "number"]
theorem sc_gaps_of : FnScope N_gaps_of ["numbers"] (defScope (topS 36)) := ⟨rfl, rfl, rfl, by decide +kernel, rfl, by decide +kernel, by decide +kernel⟩
abbrev N_risen : List Str := ["gaps", "numbers", "ahead", "gap"]
theorem sc_risen : FnScope N_risen ["gaps"] (defScope (topS 37)) := ⟨rfl, rfl, rfl, by decide +kernel, rfl, by decide +kernel, by decide +kernel⟩
abbrev N_check_text : List Str := ["text"]
theorem sc_check_text : FnScope N_check_text ["text"] (defScope (topS 38)) := ⟨rfl, rfl, rfl, by decide +kernel, rfl, by decide +kernel, by decide +kernel⟩
abbrev N_read_number : List Str := ["text", "start", "number", "worth", "at", "last", "digit"]
theorem sc_read_number : FnScope N_read_number ["text", "start"] (defScope (topS 39)) := ⟨rfl, rfl, rfl, by decide +kernel, rfl, by decide +kernel, by decide +kernel⟩
abbrev N_read_numbers : List Str := ["text", "at", "many", "numbers", "number"]
theorem sc_read_numbers : FnScope N_read_numbers ["text", "at", "many"] (defScope (topS 40)) := ⟨rfl, rfl, rfl, by decide +kernel, rfl, by decide +kernel, by decide +kernel⟩
abbrev N_check_number : List Str := ["slot"]
theorem sc_check_number : FnScope N_check_number ["slot"] (defScope (topS 43)) := ⟨rfl, rfl, rfl, by decide +kernel, rfl, by decide +kernel, by decide +kernel⟩
abbrev N_is_word : List Str := ["thing", "sign"]
theorem sc_is_word : FnScope N_is_word ["thing"] (defScope (topS 47)) := ⟨rfl, rfl, rfl, by decide +kernel, rfl, by decide +kernel, by decide +kernel⟩
abbrev N_check_word : List Str := ["word"]
theorem sc_check_word : FnScope N_check_word ["word"] (defScope (topS 48)) := ⟨rfl, rfl, rfl, by decide +kernel, rfl, by decide +kernel, by decide +kernel⟩
abbrev N_check_lengths : List Str := ["lengths", "length"]
theorem sc_check_lengths : FnScope N_check_lengths ["lengths"] (defScope (topS 55)) := ⟨rfl, rfl, rfl, by decide +kernel, rfl, by decide +kernel, by decide +kernel⟩
abbrev N_check_size : List Str := ["size"]
theorem sc_check_size : FnScope N_check_size ["size"] (defScope (topS 56)) := ⟨rfl, rfl, rfl, by decide +kernel, rfl, by decide +kernel, by decide +kernel⟩
abbrev N_check_fit : List Str := ["entries", "lengths", "at", "slot", "places"]
theorem sc_check_fit : FnScope N_check_fit ["entries", "lengths"] (defScope (topS 57)) := ⟨rfl, rfl, rfl, by decide +kernel, rfl, by decide +kernel, by decide +kernel⟩
abbrev N_l_pool : List Str := ["_law_script", "_law_at", "_law_cell", "_law_far"]
theorem sc_l_pool : FnScope N_l_pool ["_law_script", "_law_at"] (defScope (topS 59)) := ⟨rfl, rfl, rfl, by decide +kernel, rfl, by decide +kernel, by decide +kernel⟩
abbrev N_l_take : List Str := ["_law_pool_here", "_law_many", "_law_digit", "_law_turn", "_law_one", "_law_other"]
theorem sc_l_take : FnScope N_l_take ["_law_pool_here", "_law_many"] (defScope (topS 60)) := ⟨rfl, rfl, rfl, by decide +kernel, rfl, by decide +kernel, by decide +kernel⟩
abbrev N_l_kinds : List Str := ["_law_pool_here", "_law_some", "_law_start"]
theorem sc_l_kinds : FnScope N_l_kinds ["_law_pool_here"] (defScope (topS 61)) := ⟨rfl, rfl, rfl, by decide +kernel, rfl, by decide +kernel, by decide +kernel⟩
abbrev N_l_row_entries : List Str := ["_law_pool_here", "_law_many", "_law_most", "_law_told", "_law_slot_here", "_law_k", "_law_spots", "_law_last", "_law_j"]
theorem sc_l_row_entries : FnScope N_l_row_entries ["_law_pool_here", "_law_many", "_law_most"] (defScope (topS 63)) := ⟨rfl, rfl, rfl, by decide +kernel, rfl, by decide +kernel, by decide +kernel⟩
abbrev N_l_lengths : List Str := ["_law_pool_here", "_law_entries", "_law_told", "_law_slot_here", "_law_need", "_law_spots", "_law_other"]
theorem sc_l_lengths : FnScope N_l_lengths ["_law_pool_here", "_law_entries"] (defScope (topS 64)) := ⟨rfl, rfl, rfl, by decide +kernel, rfl, by decide +kernel, by decide +kernel⟩
abbrev N_l_seek : List Str := ["_law_entries", "_law_at", "_law_slot_here"]
theorem sc_l_seek : FnScope N_l_seek ["_law_entries", "_law_at", "_law_slot_here"] (defScope (topS 65)) := ⟨rfl, rfl, rfl, by decide +kernel, rfl, by decide +kernel, by decide +kernel⟩
abbrev N_l_slot : List Str := ["_law_entries", "_law_at", "_law_entry"]
theorem sc_l_slot : FnScope N_l_slot ["_law_entries", "_law_at"] (defScope (topS 66)) := ⟨rfl, rfl, rfl, by decide +kernel, rfl, by decide +kernel, by decide +kernel⟩
abbrev N_l_kind : List Str := ["_law_e", "_law_names", "_law_some"]
theorem sc_l_kind : FnScope N_l_kind ["_law_e"] (defScope (topS 68)) := ⟨rfl, rfl, rfl, by decide +kernel, rfl, by decide +kernel, by decide +kernel⟩
abbrev N_l_how : List Str := ["_law_deed", "_law_e"]
theorem sc_l_how : FnScope N_l_how ["_law_deed"] (defScope (topS 69)) := ⟨rfl, rfl, rfl, by decide +kernel, rfl, by decide +kernel, by decide +kernel⟩
abbrev N_l_aim : List Str := ["_law_pool_here", "_law_entries"]
theorem sc_l_aim : FnScope N_l_aim ["_law_pool_here", "_law_entries"] (defScope (topS 70)) := ⟨rfl, rfl, rfl, by decide +kernel, rfl, by decide +kernel, by decide +kernel⟩
abbrev N_l_block_due : List Str := ["_law_row", "_law_entries", "_law_wide", "_law_at", "_law_slot_here", "_law_some", "_law_block"]
theorem sc_l_block_due : FnScope N_l_block_due ["_law_row", "_law_entries", "_law_wide", "_law_at", "_law_slot_here"] (defScope (topS 71)) := ⟨rfl, rfl, rfl, by decide +kernel, rfl, by decide +kernel, by decide +kernel⟩
abbrev N_l_rests_so : List Str := ["_law_walker", "_law_row", "_law_entries", "_law_wide", "_law_at", "_law_odd"]
theorem sc_l_rests_so : FnScope N_l_rests_so ["_law_walker", "_law_row", "_law_entries", "_law_wide", "_law_at"] (defScope (topS 72)) := ⟨rfl, rfl, rfl, by decide +kernel, rfl, by decide +kernel, by decide +kernel⟩
abbrev N_law : List Str := ["_law_script", "_law_k", "_law_pool_here", "_law_entries", "_law_wide", "_law_row", "_law_walker", "_law_at", "_law_turn", "_law_sort", "_law_aim_here", "_law_block"]
theorem sc_law : FnScope N_law ["_law_script"] (defScope (topS 73)) := ⟨rfl, rfl, rfl, by decide +kernel, rfl, by decide +kernel, by decide +kernel⟩
abbrev N_Block_init : List Str := ["self", "entries", "lengths", "slot", "places"]
theorem sc_Block_init : FnScope N_Block_init ["self", "entries", "lengths"] (defScope (inClass (topS 53) 0)) := ⟨rfl, rfl, rfl, by decide +kernel, rfl, by decide +kernel, by decide +kernel⟩
abbrev N_Block_eq : List Str := ["self", "other"]
theorem sc_Block_eq : FnScope N_Block_eq ["self", "other"] (defScope (inClass (topS 53) 1)) := ⟨rfl, rfl, rfl, by decide +kernel, rfl, by decide +kernel, by decide +kernel⟩
abbrev N_Block_head : List Str := ["self"]
theorem sc_Block_head : FnScope N_Block_head ["self"] (defScope (inClass (topS 53) 3)) := ⟨rfl, rfl, rfl, by decide +kernel, rfl, by decide +kernel, by decide +kernel⟩
abbrev N_Row_init : List Str := ["self", "word", "entries", "lengths", "size", "at"]
theorem sc_Row_init : FnScope N_Row_init ["self", "word", "entries", "lengths", "size"] (defScope (inClass (topS 54) 0)) := ⟨rfl, rfl, rfl, by decide +kernel, rfl, by decide +kernel, by decide +kernel⟩
abbrev N_Row_blocks : List Str := ["self"]
theorem sc_Row_blocks : FnScope N_Row_blocks ["self"] (defScope (inClass (topS 54) 3)) := ⟨rfl, rfl, rfl, by decide +kernel, rfl, by decide +kernel, by decide +kernel⟩
abbrev N_Walker_init : List Str := ["self", "row"]
theorem sc_Walker_init : FnScope N_Walker_init ["self", "row"] (defScope (inClass (topS 42) 0)) := ⟨rfl, rfl, rfl, by decide +kernel, rfl, by decide +kernel, by decide +kernel⟩
abbrev N_Walker_slot : List Str := ["self"]
theorem sc_Walker_slot : FnScope N_Walker_slot ["self"] (defScope (inClass (topS 42) 1)) := ⟨rfl, rfl, rfl, by decide +kernel, rfl, by decide +kernel, by decide +kernel⟩
abbrev N_Walker_step : List Str := ["self", "at", "entry", "inside"]
theorem sc_Walker_step : FnScope N_Walker_step ["self"] (defScope (inClass (topS 42) 2)) := ⟨rfl, rfl, rfl, by decide +kernel, rfl, by decide +kernel, by decide +kernel⟩
abbrev N_Walker_seek : List Str := ["self", "slot"]
theorem sc_Walker_seek : FnScope N_Walker_seek ["self", "slot"] (defScope (inClass (topS 42) 3)) := ⟨rfl, rfl, rfl, by decide +kernel, rfl, by decide +kernel, by decide +kernel⟩
abbrev N_Walker_places : List Str := ["self", "at", "entry"]
theorem sc_Walker_places : FnScope N_Walker_places ["self"] (defScope (inClass (topS 42) 4)) := ⟨rfl, rfl, rfl, by decide +kernel, rfl, by decide +kernel, by decide +kernel⟩
abbrev N_Walker_block : List Str := ["self"]
theorem sc_Walker_block : FnScope N_Walker_block ["self"] (defScope (inClass (topS 42) 5)) := ⟨rfl, rfl, rfl, by decide +kernel, rfl, by decide +kernel, by decide +kernel⟩
abbrev N_Walker_block_at : List Str := ["self", "slot"]
theorem sc_Walker_block_at : FnScope N_Walker_block_at ["self", "slot"] (defScope (inClass (topS 42) 6)) := ⟨rfl, rfl, rfl, by decide +kernel, rfl, by decide +kernel, by decide +kernel⟩
abbrev N_Walker_head_at : List Str := ["self", "at"]
theorem sc_Walker_head_at : FnScope N_Walker_head_at ["self", "at"] (defScope (inClass (topS 42) 9)) := ⟨rfl, rfl, rfl, by decide +kernel, rfl, by decide +kernel, by decide +kernel⟩
abbrev N_Walker_entries_in : List Str := ["self", "at"]
theorem sc_Walker_entries_in : FnScope N_Walker_entries_in ["self", "at"] (defScope (inClass (topS 42) 10)) := ⟨rfl, rfl, rfl, by decide +kernel, rfl, by decide +kernel, by decide +kernel⟩
abbrev N_Walker_slot_at : List Str := ["self", "standing", "at", "entry"]
theorem sc_Walker_slot_at : FnScope N_Walker_slot_at ["self", "standing"] (defScope (inClass (topS 42) 11)) := ⟨rfl, rfl, rfl, by decide +kernel, rfl, by decide +kernel, by decide +kernel⟩
abbrev N_Walker_reaching : List Str := ["self", "slot", "at"]
theorem sc_Walker_reaching : FnScope N_Walker_reaching ["self", "slot", "at"] (defScope (inClass (topS 42) 12)) := ⟨rfl, rfl, rfl, by decide +kernel, rfl, by decide +kernel, by decide +kernel⟩
abbrev N_Walker_sought : List Str := ["self", "slot", "standing", "here", "at", "one", "places"]
theorem sc_Walker_sought : FnScope N_Walker_sought ["self", "slot", "standing"] (defScope (inClass (topS 42) 13)) := ⟨rfl, rfl, rfl, by decide +kernel, rfl, by decide +kernel, by decide +kernel⟩
def howC (A : Nat → Addr) : HowC := ⟨[A 10, A 12, A 14, A 13, A 11], A 2, [A 19, A 20], [A 10, A 17, A 12, A 7, A 9, A 5, A 14, A 15, A 8, A 13, A 11, A 16, A 6, A 4, A 3, A 18]⟩
/-- what the top has left: A the defs' places, FD their data, TK the constants' tokens -/
structure TX (K : PySem.W.Frag) (mg : Str → Option Value) (A : Nat → Addr) (FD : Nat → FuncData) (TK : Nat → Tok) (CC : Nat → Addr) : Prop where
  f_is_whole : Fun K "is_whole" "is_whole" (topS 22) (A 22) (FD 22)
  b_is_whole : Binds K (FD 22) ["thing"] []
  g_is_whole : mg "is_whole" = some (.ref (A 22))
  f_is_within : Fun K "is_within" "is_within" (topS 23) (A 23) (FD 23)
  b_is_within : Binds K (FD 23) ["thing", "least", "most"] []
  g_is_within : mg "is_within" = some (.ref (A 23))
  f_is_count : Fun K "is_count" "is_count" (topS 27) (A 27) (FD 27)
  b_is_count : Binds K (FD 27) ["thing"] []
  g_is_count : mg "is_count" = some (.ref (A 27))
  f_code : Fun K "code" "code" (topS 28) (A 28) (FD 28)
  b_code : Binds K (FD 28) ["number"] []
  g_code : mg "code" = some (.ref (A 28))
  f_code_all : Fun K "code_all" "code_all" (topS 29) (A 29) (FD 29)
  b_code_all : Binds K (FD 29) ["numbers"] []
  g_code_all : mg "code_all" = some (.ref (A 29))
  f_code_entries : Fun K "code_entries" "code_entries" (topS 30) (A 30) (FD 30)
  b_code_entries : Binds K (FD 30) ["entries"] []
  g_code_entries : mg "code_entries" = some (.ref (A 30))
  f_decode_entries : Fun K "decode_entries" "decode_entries" (topS 31) (A 31) (FD 31)
  b_decode_entries : Binds K (FD 31) ["text"] []
  g_decode_entries : mg "decode_entries" = some (.ref (A 31))
  f_check_entries : Fun K "check_entries" "check_entries" (topS 32) (A 32) (FD 32)
  b_check_entries : Binds K (FD 32) ["entries"] []
  g_check_entries : mg "check_entries" = some (.ref (A 32))
  f_is_entry : Fun K "is_entry" "is_entry" (topS 33) (A 33) (FD 33)
  b_is_entry : Binds K (FD 33) ["thing"] []
  g_is_entry : mg "is_entry" = some (.ref (A 33))
  f_are_places : Fun K "are_places" "are_places" (topS 34) (A 34) (FD 34)
  b_are_places : Binds K (FD 34) ["thing"] []
  g_are_places : mg "are_places" = some (.ref (A 34))
  f_first_fall : Fun K "first_fall" "first_fall" (topS 35) (A 35) (FD 35)
  b_first_fall : Binds K (FD 35) ["things"] []
  g_first_fall : mg "first_fall" = some (.ref (A 35))
  f_gaps_of : Fun K "gaps_of" "gaps_of" (topS 36) (A 36) (FD 36)
  b_gaps_of : Binds K (FD 36) ["numbers"] []
  g_gaps_of : mg "gaps_of" = some (.ref (A 36))
  f_risen : Fun K "risen" "risen" (topS 37) (A 37) (FD 37)
  b_risen : Binds K (FD 37) ["gaps"] []
  g_risen : mg "risen" = some (.ref (A 37))
  f_check_text : Fun K "check_text" "check_text" (topS 38) (A 38) (FD 38)
  b_check_text : Binds K (FD 38) ["text"] []
  g_check_text : mg "check_text" = some (.ref (A 38))
  f_read_number : Fun K "read_number" "read_number" (topS 39) (A 39) (FD 39)
  b_read_number : Binds K (FD 39) ["text", "start"] []
  g_read_number : mg "read_number" = some (.ref (A 39))
  f_read_numbers : Fun K "read_numbers" "read_numbers" (topS 40) (A 40) (FD 40)
  b_read_numbers : Binds K (FD 40) ["text", "at", "many"] []
  g_read_numbers : mg "read_numbers" = some (.ref (A 40))
  f_check_number : Fun K "check_number" "check_number" (topS 43) (A 43) (FD 43)
  b_check_number : Binds K (FD 43) ["slot"] []
  g_check_number : mg "check_number" = some (.ref (A 43))
  f_is_word : Fun K "is_word" "is_word" (topS 47) (A 47) (FD 47)
  b_is_word : Binds K (FD 47) ["thing"] []
  g_is_word : mg "is_word" = some (.ref (A 47))
  f_check_word : Fun K "check_word" "check_word" (topS 48) (A 48) (FD 48)
  b_check_word : Binds K (FD 48) ["word"] []
  g_check_word : mg "check_word" = some (.ref (A 48))
  f_check_lengths : Fun K "check_lengths" "check_lengths" (topS 55) (A 55) (FD 55)
  b_check_lengths : Binds K (FD 55) ["lengths"] []
  g_check_lengths : mg "check_lengths" = some (.ref (A 55))
  f_check_size : Fun K "check_size" "check_size" (topS 56) (A 56) (FD 56)
  b_check_size : Binds K (FD 56) ["size"] []
  g_check_size : mg "check_size" = some (.ref (A 56))
  f_check_fit : Fun K "check_fit" "check_fit" (topS 57) (A 57) (FD 57)
  b_check_fit : Binds K (FD 57) ["entries", "lengths"] []
  g_check_fit : mg "check_fit" = some (.ref (A 57))
  f_l_pool : Fun K "_law_pool" "_law_pool" (topS 59) (A 59) (FD 59)
  b_l_pool : Binds K (FD 59) ["_law_script", "_law_at"] []
  g_l_pool : mg "_law_pool" = some (.ref (A 59))
  f_l_take : Fun K "_law_take" "_law_take" (topS 60) (A 60) (FD 60)
  b_l_take : Binds K (FD 60) ["_law_pool_here", "_law_many"] []
  g_l_take : mg "_law_take" = some (.ref (A 60))
  f_l_kinds : Fun K "_law_kinds" "_law_kinds" (topS 61) (A 61) (FD 61)
  b_l_kinds : Binds K (FD 61) ["_law_pool_here"] []
  g_l_kinds : mg "_law_kinds" = some (.ref (A 61))
  f_l_row_entries : Fun K "_law_row_entries" "_law_row_entries" (topS 63) (A 63) (FD 63)
  b_l_row_entries : Binds K (FD 63) ["_law_pool_here", "_law_many", "_law_most"] []
  g_l_row_entries : mg "_law_row_entries" = some (.ref (A 63))
  f_l_lengths : Fun K "_law_lengths" "_law_lengths" (topS 64) (A 64) (FD 64)
  b_l_lengths : Binds K (FD 64) ["_law_pool_here", "_law_entries"] []
  g_l_lengths : mg "_law_lengths" = some (.ref (A 64))
  f_l_seek : Fun K "_law_seek" "_law_seek" (topS 65) (A 65) (FD 65)
  b_l_seek : Binds K (FD 65) ["_law_entries", "_law_at", "_law_slot_here"] []
  g_l_seek : mg "_law_seek" = some (.ref (A 65))
  f_l_slot : Fun K "_law_slot" "_law_slot" (topS 66) (A 66) (FD 66)
  b_l_slot : Binds K (FD 66) ["_law_entries", "_law_at"] []
  g_l_slot : mg "_law_slot" = some (.ref (A 66))
  f_l_kind : Fun K "_law_kind" "_law_kind" (topS 68) (A 68) (FD 68)
  b_l_kind : Binds K (FD 68) ["_law_e"] []
  g_l_kind : mg "_law_kind" = some (.ref (A 68))
  f_l_how : Fun K "_law_how" "_law_how" (topS 69) (A 69) (FD 69)
  b_l_how : Binds K (FD 69) ["_law_deed"] []
  g_l_how : mg "_law_how" = some (.ref (A 69))
  f_l_aim : Fun K "_law_aim" "_law_aim" (topS 70) (A 70) (FD 70)
  b_l_aim : Binds K (FD 70) ["_law_pool_here", "_law_entries"] []
  g_l_aim : mg "_law_aim" = some (.ref (A 70))
  f_l_block_due : Fun K "_law_block_due" "_law_block_due" (topS 71) (A 71) (FD 71)
  b_l_block_due : Binds K (FD 71) ["_law_row", "_law_entries", "_law_wide", "_law_at", "_law_slot_here"] []
  g_l_block_due : mg "_law_block_due" = some (.ref (A 71))
  F_l_rests_so : FunC K "_law_rests_so" "_law_rests_so" (topS 72) (A 72) (FD 72) (CC 72)
  f_l_rests_so : Fun K "_law_rests_so" "_law_rests_so" (topS 72) (A 72) (FD 72)
  b_l_rests_so : Binds K (FD 72) ["_law_walker", "_law_row", "_law_entries", "_law_wide", "_law_at"] []
  g_l_rests_so : mg "_law_rests_so" = some (.ref (A 72))
  f_law : Fun K "law" "law" (topS 73) (A 73) (FD 73)
  b_law : Binds K (FD 73) ["_law_script"] []
  g_law : mg "law" = some (.ref (A 73))
  m_IndexError : mg "IndexError" = none
  m_ValueError : mg "ValueError" = none
  m_abs : mg "abs" = none
  m_all : mg "all" = none
  m_bool : mg "bool" = none
  m_divmod : mg "divmod" = none
  m_enumerate : mg "enumerate" = none
  m_int : mg "int" = none
  m_isinstance : mg "isinstance" = none
  m_len : mg "len" = none
  m_list : mg "list" = none
  m_max : mg "max" = none
  m_min : mg "min" = none
  m_range : mg "range" = none
  m_str : mg "str" = none
  m_tuple : mg "tuple" = none
  c_DIGITS_AHEAD : mg "DIGITS_AHEAD" = some (.str "ABCDEFGHIJKLMNOP" (TK 25))
  c_LAST_DIGITS : mg "LAST_DIGITS" = some (.str "abcdefghijklmnop" (TK 26))
  c_MOST_LETTERS : mg "MOST_LETTERS" = some (.int 12 (TK 45))
  c_MOST_WORDS : mg "MOST_WORDS" = some (.int 120 (TK 46))
  c_SIZE : mg "SIZE" = some (.int 4 (TK 50))
  c_MOST_SIZE : mg "MOST_SIZE" = some (.int 8 (TK 51))
  c_MOST_LENGTHS : mg "MOST_LENGTHS" = some (.int 60 (TK 52))
  k_Wrong : mg "Wrong" = some (.ref (A 2))
  k_NoWord : mg "NoWord" = some (.ref (A 3))
  k_NoText : mg "NoText" = some (.ref (A 4))
  k_NoNumber : mg "NoNumber" = some (.ref (A 5))
  k_NoSize : mg "NoSize" = some (.ref (A 6))
  k_NoLengths : mg "NoLengths" = some (.ref (A 7))
  k_NoQuery : mg "NoQuery" = some (.ref (A 8))
  k_NoName : mg "NoName" = some (.ref (A 9))
  k_NoCode : mg "NoCode" = some (.ref (A 10))
  k_NoRow : mg "NoRow" = some (.ref (A 11))
  k_NoEntries : mg "NoEntries" = some (.ref (A 12))
  k_NoQueryText : mg "NoQueryText" = some (.ref (A 13))
  k_NoPages : mg "NoPages" = some (.ref (A 14))
  k_NoQueries : mg "NoQueries" = some (.ref (A 15))
  k_NoShelf : mg "NoShelf" = some (.ref (A 16))
  k_NoDeed : mg "NoDeed" = some (.ref (A 17))
  k_Taken : mg "Taken" = some (.ref (A 18))
  k_NoPlace : mg "NoPlace" = some (.ref (A 19))
  k_NoSlot : mg "NoSlot" = some (.ref (A 20))
  k_Walker : mg "Walker" = some (.ref (A 42))
  k_Block : mg "Block" = some (.ref (A 53))
  k_Row : mg "Row" = some (.ref (A 54))
  cl_Block : Cls K (A 53)
  n_Block_first : NoAttr K (A 53) "first"
  n_Block_last : NoAttr K (A 53) "last"
  n_Block_many : NoAttr K (A 53) "many"
  n_Block_most : NoAttr K (A 53) "most"
  n_Block_least : NoAttr K (A 53) "least"
  n_Block_coded : NoAttr K (A 53) "coded"
  cl_Row : Cls K (A 54)
  n_Row_word : NoAttr K (A 54) "word"
  n_Row_size : NoAttr K (A 54) "size"
  n_Row_cut : NoAttr K (A 54) "cut"
  cl_Walker : Cls K (A 42)
  n_Walker_heads : NoAttr K (A 42) "heads"
  n_Walker_decoded : NoAttr K (A 42) "decoded"
  n_Walker_standing : NoAttr K (A 42) "standing"
  f_Block_init : Fun K "__init__" "Block.__init__" (inClass (topS 53) 0) (A 74) (FD 74)
  b_Block_init : Binds K (FD 74) ["self", "entries", "lengths"] []
  M_Block : Mk K (A 53) (A 74)
  f_Block_eq : Fun K "__eq__" "Block.__eq__" (inClass (topS 53) 1) (A 75) (FD 75)
  b_Block_eq : Binds K (FD 75) ["self", "other"] []
  M_Block_eq : Meth K (A 53) "__eq__" (A 75)
  f_Block_head : Fun K "head" "Block.head" (inClass (topS 53) 3) (A 76) (FD 76)
  b_Block_head : Binds K (FD 76) ["self"] []
  M_Block_head : Meth K (A 53) "head" (A 76)
  f_Row_init : FunD K "__init__" "Row.__init__" (defArgs (inClass (topS 54) 0)) (defBody (inClass (topS 54) 0)) (defScope (inClass (topS 54) 0)) [] [("size", .int 4)] (A 77) (FD 77)
  M_Row : Mk K (A 54) (A 77)
  f_Row_blocks : Fun K "blocks" "Row.blocks" (inClass (topS 54) 3) (A 78) (FD 78)
  b_Row_blocks : Binds K (FD 78) ["self"] []
  M_Row_blocks : Meth K (A 54) "blocks" (A 78)
  f_Walker_init : Fun K "__init__" "Walker.__init__" (inClass (topS 42) 0) (A 79) (FD 79)
  b_Walker_init : Binds K (FD 79) ["self", "row"] []
  M_Walker : Mk K (A 42) (A 79)
  f_Walker_slot : Fun K "slot" "Walker.slot" (inClass (topS 42) 1) (A 80) (FD 80)
  b_Walker_slot : Binds K (FD 80) ["self"] []
  M_Walker_slot : Meth K (A 42) "slot" (A 80)
  f_Walker_step : Fun K "step" "Walker.step" (inClass (topS 42) 2) (A 81) (FD 81)
  b_Walker_step : Binds K (FD 81) ["self"] []
  M_Walker_step : Meth K (A 42) "step" (A 81)
  f_Walker_seek : Fun K "seek" "Walker.seek" (inClass (topS 42) 3) (A 82) (FD 82)
  b_Walker_seek : Binds K (FD 82) ["self", "slot"] []
  M_Walker_seek : Meth K (A 42) "seek" (A 82)
  f_Walker_places : Fun K "places" "Walker.places" (inClass (topS 42) 4) (A 83) (FD 83)
  b_Walker_places : Binds K (FD 83) ["self"] []
  M_Walker_places : Meth K (A 42) "places" (A 83)
  f_Walker_block : Fun K "block" "Walker.block" (inClass (topS 42) 5) (A 84) (FD 84)
  b_Walker_block : Binds K (FD 84) ["self"] []
  M_Walker_block : Meth K (A 42) "block" (A 84)
  f_Walker_block_at : Fun K "block_at" "Walker.block_at" (inClass (topS 42) 6) (A 85) (FD 85)
  b_Walker_block_at : Binds K (FD 85) ["self", "slot"] []
  M_Walker_block_at : Meth K (A 42) "block_at" (A 85)
  f_Walker_head_at : Fun K "head_at" "Walker.head_at" (inClass (topS 42) 9) (A 86) (FD 86)
  b_Walker_head_at : Binds K (FD 86) ["self", "at"] []
  M_Walker_head_at : Meth K (A 42) "head_at" (A 86)
  f_Walker_entries_in : Fun K "entries_in" "Walker.entries_in" (inClass (topS 42) 10) (A 87) (FD 87)
  b_Walker_entries_in : Binds K (FD 87) ["self", "at"] []
  M_Walker_entries_in : Meth K (A 42) "entries_in" (A 87)
  f_Walker_slot_at : Fun K "slot_at" "Walker.slot_at" (inClass (topS 42) 11) (A 88) (FD 88)
  b_Walker_slot_at : Binds K (FD 88) ["self", "standing"] []
  M_Walker_slot_at : Meth K (A 42) "slot_at" (A 88)
  f_Walker_reaching : Fun K "reaching" "Walker.reaching" (inClass (topS 42) 12) (A 89) (FD 89)
  b_Walker_reaching : Binds K (FD 89) ["self", "slot", "at"] []
  M_Walker_reaching : Meth K (A 42) "reaching" (A 89)
  f_Walker_sought : Fun K "sought" "Walker.sought" (inClass (topS 42) 13) (A 90) (FD 90)
  b_Walker_sought : Binds K (FD 90) ["self", "slot", "standing"] []
  M_Walker_sought : Meth K (A 42) "sought" (A 90)
  x_NoNumber : PySem.W.excIn K (A 5) [.type "ValueError", .type "Exception", .type "BaseException", .type "object"] "ValueError.__new__" = true
  kc_NoNumber : PySem.W.keepIn K (.ref (A 5)) = true
  br_NoNumber : PySem.W.subIn K (.ref (A 5)) (.type "BaseException") = some true
  ty_NoNumber : PySem.W.typeIn K (.ref (A 5)) = some (.type "type")
  h_NoNumber : Plain K (howC A) (A 5) 5
  x_NoPlace : PySem.W.excIn K (A 19) [.type "IndexError", .type "LookupError", .type "Exception", .type "BaseException", .type "object"] "IndexError.__new__" = true
  kc_NoPlace : PySem.W.keepIn K (.ref (A 19)) = true
  br_NoPlace : PySem.W.subIn K (.ref (A 19)) (.type "BaseException") = some true
  ty_NoPlace : PySem.W.typeIn K (.ref (A 19)) = some (.type "type")
  hp_NoPlace : PlaceC K (howC A) (A 19)
  cs : PySem.W.specialIn K (.builtin "object.__class__") "__get__" = some (some (.builtin "getset_descriptor.__get__"))
  ct : PySem.W.takesIn K (.builtin "object.__class__") = some true
  ciB : PySem.W.findIn K (.ref (A 53)) "__class__" = some (some (.builtin "object.__class__"))
  moB : PySem.W.mroIn K (A 53) (.type "object") = some true
  neB : PySem.W.findIn K (.ref (A 53)) "__ne__" = some (some (.builtin "object.__ne__"))
  kB : PySem.W.kitOne K (.ref (A 53)) (.ref (A 53)) = some true
section
variable {P : Program} {w : World} {K : PySem.W.Frag} {mg : Str → Option Value} {base : Heap} {A : Nat → Addr} {FD : Nat → FuncData} {TK : Nat → Tok} {CC : Nat → Addr}
def spTake : Sp := fun vs H Q _ => ∃ (p : Addr) (m : Int) (c : Nat), vs = [.ref p, .int m] ∧ Pl H p c ∧ 0 < m ∧ m < 1073741824 ∧ c < 1000000 ∧
  ∀ (d : Int) (H' : Hp), 0 ≤ d → d < m → Pl H' p (c + 1) → Fx p H H' → Q (.int d) H'
set_option maxHeartbeats 4000000 in
theorem ok_l_take (T : TX K mg A FD TK CC) : FnOk P w K mg base CX0 1 (A 60) (FD 60) ["_law_pool_here", "_law_many"] spTake := by
  refine T.f_l_take.ok sc_l_take (fun vs H Q E h => ?_) (fun cdv A' outer s H vs Q E hr h => ?_)
  · obtain ⟨p, m, c, rfl, _⟩ := h
    rfl
  · obtain ⟨p, m, c, rfl, ⟨g, b, k, hp, hg, hb, hb2, hk⟩, hm, hm2, hc, q⟩ := h
    refine ⟨_, (pss_cons (ps_if (pt_cmpR op_gt (pe_ix (ixLK (K := K) rfl) (pv 0) pe_int (fun _ _ => rfl)) pe_int (nomark _))
      (pss_cons (ps_set (i := 2) sc_l_take.nd rfl (.inl rfl) (pe_op op_mod (pe_ix (ixLK (K := K) rfl) (pv 0) pe_int (fun _ _ => rfl)) (pv 1)))
      (pss_cons (ps_asg (pe_op op_fdiv (pe_ix (ixLK (K := K) rfl) (pv 0) pe_int (fun _ _ => rfl)) (pv 1)) (pg_sub (pv 0) pe_int set_list))
      (pss_one (ps_ret (pv 2)))))
      pss_nil)
      (pss_cons (ps_asg (pe_op op_add (pe_ix (ixLK (K := K) rfl) (pv 0) pe_int (fun _ _ => rfl)) pe_int) (pg_sub (pv 0) pe_int set_list))
      (pss_cons (ps_set (i := 3) sc_l_take.nd rfl (.inl rfl) (pe_ix (ixLK (K := K) rfl) (pv 0) pe_int (fun _ _ => rfl)))
      (pss_cons (ps_set (i := 4) sc_l_take.nd rfl (.inl rfl) (pe_op op_mod (pe_op op_pow (pe_op op_add (pe_op op_add (pe_ix (ixLK (K := K) rfl) (pv 0) pe_int (fun _ _ => rfl)) (pe_op op_mul (pe_op op_mul pe_int (pv 3)) (pv 3))) pe_int) pe_int) pe_int))
      (pss_cons (ps_set (i := 5) sc_l_take.nd rfl (.inl rfl) (pe_op op_mod (pe_op op_add (pe_op op_pow (pv 4) pe_int) (pe_op op_mul pe_int (pv 3))) pe_int))
      (pss_one (ps_ret (pe_op op_mod (pe_op op_fdiv (pe_op op_add (pe_op op_mul (pv 4) pe_int) (pe_op op_mul (pv 5) (pv 5))) pe_int) (pv 1))))))))), ?_⟩
    refine ⟨.ref p, rfl, p, _, 0, .int g, rfl, rfl, SqL.of hp, atI_nat (j := 0) rfl, g, 0, rfl, rfl, _, rfl, ite2 (fun e => ?_) (fun e => ?_)⟩
    · refine ⟨.ref p, rfl, p, _, 0, .int g, rfl, rfl, SqL.of hp, atI_nat (j := 0) rfl, .int m, rfl, g, m, rfl, rfl, hm, ?_⟩
      refine ⟨.ref p, rfl, p, _, 0, .int g, rfl, rfl, SqL.of hp, atI_nat (j := 0) rfl, .int m, rfl, g, m, rfl, rfl, ⟨hm, hm2⟩, .ref p, rfl, p, _, 0, 0, rfl, rfl, hp, rfl, ?_⟩
      refine ⟨.int (g % m), rfl, ?_⟩
      exact q _ _ (Int.emod_nonneg _ (by omega)) (Int.emod_lt_of_pos _ hm) ⟨g / m, b, k, upd_same, Int.ediv_nonneg hg (by omega), hb, hb2, by omega⟩ Fx.upd
    · have hp1 : (upd H p (.lst [.int g, .int b, .int ((k : Int) + 1)])) p = some (.lst [.int g, .int b, .int ((k : Int) + 1)]) := upd_same
      refine ⟨.ref p, rfl, p, _, 2, .int k, rfl, rfl, SqL.of hp, atI_nat (j := 2) rfl, k, 1, rfl, rfl, .ref p, rfl, p, _, 2, 2, rfl, rfl, hp, rfl, ?_⟩
      refine ⟨.ref p, rfl, p, _, 2, .int ((k : Int) + 1), rfl, rfl, SqL.of hp1, atI_nat (j := 2) rfl, ?_⟩
      have t0 : (0 : Int) ≤ (k : Int) + 1 := by omega
      have t1 : (k : Int) + 1 ≤ 1000000 := by omega
      have s1 : 0 ≤ 69621 * ((k : Int) + 1) ∧ 69621 * ((k : Int) + 1) ≤ 69621000000 := by omega
      have s2 : 0 ≤ 69621 * ((k : Int) + 1) * ((k : Int) + 1) := mul_nn s1.1 t0
      have s3 : 69621 * ((k : Int) + 1) * ((k : Int) + 1) ≤ 69621000000 * 1000000 := mul_le s1.1 s1.2 t0 t1
      refine ⟨.ref p, rfl, p, _, 1, .int b, rfl, rfl, SqL.of hp1, atI_nat (j := 1) rfl, .int ((k : Int) + 1), rfl, 69621, (k : Int) + 1, rfl, rfl, .inl ⟨by decide, by decide⟩, .int ((k : Int) + 1), rfl, 69621 * ((k : Int) + 1), (k : Int) + 1, rfl, rfl, .inl ⟨by omega, by omega⟩,
        b, 69621 * ((k : Int) + 1) * ((k : Int) + 1), rfl, rfl, b + 69621 * ((k : Int) + 1) * ((k : Int) + 1), 3, rfl, rfl, b + 69621 * ((k : Int) + 1) * ((k : Int) + 1) + 3, 3, rfl, rfl, ⟨by decide, by decide, natAbs_lt (by omega) (by omega)⟩,
        _, 2147483629, rfl, rfl, (show (0 : Int) < 2147483629 by decide), ?_⟩
      have o0 : 0 ≤ (b + 69621 * ((k : Int) + 1) * ((k : Int) + 1) + 3) ^ Int.toNat 3 % 2147483629 := Int.emod_nonneg _ (by decide)
      have o1 : (b + 69621 * ((k : Int) + 1) * ((k : Int) + 1) + 3) ^ Int.toNat 3 % 2147483629 < 2147483629 := Int.emod_lt_of_pos _ (by decide)
      dsimp only
      generalize (b + 69621 * ((k : Int) + 1) * ((k : Int) + 1) + 3) ^ Int.toNat 3 % 2147483629 = one at o0 o1 ⊢
      refine ⟨.int one, rfl, one, 3, rfl, rfl, ⟨by decide, by decide, natAbs_lt o0 (by omega)⟩, .int ((k : Int) + 1), rfl, 30011, (k : Int) + 1, rfl, rfl, .inl ⟨by decide, by decide⟩, _, _, rfl, rfl, _, 998244353, rfl, rfl, (show (0 : Int) < 998244353 by decide), ?_⟩
      have r0 : 0 ≤ (one ^ Int.toNat 3 + 30011 * ((k : Int) + 1)) % 998244353 := Int.emod_nonneg _ (by decide)
      have r1 : (one ^ Int.toNat 3 + 30011 * ((k : Int) + 1)) % 998244353 < 998244353 := Int.emod_lt_of_pos _ (by decide)
      dsimp only
      generalize (one ^ Int.toNat 3 + 30011 * ((k : Int) + 1)) % 998244353 = other at r0 r1 ⊢
      refine ⟨.int one, rfl, one, 998244353, rfl, rfl, .inl ⟨by omega, by omega⟩, .int other, rfl, .int other, rfl, other, other, rfl, rfl, .inl ⟨by omega, by omega⟩, _, _, rfl, rfl, _, 1013, rfl, rfl, (show (0 : Int) < 1013 ∧ (1013 : Int) < 1073741824 by decide), .int m, rfl, _, m, rfl, rfl, hm, ?_⟩
      exact q _ _ (Int.emod_nonneg _ (by omega)) (Int.emod_lt_of_pos _ hm) ⟨g, b, k + 1, upd_same, hg, hb, hb2, by omega⟩ Fx.upd
def spPool (K : PySem.W.Frag) : Sp := fun vs H Q _ => ∃ (a : Addr) (ns : List Int) (j : Nat), vs = [.ref a, .int (j : Int)] ∧ SqL K H a (ns.map V.int) ∧ ns.length ≤ 63 ∧ j ≤ 1000 ∧
  ∀ (p : Addr) (H' : Hp), H p = none → Ex H H' → Pl H' p 0 → Q (.ref p) H'
set_option maxHeartbeats 4000000 in
theorem ok_l_pool (T : TX K mg A FD TK CC) : FnOk P w K mg base CX0 1 (A 59) (FD 59) ["_law_script", "_law_at"] (spPool K) := by
  refine T.f_l_pool.ok sc_l_pool (fun vs H Q E h => ?_) (fun cdv A' outer s H vs Q E hr h => ?_)
  · obtain ⟨a, ns, j, rfl, _⟩ := h
    rfl
  · obtain ⟨a, ns, j, rfl, hS, hn, hj, q⟩ := h
    refine ⟨_, (pss_cons (ps_set (i := 2) sc_l_pool.nd rfl (.inl rfl) pe_int)
      (pss_cut (ps_if (pt_cmpR op_lt (pv 1) (pe_callB (lenK (K := K) rfl) (by rfl) T.m_len (by decide +kernel) (pa_cons (pv 0) pa_nil)) (nomark _))
      (pss_one (ps_set (i := 2) sc_l_pool.nd rfl (.inl rfl) (pe_ix (ixLK (K := K) rfl) (pv 0) (pv 1) (fun _ _ => rfl))))
      pss_nil)
      (pss_cons (ps_set (i := 3) sc_l_pool.nd rfl (.inl rfl) (pe_callB call_abs (by rfl) T.m_abs (by decide +kernel) (pa_cons (pv 2) pa_nil)))
      (pss_one (ps_ret (pe_lst (pa_cons (pe_op op_mul (pv 3) (pe_callTy call_int1 (by rfl) T.m_int (by decide +kernel) (pa_cons (pe_cmpR op_ge (pv 3) (pe_op op_pow pe_int pe_int) (nomark _)) pa_nil))) (pa_cons (pe_op op_add (pe_op op_add (pe_op op_mul (pe_op op_mod (pv 2) pe_int) pe_int) (pe_op op_mul pe_int (pv 1))) pe_int) (pa_cons pe_int pa_nil))))))))), ?_⟩
    refine ⟨fun σ' H' => H' = H ∧ ∃ z : Int, σ' = [some (.ref a), some (.int (j : Int)), some (.int z), none], ?_, ?_⟩
    · refine ⟨.int (j : Int), rfl, .ref a, rfl, a, _, rfl, .inl hS, _, _, rfl, rfl, _, rfl, ite2 (fun e => ?_) (fun e => ?_)⟩
      · have e0 : (j : Int) < ((ns.map V.int).length : Int) := of_decide_eq_true e
        have e1 : j < ns.length := by
          rw [List.length_map] at e0
          omega
        refine ⟨.ref a, rfl, .int (j : Int), rfl, a, _, _, .int ns[j], rfl, rfl, hS, atI_nat (j := j) ?_, rfl, ns[j], rfl⟩
        rw [List.getElem?_map, List.getElem?_eq_getElem e1]
        rfl
      · exact ⟨rfl, 0, rfl⟩
    · rintro σ' H' ⟨rfl, z, rfl⟩
      refine ⟨.int z, rfl, z, rfl, ?_⟩
      have f0 : 0 ≤ (if z < 0 then -z else z) := by split <;> omega
      generalize (if z < 0 then -z else z) = far at f0 ⊢
      refine ⟨.int far, rfl, .int far, rfl, 10, 18, rfl, rfl, ⟨by decide, by decide, by decide⟩, far, _, rfl, rfl, .inr ⟨_, rfl, ?_⟩⟩
      generalize hd : decide ((10 : Int) ^ Int.toNat 18 ≤ far) = big
      have m0 : 0 ≤ z % 2147483647 := Int.emod_nonneg _ (by decide)
      have m1 : z % 2147483647 < 2147483647 := Int.emod_lt_of_pos _ (by decide)
      refine ⟨far, _, rfl, rfl, .inr ⟨?_, ?_⟩, ?_⟩
      · cases big <;> decide
      · cases big <;> decide
      refine ⟨.int z, rfl, z, 2147483647, rfl, rfl, (show (0 : Int) < 2147483647 by decide), ?_⟩
      dsimp only
      generalize z % 2147483647 = y at m0 m1 ⊢
      refine ⟨y, 48271, rfl, rfl, .inl ⟨by omega, by omega⟩, .int (j : Int), rfl, 7919, (j : Int), rfl, rfl, .inl ⟨by decide, by decide⟩, _, _, rfl, rfl, _, 31, rfl, rfl, (by show 3 ≤ sizeLine; decide), fun p np => ?_⟩
      refine q p _ np (ex_upd np) ⟨_, _, 0, upd_same, ?_, ?_, ?_, Nat.le_refl _⟩
      · cases big
        · show (0 : Int) ≤ far * 0
          omega
        · show (0 : Int) ≤ far * 1
          omega
      · omega
      · omega
theorem pool_ne {H : Hp} {p a : Addr} {c : Nat} (h : Pl H p c) (n : H a = none) : a ≠ p := by
  obtain ⟨xs, hx⟩ := h.some
  exact (ne_of_none hx n).symm
theorem pl_upd {H : Hp} {p a : Addr} {c : Nat} {o : HO} (h : Pl H p c) (n : a ≠ p) : Pl (upd H a o) p c := by
  obtain ⟨g, b, k, x1, x2⟩ := h
  exact ⟨g, b, k, by rw [upd_ne n.symm]; exact x1, x2⟩
/-- what _law_kind asks of a class -/
structure KindC (K : PySem.W.Frag) (hc : HowC) (C : Addr) (i : Nat) : Prop where
  ec : ExcD K C
  k : (hc.all.map fun D => PySem.W.kitOne K (.ref C) (.ref D)) = (List.range hc.all.length).map fun j => some (decide (j = i))
  kv : PySem.W.kitOne K (.ref C) (.type "ValueError") = some true
  k2 : PySem.W.kitAny K (.ref C) (hc.two.map Value.ref) = some false
theorem KindC.at {K : PySem.W.Frag} {hc : HowC} {C : Addr} {i j : Nat} {D : Addr} (h : KindC K hc C i) (hj : hc.all[j]? = some D) : PySem.W.kitOne K (.ref C) (.ref D) = some (decide (j = i)) := by
  have e := congrArg (fun l => l[j]?) h.k
  have hl : j < hc.all.length := (List.getElem?_eq_some_iff.mp hj).1
  simp only [List.getElem?_map, hj, List.getElem?_range hl, Option.map_some] at e
  exact Option.some.inj e
theorem five_kind {K : PySem.W.Frag} {hc : HowC} {C : Addr} {i : Nat} (h : FiveC K hc C i) : KindC K hc C i := ⟨h.ec, h.k, h.kv, h.k2⟩
theorem plain_kind {K : PySem.W.Frag} {hc : HowC} {C : Addr} {i : Nat} (h : Plain K hc C i) : KindC K hc C i := ⟨h.ec, h.k, h.kv, h.k2⟩
def spKind (K : PySem.W.Frag) (A : Nat → Addr) : Addr → Value → Option Addr → Sp := fun a cls d vs H Q _ => ∃ (C : Addr) (i : Nat) (nm : Str), vs = [.ref a] ∧ cls = .ref C ∧ KindC K (howC A) C i ∧ kindNames[i]? = some nm ∧ DictOk d H ∧ RetV (.str nm) H Q
theorem no_if {b : Bool} {X Y : Prop} (h : b = false) (y : Y) : if b = true then X else Y := by
  rw [h]
  exact y
set_option maxHeartbeats 16000000 in
theorem ok_l_kind (T : TX K mg A FD TK CC) : FnP P w K mg base CX0 1 (A 68) (FD 68) ["_law_e"] (spKind K A) := by
  refine fnP_of (k := 0) T.f_l_kind sc_l_kind (fun a cls d vs H Q E h => ?_) (fun cdv A' outer s H vs Q E p cls d hr hz hfl h => ?_)
  · obtain ⟨C, i, nm, rfl, _⟩ := h
    rfl
  · obtain ⟨C, i, nm, rfl, rfl, hp, hn, hd, q⟩ := h
    have EC := hp.ec
    have HH : Held (L2H.cxH CX0 P w K mg base N_l_kind "_law_kind" (defScope (topS 68)) (A 68) cdv A' outer s H E p) p.1 C d p.2 := ⟨List.mem_singleton.mpr rfl, hz, hfl⟩
    have hi : i < 16 := (List.getElem?_eq_some_iff.mp hn).1
    refine ⟨_, (pss_cons (ps_set (i := 1) sc_l_kind.nd rfl (.inl rfl) (pe_lst (pa_cons pe_str (pa_cons pe_str (pa_cons pe_str (pa_cons pe_str (pa_cons pe_str (pa_cons pe_str (pa_cons pe_str (pa_cons pe_str (pa_cons pe_str pa_nil)))))))))))
      (pss_cons (ps_set (i := 1) sc_l_kind.nd rfl (.inl rfl) (pe_op op_cat (pv 1) (pe_lst (pa_cons pe_str (pa_cons pe_str (pa_cons pe_str (pa_cons pe_str (pa_cons pe_str (pa_cons pe_str (pa_cons pe_str pa_nil))))))))))
      (pss_cons (ps_set (i := 2) sc_l_kind.nd rfl (.inl rfl) (pe_lst (pa_cons (pe_callB (isH (K := K) rfl EC HH) (by rfl) T.m_isinstance (by decide +kernel) (pa_cons (pv 0) (pa_cons (pe_glob (v := .ref (A 10)) (by rfl) T.k_NoCode rfl) pa_nil))) (pa_cons (pe_callB (isH (K := K) rfl EC HH) (by rfl) T.m_isinstance (by decide +kernel) (pa_cons (pv 0) (pa_cons (pe_glob (v := .ref (A 17)) (by rfl) T.k_NoDeed rfl) pa_nil))) (pa_cons (pe_callB (isH (K := K) rfl EC HH) (by rfl) T.m_isinstance (by decide +kernel) (pa_cons (pv 0) (pa_cons (pe_glob (v := .ref (A 12)) (by rfl) T.k_NoEntries rfl) pa_nil))) (pa_cons (pe_callB (isH (K := K) rfl EC HH) (by rfl) T.m_isinstance (by decide +kernel) (pa_cons (pv 0) (pa_cons (pe_glob (v := .ref (A 7)) (by rfl) T.k_NoLengths rfl) pa_nil))) pa_nil))))))
      (pss_cons (ps_set (i := 2) sc_l_kind.nd rfl (.inl rfl) (pe_op op_cat (pv 2) (pe_lst (pa_cons (pe_callB (isH (K := K) rfl EC HH) (by rfl) T.m_isinstance (by decide +kernel) (pa_cons (pv 0) (pa_cons (pe_glob (v := .ref (A 9)) (by rfl) T.k_NoName rfl) pa_nil))) (pa_cons (pe_callB (isH (K := K) rfl EC HH) (by rfl) T.m_isinstance (by decide +kernel) (pa_cons (pv 0) (pa_cons (pe_glob (v := .ref (A 5)) (by rfl) T.k_NoNumber rfl) pa_nil))) (pa_cons (pe_callB (isH (K := K) rfl EC HH) (by rfl) T.m_isinstance (by decide +kernel) (pa_cons (pv 0) (pa_cons (pe_glob (v := .ref (A 14)) (by rfl) T.k_NoPages rfl) pa_nil))) (pa_cons (pe_callB (isH (K := K) rfl EC HH) (by rfl) T.m_isinstance (by decide +kernel) (pa_cons (pv 0) (pa_cons (pe_glob (v := .ref (A 15)) (by rfl) T.k_NoQueries rfl) pa_nil))) pa_nil)))))))
      (pss_cons (ps_set (i := 2) sc_l_kind.nd rfl (.inl rfl) (pe_op op_cat (pv 2) (pe_lst (pa_cons (pe_callB (isH (K := K) rfl EC HH) (by rfl) T.m_isinstance (by decide +kernel) (pa_cons (pv 0) (pa_cons (pe_glob (v := .ref (A 8)) (by rfl) T.k_NoQuery rfl) pa_nil))) (pa_cons (pe_callB (isH (K := K) rfl EC HH) (by rfl) T.m_isinstance (by decide +kernel) (pa_cons (pv 0) (pa_cons (pe_glob (v := .ref (A 13)) (by rfl) T.k_NoQueryText rfl) pa_nil))) (pa_cons (pe_callB (isH (K := K) rfl EC HH) (by rfl) T.m_isinstance (by decide +kernel) (pa_cons (pv 0) (pa_cons (pe_glob (v := .ref (A 11)) (by rfl) T.k_NoRow rfl) pa_nil))) (pa_cons (pe_callB (isH (K := K) rfl EC HH) (by rfl) T.m_isinstance (by decide +kernel) (pa_cons (pv 0) (pa_cons (pe_glob (v := .ref (A 16)) (by rfl) T.k_NoShelf rfl) pa_nil))) pa_nil)))))))
      (pss_cons (ps_set (i := 2) sc_l_kind.nd rfl (.inl rfl) (pe_op op_cat (pv 2) (pe_lst (pa_cons (pe_callB (isH (K := K) rfl EC HH) (by rfl) T.m_isinstance (by decide +kernel) (pa_cons (pv 0) (pa_cons (pe_glob (v := .ref (A 6)) (by rfl) T.k_NoSize rfl) pa_nil))) (pa_cons (pe_callB (isH (K := K) rfl EC HH) (by rfl) T.m_isinstance (by decide +kernel) (pa_cons (pv 0) (pa_cons (pe_glob (v := .ref (A 4)) (by rfl) T.k_NoText rfl) pa_nil))) (pa_cons (pe_callB (isH (K := K) rfl EC HH) (by rfl) T.m_isinstance (by decide +kernel) (pa_cons (pv 0) (pa_cons (pe_glob (v := .ref (A 3)) (by rfl) T.k_NoWord rfl) pa_nil))) (pa_cons (pe_callB (isH (K := K) rfl EC HH) (by rfl) T.m_isinstance (by decide +kernel) (pa_cons (pv 0) (pa_cons (pe_glob (v := .ref (A 18)) (by rfl) T.k_Taken rfl) pa_nil))) pa_nil)))))))
      (pss_cons (ps_if (PW.pt (pw_or (pt_cmpR op_ne (pe_bm PySem.F.plainAttrs_list PySem.F.slot_list_count PySem.F.type_list_count (cntB (K := K) rfl) (pv 2) (pa_cons pe_bl pa_nil)) pe_int (nomark _)) (pw_or (pt_not (pt_val (pe_callB (isH (K := K) rfl EC HH) (by rfl) T.m_isinstance (by decide +kernel) (pa_cons (pv 0) (pa_cons (pe_bltn (v := .ty "ValueError") (by rfl) T.m_ValueError (by decide +kernel) rfl) pa_nil))))) (pw_or1 (pt_val (pe_callB (isHT (K := K) rfl EC HH) (by rfl) T.m_isinstance (by decide +kernel) (pa_cons (pv 0) (pa_cons (pe_tup (pa_cons (pe_glob (v := .ref (A 19)) (by rfl) T.k_NoPlace rfl) (pa_cons (pe_glob (v := .ref (A 20)) (by rfl) T.k_NoSlot rfl) pa_nil))) pa_nil))))))))
      (pss_one (ps_ret pe_str))
      pss_nil)
      (pss_one (ps_ret (pe_ix (ixLK (K := K) rfl) (pv 1) (pe_bm PySem.F.plainAttrs_list PySem.F.slot_list_index PySem.F.type_list_index (indexK (K := K) rfl) (pv 2) (pa_cons pe_bl pa_nil)) (fun _ _ => rfl))))))))))), ?_⟩
    refine ⟨by show 9 ≤ sizeLine; decide, fun l0 n0 => ?_⟩
    have e0 := Ex.new (o := .lst [V.str "code", .str "deed", .str "entries", .str "lengths", .str "name", .str "number", .str "pages", .str "queries", .str "query"]) n0
    refine ⟨.ref l0, rfl, by show 7 ≤ sizeLine; decide, fun l1 n1 => ?_⟩
    have e1 := e0.trans (Ex.new (o := .lst [V.str "text of query", .str "row", .str "shelf", .str "size", .str "text", .str "word", .str "taken"]) n1)
    refine ⟨l0, l1, _, _, rfl, rfl, Ex.new n1 _ _ upd_same, upd_same, by show 16 ≤ sizeLine; decide, fun l2 n2 => ?_⟩
    have e2 := e1.trans (Ex.new (o := .lst (kindNames.map V.str)) n2)
    have hN : (upd (upd (upd H l0 (.lst [V.str "code", .str "deed", .str "entries", .str "lengths", .str "name", .str "number", .str "pages", .str "queries", .str "query"])) l1 (.lst [V.str "text of query", .str "row", .str "shelf", .str "size", .str "text", .str "word", .str "taken"])) l2 (.lst (kindNames.map V.str))) l2 = some (.lst (kindNames.map V.str)) := upd_same
    show tSeq _ _ _ _ (upd (upd (upd H l0 (.lst [V.str "code", .str "deed", .str "entries", .str "lengths", .str "name", .str "number", .str "pages", .str "queries", .str "query"])) l1 (.lst [V.str "text of query", .str "row", .str "shelf", .str "size", .str "text", .str "word", .str "taken"])) l2 (.lst (kindNames.map V.str)))
    generalize (upd (upd (upd H l0 (.lst [V.str "code", .str "deed", .str "entries", .str "lengths", .str "name", .str "number", .str "pages", .str "queries", .str "query"])) l1 (.lst [V.str "text of query", .str "row", .str "shelf", .str "size", .str "text", .str "word", .str "taken"])) l2 (.lst (kindNames.map V.str))) = H2 at e2 hN ⊢
    have d2 := hd.ex e2
    refine ⟨.ref p.1, rfl, .ref (A 10), .ref (A 10), _, rfl, .own _, d2, hp.at (j := 0) rfl, .ref p.1, rfl, .ref (A 17), .ref (A 17), _, rfl, .own _, d2, hp.at (j := 1) rfl, .ref p.1, rfl, .ref (A 12), .ref (A 12), _, rfl, .own _, d2, hp.at (j := 2) rfl, .ref p.1, rfl, .ref (A 7), .ref (A 7), _, rfl, .own _, d2, hp.at (j := 3) rfl, by show 4 ≤ sizeLine; decide, fun m0 k0 => ?_⟩
    have x0 : Ex H2 _ := Ex.new (o := .lst [V.bl (decide (0 = i)), V.bl (decide (1 = i)), V.bl (decide (2 = i)), V.bl (decide (3 = i))]) k0
    have h0 : (upd H2 m0 (.lst [V.bl (decide (0 = i)), V.bl (decide (1 = i)), V.bl (decide (2 = i)), V.bl (decide (3 = i))])) m0 = some (.lst [V.bl (decide (0 = i)), V.bl (decide (1 = i)), V.bl (decide (2 = i)), V.bl (decide (3 = i))]) := upd_same
    generalize (upd H2 m0 (.lst [V.bl (decide (0 = i)), V.bl (decide (1 = i)), V.bl (decide (2 = i)), V.bl (decide (3 = i))])) = G0 at x0 h0 ⊢
    have c0 := d2.ex x0
    refine ⟨.ref m0, rfl, .ref p.1, rfl, .ref (A 9), .ref (A 9), _, rfl, .own _, c0, hp.at (j := 4) rfl, .ref p.1, rfl, .ref (A 5), .ref (A 5), _, rfl, .own _, c0, hp.at (j := 5) rfl, .ref p.1, rfl, .ref (A 14), .ref (A 14), _, rfl, .own _, c0, hp.at (j := 6) rfl, .ref p.1, rfl, .ref (A 15), .ref (A 15), _, rfl, .own _, c0, hp.at (j := 7) rfl, by show 4 ≤ sizeLine; decide, fun n1' j1 => ?_⟩
    have y1 : Ex G0 (upd G0 n1' (.lst [V.bl (decide (4 = i)), V.bl (decide (5 = i)), V.bl (decide (6 = i)), V.bl (decide (7 = i))])) := Ex.new j1
    refine ⟨m0, n1', _, _, rfl, rfl, y1 _ _ h0, upd_same, by show 8 ≤ sizeLine; decide, fun m1 k1 => ?_⟩
    have x1 : Ex G0 (upd (upd G0 n1' (.lst [V.bl (decide (4 = i)), V.bl (decide (5 = i)), V.bl (decide (6 = i)), V.bl (decide (7 = i))])) m1 (.lst ([V.bl (decide (0 = i)), V.bl (decide (1 = i)), V.bl (decide (2 = i)), V.bl (decide (3 = i))] ++ [V.bl (decide (4 = i)), V.bl (decide (5 = i)), V.bl (decide (6 = i)), V.bl (decide (7 = i))]))) := y1.trans (Ex.new k1)
    have h1 : (upd (upd G0 n1' (.lst [V.bl (decide (4 = i)), V.bl (decide (5 = i)), V.bl (decide (6 = i)), V.bl (decide (7 = i))])) m1 (.lst ([V.bl (decide (0 = i)), V.bl (decide (1 = i)), V.bl (decide (2 = i)), V.bl (decide (3 = i))] ++ [V.bl (decide (4 = i)), V.bl (decide (5 = i)), V.bl (decide (6 = i)), V.bl (decide (7 = i))]))) m1 = some (.lst ([V.bl (decide (0 = i)), V.bl (decide (1 = i)), V.bl (decide (2 = i)), V.bl (decide (3 = i))] ++ [V.bl (decide (4 = i)), V.bl (decide (5 = i)), V.bl (decide (6 = i)), V.bl (decide (7 = i))])) := upd_same
    generalize (upd (upd G0 n1' (.lst [V.bl (decide (4 = i)), V.bl (decide (5 = i)), V.bl (decide (6 = i)), V.bl (decide (7 = i))])) m1 (.lst ([V.bl (decide (0 = i)), V.bl (decide (1 = i)), V.bl (decide (2 = i)), V.bl (decide (3 = i))] ++ [V.bl (decide (4 = i)), V.bl (decide (5 = i)), V.bl (decide (6 = i)), V.bl (decide (7 = i))]))) = G1 at x1 h1 ⊢
    have c1 := c0.ex x1
    refine ⟨.ref m1, rfl, .ref p.1, rfl, .ref (A 8), .ref (A 8), _, rfl, .own _, c1, hp.at (j := 8) rfl, .ref p.1, rfl, .ref (A 13), .ref (A 13), _, rfl, .own _, c1, hp.at (j := 9) rfl, .ref p.1, rfl, .ref (A 11), .ref (A 11), _, rfl, .own _, c1, hp.at (j := 10) rfl, .ref p.1, rfl, .ref (A 16), .ref (A 16), _, rfl, .own _, c1, hp.at (j := 11) rfl, by show 4 ≤ sizeLine; decide, fun n2' j2 => ?_⟩
    have y2 : Ex G1 (upd G1 n2' (.lst [V.bl (decide (8 = i)), V.bl (decide (9 = i)), V.bl (decide (10 = i)), V.bl (decide (11 = i))])) := Ex.new j2
    refine ⟨m1, n2', _, _, rfl, rfl, y2 _ _ h1, upd_same, by show 12 ≤ sizeLine; decide, fun m2 k2 => ?_⟩
    have x2 : Ex G1 (upd (upd G1 n2' (.lst [V.bl (decide (8 = i)), V.bl (decide (9 = i)), V.bl (decide (10 = i)), V.bl (decide (11 = i))])) m2 (.lst (([V.bl (decide (0 = i)), V.bl (decide (1 = i)), V.bl (decide (2 = i)), V.bl (decide (3 = i))] ++ [V.bl (decide (4 = i)), V.bl (decide (5 = i)), V.bl (decide (6 = i)), V.bl (decide (7 = i))]) ++ [V.bl (decide (8 = i)), V.bl (decide (9 = i)), V.bl (decide (10 = i)), V.bl (decide (11 = i))]))) := y2.trans (Ex.new k2)
    have h2 : (upd (upd G1 n2' (.lst [V.bl (decide (8 = i)), V.bl (decide (9 = i)), V.bl (decide (10 = i)), V.bl (decide (11 = i))])) m2 (.lst (([V.bl (decide (0 = i)), V.bl (decide (1 = i)), V.bl (decide (2 = i)), V.bl (decide (3 = i))] ++ [V.bl (decide (4 = i)), V.bl (decide (5 = i)), V.bl (decide (6 = i)), V.bl (decide (7 = i))]) ++ [V.bl (decide (8 = i)), V.bl (decide (9 = i)), V.bl (decide (10 = i)), V.bl (decide (11 = i))]))) m2 = some (.lst (([V.bl (decide (0 = i)), V.bl (decide (1 = i)), V.bl (decide (2 = i)), V.bl (decide (3 = i))] ++ [V.bl (decide (4 = i)), V.bl (decide (5 = i)), V.bl (decide (6 = i)), V.bl (decide (7 = i))]) ++ [V.bl (decide (8 = i)), V.bl (decide (9 = i)), V.bl (decide (10 = i)), V.bl (decide (11 = i))])) := upd_same
    generalize (upd (upd G1 n2' (.lst [V.bl (decide (8 = i)), V.bl (decide (9 = i)), V.bl (decide (10 = i)), V.bl (decide (11 = i))])) m2 (.lst (([V.bl (decide (0 = i)), V.bl (decide (1 = i)), V.bl (decide (2 = i)), V.bl (decide (3 = i))] ++ [V.bl (decide (4 = i)), V.bl (decide (5 = i)), V.bl (decide (6 = i)), V.bl (decide (7 = i))]) ++ [V.bl (decide (8 = i)), V.bl (decide (9 = i)), V.bl (decide (10 = i)), V.bl (decide (11 = i))]))) = G2 at x2 h2 ⊢
    have c2 := c1.ex x2
    refine ⟨.ref m2, rfl, .ref p.1, rfl, .ref (A 6), .ref (A 6), _, rfl, .own _, c2, hp.at (j := 12) rfl, .ref p.1, rfl, .ref (A 4), .ref (A 4), _, rfl, .own _, c2, hp.at (j := 13) rfl, .ref p.1, rfl, .ref (A 3), .ref (A 3), _, rfl, .own _, c2, hp.at (j := 14) rfl, .ref p.1, rfl, .ref (A 18), .ref (A 18), _, rfl, .own _, c2, hp.at (j := 15) rfl, by show 4 ≤ sizeLine; decide, fun n3' j3 => ?_⟩
    have y3 : Ex G2 (upd G2 n3' (.lst [V.bl (decide (12 = i)), V.bl (decide (13 = i)), V.bl (decide (14 = i)), V.bl (decide (15 = i))])) := Ex.new j3
    refine ⟨m2, n3', _, _, rfl, rfl, y3 _ _ h2, upd_same, by show 16 ≤ sizeLine; decide, fun m3 k3 => ?_⟩
    have x3 : Ex G2 (upd (upd G2 n3' (.lst [V.bl (decide (12 = i)), V.bl (decide (13 = i)), V.bl (decide (14 = i)), V.bl (decide (15 = i))])) m3 (.lst ((([V.bl (decide (0 = i)), V.bl (decide (1 = i)), V.bl (decide (2 = i)), V.bl (decide (3 = i))] ++ [V.bl (decide (4 = i)), V.bl (decide (5 = i)), V.bl (decide (6 = i)), V.bl (decide (7 = i))]) ++ [V.bl (decide (8 = i)), V.bl (decide (9 = i)), V.bl (decide (10 = i)), V.bl (decide (11 = i))]) ++ [V.bl (decide (12 = i)), V.bl (decide (13 = i)), V.bl (decide (14 = i)), V.bl (decide (15 = i))]))) := y3.trans (Ex.new k3)
    have h3 : (upd (upd G2 n3' (.lst [V.bl (decide (12 = i)), V.bl (decide (13 = i)), V.bl (decide (14 = i)), V.bl (decide (15 = i))])) m3 (.lst ((([V.bl (decide (0 = i)), V.bl (decide (1 = i)), V.bl (decide (2 = i)), V.bl (decide (3 = i))] ++ [V.bl (decide (4 = i)), V.bl (decide (5 = i)), V.bl (decide (6 = i)), V.bl (decide (7 = i))]) ++ [V.bl (decide (8 = i)), V.bl (decide (9 = i)), V.bl (decide (10 = i)), V.bl (decide (11 = i))]) ++ [V.bl (decide (12 = i)), V.bl (decide (13 = i)), V.bl (decide (14 = i)), V.bl (decide (15 = i))]))) m3 = some (.lst ((([V.bl (decide (0 = i)), V.bl (decide (1 = i)), V.bl (decide (2 = i)), V.bl (decide (3 = i))] ++ [V.bl (decide (4 = i)), V.bl (decide (5 = i)), V.bl (decide (6 = i)), V.bl (decide (7 = i))]) ++ [V.bl (decide (8 = i)), V.bl (decide (9 = i)), V.bl (decide (10 = i)), V.bl (decide (11 = i))]) ++ [V.bl (decide (12 = i)), V.bl (decide (13 = i)), V.bl (decide (14 = i)), V.bl (decide (15 = i))])) := upd_same
    generalize (upd (upd G2 n3' (.lst [V.bl (decide (12 = i)), V.bl (decide (13 = i)), V.bl (decide (14 = i)), V.bl (decide (15 = i))])) m3 (.lst ((([V.bl (decide (0 = i)), V.bl (decide (1 = i)), V.bl (decide (2 = i)), V.bl (decide (3 = i))] ++ [V.bl (decide (4 = i)), V.bl (decide (5 = i)), V.bl (decide (6 = i)), V.bl (decide (7 = i))]) ++ [V.bl (decide (8 = i)), V.bl (decide (9 = i)), V.bl (decide (10 = i)), V.bl (decide (11 = i))]) ++ [V.bl (decide (12 = i)), V.bl (decide (13 = i)), V.bl (decide (14 = i)), V.bl (decide (15 = i))]))) = G3 at x3 h3 ⊢
    have c3 := c2.ex x3
    have xN : Ex H2 G3 := ((x0.trans x1).trans x2).trans x3
    have hm : G3 m3 = some (.lst ((hot16 i).map V.bl)) := h3
    refine ⟨.ref m3, rfl, .inl ⟨rfl, _, SqL.of hm⟩, m3, hot16 i, rfl, rfl, SqL.of hm, rfl, _, rfl, no_if (by rw [hot16_count i hi]; decide) ?_⟩
    refine ⟨.ref p.1, rfl, .ty "ValueError", .type "ValueError", true, rfl, .ty _, c3, hp.kv, true, rfl, ?_⟩
    refine ⟨.ref p.1, rfl, by show 2 ≤ sizeLine; decide, fun tp ntp => ?_⟩
    have xT : Ex G3 (upd G3 tp (.tup [.ref (A 19), .ref (A 20)])) := Ex.new ntp
    refine ⟨tp, _, _, false, rfl, upd_same, .cons (.own _) (.cons (.own _) .nil), c3.ex xT, hp.k2, false, rfl, ?_⟩
    refine ⟨.ref l2, rfl, .ref m3, rfl, .inl ⟨rfl, _, SqL.of (xT _ _ hm)⟩, m3, (hot16 i).map V.bl, .bl true, i, .bl true, rfl, rfl, SqL.of (xT _ _ hm), rfl, ?_, ?_, rfl, ?_, ?_⟩
    · rw [List.all_eq_true]
      intro x hx
      obtain ⟨b, _, rfl⟩ := List.mem_map.mp hx
      rfl
    · rw [List.getElem?_map, hot16_at i hi]
      rfl
    · intro m z hm' hz
      rw [List.getElem?_map, hot16_ahead i hi m hm'] at hz
      cases hz
      rfl
    · refine ⟨l2, _, i, .str nm, rfl, rfl, SqL.of ((xN.trans xT) _ _ hN), atI_nat ?_, q.go ((e2.trans xN).trans xT)⟩
      rw [List.getElem?_map, hn]
      rfl
/-- what the law's _law_how makes of a deed: its refusal's kind, with its place where it has one, or told -/
def TTHow (K : PySem.W.Frag) (A : Nat → Addr) : (XK → Hp → VK → Prop) → Hp → VK → Prop := fun tl H Q =>
  tl (fun cls d H' => ∃ C : Addr, cls = .ref C ∧ ((∃ (i : Nat) (nm : Str), kindNames[i]? = some nm ∧ ((Plain K (howC A) C i ∧ DictOk d H' ∧ RetV (.str nm) H' Q) ∨
    (FiveC K (howC A) C i ∧ ∃ (dd : Addr) (v : V), d = some dd ∧ H' dd = some (.xd [("at", v)]) ∧ (v = .non ∨ ∃ z : Int, v = .int z) ∧ ∀ (tp : Addr) (H'' : Hp), H' tp = none → Ex H' H'' → H'' tp = some (.tup [.str nm, v]) → Q (.ref tp) H''))) ∨
    (PlaceC K (howC A) C ∧ DictOk d H' ∧ RetV (.str "no place") H' Q))) H (fun _ H' => Q (.str "told") H')
set_option maxHeartbeats 16000000 in
theorem how_gives {X : Cx} (T : TX X.K X.mg A FD TK CC) {k : Nat} (hr : Room (k + 2) X.A) (cdg : Value) (qn : Str) :
    LamX.GivesTo X N_l_how "_law_how" (defScope (topS 69)) (A 69) cdg (defBody (topS 69)) "_law_deed" qn (TTHow X.K A) := by
  intro f c' s H Q tl act hc h
  have GK := ok_l_kind (P := X.prog) (w := X.w) (base := X.base) T
  have rm : ∀ a : Addr, L2H.RoomH 1 ((X.A.deeper (envOfC "_law_how" (defScope (topS 69)) s.heap.objs.size (A 69) cdg)).mark (some (.ref a))) := fun a =>
    let r := L2H.roomH_of ((hr.deeper (envOfC "_law_how" (defScope (topS 69)) s.heap.objs.size (A 69) cdg)).mono (show 1 ≤ k + 1 by omega))
    ⟨r.dp, r.un⟩
  refine ⟨_, pss_cons (ps_try_asMany (X := (cxOf C8.CX0 X.prog X.w X.K X.mg X.base N_l_how "_law_how" (defScope (topS 69)) (A 69) cdg X.A X.stack s H C8.E0).nox) (n := "_law_e") (i := 1)
      (tb := fun W D σ H => ∃ Ech : XK, (∀ cls d σ' H', Ech cls d H' → W cls d σ' H') ∧ σ[0]? = some (some (.ref f)) ∧ H c' = some (LamX.CodeO c' qn) ∧ tl Ech H (fun _ H' => D.nx σ H')) rfl rfl sc_l_how.nd rfl rfl takes0 (fun W pn xe tk _ => ?_)
      (HdsAs.cons (test_tup (.cons ⟨rfl, by decide, .inl T.k_NoCode⟩ (.cons ⟨rfl, by decide, .inl T.k_NoEntries⟩ (.cons ⟨rfl, by decide, .inl T.k_NoPages⟩ (.cons ⟨rfl, by decide, .inl T.k_NoQueryText⟩ (.cons ⟨rfl, by decide, .inl T.k_NoRow⟩ .nil))))) (by show 5 ≤ sizeLine; decide)) (ts := fun a cls d => tSeq (tIfS (tB (tCB (rIsi X.K) (tCons (XSup.tXfE X.K a cls d "at" (tVar 1)) (tCons (tC (.ty "bool")) tNil)))) (tRet (tC (.str "other"))) tNext) (tRet (tTup (tCons (tCallP (spKind X.K A) a cls d (tCons (tVar 1) tNil)) (tCons (XSup.tXfE X.K a cls d "at" (tVar 1)) tNil))))) (fun a oe cls d pn hz hf => pss_cons (ps_if (pt_val (pe_callB (isiK (K := X.K) rfl) (by rfl) T.m_isinstance (by decide +kernel) (pa_cons (XSup.pe_xfE (X := ((cxOf C8.CX0 X.prog X.w X.K X.mg X.base N_l_how "_law_how" (defScope (topS 69)) (A 69) cdg X.A X.stack s H C8.E0).nox)) (pn := pn) hz hf (pv 1)) (pa_cons (pe_bltn (v := .ty "bool") (by rfl) T.m_bool (by decide +kernel) rfl) pa_nil)))) (pss_one (ps_ret pe_str)) pss_nil)
        (pss_one (ps_ret (pe_tup (pa_cons (pe_callP (X := (((cxOf C8.CX0 X.prog X.w X.K X.mg X.base N_l_how "_law_how" (defScope (topS 69)) (A 69) cdg X.A X.stack s H C8.E0).nox)).suite a ((a, oe) :: pn)) (p := (a, oe)) GK (rm a) (List.mem_cons_self ..) hz hf (by rfl) T.g_l_kind T.f_l_kind.kp T.b_l_kind (pa_cons (pv 1) pa_nil)) (pa_cons (XSup.pe_xfE (X := ((cxOf C8.CX0 X.prog X.w X.K X.mg X.base N_l_how "_law_how" (defScope (topS 69)) (A 69) cdg X.A X.stack s H C8.E0).nox)) (pn := pn) hz hf (pv 1)) pa_nil))))))
      (HdsAs.cons (ts := fun a cls d => tRet (tCallP (spKind X.K A) a cls d (tCons (tVar 1) tNil))) (test_name ⟨rfl, by decide, .inl T.k_Wrong⟩) (fun a oe cls d pn hz hf => pss_one (ps_ret (pe_callP (X := ((cxOf C8.CX0 X.prog X.w X.K X.mg X.base N_l_how "_law_how" (defScope (topS 69)) (A 69) cdg X.A X.stack s H C8.E0).nox).suite a ((a, oe) :: pn)) (p := (a, oe)) GK (rm a) (List.mem_cons_self ..) hz hf (by rfl) T.g_l_kind T.f_l_kind.kp T.b_l_kind (pa_cons (pv 1) pa_nil))))
      (HdsAs.cons (test_tup (.cons ⟨rfl, by decide, .inl T.k_NoPlace⟩ (.cons ⟨rfl, by decide, .inl T.k_NoSlot⟩ .nil)) (by show 2 ≤ sizeLine; decide)) (ts := (fun a cls d => tSeq (tIfS (tOr (tNot (tB (tCB (rIsE X.K cls a d) (tCons (tVar 1) (tCons (tC (.ty "IndexError")) tNil))))) (tTest (tOp rEq (tCB (rIsE X.K cls a d) (tCons (tVar 1) (tCons (tC (.ref (A 19))) tNil))) (tCB (rIsE X.K cls a d) (tCons (tVar 1) (tCons (tC (.ref (A 20))) tNil)))))) (tRet (tC (.str "other"))) tNext) (tRet (tOp (rIxL X.K) (tLst (tCons (tC (.str "no slot")) (tCons (tC (.str "no place")) tNil))) (tCB (fun xs H Q => (∃ i, xs = [.int i] ∧ Q (.int i) H) ∨ ∃ k, xs = [.bl k] ∧ Q (.int (if k then 1 else 0)) H) (tCons (tCB (rIsE X.K cls a d) (tCons (tVar 1) (tCons (tC (.ref (A 19))) tNil))) tNil)))))) (fun a oe cls d pn hz hf => pss_cons (ps_if (PW.pt (pw_or (pt_not (pt_val (pe_callB (isE (X := (((cxOf C8.CX0 X.prog X.w X.K X.mg X.base N_l_how "_law_how" (defScope (topS 69)) (A 69) cdg X.A X.stack s H C8.E0).nox)).suite a ((a, oe) :: pn)) (K := X.K) rfl (List.mem_cons_self ..) hz hf) (by rfl) T.m_isinstance (by decide +kernel) (pa_cons (pv 1) (pa_cons (pe_bltn (v := .ty "IndexError") (by rfl) T.m_IndexError (by decide +kernel) rfl) pa_nil))))) (pw_or1 (pt_cmpR op_eq (pe_callB (isE (X := (((cxOf C8.CX0 X.prog X.w X.K X.mg X.base N_l_how "_law_how" (defScope (topS 69)) (A 69) cdg X.A X.stack s H C8.E0).nox)).suite a ((a, oe) :: pn)) (K := X.K) rfl (List.mem_cons_self ..) hz hf) (by rfl) T.m_isinstance (by decide +kernel) (pa_cons (pv 1) (pa_cons (pe_glob (v := .ref (A 19)) (by rfl) T.k_NoPlace rfl) pa_nil))) (pe_callB (isE (X := (((cxOf C8.CX0 X.prog X.w X.K X.mg X.base N_l_how "_law_how" (defScope (topS 69)) (A 69) cdg X.A X.stack s H C8.E0).nox)).suite a ((a, oe) :: pn)) (K := X.K) rfl (List.mem_cons_self ..) hz hf) (by rfl) T.m_isinstance (by decide +kernel) (pa_cons (pv 1) (pa_cons (pe_glob (v := .ref (A 20)) (by rfl) T.k_NoSlot rfl) pa_nil))) (nomark _))))) (pss_one (ps_ret pe_str)) pss_nil) (pss_one (ps_ret (pe_ix (ixLK (K := X.K) rfl) (pe_lst (pa_cons pe_str (pa_cons pe_str pa_nil))) (pe_callTy call_int1 (by rfl) T.m_int (by decide +kernel) (pa_cons (pe_callB (isE (X := (((cxOf C8.CX0 X.prog X.w X.K X.mg X.base N_l_how "_law_how" (defScope (topS 69)) (A 69) cdg X.A X.stack s H C8.E0).nox)).suite a ((a, oe) :: pn)) (K := X.K) rfl (List.mem_cons_self ..) hz hf) (by rfl) T.m_isinstance (by decide +kernel) (pa_cons (pv 1) (pa_cons (pe_glob (v := .ref (A 19)) (by rfl) T.k_NoPlace rfl) pa_nil))) pa_nil)) (fun _ _ => rfl))))) HdsAs.nil))))
    (pss_one (ps_ret pe_str)), ?_⟩
  · refine ⟨fun pins s' σ H' D I h' => ?_⟩
    obtain ⟨Ech, hW, h1, h2, h3⟩ := h'
    exact (pss_one (ps_expr (act W pn xe Ech _ _ tk hW))).run pins s' σ H' D I ⟨h1, h2, h3⟩
  · refine ⟨_, fun cls d σ' H' hE hl => ?_, rfl, hc, h⟩
    obtain ⟨C, rfl, hE⟩ := hE
    rcases hE with ⟨i, nm, hn, ⟨hp, hd, q⟩ | ⟨hp, dd, v, rfl, hx, hv, q⟩⟩ | ⟨hp, hd, q⟩
    · refine ⟨false, hp.e5, (fun z => Bool.noConfusion z), fun _ => ⟨true, hp.ew, fun _ a na => ?_, fun z => Bool.noConfusion z⟩⟩
      match σ', hl with
      | [x, y], _ => exact ⟨.ref a, rfl, C, i, nm, rfl, rfl, plain_kind hp, hn, hd, q⟩
    · refine ⟨true, hp.e5, fun _ a na => ?_, fun z => Bool.noConfusion z⟩
      have hd : DictOk (some dd) H' := fun d2 e2 => by
        cases e2
        exact ⟨_, hx⟩
      have ty : ∃ T2, TyX X.K H' v (.type T2) ∧ kitB T2 "bool" = some false := by
        rcases hv with rfl | ⟨z, rfl⟩
        · exact ⟨_, .base .non, by decide +kernel⟩
        · exact ⟨_, .base (.int z), by decide +kernel⟩
      obtain ⟨T2, hty, hkb⟩ := ty
      match σ', hl with
      | [x, y], _ =>
        refine ⟨.ref a, rfl, rfl, C, rfl, hp.xf, hp.no, dd, _, v, rfl, hx, rfl, v, .ty "bool", .type T2, .type "bool", false, rfl, .ty _, hty, kit_ty hkb, false, rfl, iteF ?_⟩
        refine ⟨.ref a, rfl, C, i, nm, rfl, rfl, five_kind hp, hn, hd, fun H2 e2 => ?_⟩
        refine ⟨.ref a, rfl, rfl, C, rfl, hp.xf, hp.no, dd, _, v, rfl, e2 _ _ hx, rfl, by show 2 ≤ sizeLine; decide, fun tp ntp => ?_⟩
        exact q tp _ (fresh_back e2 ntp) (e2.trans (Ex.new ntp)) upd_same
    · have k0 : PySem.W.kitOne X.K (.ref C) (.ref (A 19)) = some true := (List.cons.inj hp.k2).1
      have k1 : PySem.W.kitOne X.K (.ref C) (.ref (A 20)) = some false := (List.cons.inj (List.cons.inj hp.k2).2).1
      refine ⟨false, hp.e5, (fun z => Bool.noConfusion z), fun _ => ⟨false, hp.ew, (fun z => Bool.noConfusion z), fun _ => ⟨true, hp.e2, fun _ a na => ?_, fun z => Bool.noConfusion z⟩⟩⟩
      match σ', hl with
      | [x, y], _ =>
        refine ⟨.ref a, rfl, C, rfl, hp.ec, .ty "IndexError", .type "IndexError", true, rfl, .ty _, hd, hp.ki, true, rfl, iteF ?_⟩
        refine ⟨.ref a, rfl, C, rfl, hp.ec, .ref (A 19), .ref (A 19), true, rfl, .own _, hd, k0, .ref a, rfl, C, rfl, hp.ec, .ref (A 20), .ref (A 20), false, rfl, .own _, hd, k1, ?_⟩
        refine ⟨rfl, _, rfl, ite2 (fun h => absurd h (by decide)) (fun _ => ?_)⟩
        refine ⟨by show 2 ≤ sizeLine; decide, fun m nm => ?_⟩
        have e1 := Ex.new (o := .lst [V.str "no slot", .str "no place"]) nm
        exact ⟨.ref a, rfl, C, rfl, hp.ec, .ref (A 19), .ref (A 19), true, rfl, .own _, hd.ex e1, k0, .inr ⟨true, rfl, m, _, 1, _, rfl, rfl, SqL.of upd_same, atI_nat (j := 1) rfl, q _ e1⟩⟩
set_option maxHeartbeats 8000000 in
theorem pe_how {X : Cx} (T : TX X.K X.mg A FD TK CC) {c Pt : Addr} {k : Nat} {params : Arguments} {body : Expr} {scope : Scope} {t : XK → TE} {p lpos pos : Pos} {Tt : List (Addr × Str)} (TB : LamX.TabB X.base X.mg c Pt) (hcode : X.env.code = .ref c) (hmT : (Pt, X.env.qual ++ "<lambda>") ∈ Tt)
    (hu : ∀ q ∈ Tt, q.1 = Pt → q.2 = X.env.qual ++ "<lambda>") (hr : Room (k + 4) X.A) (L : LamX.LamS X.env.scope scope)
    (hbody : ∀ (A' : Around) (outer : List Env) (s : Shared) (H : Hp) (E : XK) (f c' : Addr), Room (k + 2) (A'.deeper (LamX.lamEnv X scope s.heap.objs.size f c')) → PE (LamX.lamCx X A' outer s H E scope f c') body (t E))
    (hg : Gl X "_law_how" := by rfl) (hdef : defaultsOf params X.env = ([], []) := by rfl)
    (hbind : ∀ (q : Str) (cl : List (Str × Addr)) (pm cv ctv : Value), bindArgs (PySem.W.kla_fn "<lambda>" q params body scope cl pm cv ctv) ⟨[], []⟩ = pure [] := by intros; rfl) :
    PE X (.Call (.Name "_law_how" p) [.Lambda params body scope lpos] [] pos) (LamX.tLam Tt (TTHow X.K A) t) := by
  have B := T.b_l_how
  obtain ⟨oc, od, kV, doc, pm, an, cdv, ct, osl, e, lk, hcd⟩ := T.f_l_how.ex
  rw [e] at B lk
  exact LamX.pe_lamcall (k := k + 2) hg T.g_l_how T.f_l_how.kp lk hcd B sc_l_how rfl (.inl rfl) (how_gives T (k := k) (hr.mono (show k + 2 ≤ k + 4 by omega)) cdv _) TB hcode hmT hu hr L hdef hbind hbody
/-- a word: one to twelve letters a to z -/
def isW (z : Str) : Bool := decide (1 ≤ z.cps.size) && decide (z.cps.size ≤ 12) && z.cps.toList.all fun c => decide (97 ≤ c) && decide (c ≤ 122)
/-- the things that are asked of -/
inductive Th (H : Hp) : V → Prop
  | str (z : Str) (h : z.length ≤ 100000) : Th H (.str z)
  | non : Th H .non
  | bl (b : Bool) : Th H (.bl b)
  | int (i : Int) : Th H (.int i)
  | lst {a : Addr} {xs : List V} (h : H a = some (.lst xs)) : Th H (.ref a)
  | tup {a : Addr} {xs : List V} (h : H a = some (.tup xs)) : Th H (.ref a)
theorem lt_one (a b : Nat) : decide (([a] : List Nat) < [b]) = decide (a < b) := by
  by_cases h : a < b
  · rw [decide_eq_true h]
    exact decide_eq_true (List.Lex.rel h)
  · rw [decide_eq_false h]
    refine decide_eq_false fun z => ?_
    cases z with
    | rel h' => exact h h'
    | cons h' => cases h'
theorem isW_len {z : Str} (h : isW z = true) : z.length ≤ 12 := by
  unfold isW at h
  rw [Bool.and_eq_true, Bool.and_eq_true, decide_eq_true_eq, decide_eq_true_eq] at h
  exact h.1.2
/-- a word: one to twelve letters a to z -/
def spWholeI : Sp := fun vs H Q _ => ∃ i : Int, vs = [.int i] ∧ RetV (.bl true) H Q
theorem ok_is_whole (T : TX K mg A FD TK CC) : FnOk P w K mg base CX0 1 (A 22) (FD 22) ["thing"] spWholeI := by
  refine T.f_is_whole.ok sc_is_whole (fun vs H Q E h => ?_) (fun cdv A' outer s H vs Q E hr h => ?_)
  · obtain ⟨i, rfl, _⟩ := h
    rfl
  · obtain ⟨i, rfl, q⟩ := h
    refine ⟨_, (pss_one (ps_ret (pe_and (pe_callB (isiK (K := K) rfl) (by rfl) T.m_isinstance (by decide +kernel) (pa_cons (pv 0) (pa_cons (pe_bltn (v := .ty "int") (by rfl) T.m_int (by decide +kernel) rfl) pa_nil))) (pe_one (pe_not (pe_callB (isiK (K := K) rfl) (by rfl) T.m_isinstance (by decide +kernel) (pa_cons (pv 0) (pa_cons (pe_bltn (v := .ty "bool") (by rfl) T.m_bool (by decide +kernel) rfl) pa_nil)))))))), ?_⟩
    refine ⟨.int i, rfl, .int i, .ty "int", .type "int", .type "int", true, rfl, .ty _, .base (.int i), kit_ty (by decide +kernel), true, rfl, iteT ?_⟩
    exact ⟨.int i, rfl, .int i, .ty "bool", .type "int", .type "bool", false, rfl, .ty _, .base (.int i), kit_ty (by decide +kernel), false, rfl, ret_v q⟩
def spWithinI : Sp := fun vs H Q _ => ∃ i lo hi : Int, vs = [.int i, .int lo, .int hi] ∧ RetV (.bl (decide (lo ≤ i) && decide (i ≤ hi))) H Q
theorem ok_is_within (T : TX K mg A FD TK CC) : FnOk P w K mg base CX0 2 (A 23) (FD 23) ["thing", "least", "most"] spWithinI := by
  have G_is_whole := ok_is_whole (P := P) (w := w) (base := base) T
  refine T.f_is_within.ok sc_is_within (fun vs H Q E h => ?_) (fun cdv A' outer s H vs Q E hr h => ?_)
  · obtain ⟨i, lo, hi, rfl, _⟩ := h
    rfl
  · obtain ⟨i, lo, hi, rfl, q⟩ := h
    refine ⟨_, (pss_one (ps_ret (pe_and (pe_call G_is_whole hr (by rfl) T.g_is_whole T.f_is_whole.kp T.b_is_whole .nil pass0 (pa_cons (pv 0) pa_nil)) (pe_one (pe_chain op_le op_le (pv 1) (pv 0) (pv 2)))))), ?_⟩
    refine ⟨.int i, rfl, i, rfl, fun H1 e1 => ⟨true, rfl, iteT ?_⟩⟩
    refine ⟨.int lo, rfl, .int i, rfl, lo, i, rfl, rfl, _, rfl, ite2 (fun c => ?_) (fun c => ?_)⟩
    · refine ⟨.int hi, rfl, i, hi, rfl, rfl, ?_⟩
      have z := q.go e1
      rw [c, Bool.true_and] at z
      exact z
    · have z := q.go e1
      rw [Bool.eq_false_iff.mpr c, Bool.false_and] at z
      exact z
def spWordS : Sp := fun vs H Q _ => ∃ z : Str, vs = [.str z] ∧ z.length ≤ 100000 ∧ RetV (.bl (isW z)) H Q
set_option maxHeartbeats 4000000 in
theorem ok_is_word (T : TX K mg A FD TK CC) : FnOk P w K mg base CX0 1 (A 47) (FD 47) ["thing"] spWordS := by
  refine T.f_is_word.ok sc_is_word (fun vs H Q E h => ?_) (fun cdv A' outer s H vs Q E hr h => ?_)
  · obtain ⟨z, rfl, _⟩ := h
    rfl
  · obtain ⟨z, rfl, hz, q⟩ := h
    refine ⟨_, (pss_cons (ps_if (PW.pt (pw_or (pt_not (pt_val (pe_callB (isiK (K := K) rfl) (by rfl) T.m_isinstance (by decide +kernel) (pa_cons (pv 0) (pa_cons (pe_bltn (v := .ty "str") (by rfl) T.m_str (by decide +kernel) rfl) pa_nil))))) (pw_or1 (pt_not (pt_chain op_le op_le pe_int (pe_callB call_len_str (by rfl) T.m_len (by decide +kernel) (pa_cons (pv 0) pa_nil)) (pe_glob (v := .int 12) (by rfl) T.c_MOST_LETTERS ⟨_, rfl⟩))))))
      (pss_one (ps_ret pe_bl))
      pss_nil)
      (pss_one (ps_ret (pe_callB (allK (K := K) rfl rfl) (by rfl) T.m_all (by decide +kernel) (pa_cons (pe_lc (own := [("sign", 1)])  rfl sc_is_word.nd (pi_str (pv 0)) (blkOk_by (own := [("sign", 1)]) (N := N_is_word) (sc := defScope (topS 47)) (by decide +kernel)) (fun _ _ _ _ _ => (pg_name (i := 1) sc_is_word.nd rfl (Or.inl rfl))) (fun _ _ _ _ _ => pts_nil) (fun _ _ _ _ _ => (pe_chain op_le_str op_le_str pe_str (pv 1) pe_str))) pa_nil))))), ?_⟩
    refine ⟨.str z, rfl, .str z, .ty "str", .type "str", .type "str", true, rfl, .ty _, .base (.str z), kit_ty (by decide +kernel), true, rfl, iteF ?_⟩
    have no : ¬ (decide ((1 : Int) ≤ (z.length : Int)) = true ∧ decide ((z.length : Int) ≤ 12) = true) → isW z = false := fun h => by
      unfold isW
      have e : z.length = z.cps.size := rfl
      by_cases h1 : 1 ≤ z.cps.size
      · by_cases h2 : z.cps.size ≤ 12
        · exact absurd ⟨decide_eq_true (by omega), decide_eq_true (by omega)⟩ h
        · rw [decide_eq_false h2, Bool.and_false, Bool.false_and]
      · rw [decide_eq_false h1, Bool.false_and, Bool.false_and]
    refine ⟨.str z, rfl, z, rfl, sz hz, 1, (z.length : Int), rfl, rfl, _, rfl, ite2 (fun c1 => ?_) (fun c1 => ?_)⟩
    · refine ⟨(z.length : Int), 12, rfl, rfl, _, rfl, ?_⟩
      by_cases c2 : (z.length : Int) ≤ 12
      · rw [decide_eq_true c2]
        refine iteF ?_
        have e : z.length = z.cps.size := rfl
        have c1' : (1 : Int) ≤ (z.length : Int) := of_decide_eq_true c1
        refine ⟨.str z, rfl, z, rfl, fun D hD => ?_⟩
        refine lc_it (walk_str (z := z)) (fun i H' => Ex H H' ∧ H' D = some (.lst ((z.cps.toList.take i).map fun c => .bl (decide (97 ≤ c) && decide (c ≤ 122))))) ⟨Ex.new hD, upd_same⟩ (fun _ _ _ _ => True.intro) (fun i x H1 H2 hi p y => ?_) (fun H1 p => ?_)
        · obtain ⟨p1, p2⟩ := p
          obtain ⟨rfl, c, hc, rfl⟩ := y
          have g : z.cps.toList[i]? = some c := by
            rw [Array.getElem?_toList]
            exact hc
          have stepE : (z.cps.toList.take (i + 1)).map (fun c => V.bl (decide (97 ≤ c) && decide (c ≤ 122))) = (z.cps.toList.take i).map (fun c => V.bl (decide (97 ≤ c) && decide (c ≤ 122))) ++ [V.bl (decide (97 ≤ c) && decide (c ≤ 122))] := by
            rw [List.take_add_one, g, List.map_append]
            rfl
          have lenE : ((z.cps.toList.take i).map (fun c => V.bl (decide (97 ≤ c) && decide (c ≤ 122)))).length < sizeLine := by
            rw [List.length_map, List.length_take]
            refine sz_lt ?_
            have : z.cps.toList.length = z.cps.size := by simp
            omega
          refine ⟨rfl, .str ⟨#[c]⟩, rfl, _, _, rfl, rfl, _, rfl, ?_⟩
          have e1 : (!decide (((⟨#[c]⟩ : Str).cps.toList) < (Str.ofString "a").cps.toList)) = decide (97 ≤ c) := by
            show (!decide ([c] < [97])) = _
            rw [lt_one]
            by_cases h : 97 ≤ c
            · rw [decide_eq_true h, decide_eq_false (by omega)]
              rfl
            · rw [decide_eq_false h, decide_eq_true (by omega)]
              rfl
          have e2 : (!decide ((Str.ofString "z").cps.toList < (⟨#[c]⟩ : Str).cps.toList)) = decide (c ≤ 122) := by
            show (!decide ([122] < [c])) = _
            rw [lt_one]
            by_cases h : c ≤ 122
            · rw [decide_eq_true h, decide_eq_false (by omega)]
              rfl
            · rw [decide_eq_false h, decide_eq_true (by omega)]
              rfl
          refine ite2 (fun b1 => ?_) (fun b1 => ?_)
          · refine ⟨_, _, rfl, rfl, _, p2, lenE, Ex.mut p1 hD, ?_⟩
            rw [upd_same, stepE, ← e1, ← e2, b1, Bool.true_and]
          · refine ⟨_, p2, lenE, Ex.mut p1 hD, ?_⟩
            rw [upd_same, stepE, ← e1, Bool.eq_false_iff.mpr b1, Bool.false_and]
        · obtain ⟨p1, p2⟩ := p
          refine ⟨D, (z.cps.toList.map fun c => (decide (97 ≤ c) && decide (c ≤ 122))), rfl, SqL.of ?_, ?_⟩
          · rw [p2, List.take_of_length_le (by simp), List.map_map]
            rfl
          · have v := q.go p1
            have ev : isW z = ((z.cps.toList.map fun c => (decide (97 ≤ c) && decide (c ≤ 122))).all id) := by
              unfold isW
              rw [decide_eq_true (by omega), decide_eq_true (by omega), List.all_map]
              rfl
            rw [ev] at v
            exact v
      · rw [decide_eq_false c2]
        refine iteT ?_
        have v := ret_v q
        rw [no (fun h => c2 (of_decide_eq_true h.2))] at v
        exact v
    · have v := ret_v q
      rw [no (fun h => c1 h.1)] at v
      exact ⟨false, rfl, v⟩
def nine : List Str := ["a", "b", "ab", "ba", "aa", "bab", "abcdefghijkl", "z", "aab"]
theorem nineW : (nine ++ nine).all isW = true := by decide +kernel
theorem nine_cut (j k : Nat) (hj : j < 9) (hk : k < 5) : ∃ zs : List Str, cutV (nine.map V.str ++ nine.map V.str) (some (j : Int)) (some ((j : Int) + 1 + (k : Int))) = zs.map V.str ∧ 1 ≤ zs.length ∧ zs.length ≤ 5 ∧ zs.all isW = true := by
  refine ⟨((nine ++ nine).drop j).take (1 + k), ?_, ?_, ?_, ?_⟩
  · unfold cutV
    rw [show ((j : Int) + 1 + (k : Int)) = ((j + 1 + k : Nat) : Int) by omega, HT.sIx_nat, HT.sIx_nat, ← List.map_append, List.length_map]
    rw [show (nine ++ nine).length = 18 from rfl, show min j 18 = j by omega, show min (j + 1 + k) 18 - j = 1 + k by omega, List.map_take, List.map_drop]
  · rw [List.length_take, List.length_drop, show (nine ++ nine).length = 18 from rfl]
    omega
  · rw [List.length_take, List.length_drop, show (nine ++ nine).length = 18 from rfl]
    omega
  · rw [List.all_eq_true]
    intro x hx
    exact List.all_eq_true.mp nineW x (List.mem_of_mem_drop (List.mem_of_mem_take hx))
/-- a list of one to five words at a -/
def Kn (H : Hp) (a : Addr) (zs : List Str) : Prop := H a = some (.lst (zs.map V.str)) ∧ 1 ≤ zs.length ∧ zs.length ≤ 5 ∧ zs.all isW = true
def spKinds : Sp := fun vs H Q _ => ∃ (p : Addr) (c : Nat), vs = [.ref p] ∧ Pl H p c ∧ c < 900000 ∧ ∀ (l : Addr) (zs : List Str) (H' : Hp), H l = none → Kn H' l zs → Pl H' p (c + 2) → Fx p H H' → Q (.ref l) H'
set_option maxHeartbeats 8000000 in
theorem ok_l_kinds (T : TX K mg A FD TK CC) : FnOk P w K mg base CX0 2 (A 61) (FD 61) ["_law_pool_here"] spKinds := by
  have G_l_take := ok_l_take (P := P) (w := w) (base := base) T
  refine T.f_l_kinds.ok (k := 1) sc_l_kinds (fun vs H Q E h => ?_) (fun cdv A' outer s H vs Q E hr h => ?_)
  · obtain ⟨p, c, rfl, _⟩ := h
    rfl
  · obtain ⟨p, c, rfl, hp, hc, q⟩ := h
    refine ⟨_, (pss_cons (ps_set (i := 1) sc_l_kinds.nd rfl (.inl rfl) (pe_lst (pa_cons pe_str (pa_cons pe_str (pa_cons pe_str (pa_cons pe_str (pa_cons pe_str (pa_cons pe_str (pa_cons pe_str (pa_cons pe_str (pa_cons pe_str pa_nil)))))))))))
      (pss_cons (ps_set (i := 2) sc_l_kinds.nd rfl (.inl rfl) (pe_call G_l_take hr (by rfl) T.g_l_take T.f_l_take.kp T.b_l_take .nil pass0 (pa_cons (pv 0) (pa_cons pe_int pa_nil))))
      (pss_one (ps_ret (pe_slice (slLK (K := K) rfl) (pe_op op_cat (pv 1) (pv 1)) (po_some (pv 2)) (po_some (pe_op op_add (pe_op op_add (pv 2) pe_int) (pe_call G_l_take hr (by rfl) T.g_l_take T.f_l_take.kp T.b_l_take .nil pass0 (pa_cons (pv 0) (pa_cons pe_int pa_nil)))))))))), ?_⟩
    refine ⟨by show 9 ≤ sizeLine; decide, fun s0 n0 => ?_⟩
    have e1 : Ex H (upd H s0 (.lst (nine.map V.str))) := Ex.new n0
    have hs1 : (upd H s0 (.lst (nine.map V.str))) s0 = some (.lst (nine.map V.str)) := upd_same
    have nsp : s0 ≠ p := by
      obtain ⟨xs, hx⟩ := hp.some
      exact (ne_of_none hx n0).symm
    refine ⟨.ref p, rfl, p, 9, c, rfl, hp.ex e1, by decide, by decide, by omega, fun d H2 d0 d1 hp2 f2 => ?_⟩
    have hs2 : H2 s0 = some (.lst (nine.map V.str)) := f2 _ _ nsp hs1
    refine ⟨.ref s0, rfl, .ref s0, rfl, s0, s0, _, _, rfl, rfl, hs2, hs2, by show 18 ≤ sizeLine; decide, fun r nr => ?_⟩
    have e3 : Ex H2 (upd H2 r (.lst (nine.map V.str ++ nine.map V.str))) := Ex.new nr
    have hr3 : (upd H2 r (.lst (nine.map V.str ++ nine.map V.str))) r = some (.lst (nine.map V.str ++ nine.map V.str)) := upd_same
    have nrp : r ≠ p := by
      obtain ⟨xs, hx⟩ := hp2.some
      exact (ne_of_none hx nr).symm
    refine ⟨.int d, rfl, d, rfl, .int d, rfl, d, 1, rfl, rfl, .ref p, rfl, p, 5, c + 1, rfl, hp2.ex e3, by decide, by decide, by omega, fun k H4 k0 k1 hp4 f4 => ?_⟩
    refine ⟨d + 1, k, rfl, rfl, d + 1 + k, rfl, r, _, rfl, SqL.of (f4 _ _ nrp hr3), fun l nl => ?_⟩
    obtain ⟨j, rfl⟩ := Int.eq_ofNat_of_zero_le d0
    obtain ⟨i, rfl⟩ := Int.eq_ofNat_of_zero_le k0
    obtain ⟨zs, ez, l1, l5, hw⟩ := nine_cut j i (by omega) (by omega)
    have fr : Fx p H H4 := ((Fx.ex e1).trans f2).trans ((Fx.ex e3).trans f4)
    refine q l zs _ (fx_free fr hp4 nl) ⟨?_, l1, l5, hw⟩ (hp4.ex (Ex.new nl)) (fr.trans (Fx.ex (Ex.new nl)))
    rw [upd_same, ez]
theorem ip_mulI {X : Cx} : PIp X .Mult (fun x y H Q => ∃ i j, x = .int i ∧ y = .int j ∧ CMul i j ∧ Q (.int (i * j)) H) := by
  intro pins s σ H x y v u Q I r1 r2 h
  obtain ⟨i, j, e1, e2, hc, q⟩ := h
  subst e1; subst e2
  obtain ⟨t, rfl⟩ := r1
  obtain ⟨t', rfl⟩ := r2
  exact imul_int ⟨.int _, H, I.tok _, ⟨_, rfl⟩, q⟩ hc.ok
def one (c : Nat) : Str := ⟨#[c]⟩
def txt (l : List Nat) : Str := ⟨l.toArray⟩
theorem txt_len (l : List Nat) : (txt l).length = l.length := List.size_toArray
theorem joinL_no : ∀ ps : List (List Nat), joinL [] ps = ps.flatten
  | [] => rfl
  | [p] => by simp [joinL]
  | p :: q :: r => by
    rw [joinL, joinL_no (q :: r)]
    rfl
theorem join_txts (ls : List (List Nat)) : Txt.join "" (ls.map txt) = txt ls.flatten := by
  refine ext_tl ?_
  rw [join_eq, tl_join, List.map_map]
  refine (joinL_no _).trans ?_
  rw [show (tl ∘ txt) = id from rfl, List.map_id]
  rfl
theorem flat_ones : ∀ cs : List Nat, (cs.map fun c => [c]).flatten = cs
  | [] => rfl
  | c :: r => by rw [List.map_cons, List.flatten_cons, flat_ones r]; rfl
theorem join_ones (cs : List Nat) : Txt.join "" (cs.map one) = txt cs := by
  have := join_txts (cs.map fun c => [c])
  rw [List.map_map, flat_ones] at this
  exact this
theorem sum_txts (ls : List (List Nat)) : ((ls.map txt).map (·.length)).sum = ls.flatten.length := by
  induction ls with
  | nil => rfl
  | cons l r ih =>
    rw [List.map_cons, List.map_cons, List.sum_cons, ih, List.flatten_cons, List.length_append]
    rfl
theorem sum_ones (cs : List Nat) : ((cs.map one).map (·.length)).sum = cs.length := by
  induction cs with
  | nil => rfl
  | cons c r ih =>
    rw [List.map_cons, List.map_cons, List.sum_cons, ih, List.length_cons]
    show 1 + r.length = r.length + 1
    omega
/-- the code of a number -/
def codeN (n : Nat) : List Nat := if n < 16 then [97 + n] else (65 + n % 16) :: codeN (n / 16)
termination_by n
decreasing_by omega
theorem codeN_low {n : Nat} (h : n < 16) : codeN n = [97 + n] := by rw [codeN, if_pos h]
theorem codeN_up {n : Nat} (h : ¬ n < 16) : codeN n = (65 + n % 16) :: codeN (n / 16) := by rw [codeN, if_neg h]
theorem codeN_len : ∀ (k n : Nat), n < 16 ^ (k + 1) → (codeN n).length ≤ k + 1
  | 0, n, h => by
    rw [codeN_low (by simpa using h)]
    exact Nat.le_refl _
  | k + 1, n, h => by
    by_cases l : n < 16
    · rw [codeN_low l]
      simp
    · rw [codeN_up l, List.length_cons]
      have := codeN_len k (n / 16) (Nat.div_lt_of_lt_mul (by rw [Nat.mul_comm, ← Nat.pow_succ]; exact h))
      omega
theorem codeN_pos (n : Nat) : 1 ≤ (codeN n).length := by
  by_cases l : n < 16
  · rw [codeN_low l]
    exact Nat.le_refl _
  · rw [codeN_up l]
    simp
def upS : Str := "ABCDEFGHIJKLMNOP"
def loS : Str := "abcdefghijklmnop"
theorem up_at (d : Nat) (h : d < 16) : atI upS.cps.toList (d : Int) = some (65 + d) := by
  refine atI_nat ?_
  have k : ∀ d, d < 16 → upS.cps.toList[d]? = some (65 + d) := by decide +kernel
  exact k d h
theorem lo_at (d : Nat) (h : d < 16) : atI loS.cps.toList (d : Int) = some (97 + d) := by
  refine atI_nat ?_
  have k : ∀ d, d < 16 → loS.cps.toList[d]? = some (97 + d) := by decide +kernel
  exact k d h
theorem lo_find (d : Nat) (h : d < 16) : Txt.find loS (one (97 + d)) = (d : Int) := by
  have k : ∀ d, d < 16 → Txt.find loS (one (97 + d)) = (d : Int) := by decide +kernel
  exact k d h
theorem lo_none (d : Nat) (h : d < 16) : Txt.find loS (one (65 + d)) = -1 := by
  have k : ∀ d, d < 16 → Txt.find loS (one (65 + d)) = -1 := by decide +kernel
  exact k d h
theorem up_find (d : Nat) (h : d < 16) : Txt.find upS (one (65 + d)) = (d : Int) := by
  have k : ∀ d, d < 16 → Txt.find upS (one (65 + d)) = (d : Int) := by decide +kernel
  exact k d h
def spWhl : Sp := fun vs H Q _ => ∃ z : Int, vs = [.int z] ∧ Q (.bl true) H
set_option maxHeartbeats 4000000 in
theorem ok_whl (T : TX K mg A FD TK CC) : FnOk P w K mg base CX0 1 (A 22) (FD 22) ["thing"] spWhl := by
  refine T.f_is_whole.ok sc_is_whole (fun vs H Q E h => ?_) (fun cdv A' outer s H vs Q E hr h => ?_)
  · obtain ⟨z, rfl, _⟩ := h
    rfl
  · obtain ⟨i, rfl, q⟩ := h
    refine ⟨_, (pss_one (ps_ret (pe_and (pe_callB (isiK (K := K) rfl) (by rfl) T.m_isinstance (by decide +kernel) (pa_cons (pv 0) (pa_cons (pe_bltn (v := .ty "int") (by rfl) T.m_int (by decide +kernel) rfl) pa_nil))) (pe_one (pe_not (pe_callB (isiK (K := K) rfl) (by rfl) T.m_isinstance (by decide +kernel) (pa_cons (pv 0) (pa_cons (pe_bltn (v := .ty "bool") (by rfl) T.m_bool (by decide +kernel) rfl) pa_nil)))))))), ?_⟩
    refine ⟨.int i, rfl, .int i, .ty "int", .type "int", .type "int", true, rfl, .ty _, .base (.int i), kit_ty (by decide +kernel), true, rfl, ?_⟩
    exact ⟨.int i, rfl, .int i, .ty "bool", .type "int", .type "bool", false, rfl, .ty _, .base (.int i), kit_ty (by decide +kernel), false, rfl, q⟩
def spCnt : Sp := fun vs H Q _ => ∃ n : Nat, vs = [.int (n : Int)] ∧ Q (.bl true) H
set_option maxHeartbeats 4000000 in
theorem ok_cnt (T : TX K mg A FD TK CC) : FnOk P w K mg base CX0 2 (A 27) (FD 27) ["thing"] spCnt := by
  have G_is_whole := ok_whl (P := P) (w := w) (base := base) T
  refine T.f_is_count.ok (k := 1) sc_is_count (fun vs H Q E h => ?_) (fun cdv A' outer s H vs Q E hr h => ?_)
  · obtain ⟨n, rfl, _⟩ := h
    rfl
  · obtain ⟨n, rfl, q⟩ := h
    refine ⟨_, (pss_one (ps_ret (pe_and (pe_call G_is_whole hr (by rfl) T.g_is_whole T.f_is_whole.kp T.b_is_whole .nil pass0 (pa_cons (pv 0) pa_nil)) (pe_one (pe_cmpR op_ge (pv 0) pe_int (nomark _)))))), ?_⟩
    refine ⟨.int n, rfl, n, rfl, true, rfl, .int n, rfl, n, 0, rfl, rfl, ?_⟩
    show Q (.bl (decide ((0 : Int) ≤ (n : Int)))) H
    rw [decide_eq_true (show (0 : Int) ≤ (n : Int) by omega)]
    exact q
def muN : L2.St → Hp → Nat := fun σ _ => match σ with
  | some (.int r) :: _ => r.toNat
  | _ => 0
def spCode : Sp := fun vs H Q _ => ∃ n : Nat, vs = [.int (n : Int)] ∧ n < 16 ^ 100 ∧ ∀ H', Ex H H' → Q (.str (txt (codeN n))) H'
set_option maxHeartbeats 4000000 in
theorem ok_code (T : TX K mg A FD TK CC) : FnOk P w K mg base CX0 3 (A 28) (FD 28) ["number"] spCode := by
  have G_is_count := ok_cnt (P := P) (w := w) (base := base) T
  refine T.f_code.ok (k := 2) sc_code (fun vs H Q E h => ?_) (fun cdv A' outer s H vs Q E hr h => ?_)
  · obtain ⟨n, rfl, _⟩ := h
    rfl
  · obtain ⟨n, rfl, hn, q⟩ := h
    have hl := codeN_len 99 n hn
    refine ⟨_, (pss_cons (ps_if (pt_not (pt_val (pe_call G_is_count hr (by rfl) T.g_is_count T.f_is_count.kp T.b_is_count .nil pass0 (pa_cons (pv 0) pa_nil))))
      (pss_one ps_never)
      pss_nil)
      (pss_cons (ps_set (i := 1) sc_code.nd rfl (.inl rfl) (pe_lst pa_nil))
      (pss_cons (ps_while PassesOwn.never (pt_cmpR op_ge (pv 0) pe_int (nomark _))
      (pss_cons (ps_asg (pe_callB call_divmod (by rfl) T.m_divmod (by decide +kernel) (pa_cons (pv 0) (pa_cons pe_int pa_nil))) (pg_tup rfl (pgs_cons (pg_name (i := 0) sc_code.nd rfl (.inl rfl)) (pgs_cons (pg_name (i := 2) sc_code.nd rfl (.inl rfl)) pgs_nil))))
      (pss_one (ps_expr (pe_bm PySem.F.plainAttrs_list PySem.F.slot_list_append PySem.F.type_list_append mt_append (pv 1) (pa_cons (pe_ix ix_str (pe_glob (v := .str "ABCDEFGHIJKLMNOP") (by rfl) T.c_DIGITS_AHEAD ⟨_, rfl⟩) (pv 2) (fun _ _ => rfl)) pa_nil))))))
      (pss_cons (ps_expr (pe_bm PySem.F.plainAttrs_list PySem.F.slot_list_append PySem.F.type_list_append mt_append (pv 1) (pa_cons (pe_ix ix_str (pe_glob (v := .str "abcdefghijklmnop") (by rfl) T.c_LAST_DIGITS ⟨_, rfl⟩) (pv 0) (fun _ _ => rfl)) pa_nil)))
      (pss_one (ps_ret (pe_join pe_str (pv 1)))))))), ?_⟩
    refine ⟨.int n, rfl, n, rfl, _, rfl, ite2 (fun c => absurd c (by decide)) (fun _ => ?_)⟩
    refine ⟨Nat.zero_le _, fun D nD => ?_⟩
    refine while_by (fun σ' H' => ∃ (m : Nat) (cs : List Nat) (o : Option V), σ' = [some (.int (m : Int)), some (.ref D), o] ∧ H' D = some (.lst ((cs.map one).map V.str)) ∧ cs ++ codeN m = codeN n ∧ Ex H H') muN ⟨n, [], none, rfl, upd_same, rfl, Ex.new nD⟩ (fun σ' H' p => ?_) (fun σ' H' Q Q' m h => ?_)
    · obtain ⟨m, cs, o, rfl, hD, hc, x⟩ := p
      have lc : cs.length ≤ 100 := by
        have := congrArg List.length hc
        rw [List.length_append] at this
        omega
      refine ⟨.int m, rfl, m, 16, rfl, rfl, _, rfl, ite2 (fun e => ?_) (fun e => ?_)⟩
      · have e0 : (16 : Int) ≤ (m : Int) := of_decide_eq_true e
        refine ⟨.int m, rfl, m, 16, rfl, ⟨by decide, by decide⟩, fun t nt => ?_⟩
        have x2 := x.trans (Ex.new (o := .tup [.int ((m : Int) / 16), .int ((m : Int) % 16)]) nt)
        have hD2 := (Ex.new (o := .tup [.int ((m : Int) / 16), .int ((m : Int) % 16)]) nt) _ _ hD
        have ht := upd_same (H := H') (a := t) (o := .tup [.int ((m : Int) / 16), .int ((m : Int) % 16)])
        generalize upd H' t (.tup [.int ((m : Int) / 16), .int ((m : Int) % 16)]) = H2 at x2 hD2 ht ⊢
        have em : (m : Int) % 16 = ((m % 16 : Nat) : Int) := by omega
        have ed : (m : Int) / 16 = ((m / 16 : Nat) : Int) := by omega
        rw [em, ed] at ht
        have m16 : m % 16 < 16 := Nat.mod_lt _ (by decide)
        have ul : upS.length = 16 := by decide +kernel
        refine ⟨t, _, rfl, SqT.of ht, rfl, _, _, rfl, _, _, rfl, rfl, .ref D, rfl, .inl ⟨rfl, _, SqL.of hD2⟩, .int ((m % 16 : Nat) : Int), rfl, upS, _, _, rfl, rfl, sz (by omega), up_at _ m16, D, _, _, rfl, rfl, hD2, ?_, ?_, ?_⟩
        · rw [List.length_map, List.length_map]
          exact sz_lt (by omega)
        · refine ⟨m / 16, cs ++ [65 + m % 16], _, rfl, ?_, ?_, Ex.mut x2 nD⟩
          · rw [upd_same, List.map_append, List.map_append]
            rfl
          · rw [List.append_assoc, ← hc, codeN_up (n := m) (by omega)]
            rfl
        · show (((m / 16 : Nat) : Int)).toNat < (m : Int).toNat
          omega
      · have e0 : ¬ (16 : Int) ≤ (m : Int) := fun z => e (decide_eq_true z)
        have m16 : m < 16 := by omega
        have ll : loS.length = 16 := by decide +kernel
        refine ⟨.ref D, rfl, .inl ⟨rfl, _, SqL.of hD⟩, .int (m : Int), rfl, loS, _, _, rfl, rfl, sz (by omega), lo_at _ m16, D, _, _, rfl, rfl, hD, ?_, ?_⟩
        · rw [List.length_map, List.length_map]
          exact sz_lt (by omega)
        have hf : cs ++ [97 + m] = codeN n := by rw [← hc, codeN_low m16]
        have hD2 : (upd H' D (.lst ((cs.map one).map V.str ++ [.str ⟨#[97 + m]⟩]))) D = some (.lst (((codeN n).map one).map V.str)) := by
          rw [upd_same, ← hf, List.map_append, List.map_append]
          rfl
        refine ⟨⟨_, rfl⟩, .ref D, rfl, "", D, (codeN n).map one, rfl, rfl, .inl (SqL.of hD2), ?_, ?_⟩
        · rw [sum_ones]
          show _ + _ * 0 ≤ 16777216
          omega
        · rw [join_ones]
          exact q _ (Ex.mut x nD)
    · obtain ⟨v, hv, i, j, e1, e2, k, hk, hq⟩ := h
      exact ⟨v, hv, i, j, e1, e2, k, hk, m _ _ hq⟩
def nvs (ns : List Nat) : List V := ns.map fun (n : Nat) => V.int (n : Int)
theorem nvs_len (ns : List Nat) : (nvs ns).length = ns.length := List.length_map ..
theorem nvs_at {ns : List Nat} {i : Nat} {x : V} (g : (nvs ns)[i]? = some x) : ∃ n, ns[i]? = some n ∧ x = .int (n : Int) ∧ i < ns.length := by
  unfold nvs at g
  rw [List.getElem?_map] at g
  cases e : ns[i]? with
  | none => rw [e] at g; cases g
  | some n =>
    rw [e] at g
    cases g
    exact ⟨n, rfl, rfl, (List.getElem?_eq_some_iff.mp e).1⟩
theorem nvs_snoc (ns : List Nat) (n : Nat) : nvs (ns ++ [n]) = nvs ns ++ [.int (n : Int)] := by
  unfold nvs
  rw [List.map_append]
  rfl
theorem take_up {α : Type} {l : List α} {i : Nat} {x : α} (g : l[i]? = some x) : l.take (i + 1) = l.take i ++ [x] := by
  rw [List.take_add_one, g]
  rfl
def codeL (ns : List Nat) : List Nat := (ns.map codeN).flatten
theorem codeL_len {ns : List Nat} (h : ∀ n ∈ ns, n < 16 ^ 100) : (codeL ns).length ≤ ns.length * 100 := by
  induction ns with
  | nil => exact Nat.zero_le _
  | cons n r ih =>
    have a := codeN_len 99 n (h n (List.mem_cons_self ..))
    have b := ih fun m hm => h m (List.mem_cons_of_mem _ hm)
    unfold codeL at b ⊢
    rw [List.map_cons, List.flatten_cons, List.length_append, List.length_cons, Nat.add_mul]
    omega
def spCodeAll (K : PySem.W.Frag) : Sp := fun vs H Q _ => ∃ (a : Addr) (ns : List Nat), vs = [.ref a] ∧ H a = some (.lst (nvs ns)) ∧ ns.length ≤ 900 ∧ (∀ n ∈ ns, n < 16 ^ 100) ∧ ∀ H', Ex H H' → Q (.str (txt (codeL ns))) H'
set_option maxHeartbeats 4000000 in
theorem ok_code_all (T : TX K mg A FD TK CC) : FnOk P w K mg base CX0 4 (A 29) (FD 29) ["numbers"] (spCodeAll K) := by
  have G_is_count := (ok_cnt (P := P) (w := w) (base := base) T).mono (show 2 ≤ 3 by decide)
  have G_code := ok_code (P := P) (w := w) (base := base) T
  refine T.f_code_all.ok (k := 3) sc_code_all (fun vs H Q E h => ?_) (fun cdv A' outer s H vs Q E hr h => ?_)
  · obtain ⟨a, ns, rfl, _⟩ := h
    rfl
  · obtain ⟨a, ns, rfl, hS0, hn, hb, q⟩ := h
    have hS : SqL K H a (nvs ns) := SqL.of hS0
    refine ⟨_, (pss_cons (ps_if (pt_not (pt_val (pe_callB (isiK (K := K) rfl) (by rfl) T.m_isinstance (by decide +kernel) (pa_cons (pv 0) (pa_cons (pe_bltn (v := .ty "list") (by rfl) T.m_list (by decide +kernel) rfl) pa_nil)))))
      (pss_one ps_never)
      pss_nil)
      (pss_cons (ps_for PassesOwn.never rfl (pi_enum (by rfl) T.m_enumerate (pa_cons (pv 0) pa_nil)) (pg_tup rfl (pgs_cons (pg_name (i := 1) sc_code_all.nd rfl (.inl rfl)) (pgs_cons (pg_name (i := 2) sc_code_all.nd rfl (.inl rfl)) pgs_nil)))
      (pss_one (ps_if (pt_not (pt_val (pe_call G_is_count hr (by rfl) T.g_is_count T.f_is_count.kp T.b_is_count .nil pass0 (pa_cons (pv 2) pa_nil))))
      (pss_one ps_never)
      pss_nil)))
      (pss_one (ps_ret (pe_join pe_str (pe_lc (own := [("number", 2)])  rfl sc_code_all.nd (piLK (K := K) rfl (pv 0)) (blkOk_by (own := [("number", 2)]) (N := N_code_all) (sc := defScope (topS 29)) (by decide +kernel)) (fun _ _ _ _ _ => (pg_name (i := 2) sc_code_all.nd rfl (Or.inl rfl))) (fun _ _ _ _ _ => pts_nil) (fun _ _ _ _ _ => (pe_call G_code hr (by rfl) T.g_code T.f_code.kp T.b_code .nil pass0 (pa_cons (pv 2) pa_nil))))))))), ?_⟩
    refine ⟨.ref a, rfl, .ref a, .ty "list", .type "list", .type "list", true, rfl, .ty _, .base (.lst hS0), kit_ty (by decide +kernel), _, rfl, ite2 (fun c => absurd c (by decide)) (fun _ => ?_)⟩
    refine ⟨.ref a, rfl, a, _, rfl, hS, ?_⟩
    refine for_it (walk_enum (K := K) (a := a) (xs := nvs ns)) (fun i σ' H' => (∃ o1 o2, σ' = [some (.ref a), o1, o2]) ∧ Ex H H') ⟨⟨none, none, rfl⟩, Ex.refl H⟩ (fun i σ' H' _ p => ex_l p.2 hS) (fun i x σ' H1 H2 hi p y => ?_) (fun σ' H1 p => ?_)
    · obtain ⟨⟨o1, o2, rfl⟩, x1⟩ := p
      obtain ⟨Tt, u1, u2, rfl, nT, rfl, g1, g2⟩ := y
      cases g1
      obtain ⟨n, gn, rfl, _⟩ := nvs_at g2
      refine ⟨Tt, _, rfl, SqT.of upd_same, rfl, _, _, rfl, _, _, rfl, rfl, .int (n : Int), rfl, n, rfl, _, rfl, ite2 (fun c => absurd c (by decide)) (fun _ => ⟨⟨_, _, rfl⟩, x1.trans (Ex.new nT)⟩)⟩
    · obtain ⟨⟨o1, o2, rfl⟩, x1⟩ := p
      refine ⟨⟨_, rfl⟩, .ref a, rfl, a, rfl, ⟨_, ex_l x1 hS⟩, fun D hD => ?_⟩
      refine lc_list (K := K) (xs := nvs ns) (fun i H' => Ex H1 H' ∧ H' D = some (.lst ((((ns.take i).map codeN).map txt).map V.str))) ⟨Ex.new hD, upd_same⟩ (fun i H' _ p => ex_l p.1 (ex_l x1 hS)) (fun i x H2 hx p => ?_) (fun H2 p => ?_)
      · obtain ⟨p1, p2⟩ := p
        obtain ⟨n, gn, rfl, il⟩ := nvs_at hx
        refine ⟨rfl, .int (n : Int), rfl, n, rfl, hb n (List.mem_of_getElem? gn), fun H3 e3 => ⟨_, e3 _ _ p2, ?_, Ex.mut (p1.trans e3) hD, ?_⟩⟩
        · rw [List.length_map, List.length_map, List.length_map, List.length_take]
          exact sz_lt (by omega)
        · rw [upd_same, take_up gn, List.map_append, List.map_append, List.map_append]
          rfl
      · obtain ⟨p1, p2⟩ := p
        rw [nvs_len, List.take_length] at p2
        refine ⟨"", D, (ns.map codeN).map txt, rfl, rfl, .inl (SqL.of p2), ?_, ?_⟩
        · rw [sum_txts]
          have : (ns.map codeN).flatten.length ≤ ns.length * 100 := codeL_len hb
          show _ + _ * 0 ≤ 16777216
          omega
        · rw [join_txts]
          exact q _ (x1.trans p1)
/-- the number ahead of the i-th -/
def ah (xs : List Nat) : Nat → Int
  | 0 => -1
  | i + 1 => ((xs.getD i 0 : Nat) : Int)
def Ris (xs : List Nat) : Prop := ∀ (i x : Nat), xs[i]? = some x → ah xs i < (x : Int)
def gapI (xs : List Nat) (j : Nat) : Nat := (((xs.getD j 0 : Nat) : Int) - ah xs j - 1).toNat
def gapsL (xs : List Nat) : List Nat := (List.range xs.length).map (gapI xs)
theorem getD_at {xs : List Nat} {i x : Nat} (g : xs[i]? = some x) : xs.getD i 0 = x := by
  rw [List.getD_eq_getElem?_getD, g]
  rfl
theorem gap_is {xs : List Nat} (h : Ris xs) {i x : Nat} (g : xs[i]? = some x) : (x : Int) - ah xs i - 1 = ((gapI xs i : Nat) : Int) := by
  have := h i x g
  unfold gapI
  rw [getD_at g]
  omega
def spGaps (K : PySem.W.Frag) : Sp := fun vs H Q _ => ∃ (a : Addr) (xs : List Nat), vs = [.ref a] ∧ (SqL K H a (nvs xs) ∨ SqT K H a (nvs xs)) ∧ Ris xs ∧ xs.length ≤ 900 ∧ ∀ (l : Addr) (H' : Hp), H l = none → Ex H H' → H' l = some (.lst (nvs (gapsL xs))) → Q (.ref l) H'
set_option maxHeartbeats 4000000 in
theorem ok_gaps_of (T : TX K mg A FD TK CC) : FnOk P w K mg base CX0 1 (A 36) (FD 36) ["numbers"] (spGaps K) := by
  refine T.f_gaps_of.ok sc_gaps_of (fun vs H Q E h => ?_) (fun cdv A' outer s H vs Q E hr h => ?_)
  · obtain ⟨a, xs, rfl, _⟩ := h
    rfl
  · obtain ⟨a, xs, rfl, hS, hR, hn, q⟩ := h
    refine ⟨_, (pss_cons (ps_set (i := 1) sc_gaps_of.nd rfl (.inl rfl) (pe_lst pa_nil))
      (pss_cons (ps_set (i := 2) sc_gaps_of.nd rfl (.inl rfl) (pe_un un_neg pe_int))
      (pss_cons (ps_for PassesOwn.never rfl (piOr (piLK (K := K) rfl (pv 0)) (piTK (K := K) rfl (pv 0))) (pg_name (i := 3) sc_gaps_of.nd rfl (.inl rfl))
      (pss_cons (ps_expr (pe_bm PySem.F.plainAttrs_list PySem.F.slot_list_append PySem.F.type_list_append mt_append (pv 1) (pa_cons (pe_op op_sub (pe_op op_sub (pv 3) (pv 2)) pe_int) pa_nil)))
      (pss_one (ps_set (i := 2) sc_gaps_of.nd rfl (.inl rfl) (pv 3)))))
      (pss_one (ps_ret (pv 1)))))), ?_⟩
    refine ⟨Nat.zero_le _, fun D nD => ⟨1, rfl, ?_⟩⟩
    have e1 : Ex H (upd H D (.lst [])) := Ex.new nD
    rcases hS with hS | hS
    · refine .inl ⟨.ref a, rfl, a, rfl, ⟨_, ex_l e1 hS⟩, ?_⟩
      refine for_list (K := K) (xs := nvs xs) (fun i σ' H' => (∃ o, σ' = [some (.ref a), some (.ref D), some (.int (ah xs i)), o]) ∧ H' D = some (.lst (nvs ((List.range i).map (gapI xs)))) ∧ Ex H H') ⟨⟨none, rfl⟩, upd_same, e1⟩ (fun i σ' H' _ p => ex_l p.2.2 hS) (fun i x σ' H1 g p => ?_) (fun σ' H1 p => ?_)
      · obtain ⟨⟨o, rfl⟩, hD, x1⟩ := p
        obtain ⟨n, gn, rfl, il⟩ := nvs_at g
        refine ⟨.ref D, rfl, .inl ⟨rfl, _, SqL.of hD⟩, .int (n : Int), rfl, .int (ah xs i), rfl, _, _, rfl, rfl, _, 1, rfl, rfl, D, _, _, rfl, rfl, hD, ?_, .int (n : Int), rfl, ⟨some (.int (n : Int)), ?_⟩, ?_, Ex.mut x1 nD⟩
        · rw [nvs_len, List.length_map, List.length_range]
          exact sz_lt (by omega)
        · show [some (V.ref a), some (V.ref D), some (V.int (n : Int)), some (V.int (n : Int))] = [some (V.ref a), some (V.ref D), some (V.int (ah xs (i + 1))), some (V.int (n : Int))]
          rw [ah, getD_at gn]
        · rw [upd_same, List.range_succ, List.map_append]
          show some (HO.lst (nvs ((List.range i).map (gapI xs)) ++ [V.int ((n : Int) - ah xs i - 1)])) = some (HO.lst (nvs ((List.range i).map (gapI xs) ++ [gapI xs i])))
          rw [nvs_snoc, gap_is hR gn]
      · obtain ⟨⟨o, rfl⟩, hD, x1⟩ := p
        rw [nvs_len] at hD
        exact ⟨.ref D, rfl, q D H1 nD x1 hD⟩
    · refine .inr ⟨.ref a, rfl, a, rfl, ⟨_, ex_t e1 hS⟩, ?_⟩
      refine for_tup (K := K) (xs := nvs xs) (fun i σ' H' => (∃ o, σ' = [some (.ref a), some (.ref D), some (.int (ah xs i)), o]) ∧ H' D = some (.lst (nvs ((List.range i).map (gapI xs)))) ∧ Ex H H') ⟨⟨none, rfl⟩, upd_same, e1⟩ (fun i σ' H' _ p => ex_t p.2.2 hS) (fun i x σ' H1 g p => ?_) (fun σ' H1 p => ?_)
      · obtain ⟨⟨o, rfl⟩, hD, x1⟩ := p
        obtain ⟨n, gn, rfl, il⟩ := nvs_at g
        refine ⟨.ref D, rfl, .inl ⟨rfl, _, SqL.of hD⟩, .int (n : Int), rfl, .int (ah xs i), rfl, _, _, rfl, rfl, _, 1, rfl, rfl, D, _, _, rfl, rfl, hD, ?_, .int (n : Int), rfl, ⟨some (.int (n : Int)), ?_⟩, ?_, Ex.mut x1 nD⟩
        · rw [nvs_len, List.length_map, List.length_range]
          exact sz_lt (by omega)
        · show [some (V.ref a), some (V.ref D), some (V.int (n : Int)), some (V.int (n : Int))] = [some (V.ref a), some (V.ref D), some (V.int (ah xs (i + 1))), some (V.int (n : Int))]
          rw [ah, getD_at gn]
        · rw [upd_same, List.range_succ, List.map_append]
          show some (HO.lst (nvs ((List.range i).map (gapI xs)) ++ [V.int ((n : Int) - ah xs i - 1)])) = some (HO.lst (nvs ((List.range i).map (gapI xs) ++ [gapI xs i])))
          rw [nvs_snoc, gap_is hR gn]
      · obtain ⟨⟨o, rfl⟩, hD, x1⟩ := p
        rw [nvs_len] at hD
        exact ⟨.ref D, rfl, q D H1 nD x1 hD⟩
def spFall (K : PySem.W.Frag) : Sp := fun vs H Q _ => ∃ (a : Addr) (xs : List Nat), vs = [.ref a] ∧ SqT K H a (nvs xs) ∧ Ris xs ∧ ∀ H', Ex H H' → Q .non H'
set_option maxHeartbeats 4000000 in
theorem ok_first_fall (T : TX K mg A FD TK CC) : FnOk P w K mg base CX0 2 (A 35) (FD 35) ["things"] (spFall K) := by
  have G_is_whole := ok_whl (P := P) (w := w) (base := base) T
  refine T.f_first_fall.ok (k := 1) sc_first_fall (fun vs H Q E h => ?_) (fun cdv A' outer s H vs Q E hr h => ?_)
  · obtain ⟨a, xs, rfl, _⟩ := h
    rfl
  · obtain ⟨a, xs, rfl, hS, hR, q⟩ := h
    refine ⟨_, (pss_cons (ps_set (i := 1) sc_first_fall.nd rfl (.inl rfl) (pe_un un_neg pe_int))
      (pss_cons (ps_for PassesOwn.never rfl (EnT.pi_enumT (K := K) rfl (by rfl) T.m_enumerate (pa_cons (pv 0) pa_nil)) (pg_tup rfl (pgs_cons (pg_name (i := 2) sc_first_fall.nd rfl (.inl rfl)) (pgs_cons (pg_name (i := 3) sc_first_fall.nd rfl (.inl rfl)) pgs_nil)))
      (pss_cons (ps_if (PW.pt (pw_or (pt_not (pt_val (pe_call G_is_whole hr (by rfl) T.g_is_whole T.f_is_whole.kp T.b_is_whole .nil pass0 (pa_cons (pv 3) pa_nil)))) (pw_or1 (pt_cmpR op_le (pv 3) (pv 1) (nomark _)))))
      (pss_one (ps_ret (pv 2)))
      pss_nil)
      (pss_one (ps_set (i := 1) sc_first_fall.nd rfl (.inl rfl) (pv 3)))))
      (pss_one (ps_ret pe_non)))), ?_⟩
    refine ⟨1, rfl, .ref a, rfl, a, _, rfl, hS, ?_⟩
    refine for_it (EnT.walkT (K := K) (a := a) (xs := nvs xs)) (fun i σ' H' => (∃ o1 o2, σ' = [some (.ref a), some (.int (ah xs i)), o1, o2]) ∧ Ex H H') ⟨⟨none, none, rfl⟩, Ex.refl H⟩ (fun i σ' H' _ p => ex_t p.2 hS) (fun i x σ' H1 H2 hi p y => ?_) (fun σ' H1 p => ?_)
    · obtain ⟨⟨o1, o2, rfl⟩, x1⟩ := p
      obtain ⟨Tt, u1, u2, rfl, nT, rfl, g1, g2⟩ := y
      cases g1
      obtain ⟨n, gn, rfl, _⟩ := nvs_at g2
      have lt := hR i n gn
      refine ⟨Tt, _, rfl, SqT.of upd_same, rfl, _, _, rfl, _, _, rfl, rfl, .int (n : Int), rfl, n, rfl, _, rfl, ite2 (fun c => absurd c (by decide)) (fun _ => ?_)⟩
      refine ⟨.int (n : Int), rfl, .int (ah xs i), rfl, _, _, rfl, rfl, _, rfl, ite2 (fun c => ?_) (fun _ => ?_)⟩
      · have : (n : Int) ≤ ah xs i := of_decide_eq_true c
        omega
      · refine ⟨.int (n : Int), rfl, ⟨some (.int (i : Nat)), some (.int (n : Int)), ?_⟩, x1.trans (Ex.new nT)⟩
        show [some (V.ref a), some (V.int (n : Int)), some (V.int (i : Nat)), some (V.int (n : Int))] = [some (V.ref a), some (V.int (ah xs (i + 1))), some (V.int (i : Nat)), some (V.int (n : Int))]
        rw [ah, getD_at gn]
    · obtain ⟨⟨o1, o2, rfl⟩, x1⟩ := p
      exact q _ x1
def spArePl (K : PySem.W.Frag) : Sp := fun vs H Q _ => ∃ (a : Addr) (xs : List Nat), vs = [.ref a] ∧ H a = some (.tup (nvs xs)) ∧ Ris xs ∧ 0 < xs.length ∧ ∀ H', Ex H H' → Q (.bl true) H'
set_option maxHeartbeats 4000000 in
theorem ok_are_places (T : TX K mg A FD TK CC) : FnOk P w K mg base CX0 3 (A 34) (FD 34) ["thing"] (spArePl K) := by
  have G_first_fall := ok_first_fall (P := P) (w := w) (base := base) T
  refine T.f_are_places.ok (k := 2) sc_are_places (fun vs H Q E h => ?_) (fun cdv A' outer s H vs Q E hr h => ?_)
  · obtain ⟨a, xs, rfl, _⟩ := h
    rfl
  · obtain ⟨a, xs, rfl, hS, hR, h0, q⟩ := h
    refine ⟨_, (pss_one (ps_ret (pe_and (pe_callB (isiK (K := K) rfl) (by rfl) T.m_isinstance (by decide +kernel) (pa_cons (pv 0) (pa_cons (pe_bltn (v := .ty "tuple") (by rfl) T.m_tuple (by decide +kernel) rfl) pa_nil))) (pe_and (pe_cmpR op_gt (pe_callB (lenK (K := K) rfl) (by rfl) T.m_len (by decide +kernel) (pa_cons (pv 0) pa_nil)) pe_int (nomark _)) (pe_one (pe_cmpR op_isN (pe_call G_first_fall hr (by rfl) T.g_first_fall T.f_first_fall.kp T.b_first_fall .nil pass0 (pa_cons (pv 0) pa_nil)) pe_non (nomark _))))))), ?_⟩
    refine ⟨.ref a, rfl, .ref a, .ty "tuple", .type "tuple", .type "tuple", true, rfl, .ty _, .base (.tup hS), kit_ty (by decide +kernel), true, rfl, ?_⟩
    refine ⟨.ref a, rfl, a, _, rfl, .inr (SqT.of hS), _, 0, rfl, rfl, _, rfl, ite2 (fun _ => ?_) (fun c => ?_)⟩
    · refine ⟨.ref a, rfl, a, xs, rfl, SqT.of hS, hR, fun H1 e1 => ?_⟩
      refine ⟨rfl, ?_⟩
      exact q _ e1
    · refine absurd (decide_eq_true ?_) c
      rw [nvs_len]
      omega
/-- an entry at a: a slot and rising places -/
def EnA (H : Hp) (a : Addr) (e : Nat × List Nat) : Prop := ∃ t, H a = some (.tup [.int (e.1 : Int), .ref t]) ∧ H t = some (.tup (nvs e.2))
structure EnOk (e : Nat × List Nat) : Prop where
  ris : Ris e.2
  some : 0 < e.2.length
  few : e.2.length ≤ 120
  slot : e.1 < 16 ^ 100
  small : ∀ n ∈ e.2, n < 16 ^ 100
def EnsA (H : Hp) (xs : List V) (es : List (Nat × List Nat)) : Prop := xs.length = es.length ∧ ∀ (i : Nat) (e : Nat × List Nat), es[i]? = some e → ∃ a, xs[i]? = some (.ref a) ∧ EnA H a e
theorem EnA.ex {H H' : Hp} {a : Addr} {e : Nat × List Nat} (h : EnA H a e) (x : Ex H H') : EnA H' a e := by
  obtain ⟨t, h1, h2⟩ := h
  exact ⟨t, x _ _ h1, x _ _ h2⟩
theorem EnsA.ex {H H' : Hp} {xs : List V} {es : List (Nat × List Nat)} (h : EnsA H xs es) (x : Ex H H') : EnsA H' xs es := ⟨h.1, fun i e g => let ⟨a, h1, h2⟩ := h.2 i e g; ⟨a, h1, h2.ex x⟩⟩
theorem EnsA.at {H : Hp} {xs : List V} {es : List (Nat × List Nat)} (h : EnsA H xs es) {i : Nat} {v : V} (g : xs[i]? = .some v) : ∃ e a, es[i]? = .some e ∧ v = .ref a ∧ EnA H a e := by
  have hi : i < es.length := by rw [← h.1]; exact (List.getElem?_eq_some_iff.mp g).1
  obtain ⟨a, g1, g2⟩ := h.2 i es[i] (List.getElem?_eq_getElem hi)
  rw [g] at g1
  exact ⟨es[i], a, List.getElem?_eq_getElem hi, Option.some.inj g1, g2⟩
def spIsEn (K : PySem.W.Frag) : Sp := fun vs H Q _ => ∃ (a : Addr) (e : Nat × List Nat), vs = [.ref a] ∧ EnA H a e ∧ EnOk e ∧ ∀ H', Ex H H' → Q (.bl true) H'
set_option maxHeartbeats 4000000 in
theorem ok_is_entry (T : TX K mg A FD TK CC) : FnOk P w K mg base CX0 4 (A 33) (FD 33) ["thing"] (spIsEn K) := by
  have G_is_count := (ok_cnt (P := P) (w := w) (base := base) T).mono (show 2 ≤ 3 by decide)
  have G_are_places := ok_are_places (P := P) (w := w) (base := base) T
  refine T.f_is_entry.ok (k := 3) sc_is_entry (fun vs H Q E h => ?_) (fun cdv A' outer s H vs Q E hr h => ?_)
  · obtain ⟨a, e, rfl, _⟩ := h
    rfl
  · obtain ⟨a, e, rfl, ⟨t, ha, ht⟩, he, q⟩ := h
    refine ⟨_, (pss_one (ps_ret (pe_and (pe_callB (isiK (K := K) rfl) (by rfl) T.m_isinstance (by decide +kernel) (pa_cons (pv 0) (pa_cons (pe_bltn (v := .ty "tuple") (by rfl) T.m_tuple (by decide +kernel) rfl) pa_nil))) (pe_and (pe_cmpR op_eq (pe_callB (lenK (K := K) rfl) (by rfl) T.m_len (by decide +kernel) (pa_cons (pv 0) pa_nil)) pe_int (nomark _)) (pe_and (pe_call G_is_count hr (by rfl) T.g_is_count T.f_is_count.kp T.b_is_count .nil pass0 (pa_cons (pe_ix (ixTK (K := K) rfl) (pv 0) pe_int (fun _ _ => rfl)) pa_nil)) (pe_one (pe_call G_are_places hr (by rfl) T.g_are_places T.f_are_places.kp T.b_are_places .nil pass0 (pa_cons (pe_ix (ixTK (K := K) rfl) (pv 0) pe_int (fun _ _ => rfl)) pa_nil)))))))), ?_⟩
    refine ⟨.ref a, rfl, .ref a, .ty "tuple", .type "tuple", .type "tuple", true, rfl, .ty _, .base (.tup ha), kit_ty (by decide +kernel), true, rfl, ?_⟩
    refine ⟨.ref a, rfl, a, _, rfl, .inr (SqT.of ha), rfl, _, rfl, ite2 (fun _ => ?_) (fun c => absurd (decide_eq_true rfl) c)⟩
    refine ⟨.ref a, rfl, a, _, 0, _, rfl, rfl, SqT.of ha, atI_nat (j := 0) rfl, e.1, rfl, true, rfl, ?_⟩
    exact ⟨.ref a, rfl, a, _, 1, _, rfl, rfl, SqT.of ha, atI_nat (j := 1) rfl, t, e.2, rfl, ht, he.ris, he.some, q⟩
def slots (es : List (Nat × List Nat)) : List Nat := es.map (·.1)
def spChkEn (K : PySem.W.Frag) : Sp := fun vs H Q _ => ∃ (l : Addr) (xs : List V) (es : List (Nat × List Nat)), vs = [.ref l] ∧ H l = some (.lst xs) ∧ EnsA H xs es ∧ (∀ e ∈ es, EnOk e) ∧ Ris (slots es) ∧ ∀ H', Ex H H' → Q .non H'
theorem slots_at {es : List (Nat × List Nat)} {i : Nat} {e : Nat × List Nat} (g : es[i]? = some e) : (slots es)[i]? = some e.1 := by
  unfold slots
  rw [List.getElem?_map, g]
  rfl
set_option maxHeartbeats 4000000 in
theorem ok_check_entries (T : TX K mg A FD TK CC) : FnOk P w K mg base CX0 5 (A 32) (FD 32) ["entries"] (spChkEn K) := by
  have G_is_entry := ok_is_entry (P := P) (w := w) (base := base) T
  refine T.f_check_entries.ok (k := 4) sc_check_entries (fun vs H Q E h => ?_) (fun cdv A' outer s H vs Q E hr h => ?_)
  · obtain ⟨l, xs, es, rfl, _⟩ := h
    rfl
  · obtain ⟨l, xs, es, rfl, hl, hE, ho, hR, q⟩ := h
    refine ⟨_, (pss_cons (ps_if (pt_not (pt_val (pe_callB (isiK (K := K) rfl) (by rfl) T.m_isinstance (by decide +kernel) (pa_cons (pv 0) (pa_cons (pe_bltn (v := .ty "list") (by rfl) T.m_list (by decide +kernel) rfl) pa_nil)))))
      (pss_one ps_never)
      pss_nil)
      (pss_cons (ps_set (i := 1) sc_check_entries.nd rfl (.inl rfl) (pe_un un_neg pe_int))
      (pss_one (ps_for PassesOwn.never rfl (pi_enum (by rfl) T.m_enumerate (pa_cons (pv 0) pa_nil)) (pg_tup rfl (pgs_cons (pg_name (i := 2) sc_check_entries.nd rfl (.inl rfl)) (pgs_cons (pg_name (i := 3) sc_check_entries.nd rfl (.inl rfl)) pgs_nil)))
      (pss_cons (ps_if (PW.pt (pw_or (pt_not (pt_val (pe_call G_is_entry hr (by rfl) T.g_is_entry T.f_is_entry.kp T.b_is_entry .nil pass0 (pa_cons (pv 3) pa_nil)))) (pw_or1 (pt_cmpR op_le (pe_ix (ixTK (K := K) rfl) (pv 3) pe_int (fun _ _ => rfl)) (pv 1) (nomark _)))))
      (pss_one ps_never)
      pss_nil)
      (pss_one (ps_set (i := 1) sc_check_entries.nd rfl (.inl rfl) (pe_ix (ixTK (K := K) rfl) (pv 3) pe_int (fun _ _ => rfl))))))))), ?_⟩
    refine ⟨.ref l, rfl, .ref l, .ty "list", .type "list", .type "list", true, rfl, .ty _, .base (.lst hl), kit_ty (by decide +kernel), _, rfl, ite2 (fun c => absurd c (by decide)) (fun _ => ?_)⟩
    refine ⟨1, rfl, .ref l, rfl, l, _, rfl, SqL.of hl, ?_⟩
    refine for_it (walk_enum (K := K) (a := l) (xs := xs)) (fun i σ' H' => (∃ o1 o2, σ' = [some (.ref l), some (.int (ah (slots es) i)), o1, o2]) ∧ Ex H H') ⟨⟨none, none, rfl⟩, Ex.refl H⟩ (fun i σ' H' _ p => SqL.of (p.2 _ _ hl)) (fun i x σ' H1 H2 hi p y => ?_) (fun σ' H1 p => ?_)
    · obtain ⟨⟨o1, o2, rfl⟩, x1⟩ := p
      obtain ⟨Tt, u1, u2, rfl, nT, rfl, g1, g2⟩ := y
      cases g1
      obtain ⟨e, a, ge, rfl, hA⟩ := hE.at g2
      have eT := Ex.new (o := .tup [V.int (i : Nat), .ref a]) nT
      have hA2 := hA.ex (x1.trans eT)
      have lt := hR i e.1 (slots_at ge)
      obtain ⟨t, ha, ht⟩ := id hA2
      refine ⟨Tt, _, rfl, SqT.of upd_same, rfl, _, _, rfl, _, _, rfl, rfl, .ref a, rfl, a, e, rfl, hA2, ho e (List.mem_of_getElem? ge), fun H3 e3 => ⟨_, rfl, ite2 (fun c => absurd c (by decide)) (fun _ => ?_)⟩⟩
      refine ⟨.ref a, rfl, a, _, 0, _, rfl, rfl, SqT.of (e3 _ _ ha), atI_nat (j := 0) rfl, .int (ah (slots es) i), rfl, _, _, rfl, rfl, _, rfl, ite2 (fun c => ?_) (fun _ => ?_)⟩
      · have : (e.1 : Int) ≤ ah (slots es) i := of_decide_eq_true c
        omega
      · refine ⟨.ref a, rfl, a, _, 0, _, rfl, rfl, SqT.of (e3 _ _ ha), atI_nat (j := 0) rfl, ⟨some (.int (i : Nat)), some (.ref a), ?_⟩, (x1.trans eT).trans e3⟩
        show [some (V.ref l), some (V.int (e.1 : Int)), some (V.int (i : Nat)), some (V.ref a)] = [some (V.ref l), some (V.int (ah (slots es) (i + 1))), some (V.int (i : Nat)), some (V.ref a)]
        rw [ah, getD_at (slots_at ge)]
    · obtain ⟨⟨o1, o2, rfl⟩, x1⟩ := p
      exact q _ x1
theorem gaps_small {xs : List Nat} (h : ∀ n ∈ xs, n < 16 ^ 100) : ∀ g ∈ gapsL xs, g < 16 ^ 100 := fun g hg => by
  obtain ⟨j, hj, rfl⟩ := List.mem_map.mp hg
  have jl : j < xs.length := List.mem_range.mp hj
  have hx := h xs[j] (List.getElem_mem jl)
  have e : xs.getD j 0 = xs[j] := getD_at (List.getElem?_eq_getElem jl)
  have a1 : -1 ≤ ah xs j := by
    cases j with
    | zero => exact Int.le_refl _
    | succ i =>
      show (-1 : Int) ≤ ((xs.getD i 0 : Nat) : Int)
      omega
  unfold gapI
  rw [e]
  omega
theorem gapsL_len (xs : List Nat) : (gapsL xs).length = xs.length := by
  unfold gapsL
  rw [List.length_map, List.length_range]
/-- the code of an entry's places -/
def codeP (e : Nat × List Nat) : List (List Nat) := [codeN (e.2.length - 1), codeL (gapsL e.2)]
def codeE (es : List (Nat × List Nat)) : List (List Nat) := [codeN es.length, codeL (gapsL (slots es))] ++ (es.map codeP).flatten
structure Ens (es : List (Nat × List Nat)) : Prop where
  ok : ∀ e ∈ es, EnOk e
  ris : Ris (slots es)
  few : es.length ≤ 60
theorem slots_small {es : List (Nat × List Nat)} (h : ∀ e ∈ es, EnOk e) : ∀ n ∈ slots es, n < 16 ^ 100 := fun n hn => by
  obtain ⟨e, he, rfl⟩ := List.mem_map.mp hn
  exact (h e he).slot
theorem small_nat {n : Nat} (h : n ≤ 1000) : n < 16 ^ 100 := Nat.lt_of_le_of_lt h (by decide +kernel)
theorem codeP_flat_len {es : List (Nat × List Nat)} (h : ∀ e ∈ es, EnOk e) : ((es.map codeP).flatten).flatten.length ≤ es.length * 13000 := by
  induction es with
  | nil => exact Nat.zero_le _
  | cons e r ih =>
    have he := h e (List.mem_cons_self ..)
    have i := ih fun f hf => h f (List.mem_cons_of_mem _ hf)
    have a := codeN_len 99 (e.2.length - 1) (small_nat (by have := he.few; omega))
    have b := codeL_len (gaps_small he.small)
    rw [gapsL_len] at b
    have c := he.few
    have d : e.2.length * 100 ≤ 12000 := by omega
    rw [List.map_cons, List.flatten_cons, List.flatten_append, List.length_append, List.length_cons, Nat.add_mul]
    have k : (codeP e).flatten.length = (codeN (e.2.length - 1)).length + (codeL (gapsL e.2)).length := by
      unfold codeP
      simp
    omega
def spCodeE (K : PySem.W.Frag) : Sp := fun vs H Q _ => ∃ (l : Addr) (xs : List V) (es : List (Nat × List Nat)), vs = [.ref l] ∧ H l = some (.lst xs) ∧ EnsA H xs es ∧ Ens es ∧ ∀ H', Ex H H' → Q (.str (txt (codeE es).flatten)) H'
set_option maxHeartbeats 8000000 in
theorem ok_code_entries (T : TX K mg A FD TK CC) : FnOk P w K mg base CX0 6 (A 30) (FD 30) ["entries"] (spCodeE K) := by
  have G_check_entries := ok_check_entries (P := P) (w := w) (base := base) T
  have G_code := (ok_code (P := P) (w := w) (base := base) T).mono (show 3 ≤ 5 by decide)
  have G_code_all := (ok_code_all (P := P) (w := w) (base := base) T).mono (show 4 ≤ 5 by decide)
  have G_gaps_of := (ok_gaps_of (P := P) (w := w) (base := base) T).mono (show 1 ≤ 5 by decide)
  refine T.f_code_entries.ok (k := 5) sc_code_entries (fun vs H Q E h => ?_) (fun cdv A' outer s H vs Q E hr h => ?_)
  · obtain ⟨l, xs, es, rfl, _⟩ := h
    rfl
  · obtain ⟨l, xs, es, rfl, hl, hE, hs, q⟩ := h
    have few := hs.few
    refine ⟨_, (pss_cons (ps_expr (pe_call G_check_entries hr (by rfl) T.g_check_entries T.f_check_entries.kp T.b_check_entries .nil pass0 (pa_cons (pv 0) pa_nil)))
      (pss_cons (ps_set (i := 1) sc_code_entries.nd rfl (.inl rfl) (pe_lst (pa_cons (pe_call G_code hr (by rfl) T.g_code T.f_code.kp T.b_code .nil pass0 (pa_cons (pe_callB (lenK (K := K) rfl) (by rfl) T.m_len (by decide +kernel) (pa_cons (pv 0) pa_nil)) pa_nil)) (pa_cons (pe_call G_code_all hr (by rfl) T.g_code_all T.f_code_all.kp T.b_code_all .nil pass0 (pa_cons (pe_call G_gaps_of hr (by rfl) T.g_gaps_of T.f_gaps_of.kp T.b_gaps_of .nil pass0 (pa_cons (pe_lc (own := [("slot", 2), ("places", 3)])  rfl sc_code_entries.nd (piLK (K := K) rfl (pv 0)) (blkOk_by (own := [("slot", 2), ("places", 3)]) (N := N_code_entries) (sc := defScope (topS 30)) (by decide +kernel)) (fun _ _ _ _ _ => (tupGK (K := K) (n := 2) rfl rfl (pgs_cons (pg_name (i := 2) sc_code_entries.nd rfl (Or.inl rfl)) (pgs_cons (pg_name (i := 3) sc_code_entries.nd rfl (Or.inl rfl)) pgs_nil)))) (fun _ _ _ _ _ => pts_nil) (fun _ _ _ _ _ => (pv 2))) pa_nil)) pa_nil)) pa_nil))))
      (pss_cons (ps_for PassesOwn.never rfl (piLK (K := K) rfl (pv 0)) (pg_tup rfl (pgs_cons (pg_name (i := 2) sc_code_entries.nd rfl (.inl rfl)) (pgs_cons (pg_name (i := 3) sc_code_entries.nd rfl (.inl rfl)) pgs_nil)))
      (pss_cons (ps_expr (pe_bm PySem.F.plainAttrs_list PySem.F.slot_list_append PySem.F.type_list_append mt_append (pv 1) (pa_cons (pe_call G_code hr (by rfl) T.g_code T.f_code.kp T.b_code .nil pass0 (pa_cons (pe_op op_sub (pe_callB (lenK (K := K) rfl) (by rfl) T.m_len (by decide +kernel) (pa_cons (pv 3) pa_nil)) pe_int) pa_nil)) pa_nil)))
      (pss_one (ps_expr (pe_bm PySem.F.plainAttrs_list PySem.F.slot_list_append PySem.F.type_list_append mt_append (pv 1) (pa_cons (pe_call G_code_all hr (by rfl) T.g_code_all T.f_code_all.kp T.b_code_all .nil pass0 (pa_cons (pe_call G_gaps_of hr (by rfl) T.g_gaps_of T.f_gaps_of.kp T.b_gaps_of .nil pass0 (pa_cons (pv 3) pa_nil)) pa_nil)) pa_nil))))))
      (pss_one (ps_ret (pe_join pe_str (pv 1))))))), ?_⟩
    refine ⟨.ref l, rfl, l, xs, es, rfl, hl, hE, hs.ok, hs.ris, fun H1 e1 => ?_⟩
    have hl1 := e1 _ _ hl
    have hE1 := hE.ex e1
    refine ⟨.ref l, rfl, l, _, rfl, .inl (SqL.of hl1), es.length, ?_, small_nat (by omega), fun H2 e2 => ?_⟩
    · rw [hE.1]
      rfl
    have hl2 := e2 _ _ hl1
    have hE2 := hE1.ex e2
    refine ⟨.ref l, rfl, l, rfl, ⟨_, SqL.of hl2⟩, fun D nD => ?_⟩
    refine lc_list (K := K) (xs := xs) (fun i H' => Ex H2 H' ∧ H' D = some (.lst (nvs (slots (es.take i))))) ⟨Ex.new nD, upd_same⟩ (fun i H' _ z => SqL.of (z.1 _ _ hl2)) (fun i v H' gv z => ?_) (fun H3 z => ?_)
    · obtain ⟨z1, z2⟩ := z
      obtain ⟨e, a, ge, rfl, hA⟩ := hE2.at gv
      obtain ⟨t, ha, ht⟩ := hA.ex z1
      have il : i < es.length := (List.getElem?_eq_some_iff.mp ge).1
      refine ⟨a, _, rfl, SqT.of ha, rfl, _, _, rfl, _, _, rfl, rfl, rfl, .int (e.1 : Int), rfl, _, z2, ?_, Ex.mut z1 nD, ?_⟩
      · rw [nvs_len]
        unfold slots
        rw [List.length_map, List.length_take]
        exact sz_lt (by omega)
      · rw [upd_same, take_up ge]
        unfold slots nvs
        rw [List.map_append, List.map_append]
        rfl
    · obtain ⟨e3, hD⟩ := z
      rw [hE.1, List.take_length] at hD
      have sl : (slots es).length = es.length := List.length_map ..
      refine ⟨D, slots es, rfl, .inl (SqL.of hD), hs.ris, by omega, fun g H4 ng e4 hg => ?_⟩
      refine ⟨g, gapsL (slots es), rfl, hg, ?_, gaps_small (slots_small hs.ok), fun H5 e5 => ⟨by show 2 ≤ sizeLine; decide, fun TX nTX => ?_⟩⟩
      · rw [gapsL_len]
        omega
      have x5 : Ex H H5 := ((((e1.trans e2).trans e3).trans e4).trans e5)
      have nTX0 : H TX = none := fresh_back x5 nTX
      refine ⟨.ref l, rfl, l, rfl, ⟨_, SqL.of ((x5.trans (Ex.new nTX)) _ _ hl)⟩, ?_⟩
      refine for_list (K := K) (xs := xs) (fun i σ' H' => (∃ o1 o2, σ' = [some (.ref l), some (.ref TX), o1, o2]) ∧ H' TX = some (.lst ((([codeN es.length, codeL (gapsL (slots es))] ++ ((es.take i).map codeP).flatten).map txt).map V.str)) ∧ Ex H H') ⟨⟨none, none, rfl⟩, upd_same, x5.trans (Ex.new nTX)⟩ (fun i σ' H' _ p => SqL.of (p.2.2 _ _ hl)) (fun i v σ' H6 gv p => ?_) (fun σ' H6 p => ?_)
      · obtain ⟨⟨o1, o2, rfl⟩, hX, x6⟩ := p
        obtain ⟨e, a, ge, rfl, hA⟩ := hE.at gv
        obtain ⟨t, ha, ht⟩ := hA.ex x6
        have il : i < es.length := (List.getElem?_eq_some_iff.mp ge).1
        have he := hs.ok e (List.mem_of_getElem? ge)
        have hfew := he.few
        have hsome := he.some
        have lX : ((([codeN es.length, codeL (gapsL (slots es))] ++ ((es.take i).map codeP).flatten).map txt).map V.str).length ≤ 2 + 2 * i := by
          rw [List.length_map, List.length_map, List.length_append]
          have : ∀ fs : List (Nat × List Nat), ((fs.map codeP).flatten).length = 2 * fs.length := by
            intro fs
            induction fs with
            | nil => rfl
            | cons f r ih =>
              rw [List.map_cons, List.flatten_cons, List.length_append, ih, List.length_cons]
              show 2 + 2 * r.length = _
              omega
          rw [this, List.length_take]
          show 2 + _ ≤ _
          omega
        refine ⟨a, _, rfl, SqT.of ha, rfl, _, _, rfl, _, _, rfl, rfl, .ref TX, rfl, .inl ⟨rfl, _, SqL.of hX⟩, .ref t, rfl, t, _, rfl, .inr (SqT.of ht), _, 1, rfl, rfl, e.2.length - 1, ?_, small_nat (by omega), fun H7 e7 => ⟨TX, _, _, rfl, rfl, e7 _ _ hX, sz_lt (by omega), ?_⟩⟩
        · rw [nvs_len]
          show [V.int ((e.2.length : Int) - 1)] = [V.int ((e.2.length - 1 : Nat) : Int)]
          rw [show (e.2.length : Int) - 1 = ((e.2.length - 1 : Nat) : Int) by omega]
        have x8 := Ex.mut (o := .lst ((([codeN es.length, codeL (gapsL (slots es))] ++ ((es.take i).map codeP).flatten).map txt).map V.str ++ [.str (txt (codeN (e.2.length - 1)))])) (x6.trans e7) nTX0
        have h8 := upd_same (H := H7) (a := TX) (o := .lst ((([codeN es.length, codeL (gapsL (slots es))] ++ ((es.take i).map codeP).flatten).map txt).map V.str ++ [.str (txt (codeN (e.2.length - 1)))]))
        have ht8 : (upd H7 TX (.lst ((([codeN es.length, codeL (gapsL (slots es))] ++ ((es.take i).map codeP).flatten).map txt).map V.str ++ [.str (txt (codeN (e.2.length - 1)))]))) t = some (.tup (nvs e.2)) := by
          rw [upd_ne (ne_of ht hX (by intro z; cases z))]
          exact e7 _ _ ht
        generalize upd H7 TX (.lst ((([codeN es.length, codeL (gapsL (slots es))] ++ ((es.take i).map codeP).flatten).map txt).map V.str ++ [.str (txt (codeN (e.2.length - 1)))])) = H8 at x8 h8 ht8 ⊢
        refine ⟨.ref TX, rfl, .inl ⟨rfl, _, SqL.of h8⟩, .ref t, rfl, t, e.2, rfl, .inr (SqT.of ht8), he.ris, by omega, fun g2 H9 ng2 e9 hg2 => ⟨g2, gapsL e.2, rfl, hg2, ?_, gaps_small he.small, fun HA eA => ⟨TX, _, _, rfl, rfl, eA _ _ (e9 _ _ h8), ?_, ⟨_, _, rfl⟩, ?_, Ex.mut ((x8.trans e9).trans eA) nTX0⟩⟩⟩
        · rw [gapsL_len]
          omega
        · rw [List.length_append]
          exact sz_lt (by show _ + 1 < 100000; omega)
        · have ee : [codeN es.length, codeL (gapsL (slots es))] ++ ((es.take i ++ [e]).map codeP).flatten = ([codeN es.length, codeL (gapsL (slots es))] ++ ((es.take i).map codeP).flatten) ++ [codeN (e.2.length - 1), codeL (gapsL e.2)] := by simp [codeP]
          rw [upd_same, take_up ge, ee]
          generalize [codeN es.length, codeL (gapsL (slots es))] ++ ((es.take i).map codeP).flatten = bs
          rw [List.map_append, List.map_append, List.append_assoc]
          rfl
      · obtain ⟨⟨o1, o2, rfl⟩, hX, x6⟩ := p
        rw [hE.1, List.take_length] at hX
        refine ⟨⟨_, rfl⟩, .ref TX, rfl, "", TX, (codeE es).map txt, rfl, rfl, .inl (SqL.of hX), ?_, ?_⟩
        · rw [sum_txts]
          have a := codeP_flat_len hs.ok
          have b := codeN_len 99 es.length (small_nat (by omega))
          have c := codeL_len (gaps_small (slots_small hs.ok))
          rw [gapsL_len] at c
          have k : (codeE es).flatten.length = (codeN es.length).length + (codeL (gapsL (slots es))).length + ((es.map codeP).flatten).flatten.length := by
            unfold codeE
            rw [List.flatten_append, List.length_append]
            simp
          show _ + _ * 0 ≤ 16777216
          have d : es.length * 13000 ≤ 60 * 13000 := Nat.mul_le_mul few (Nat.le_refl _)
          omega
        · rw [join_txts]
          exact q _ x6
def pw (i : Nat) : Nat := 16 ^ i
theorem pw_succ (i : Nat) : pw (i + 1) = pw i * 16 := Nat.pow_succ ..
theorem div_succ (n i : Nat) : n / pw (i + 1) = n / pw i / 16 := by rw [pw_succ, Nat.div_div_eq_div_mul]
theorem mod_succ' (n i : Nat) : n % pw (i + 1) = n % pw i + (n / pw i % 16) * pw i := by
  rw [pw_succ, Nat.mod_mul, Nat.mul_comm (pw i)]
theorem split_at (n i : Nat) : n % pw i + (n / pw i) * pw i = n := by
  rw [Nat.mul_comm]
  exact Nat.mod_add_div n (pw i)
theorem codeN_drop (n : Nat) : ∀ i, i < (codeN n).length → (codeN n).drop i = codeN (n / pw i)
  | 0, _ => by rw [show pw 0 = 1 from rfl, Nat.div_one, List.drop_zero]
  | i + 1, h => by
    have a := codeN_drop n i (by omega)
    have l : ((codeN n).drop i).length = (codeN n).length - i := List.length_drop ..
    rw [a] at l
    have up : ¬ n / pw i < 16 := fun z => by
      rw [codeN_low z] at l
      have l : 1 = (codeN n).length - i := l
      omega
    have b : (codeN n).drop (i + 1) = ((codeN n).drop i).drop 1 := by rw [List.drop_drop]
    rw [b, a, codeN_up up, div_succ]
    rfl
theorem codeN_end (n i : Nat) (h : i < (codeN n).length) : (n / pw i < 16 ↔ (codeN n).length = i + 1) := by
  have l : ((codeN n).drop i).length = (codeN n).length - i := List.length_drop ..
  rw [codeN_drop n i h] at l
  constructor
  · intro z
    rw [codeN_low z] at l
    have l : 1 = (codeN n).length - i := l
    omega
  · intro z
    apply Classical.byContradiction
    intro up
    rw [codeN_up up, List.length_cons] at l
    have := codeN_pos (n / pw i / 16)
    omega
theorem codeN_head (n i : Nat) (h : i < (codeN n).length) : (codeN n)[i]? = some (if n / pw i < 16 then 97 + n / pw i else 65 + n / pw i % 16) := by
  have e : (codeN n)[i]? = ((codeN n).drop i)[0]? := by rw [List.getElem?_drop, Nat.add_zero]
  rw [e, codeN_drop n i h]
  by_cases z : n / pw i < 16
  · rw [codeN_low z, if_pos z]
    rfl
  · rw [codeN_up z, if_neg z]
    rfl
theorem pos_in (n : Nat) : ∀ i, i < (codeN n).length → i = 0 ∨ 0 < n / pw i
  | 0, _ => .inl rfl
  | i + 1, h => .inr (by
    have z : ¬ n / pw i < 16 := fun z => by
      have := (codeN_end n i (by omega)).mp z
      omega
    rw [div_succ]
    omega)
def spRead : Sp := fun vs H Q _ => ∃ (L rest : List Nat) (st n : Nat), vs = [.str (txt L), .int (st : Int)] ∧ L.length ≤ 90000 ∧ L.drop st = codeN n ++ rest ∧ st + (codeN n).length ≤ L.length ∧
  ∀ p, H p = none → Q (.ref p) (upd H p (.tup [.int (n : Int), .int ((st + (codeN n).length : Nat) : Int)]))
theorem L_at {L rest : List Nat} {st n : Nat} (h : L.drop st = codeN n ++ rest) {i : Nat} (hi : i < (codeN n).length) : L[st + i]? = (codeN n)[i]? := by
  rw [← List.getElem?_drop, h, List.getElem?_append_left hi]
set_option maxHeartbeats 8000000 in
theorem ok_read_number (T : TX K mg A FD TK CC) : FnOk P w K mg base CX0 1 (A 39) (FD 39) ["text", "start"] spRead := by
  refine T.f_read_number.ok sc_read_number (fun vs H Q E h => ?_) (fun cdv A' outer s H vs Q E hr h => ?_)
  · obtain ⟨L, rest, st, n, rfl, _⟩ := h
    rfl
  · obtain ⟨L, rest, st, n, rfl, hL, hd, hle, q⟩ := h
    have cp := codeN_pos n
    have tlL : (txt L).length = L.length := txt_len L
    refine ⟨_, (pss_cons (ps_set (i := 2) sc_read_number.nd rfl (.inl rfl) pe_int)
      (pss_cons (ps_set (i := 3) sc_read_number.nd rfl (.inl rfl) pe_int)
      (pss_cons (ps_for PassesOwn.never rfl (pi_range2 (by rfl) T.m_range (pa_cons (pv 1) (pa_cons (pe_callB call_len_str (by rfl) T.m_len (by decide +kernel) (pa_cons (pv 0) pa_nil)) pa_nil))) (pg_name (i := 4) sc_read_number.nd rfl (.inl rfl))
      (pss_cons (ps_set (i := 5) sc_read_number.nd rfl (.inl rfl) (pe_bm PySem.F.plainAttrs_str PySem.F.slot_str_find PySem.F.type_str_find mt_find (pe_glob (v := .str "abcdefghijklmnop") (by rfl) T.c_LAST_DIGITS ⟨_, rfl⟩) (pa_cons (pe_ix ix_str (pv 0) (pv 4) (fun _ _ => rfl)) pa_nil)))
      (pss_cons (ps_if (PW.pt (pw_or (pt_cmpR op_gt (pv 5) pe_int (nomark _)) (pw_or1 (PW.pt (pw_and (pt_cmpR op_eq (pv 5) pe_int (nomark _)) (pw_and1 (pt_cmpR op_eq (pv 4) (pv 1) (nomark _))))))))
      (pss_one (ps_ret (pe_tup (pa_cons (pe_op op_add (pv 2) (pe_op op_mul (pv 5) (pv 3))) (pa_cons (pe_op op_add (pv 4) pe_int) pa_nil)))))
      pss_nil)
      (pss_cons (ps_set (i := 6) sc_read_number.nd rfl (.inl rfl) (pe_bm PySem.F.plainAttrs_str PySem.F.slot_str_find PySem.F.type_str_find mt_find (pe_glob (v := .str "ABCDEFGHIJKLMNOP") (by rfl) T.c_DIGITS_AHEAD ⟨_, rfl⟩) (pa_cons (pe_ix ix_str (pv 0) (pv 4) (fun _ _ => rfl)) pa_nil)))
      (pss_cons (ps_if (pt_cmpR op_lt (pv 6) pe_int (nomark _))
      (pss_one ps_never)
      pss_nil)
      (pss_cons (ps_aug (i := 2) sc_read_number.nd rfl (.inl rfl) (pe_op op_mul (pv 6) (pv 3)) ip_add)
      (pss_one (ps_aug (i := 3) sc_read_number.nd rfl (.inl rfl) pe_int ip_mulI))))))))
      (pss_one ps_never)))), ?_⟩
    refine ⟨.int (st : Int), rfl, .str (txt L), rfl, txt L, rfl, sz (by omega), (st : Int), ((txt L).length : Int), rfl, by omega, ?_⟩
    refine for_range (lo := (st : Int)) (n := (((txt L).length : Int) - (st : Int)).toNat) (fun i σ' H' => H' = H ∧ i < (codeN n).length ∧ ∃ o4 o5 o6, σ' = [some (.str (txt L)), some (.int (st : Int)), some (.int ((n % pw i : Nat) : Int)), some (.int ((pw i : Nat) : Int)), o4, o5, o6]) ⟨rfl, by omega, none, none, none, ?_⟩ (fun i σ' H' hi p => ?_) (fun σ' H' p => ?_)
    · rw [show pw 0 = 1 from rfl, Nat.mod_one]
      rfl
    · obtain ⟨rfl, hi2, o4, o5, o6, rfl⟩ := p
      have g := (L_at hd hi2).trans (codeN_head n i hi2)
      have ga : atI (txt L).cps.toList ((st : Int) + (i : Int)) = some (if n / pw i < 16 then 97 + n / pw i else 65 + n / pw i % 16) := by
        rw [show (st : Int) + (i : Int) = ((st + i : Nat) : Int) by omega]
        exact atI_nat g
      refine ⟨rfl, .str (txt L), rfl, .int ((st : Int) + (i : Int)), rfl, txt L, _, _, rfl, rfl, sz (by omega), ga, loS, one _, rfl, rfl, ?_⟩
      by_cases z : n / pw i < 16
      · have zl := (codeN_end n i hi2).mp z
        rw [if_pos z, lo_find _ z]
        have fin : ∀ p, H' p = none → Q (.ref p) (upd H' p (.tup [.int (((n % pw i : Nat) : Int) + ((n / pw i : Nat) : Int) * ((pw i : Nat) : Int)), .int ((st : Int) + (i : Int) + 1)])) := fun p np => by
          have e1 : ((n % pw i : Nat) : Int) + ((n / pw i : Nat) : Int) * ((pw i : Nat) : Int) = (n : Int) := by
            rw [← Int.natCast_mul, ← Int.natCast_add, split_at]
          have e2 : (st : Int) + (i : Int) + 1 = ((st + (codeN n).length : Nat) : Int) := by omega
          rw [e1, e2]
          exact q p np
        have cm : CMul ((n / pw i : Nat) : Int) ((pw i : Nat) : Int) := .inl ⟨Int.lt_of_lt_of_le (by decide) (Int.natCast_nonneg _), Int.lt_trans (Int.ofNat_lt.mpr z) (by decide)⟩
        refine ⟨.int ((n / pw i : Nat) : Int), rfl, _, 0, rfl, rfl, _, rfl, ite2 (fun c => ?_) (fun c => ?_)⟩
        · exact ⟨.int _, rfl, .int ((n / pw i : Nat) : Int), rfl, .int ((pw i : Nat) : Int), rfl, _, _, rfl, rfl, cm, _, _, rfl, rfl, .int ((st : Int) + (i : Int)), rfl, _, 1, rfl, rfl, by show 2 ≤ sizeLine; decide, fin⟩
        · have m0 : n / pw i = 0 := by
            have : ¬ (0 : Int) < ((n / pw i : Nat) : Int) := fun y => c (decide_eq_true y)
            exact Nat.eq_zero_of_not_pos fun h => this (Int.ofNat_lt.mpr h)
          have i0 : i = 0 := by
            rcases pos_in n i hi2 with k | k
            · exact k
            · omega
          refine ⟨.int ((n / pw i : Nat) : Int), rfl, rfl, _, rfl, ite2 (fun _ => ?_) (fun c2 => ?_)⟩
          · refine ⟨.int ((st : Int) + (i : Int)), rfl, .int (st : Int), rfl, rfl, _, rfl, ite2 (fun _ => ?_) (fun c3 => ?_)⟩
            · exact ⟨.int _, rfl, .int ((n / pw i : Nat) : Int), rfl, .int ((pw i : Nat) : Int), rfl, _, _, rfl, rfl, cm, _, _, rfl, rfl, .int ((st : Int) + (i : Int)), rfl, _, 1, rfl, rfl, by show 2 ≤ sizeLine; decide, fin⟩
            · refine absurd (decide_eq_true ?_) c3
              rw [i0]
              show V.int ((st : Int) + 0) = V.int (st : Int)
              rw [Int.add_zero]
          · refine absurd (decide_eq_true ?_) c2
            rw [m0]
            rfl
      · have zl : (codeN n).length ≠ i + 1 := fun e => z ((codeN_end n i hi2).mpr e)
        have m16 : n / pw i % 16 < 16 := Nat.mod_lt _ (by decide)
        rw [if_neg z] at ga
        rw [if_neg z, lo_none _ m16]
        refine ⟨.int (-1), rfl, _, 0, rfl, rfl, _, rfl, ite2 (fun c => absurd c (by decide)) (fun _ => ?_)⟩
        refine ⟨.int (-1), rfl, rfl, _, rfl, ite2 (fun c => absurd c (by decide)) (fun _ => ?_)⟩
        refine ⟨rfl, .str (txt L), rfl, .int ((st : Int) + (i : Int)), rfl, txt L, _, _, rfl, rfl, sz (by omega), ga, upS, one _, rfl, rfl, ?_⟩
        rw [up_find _ m16]
        refine ⟨.int ((n / pw i % 16 : Nat) : Int), rfl, _, 0, rfl, rfl, _, rfl, ite2 (fun c => ?_) (fun _ => ?_)⟩
        · have : ((n / pw i % 16 : Nat) : Int) < 0 := of_decide_eq_true c
          omega
        have cm : CMul ((n / pw i % 16 : Nat) : Int) ((pw i : Nat) : Int) := .inl ⟨by omega, by omega⟩
        have cm2 : CMul ((pw i : Nat) : Int) 16 := .inr ⟨by decide, by decide⟩
        refine ⟨.int ((n % pw i : Nat) : Int), rfl, .int ((n / pw i % 16 : Nat) : Int), rfl, .int ((pw i : Nat) : Int), rfl, _, _, rfl, rfl, cm, _, _, rfl, rfl, .int ((pw i : Nat) : Int), rfl, _, 16, rfl, rfl, cm2, rfl, by omega, some (.int ((st : Int) + (i : Int))), some (.int (-1)), some (.int ((n / pw i % 16 : Nat) : Int)), ?_⟩
        have e1 : ((n % pw i : Nat) : Int) + ((n / pw i % 16 : Nat) : Int) * ((pw i : Nat) : Int) = ((n % pw (i + 1) : Nat) : Int) := by
          rw [mod_succ', Int.natCast_add, Int.natCast_mul]
        have e2 : ((pw i : Nat) : Int) * 16 = ((pw (i + 1) : Nat) : Int) := by
          rw [pw_succ, Int.natCast_mul]
          rfl
        rw [← e1, ← e2]
        rfl
    · obtain ⟨rfl, hi2, _⟩ := p
      exfalso
      omega
def spReads : Sp := fun vs H Q _ => ∃ (L rest : List Nat) (st : Nat) (ns : List Nat), vs = [.str (txt L), .int (st : Int), .int (ns.length : Int)] ∧ L.length ≤ 90000 ∧ ns.length ≤ 900 ∧ L.drop st = codeL ns ++ rest ∧ st + (codeL ns).length ≤ L.length ∧
  ∀ (l p : Addr) (H' : Hp), H l = none → H p = none → Ex H H' → H' l = some (.lst (nvs ns)) → H' p = some (.tup [.ref l, .int ((st + (codeL ns).length : Nat) : Int)]) → Q (.ref p) H'
theorem codeL_cons (n : Nat) (r : List Nat) : codeL (n :: r) = codeN n ++ codeL r := by
  unfold codeL
  rw [List.map_cons, List.flatten_cons]
theorem codeL_app (a b : List Nat) : codeL (a ++ b) = codeL a ++ codeL b := by
  unfold codeL
  rw [List.map_append, List.flatten_append]
def spRisen (K : PySem.W.Frag) : Sp := fun vs H Q _ => ∃ (a : Addr) (xs : List Nat), vs = [.ref a] ∧ SqL K H a (nvs (gapsL xs)) ∧ Ris xs ∧ xs.length ≤ 900 ∧ ∀ (l : Addr) (H' : Hp), H l = none → Ex H H' → H' l = some (.lst (nvs xs)) → Q (.ref l) H'
theorem gaps_at {xs : List Nat} {i g : Nat} (e : (gapsL xs)[i]? = some g) : i < xs.length ∧ g = gapI xs i := by
  have h := (List.getElem?_eq_some_iff.mp e).1
  rw [gapsL_len] at h
  refine ⟨h, ?_⟩
  unfold gapsL at e
  rw [List.getElem?_map, List.getElem?_range h] at e
  exact (Option.some.inj e).symm
set_option maxHeartbeats 4000000 in
theorem ok_risen (T : TX K mg A FD TK CC) : FnOk P w K mg base CX0 1 (A 37) (FD 37) ["gaps"] (spRisen K) := by
  refine T.f_risen.ok sc_risen (fun vs H Q E h => ?_) (fun cdv A' outer s H vs Q E hr h => ?_)
  · obtain ⟨a, xs, rfl, _⟩ := h
    rfl
  · obtain ⟨a, xs, rfl, hS, hR, hn, q⟩ := h
    refine ⟨_, (pss_cons (ps_set (i := 1) sc_risen.nd rfl (.inl rfl) (pe_lst pa_nil))
      (pss_cons (ps_set (i := 2) sc_risen.nd rfl (.inl rfl) (pe_un un_neg pe_int))
      (pss_cons (ps_for PassesOwn.never rfl (piLK (K := K) rfl (pv 0)) (pg_name (i := 3) sc_risen.nd rfl (.inl rfl))
      (pss_cons (ps_aug (i := 2) sc_risen.nd rfl (.inl rfl) (pe_op op_add (pv 3) pe_int) ip_add)
      (pss_one (ps_expr (pe_bm PySem.F.plainAttrs_list PySem.F.slot_list_append PySem.F.type_list_append mt_append (pv 1) (pa_cons (pv 2) pa_nil))))))
      (pss_one (ps_ret (pv 1)))))), ?_⟩
    refine ⟨Nat.zero_le _, fun D nD => ⟨1, rfl, ?_⟩⟩
    have e1 : Ex H (upd H D (.lst [])) := Ex.new nD
    refine ⟨.ref a, rfl, a, rfl, ⟨_, ex_l e1 hS⟩, ?_⟩
    refine for_list (K := K) (xs := nvs (gapsL xs)) (fun i σ' H' => (∃ o, σ' = [some (.ref a), some (.ref D), some (.int (ah xs i)), o]) ∧ H' D = some (.lst (nvs (xs.take i))) ∧ Ex H H') ⟨⟨none, rfl⟩, upd_same, e1⟩ (fun i σ' H' _ p => ex_l p.2.2 hS) (fun i x σ' H1 g p => ?_) (fun σ' H1 p => ?_)
    · obtain ⟨⟨o, rfl⟩, hD, x1⟩ := p
      obtain ⟨gg, gn, rfl, _⟩ := nvs_at g
      obtain ⟨il, rfl⟩ := gaps_at gn
      have gx : xs[i]? = some xs[i] := List.getElem?_eq_getElem il
      have gi := gap_is hR gx
      have e2 : ah xs i + (((gapI xs i : Nat) : Int) + 1) = ah xs (i + 1) := by
        rw [← gi, ah, getD_at gx]
        omega
      refine ⟨.int (ah xs i), rfl, .int ((gapI xs i : Nat) : Int), rfl, _, 1, rfl, rfl, _, _, rfl, rfl, .ref D, rfl, .inl ⟨rfl, _, SqL.of hD⟩, .int (ah xs (i + 1)), ?_, D, _, _, rfl, rfl, hD, ?_, ⟨some (.int ((gapI xs i : Nat) : Int)), ?_⟩, ?_, Ex.mut x1 nD⟩
      · rw [← e2]
        rfl
      · rw [nvs_len, List.length_take]
        exact sz_lt (by omega)
      · rw [← e2]
        rfl
      · rw [upd_same, take_up gx, nvs_snoc, ah, getD_at gx]
    · obtain ⟨⟨o, rfl⟩, hD, x1⟩ := p
      rw [nvs_len, gapsL_len, List.take_length] at hD
      exact ⟨.ref D, rfl, q D H1 nD x1 hD⟩
def lenAt (D : Addr) (H : Hp) : Nat := match H D with
  | some (.lst xs) => xs.length
  | _ => 0
theorem lenAt_is {D : Addr} {H : Hp} {xs : List V} (h : H D = some (.lst xs)) : lenAt D H = xs.length := by
  unfold lenAt
  rw [h]
theorem drop_more {L a b : List Nat} {st : Nat} (h : L.drop st = a ++ b) : L.drop (st + a.length) = b := by
  rw [← List.drop_drop, h, List.drop_left' rfl]
set_option maxHeartbeats 8000000 in
theorem ok_read_numbers (T : TX K mg A FD TK CC) : FnOk P w K mg base CX0 2 (A 40) (FD 40) ["text", "at", "many"] spReads := by
  have G_read_number := ok_read_number (P := P) (w := w) (base := base) T
  refine T.f_read_numbers.ok (k := 1) sc_read_numbers (fun vs H Q E h => ?_) (fun cdv A' outer s H vs Q E hr h => ?_)
  · obtain ⟨L, rest, st, ns, rfl, _⟩ := h
    rfl
  · obtain ⟨L, rest, st, ns, rfl, hL, hn, hd, hle, q⟩ := h
    refine ⟨_, (pss_cons (ps_set (i := 3) sc_read_numbers.nd rfl (.inl rfl) (pe_lst pa_nil))
      (pss_cons (ps_while PassesOwn.never (pt_cmpR op_lt (pe_callB (lenK (K := K) rfl) (by rfl) T.m_len (by decide +kernel) (pa_cons (pv 3) pa_nil)) (pv 2) (nomark _))
      (pss_cons (ps_asg (pe_call G_read_number hr (by rfl) T.g_read_number T.f_read_number.kp T.b_read_number .nil pass0 (pa_cons (pv 0) (pa_cons (pv 1) pa_nil))) (pg_tup rfl (pgs_cons (pg_name (i := 4) sc_read_numbers.nd rfl (.inl rfl)) (pgs_cons (pg_name (i := 1) sc_read_numbers.nd rfl (.inl rfl)) pgs_nil))))
      (pss_one (ps_expr (pe_bm PySem.F.plainAttrs_list PySem.F.slot_list_append PySem.F.type_list_append mt_append (pv 3) (pa_cons (pv 4) pa_nil))))))
      (pss_one (ps_ret (pe_tup (pa_cons (pv 3) (pa_cons (pv 1) pa_nil))))))), ?_⟩
    refine ⟨Nat.zero_le _, fun D nD => ?_⟩
    refine while_by (fun σ' H' => ∃ (i : Nat) (o : Option V), i ≤ ns.length ∧ σ' = [some (.str (txt L)), some (.int ((st + (codeL (ns.take i)).length : Nat) : Int)), some (.int (ns.length : Int)), some (.ref D), o] ∧ H' D = some (.lst (nvs (ns.take i))) ∧ Ex H H') (fun _ H' => ns.length - lenAt D H') ⟨0, none, Nat.zero_le _, rfl, upd_same, Ex.new nD⟩ (fun σ' H' p => ?_) (fun σ' H' Q Q' m h => ?_)
    · obtain ⟨i, o, hi, rfl, hD, x⟩ := p
      have li : (nvs (ns.take i)).length = i := by
        rw [nvs_len, List.length_take]
        omega
      refine ⟨.ref D, rfl, D, _, rfl, .inl (SqL.of hD), .int (ns.length : Int), rfl, _, _, rfl, rfl, _, rfl, ite2 (fun c => ?_) (fun c => ?_)⟩
      · rw [li] at c
        have il : i < ns.length := by
          have : (i : Int) < (ns.length : Int) := of_decide_eq_true c
          omega
        have gi : ns[i]? = some ns[i] := List.getElem?_eq_getElem il
        have hsp : codeL ns = codeL (ns.take i) ++ (codeN ns[i] ++ codeL (ns.drop (i + 1))) := by
          rw [← codeL_cons, ← codeL_app, List.getElem_cons_drop, List.take_append_drop]
        have hd2 : L.drop (st + (codeL (ns.take i)).length) = codeN ns[i] ++ (codeL (ns.drop (i + 1)) ++ rest) := by
          refine drop_more (a := codeL (ns.take i)) ?_
          rw [hd, hsp]
          simp
        have hl2 : (codeL ns).length = (codeL (ns.take i)).length + ((codeN ns[i]).length + (codeL (ns.drop (i + 1))).length) := by
          rw [hsp, List.length_append, List.length_append]
        refine ⟨.str (txt L), rfl, .int ((st + (codeL (ns.take i)).length : Nat) : Int), rfl, L, _, _, ns[i], rfl, hL, hd2, by omega, fun t nt => ?_⟩
        have x2 := x.trans (Ex.new (o := .tup [.int (ns[i] : Int), .int ((st + (codeL (ns.take i)).length + (codeN ns[i]).length : Nat) : Int)]) nt)
        have hD2 := (Ex.new (o := .tup [.int (ns[i] : Int), .int ((st + (codeL (ns.take i)).length + (codeN ns[i]).length : Nat) : Int)]) nt) _ _ hD
        have ht := upd_same (H := H') (a := t) (o := .tup [.int (ns[i] : Int), .int ((st + (codeL (ns.take i)).length + (codeN ns[i]).length : Nat) : Int)])
        generalize upd H' t (.tup [.int (ns[i] : Int), .int ((st + (codeL (ns.take i)).length + (codeN ns[i]).length : Nat) : Int)]) = H2 at x2 hD2 ht ⊢
        refine ⟨t, _, rfl, SqT.of ht, rfl, _, _, rfl, _, _, rfl, rfl, .ref D, rfl, .inl ⟨rfl, _, SqL.of hD2⟩, .int (ns[i] : Int), rfl, D, _, _, rfl, rfl, hD2, sz_lt (by omega), ⟨i + 1, some (.int (ns[i] : Int)), by omega, ?_, ?_, Ex.mut x2 nD⟩, ?_⟩
        · have e : (codeL (ns.take (i + 1))).length = (codeL (ns.take i)).length + (codeN ns[i]).length := by
            rw [take_up gi, codeL_app, List.length_append]
            simp [codeL]
          rw [e, ← Nat.add_assoc]
          rfl
        · rw [upd_same, take_up gi, nvs_snoc]
        · show ns.length - lenAt D (upd H2 D _) < ns.length - lenAt D H'
          rw [lenAt_is upd_same, lenAt_is hD, List.length_append, li]
          show ns.length - (i + 1) < ns.length - i
          omega
      · rw [li] at c
        have ie : i = ns.length := by
          have : ¬ (i : Int) < (ns.length : Int) := fun z => c (decide_eq_true z)
          omega
        subst ie
        rw [List.take_length] at hD ⊢
        exact ⟨.ref D, rfl, .int ((st + (codeL ns).length : Nat) : Int), rfl, by show 2 ≤ sizeLine; decide, fun p np => q D p _ nD (fresh_back x np) (x.trans (Ex.new np)) ((Ex.new np) _ _ hD) upd_same⟩
    · obtain ⟨v, hv, a, xs, e, hS, w', hw, i, j, e1, e2, k, hk, hq⟩ := h
      exact ⟨v, hv, a, xs, e, hS, w', hw, i, j, e1, e2, k, hk, m _ _ hq⟩
def spCkT : Sp := fun vs H Q _ => ∃ z : Str, vs = [.str z] ∧ Q .non H
set_option maxHeartbeats 4000000 in
theorem ok_check_text (T : TX K mg A FD TK CC) : FnOk P w K mg base CX0 1 (A 38) (FD 38) ["text"] spCkT := by
  refine T.f_check_text.ok sc_check_text (fun vs H Q E h => ?_) (fun cdv A' outer s H vs Q E hr h => ?_)
  · obtain ⟨z, rfl, _⟩ := h
    rfl
  · obtain ⟨z, rfl, q⟩ := h
    refine ⟨_, (pss_one (ps_if (pt_not (pt_val (pe_callB (isiK (K := K) rfl) (by rfl) T.m_isinstance (by decide +kernel) (pa_cons (pv 0) (pa_cons (pe_bltn (v := .ty "str") (by rfl) T.m_str (by decide +kernel) rfl) pa_nil)))))
      (pss_one ps_never)
      pss_nil)), ?_⟩
    exact ⟨.str z, rfl, .str z, .ty "str", .type "str", .type "str", true, rfl, .ty _, .base (.str z), kit_ty (by decide +kernel), _, rfl, ite2 (fun c => absurd c (by decide)) (fun _ => q)⟩
def restE (es : List (Nat × List Nat)) : List Nat := ((es.map codeP).flatten).flatten
theorem codeE_flat (es : List (Nat × List Nat)) : (codeE es).flatten = codeN es.length ++ (codeL (gapsL (slots es)) ++ restE es) := by
  unfold codeE restE
  simp
theorem restE_app (a b : List (Nat × List Nat)) : restE (a ++ b) = restE a ++ restE b := by
  unfold restE
  rw [List.map_append, List.flatten_append, List.flatten_append]
theorem restE_one (e : Nat × List Nat) : restE [e] = codeN (e.2.length - 1) ++ codeL (gapsL e.2) := by
  unfold restE codeP
  simp
theorem restE_cons (e : Nat × List Nat) (r : List (Nat × List Nat)) : restE (e :: r) = codeN (e.2.length - 1) ++ (codeL (gapsL e.2) ++ restE r) := by
  have := restE_app [e] r
  rw [restE_one, List.append_assoc] at this
  exact this
theorem EnsA.mono {H H' : Hp} {xs : List V} {es : List (Nat × List Nat)} (h : EnsA H xs es) (k : ∀ b zs, H b = some (.tup zs) → H' b = some (.tup zs)) : EnsA H' xs es := ⟨h.1, fun i e g => by
  obtain ⟨a, h1, t, h2, h3⟩ := h.2 i e g
  exact ⟨a, h1, t, k _ _ h2, k _ _ h3⟩⟩
theorem EnsA.snoc {H : Hp} {xs : List V} {es : List (Nat × List Nat)} {a : Addr} {e : Nat × List Nat} (h : EnsA H xs es) (g : EnA H a e) : EnsA H (xs ++ [.ref a]) (es ++ [e]) := by
  refine ⟨by rw [List.length_append, List.length_append, h.1]; rfl, fun i f q => ?_⟩
  by_cases l : i < es.length
  · rw [List.getElem?_append_left l] at q
    obtain ⟨b, h1, h2⟩ := h.2 i f q
    exact ⟨b, by rw [List.getElem?_append_left (by rw [h.1]; exact l)]; exact h1, h2⟩
  · rw [List.getElem?_append_right (by omega)] at q
    have i0 : i - es.length = 0 := by
      have := (List.getElem?_eq_some_iff.mp q).1
      simp at this
      omega
    rw [i0] at q
    cases q
    exact ⟨a, by rw [List.getElem?_append_right (by rw [h.1]; omega), h.1, i0]; rfl, g⟩
def spDec (K : PySem.W.Frag) : Sp := fun vs H Q _ => ∃ es : List (Nat × List Nat), vs = [.str (txt (codeE es).flatten)] ∧ Ens es ∧ (codeE es).flatten.length ≤ 90000 ∧ ∀ (l : Addr) (xs : List V) (H' : Hp), H l = none → Ex H H' → H' l = some (.lst xs) → EnsA H' xs es → Q (.ref l) H'
set_option maxHeartbeats 16000000 in
theorem ok_decode_entries (T : TX K mg A FD TK CC) : FnOk P w K mg base CX0 3 (A 31) (FD 31) ["text"] (spDec K) := by
  have G_check_text := (ok_check_text (P := P) (w := w) (base := base) T).mono (show 1 ≤ 2 by decide)
  have G_read_number := (ok_read_number (P := P) (w := w) (base := base) T).mono (show 1 ≤ 2 by decide)
  have G_read_numbers := ok_read_numbers (P := P) (w := w) (base := base) T
  have G_risen := (ok_risen (P := P) (w := w) (base := base) T).mono (show 1 ≤ 2 by decide)
  refine T.f_decode_entries.ok (k := 2) sc_decode_entries (fun vs H Q E h => ?_) (fun cdv A' outer s H vs Q E hr h => ?_)
  · obtain ⟨es, rfl, _⟩ := h
    rfl
  · obtain ⟨es, rfl, hs, hL, q⟩ := h
    have few := hs.few
    have sl : (slots es).length = es.length := List.length_map ..
    have gl : (gapsL (slots es)).length = es.length := by rw [gapsL_len, sl]
    have fl := codeE_flat es
    have ll : (codeE es).flatten.length = (codeN es.length).length + ((codeL (gapsL (slots es))).length + (restE es).length) := by
      rw [fl, List.length_append, List.length_append]
    generalize hLL : (codeE es).flatten = L at fl ll hL ⊢
    refine ⟨_, (pss_cons (ps_expr (pe_call G_check_text hr (by rfl) T.g_check_text T.f_check_text.kp T.b_check_text .nil pass0 (pa_cons (pv 0) pa_nil)))
      (pss_cons (ps_asg (pe_call G_read_number hr (by rfl) T.g_read_number T.f_read_number.kp T.b_read_number .nil pass0 (pa_cons (pv 0) (pa_cons pe_int pa_nil))) (pg_tup rfl (pgs_cons (pg_name (i := 1) sc_decode_entries.nd rfl (.inl rfl)) (pgs_cons (pg_name (i := 2) sc_decode_entries.nd rfl (.inl rfl)) pgs_nil))))
      (pss_cons (ps_asg (pe_call G_read_numbers hr (by rfl) T.g_read_numbers T.f_read_numbers.kp T.b_read_numbers .nil pass0 (pa_cons (pv 0) (pa_cons (pv 2) (pa_cons (pv 1) pa_nil)))) (pg_tup rfl (pgs_cons (pg_name (i := 3) sc_decode_entries.nd rfl (.inl rfl)) (pgs_cons (pg_name (i := 2) sc_decode_entries.nd rfl (.inl rfl)) pgs_nil))))
      (pss_cons (ps_set (i := 4) sc_decode_entries.nd rfl (.inl rfl) (pe_lst pa_nil))
      (pss_cons (ps_for PassesOwn.never rfl (piLK (K := K) rfl (pe_call G_risen hr (by rfl) T.g_risen T.f_risen.kp T.b_risen .nil pass0 (pa_cons (pv 3) pa_nil))) (pg_name (i := 5) sc_decode_entries.nd rfl (.inl rfl))
      (pss_cons (ps_asg (pe_call G_read_number hr (by rfl) T.g_read_number T.f_read_number.kp T.b_read_number .nil pass0 (pa_cons (pv 0) (pa_cons (pv 2) pa_nil))) (pg_tup rfl (pgs_cons (pg_name (i := 6) sc_decode_entries.nd rfl (.inl rfl)) (pgs_cons (pg_name (i := 2) sc_decode_entries.nd rfl (.inl rfl)) pgs_nil))))
      (pss_cons (ps_asg (pe_call G_read_numbers hr (by rfl) T.g_read_numbers T.f_read_numbers.kp T.b_read_numbers .nil pass0 (pa_cons (pv 0) (pa_cons (pv 2) (pa_cons (pe_op op_add (pv 6) pe_int) pa_nil)))) (pg_tup rfl (pgs_cons (pg_name (i := 7) sc_decode_entries.nd rfl (.inl rfl)) (pgs_cons (pg_name (i := 2) sc_decode_entries.nd rfl (.inl rfl)) pgs_nil))))
      (pss_one (ps_expr (pe_bm PySem.F.plainAttrs_list PySem.F.slot_list_append PySem.F.type_list_append mt_append (pv 4) (pa_cons (pe_tup (pa_cons (pv 5) (pa_cons (pe_callTy (tupK (K := K) rfl) (by rfl) T.m_tuple (by decide +kernel) (pa_cons (pe_call G_risen hr (by rfl) T.g_risen T.f_risen.kp T.b_risen .nil pass0 (pa_cons (pv 7) pa_nil)) pa_nil)) pa_nil))) pa_nil)))))))
      (pss_cons (ps_if (pt_cmpR op_lt (pv 2) (pe_callB call_len_str (by rfl) T.m_len (by decide +kernel) (pa_cons (pv 0) pa_nil)) (nomark _))
      (pss_one ps_never)
      pss_nil)
      (pss_one (ps_ret (pv 4))))))))), ?_⟩
    refine ⟨.str (txt L), rfl, txt L, rfl, .str (txt L), rfl, L, codeL (gapsL (slots es)) ++ restE es, 0, es.length, rfl, hL, ?_, by omega, fun t1 nt1 => ?_⟩
    · rw [List.drop_zero]
      exact fl
    have e1 := Ex.new (o := .tup [.int (es.length : Int), .int ((0 + (codeN es.length).length : Nat) : Int)]) nt1
    have h1 := upd_same (H := H) (a := t1) (o := .tup [.int (es.length : Int), .int ((0 + (codeN es.length).length : Nat) : Int)])
    generalize upd H t1 (.tup [.int (es.length : Int), .int ((0 + (codeN es.length).length : Nat) : Int)]) = H1 at e1 h1 ⊢
    rw [Nat.zero_add] at h1
    refine ⟨t1, _, rfl, SqT.of h1, rfl, _, _, rfl, _, _, rfl, rfl, .str (txt L), rfl, .int (((codeN es.length).length : Nat) : Int), rfl, .int (es.length : Int), rfl, L, restE es, (codeN es.length).length, gapsL (slots es), ?_, hL, by omega, ?_, by omega, fun lg t2 H2 nlg nt2 e2 hlg h2 => ?_⟩
    · rw [gl]
      rfl
    · rw [fl, List.drop_left' rfl]
    refine ⟨t2, _, rfl, SqT.of h2, rfl, _, _, rfl, _, _, rfl, rfl, Nat.zero_le _, fun D nD => ?_⟩
    have x2 : Ex H H2 := e1.trans e2
    have nD0 : H D = none := fresh_back x2 nD
    refine ⟨.ref lg, rfl, lg, slots es, rfl, SqL.of ((Ex.new nD) _ _ hlg), hs.ris, by omega, fun ls H3 nls e3 hls => ?_⟩
    have x3 : Ex H H3 := (x2.trans (Ex.new nD)).trans e3
    have hD3 : H3 D = some (.lst []) := e3 _ _ upd_same
    have nlsD : ls ≠ D := (ne_of_none (upd_same (H := H2) (a := D) (o := .lst [])) nls).symm
    refine ⟨ls, rfl, ⟨_, SqL.of hls⟩, ?_⟩
    refine for_list (K := K) (xs := nvs (slots es)) (fun i σ' H' => (∃ o5 o6 o7, σ' = [some (.str (txt L)), some (.int (es.length : Int)), some (.int (((codeN es.length).length + (codeL (gapsL (slots es))).length + (restE (es.take i)).length : Nat) : Int)), some (.ref lg), some (.ref D), o5, o6, o7]) ∧ (∃ ys, H' D = some (.lst ys) ∧ EnsA H' ys (es.take i)) ∧ H' ls = some (.lst (nvs (slots es))) ∧ Ex H H')
      ⟨⟨none, none, none, rfl⟩, ⟨[], hD3, rfl, fun i e g => by simp at g⟩, hls, x3⟩ (fun i σ' H' _ p => SqL.of p.2.2.1) (fun i v σ' H4 gv p => ?_) (fun σ' H4 p => ?_)
    · obtain ⟨⟨o5, o6, o7, rfl⟩, ⟨ys, hD4, hE4⟩, hls4, x4⟩ := p
      obtain ⟨sn, gs, rfl, il⟩ := nvs_at gv
      have il2 : i < es.length := by omega
      have ge : es[i]? = some es[i] := List.getElem?_eq_getElem il2
      have es1 := slots_at ge
      rw [gs] at es1
      cases es1
      have he := hs.ok es[i] (List.getElem_mem il2)
      have hfew := he.few
      have hsome := he.some
      have hsp : restE es = restE (es.take i) ++ (codeN (es[i].2.length - 1) ++ (codeL (gapsL es[i].2) ++ restE (es.drop (i + 1)))) := by
        rw [← restE_cons, ← restE_app, List.getElem_cons_drop, List.take_append_drop]
      have hl2 := congrArg List.length hsp
      rw [List.length_append, List.length_append, List.length_append] at hl2
      have d0 : L.drop ((codeN es.length).length + (codeL (gapsL (slots es))).length + (restE (es.take i)).length) = codeN (es[i].2.length - 1) ++ (codeL (gapsL es[i].2) ++ restE (es.drop (i + 1))) := by
        refine drop_more (a := restE (es.take i)) ?_
        rw [← hsp]
        refine drop_more (a := codeL (gapsL (slots es))) ?_
        rw [fl, List.drop_left' rfl]
      generalize ha0 : (codeN es.length).length + (codeL (gapsL (slots es))).length + (restE (es.take i)).length = a0 at d0 ⊢
      refine ⟨.str (txt L), rfl, .int (a0 : Int), rfl, L, _, a0, es[i].2.length - 1, rfl, hL, d0, by omega, fun t5 nt5 => ?_⟩
      have e5 := Ex.new (o := .tup [.int ((es[i].2.length - 1 : Nat) : Int), .int ((a0 + (codeN (es[i].2.length - 1)).length : Nat) : Int)]) nt5
      have h5 := upd_same (H := H4) (a := t5) (o := .tup [.int ((es[i].2.length - 1 : Nat) : Int), .int ((a0 + (codeN (es[i].2.length - 1)).length : Nat) : Int)])
      generalize upd H4 t5 (.tup [.int ((es[i].2.length - 1 : Nat) : Int), .int ((a0 + (codeN (es[i].2.length - 1)).length : Nat) : Int)]) = H5 at e5 h5 ⊢
      have g2 : (gapsL es[i].2).length = es[i].2.length := gapsL_len _
      refine ⟨t5, _, rfl, SqT.of h5, rfl, _, _, rfl, _, _, rfl, rfl, .str (txt L), rfl, .int _, rfl, .int _, rfl, _, 1, rfl, rfl, L, restE (es.drop (i + 1)), a0 + (codeN (es[i].2.length - 1)).length, gapsL es[i].2, ?_, hL, by omega, drop_more d0, by omega, fun lp t6 H6 nlp nt6 e6 hlp h6 => ?_⟩
      · rw [g2]
        show [V.str (txt L), V.int ((a0 + (codeN (es[i].2.length - 1)).length : Nat) : Int), V.int (((es[i].2.length - 1 : Nat) : Int) + 1)] = _
        rw [show ((es[i].2.length - 1 : Nat) : Int) + 1 = (es[i].2.length : Int) by omega]
      have x6 : Ex H4 H6 := e5.trans e6
      refine ⟨t6, _, rfl, SqT.of h6, rfl, _, _, rfl, _, _, rfl, rfl, .ref D, rfl, .inl ⟨rfl, _, SqL.of (x6 _ _ hD4)⟩, .int _, rfl, .ref lp, rfl, lp, es[i].2, rfl, SqL.of hlp, he.ris, by omega, fun lr H7 nlr e7 hlr => ?_⟩
      refine ⟨lr, _, rfl, .inl ⟨SqL.of hlr, fun tp ntp => ?_⟩⟩
      have e8 := Ex.new (o := .tup (nvs es[i].2)) ntp
      have h8 := upd_same (H := H7) (a := tp) (o := .tup (nvs es[i].2))
      generalize upd H7 tp (.tup (nvs es[i].2)) = H8 at e8 h8 ⊢
      refine ⟨by show 2 ≤ sizeLine; decide, fun te nte => ?_⟩
      have e9 := Ex.new (o := .tup [.int (es[i].1 : Int), .ref tp]) nte
      have h9 := upd_same (H := H8) (a := te) (o := .tup [.int (es[i].1 : Int), .ref tp])
      have x9 : Ex H4 (upd H8 te (.tup [.int (es[i].1 : Int), .ref tp])) := ((x6.trans e7).trans e8).trans e9
      have h89 := e9 _ _ h8
      generalize upd H8 te (.tup [.int (es[i].1 : Int), .ref tp]) = H9 at e9 h9 x9 h89 ⊢
      have hD9 := x9 _ _ hD4
      have lys : ys.length ≤ 60 := by
        rw [hE4.1, List.length_take]
        omega
      refine ⟨D, _, _, rfl, rfl, hD9, sz_lt (by omega), ⟨some (.int (es[i].1 : Int)), some (.int ((es[i].2.length - 1 : Nat) : Int)), some (.ref lp), ?_⟩, ⟨ys ++ [.ref te], upd_same, ?_⟩, ?_, Ex.mut (x4.trans x9) nD0⟩
      · have e : (restE (es.take (i + 1))).length = (restE (es.take i)).length + ((codeN (es[i].2.length - 1)).length + (codeL (gapsL es[i].2)).length) := by
          rw [take_up ge, restE_app, restE_one, List.length_append, List.length_append]
        rw [e, show (codeN es.length).length + (codeL (gapsL (slots es))).length + ((restE (es.take i)).length + ((codeN (es[i].2.length - 1)).length + (codeL (gapsL es[i].2)).length)) = a0 + (codeN (es[i].2.length - 1)).length + (codeL (gapsL es[i].2)).length by omega]
        rfl
      · have k : ∀ b zs, H9 b = some (.tup zs) → (upd H9 D (.lst (ys ++ [.ref te]))) b = some (.tup zs) := fun b zs hb => by
          rw [upd_ne (ne_of hb hD9 (by intro z; cases z))]
          exact hb
        rw [take_up ge]
        exact ((hE4.ex x9).mono k).snoc ⟨tp, k _ _ h9, k _ _ h89⟩
      · rw [upd_ne nlsD]
        exact x9 _ _ hls4
    · obtain ⟨⟨o5, o6, o7, rfl⟩, ⟨ys, hD4, hE4⟩, hls4, x4⟩ := p
      rw [nvs_len, sl, List.take_length] at hE4
      refine ⟨.int _, rfl, .str (txt L), rfl, txt L, rfl, sz (by rw [txt_len]; omega), _, _, rfl, rfl, _, rfl, ite2 (fun c => ?_) (fun _ => ?_)⟩
      · rw [nvs_len, sl, List.take_length, txt_len] at c
        have := of_decide_eq_true c
        omega
      · exact ⟨.ref D, rfl, q D ys H4 nD0 x4 hD4 hE4⟩
abbrev En := Nat × List Nat
def zsI (ns : List Nat) : List Int := ns.map fun (n : Nat) => (n : Int)
theorem nvs_zs (ns : List Nat) : nvs ns = (zsI ns).map V.int := by
  unfold nvs zsI
  rw [List.map_map]
  rfl
theorem zsI_len (ns : List Nat) : (zsI ns).length = ns.length := List.length_map ..
def mxL : List Nat → Nat
  | [] => 0
  | x :: r => max x (mxL r)
def mnL : List Nat → Nat
  | [] => 0
  | [x] => x
  | x :: y :: r => min x (mnL (y :: r))
theorem mxL_ge : ∀ {ns : List Nat} {n : Nat}, n ∈ ns → n ≤ mxL ns
  | x :: r, n, h => by
    rcases List.mem_cons.mp h with rfl | h
    · exact Nat.le_max_left ..
    · exact Nat.le_trans (mxL_ge h) (Nat.le_max_right ..)
theorem mxL_mem : ∀ {ns : List Nat}, ns ≠ [] → mxL ns ∈ ns
  | [x], _ => by simp [mxL]
  | x :: y :: r, _ => by
    have i := mxL_mem (ns := y :: r) (by simp)
    show max x (mxL (y :: r)) ∈ _
    rcases Nat.le_total x (mxL (y :: r)) with h | h
    · rw [Nat.max_eq_right h]
      exact List.mem_cons_of_mem _ i
    · rw [Nat.max_eq_left h]
      exact List.mem_cons_self ..
theorem mnL_le : ∀ {ns : List Nat} {n : Nat}, n ∈ ns → mnL ns ≤ n
  | [x], n, h => by
    rw [List.mem_singleton.mp h]
    exact Nat.le_refl _
  | x :: y :: r, n, h => by
    show min x (mnL (y :: r)) ≤ n
    rcases List.mem_cons.mp h with rfl | h
    · exact Nat.min_le_left ..
    · exact Nat.le_trans (Nat.min_le_right ..) (mnL_le h)
theorem mnL_mem : ∀ {ns : List Nat}, ns ≠ [] → mnL ns ∈ ns
  | [x], _ => by simp [mnL]
  | x :: y :: r, _ => by
    have i := mnL_mem (ns := y :: r) (by simp)
    show min x (mnL (y :: r)) ∈ _
    rcases Nat.le_total x (mnL (y :: r)) with h | h
    · rw [Nat.min_eq_left h]
      exact List.mem_cons_self ..
    · rw [Nat.min_eq_right h]
      exact List.mem_cons_of_mem _ i
theorem zs_mem {ns : List Nat} {m : Int} (h : m ∈ zsI ns) : ∃ n : Nat, n ∈ ns ∧ m = (n : Int) := by
  obtain ⟨n, hn, e⟩ := List.mem_map.mp h
  exact ⟨n, hn, e.symm⟩
theorem mem_zs {ns : List Nat} {n : Nat} (h : n ∈ ns) : (n : Int) ∈ zsI ns := List.mem_map.mpr ⟨n, h, rfl⟩
theorem mx_is {ns : List Nat} {m : Int} (hm : m ∈ zsI ns) (hx : ∀ y, y ∈ zsI ns → y ≤ m) : m = ((mxL ns : Nat) : Int) := by
  obtain ⟨n, hn, rfl⟩ := zs_mem hm
  have a := mxL_ge hn
  have b := hx _ (mem_zs (mxL_mem (fun z => by rw [z] at hn; cases hn)))
  omega
theorem mn_is {ns : List Nat} {m : Int} (hm : m ∈ zsI ns) (hx : ∀ y, y ∈ zsI ns → m ≤ y) : m = ((mnL ns : Nat) : Int) := by
  obtain ⟨n, hn, rfl⟩ := zs_mem hm
  have a := mnL_le hn
  have b := hx _ (mem_zs (mnL_mem (fun z => by rw [z] at hn; cases hn)))
  omega
/-- the i-th block of s entries -/
def cutE (es : List En) (s i : Nat) : List En := (es.drop (i * s)).take s
def nb (n s : Nat) : Nat := (n + s - 1) / s
theorem nb_lt {n s i : Nat} (hs : 0 < s) : i < nb n s ↔ i * s < n := by
  unfold nb
  rw [Nat.lt_div_iff_mul_lt hs]
  omega
theorem nb_mul {n s : Nat} (hs : 0 < s) : n ≤ nb n s * s := by
  rcases Nat.lt_or_ge (nb n s * s) n with h | h
  · exact absurd ((nb_lt hs).mpr h) (Nat.lt_irrefl _)
  · exact h
theorem nb_le {n s : Nat} (hs : 0 < s) : nb n s ≤ n := by
  rcases Nat.lt_or_ge n (nb n s) with h | h
  · have := (nb_lt hs).mp h
    have : n ≤ n * s := Nat.le_mul_of_pos_right _ hs
    omega
  · exact h
theorem cutE_len (es : List En) (s i : Nat) : (cutE es s i).length = min s (es.length - i * s) := by
  unfold cutE
  rw [List.length_take, List.length_drop]
theorem cutE_pos {es : List En} {s i : Nat} (hs : 0 < s) (hi : i < nb es.length s) : 0 < (cutE es s i).length := by
  have := (nb_lt hs).mp hi
  rw [cutE_len]
  omega
theorem cutE_mem {es : List En} {s i : Nat} {e : En} (h : e ∈ cutE es s i) : e ∈ es := List.mem_of_mem_drop (List.mem_of_mem_take h)
theorem cutE_at {es : List En} {s i j : Nat} {e : En} (h : (cutE es s i)[j]? = some e) : es[i * s + j]? = some e ∧ j < s := by
  unfold cutE at h
  rw [List.getElem?_take] at h
  by_cases hj : j < s
  · rw [if_pos hj, List.getElem?_drop] at h
    exact ⟨h, hj⟩
  · rw [if_neg hj] at h
    cases h
theorem ah_ge (xs : List Nat) (i : Nat) : -1 ≤ ah xs i := by
  cases i with
  | zero => exact Int.le_refl _
  | succ i =>
    show (-1 : Int) ≤ ((xs.getD i 0 : Nat) : Int)
    omega
theorem ris_drop {xs : List Nat} (h : Ris xs) (k : Nat) : Ris (xs.drop k) := fun i x g => by
  rw [List.getElem?_drop] at g
  cases i with
  | zero =>
    show (-1 : Int) < (x : Int)
    omega
  | succ i =>
    have := h _ _ g
    rw [show k + (i + 1) = (k + i) + 1 by omega] at this
    show ((((xs.drop k).getD i 0 : Nat)) : Int) < (x : Int)
    have e : (xs.drop k).getD i 0 = xs.getD (k + i) 0 := by
      rw [List.getD_eq_getElem?_getD, List.getElem?_drop, List.getD_eq_getElem?_getD]
    rw [e]
    exact this
theorem ris_take {xs : List Nat} (h : Ris xs) (k : Nat) : Ris (xs.take k) := fun i x g => by
  rw [List.getElem?_take] at g
  by_cases hi : i < k
  · rw [if_pos hi] at g
    have := h _ _ g
    cases i with
    | zero => exact this
    | succ i =>
      show ((((xs.take k).getD i 0 : Nat)) : Int) < (x : Int)
      have e : (xs.take k).getD i 0 = xs.getD i 0 := by
        rw [List.getD_eq_getElem?_getD, List.getElem?_take, if_pos (by omega), List.getD_eq_getElem?_getD]
      rw [e]
      exact this
  · rw [if_neg hi] at g
    cases g
theorem cutE_slots (es : List En) (s i : Nat) : slots (cutE es s i) = ((slots es).drop (i * s)).take s := by
  unfold slots cutE
  rw [List.map_take, List.map_drop]
theorem Ens.cut {es : List En} (h : Ens es) (s i : Nat) : Ens (cutE es s i) := ⟨fun e he => h.ok e (cutE_mem he), by rw [cutE_slots]; exact ris_take (ris_drop h.ris _) _, by
  have := h.few
  rw [cutE_len]
  omega⟩
/-- small entries: the code stays short -/
def Sml (es : List En) : Prop := ∀ e ∈ es, e.1 < 256 ∧ ∀ n ∈ e.2, n < 256
theorem Sml.cut {es : List En} (h : Sml es) (s i : Nat) : Sml (cutE es s i) := fun e he => h e (cutE_mem he)
theorem codeL_len2 {ns : List Nat} (h : ∀ n ∈ ns, n < 256) : (codeL ns).length ≤ ns.length * 2 := by
  induction ns with
  | nil => exact Nat.zero_le _
  | cons n r ih =>
    have a := codeN_len 1 n (h n (List.mem_cons_self ..))
    have b := ih fun m hm => h m (List.mem_cons_of_mem _ hm)
    unfold codeL at b ⊢
    rw [List.map_cons, List.flatten_cons, List.length_append, List.length_cons, Nat.add_mul]
    omega
theorem gaps_lt {xs : List Nat} {B : Nat} (h : ∀ n ∈ xs, n < B) : ∀ g ∈ gapsL xs, g < B := fun g hg => by
  obtain ⟨j, hj, rfl⟩ := List.mem_map.mp hg
  have jl : j < xs.length := List.mem_range.mp hj
  have hx := h xs[j] (List.getElem_mem jl)
  have e : xs.getD j 0 = xs[j] := getD_at (List.getElem?_eq_getElem jl)
  have a1 := ah_ge xs j
  unfold gapI
  rw [e]
  omega
theorem codeP_len2 {es : List En} (h : Ens es) (k : Sml es) : (restE es).length ≤ es.length * 242 := by
  have ok := h.ok
  clear h
  induction es with
  | nil => exact Nat.zero_le _
  | cons e r ih =>
    have he := ok e (List.mem_cons_self ..)
    have ke := k e (List.mem_cons_self ..)
    have i := ih (fun f hf => k f (List.mem_cons_of_mem _ hf)) (fun f hf => ok f (List.mem_cons_of_mem _ hf))
    have c := he.few
    have a := codeN_len 1 (e.2.length - 1) (show e.2.length - 1 < 256 by omega)
    have b := codeL_len2 (gaps_lt ke.2)
    rw [gapsL_len] at b
    rw [restE_cons, List.length_append, List.length_append, List.length_cons, Nat.add_mul]
    omega
theorem codeE_len2 {es : List En} (h : Ens es) (k : Sml es) : (codeE es).flatten.length ≤ 2 + es.length * 244 := by
  have f := h.few
  have a := codeN_len 1 es.length (show es.length < 256 by omega)
  have b := codeL_len2 (gaps_lt (xs := slots es) (B := 256) fun n hn => by
    obtain ⟨e, he, rfl⟩ := List.mem_map.mp hn
    exact (k e he).1)
  rw [gapsL_len] at b
  have l : (slots es).length = es.length := List.length_map ..
  have c := codeP_len2 h k
  rw [codeE_flat, List.length_append, List.length_append]
  omega
theorem EnsA.cut {H : Hp} {xs : List V} {es : List En} (h : EnsA H xs es) (s i : Nat) : EnsA H ((xs.drop (i * s)).take s) (cutE es s i) := by
  refine ⟨?_, fun j e g => ?_⟩
  · rw [cutE_len, List.length_take, List.length_drop, h.1]
  · obtain ⟨g1, hj⟩ := cutE_at g
    obtain ⟨a, h1, h2⟩ := h.2 _ _ g1
    exact ⟨a, by rw [List.getElem?_take, if_pos hj, List.getElem?_drop]; exact h1, h2⟩
def fstE (es : List En) : Nat := (slots es).headD 0
def lstE (es : List En) : Nat := (slots es).getLastD 0
def mostE (es : List En) : Nat := mxL (es.map fun e => e.2.length)
def leastE (es : List En) (ls : List Nat) : Nat := mnL (es.map fun e => ls.getD e.1 0)
def headE (es : List En) (ls : List Nat) : List Nat := [fstE es, lstE es, es.length, mostE es, leastE es ls]
def blkF (es : List En) (ls : List Nat) : List (Str × V) := [("first", .int (fstE es : Nat)), ("last", .int (lstE es : Nat)), ("many", .int (es.length : Nat)), ("most", .int (mostE es : Nat)), ("least", .int (leastE es ls : Nat)), ("coded", .str (txt (codeE es).flatten))]
def BlkAt (C : Addr) (H : Hp) (b : Addr) (es : List En) (ls : List Nat) : Prop := ∃ dx, H b = some (.ins C dx (blkF es ls))
theorem BlkAt.ex {C : Addr} {H H' : Hp} {b : Addr} {es : List En} {ls : List Nat} (h : BlkAt C H b es ls) (x : Ex H H') : BlkAt C H' b es ls := by
  obtain ⟨dx, h⟩ := h
  exact ⟨dx, x _ _ h⟩
theorem fst_at {es : List En} {e : En} (g : es[0]? = some e) : fstE es = e.1 := by
  cases es with
  | nil => cases g
  | cons a r =>
    cases g
    rfl
theorem lst_at {es : List En} {e : En} (g : es[es.length - 1]? = some e) : lstE es = e.1 := by
  unfold lstE
  rw [List.getLastD_eq_getLast?, List.getLast?_eq_getElem?]
  have l : (slots es).length = es.length := List.length_map ..
  rw [l, slots_at g]
  rfl
theorem atI_end {α : Type} {xs : List α} {x : α} (g : xs[xs.length - 1]? = some x) : atI xs (-1) = some x := by
  have hl := (List.getElem?_eq_some_iff.mp g).1
  have e : ixN xs.length (-1) = some (xs.length - 1) := by
    unfold ixN
    rw [if_neg (by decide), if_pos (by omega)]
    congr 1
    omega
  unfold atI
  rw [e]
  exact g
/-- entries and the lengths of pages that fit -/
structure Fit (es : List En) (ls : List Nat) : Prop where
  few : ls.length ≤ 60
  most : ∀ n ∈ ls, n ≤ 120
  fit : ∀ e ∈ es, e.1 < ls.length ∧ ∀ n ∈ e.2, n < ls.getD e.1 0
theorem getD_mem {ls : List Nat} {i : Nat} (h : i < ls.length) : ls.getD i 0 ∈ ls := by
  rw [getD_at (List.getElem?_eq_getElem h)]
  exact List.getElem_mem h
theorem Fit.sml {es : List En} {ls : List Nat} (h : Fit es ls) : Sml es := fun e he => by
  obtain ⟨a, b⟩ := h.fit e he
  have := h.few
  refine ⟨by omega, fun n hn => ?_⟩
  have c := b n hn
  have d := h.most _ (getD_mem a)
  omega
theorem Fit.cut {es : List En} {ls : List Nat} (h : Fit es ls) (s i : Nat) : Fit (cutE es s i) ls := ⟨h.few, h.most, fun e he => h.fit e (cutE_mem he)⟩
def spCkWd : Sp := fun vs H Q _ => ∃ z : Str, vs = [.str z] ∧ isW z = true ∧ ∀ H', Ex H H' → Q .non H'
set_option maxHeartbeats 4000000 in
theorem ok_check_word (T : TX K mg A FD TK CC) : FnOk P w K mg base CX0 2 (A 48) (FD 48) ["word"] spCkWd := by
  have G_is_word := ok_is_word (P := P) (w := w) (base := base) T
  refine T.f_check_word.ok sc_check_word (fun vs H Q E h => ?_) (fun cdv A' outer s H vs Q E hr h => ?_)
  · obtain ⟨z, rfl, _⟩ := h
    rfl
  · obtain ⟨z, rfl, hz, q⟩ := h
    refine ⟨_, (pss_one (ps_if (pt_not (pt_val (pe_call G_is_word hr (by rfl) T.g_is_word T.f_is_word.kp T.b_is_word .nil pass0 (pa_cons (pv 0) pa_nil))))
      (pss_one ps_never)
      pss_nil)), ?_⟩
    refine ⟨.str z, rfl, z, rfl, by have := isW_len hz; omega, fun H1 e1 => ⟨_, rfl, ?_⟩⟩
    rw [hz]
    exact iteF (q _ e1)
def spCkSz : Sp := fun vs H Q _ => ∃ n : Nat, vs = [.int (n : Int)] ∧ 1 ≤ n ∧ n ≤ 8 ∧ ∀ H', Ex H H' → Q .non H'
set_option maxHeartbeats 4000000 in
theorem ok_check_size (T : TX K mg A FD TK CC) : FnOk P w K mg base CX0 3 (A 56) (FD 56) ["size"] spCkSz := by
  have G_is_within := ok_is_within (P := P) (w := w) (base := base) T
  refine T.f_check_size.ok sc_check_size (fun vs H Q E h => ?_) (fun cdv A' outer s H vs Q E hr h => ?_)
  · obtain ⟨n, rfl, _⟩ := h
    rfl
  · obtain ⟨n, rfl, h1, h2, q⟩ := h
    refine ⟨_, (pss_one (ps_if (pt_not (pt_val (pe_call G_is_within hr (by rfl) T.g_is_within T.f_is_within.kp T.b_is_within .nil pass0 (pa_cons (pv 0) (pa_cons pe_int (pa_cons (pe_glob (v := .int 8) (by rfl) T.c_MOST_SIZE ⟨_, rfl⟩) pa_nil))))))
      (pss_one ps_never)
      pss_nil)), ?_⟩
    refine ⟨.int (n : Int), rfl, n, 1, 8, rfl, fun H1 e1 => ⟨_, rfl, ?_⟩⟩
    rw [decide_eq_true (show (1 : Int) ≤ n by omega), decide_eq_true (show (n : Int) ≤ 8 by omega)]
    exact q _ e1
def spCkLn : Sp := fun vs H Q _ => ∃ (m : Addr) (ls : List Nat), vs = [.ref m] ∧ H m = some (.lst (nvs ls)) ∧ ls.length ≤ 60 ∧ (∀ n ∈ ls, n ≤ 120) ∧ ∀ H', Ex H H' → Q .non H'
set_option maxHeartbeats 4000000 in
theorem ok_check_lengths (T : TX K mg A FD TK CC) : FnOk P w K mg base CX0 3 (A 55) (FD 55) ["lengths"] spCkLn := by
  have G_is_within := ok_is_within (P := P) (w := w) (base := base) T
  refine T.f_check_lengths.ok sc_check_lengths (fun vs H Q E h => ?_) (fun cdv A' outer s H vs Q E hr h => ?_)
  · obtain ⟨m, ls, rfl, _⟩ := h
    rfl
  · obtain ⟨m, ls, rfl, hm, hl, hb, q⟩ := h
    refine ⟨_, (pss_cons (ps_if (PW.pt (pw_or (pt_not (pt_val (pe_callB (isiK (K := K) rfl) (by rfl) T.m_isinstance (by decide +kernel) (pa_cons (pv 0) (pa_cons (pe_bltn (v := .ty "list") (by rfl) T.m_list (by decide +kernel) rfl) pa_nil))))) (pw_or1 (pt_cmpR op_gt (pe_callB (lenK (K := K) rfl) (by rfl) T.m_len (by decide +kernel) (pa_cons (pv 0) pa_nil)) (pe_glob (v := .int 60) (by rfl) T.c_MOST_LENGTHS ⟨_, rfl⟩) (nomark _)))))
      (pss_one ps_never)
      pss_nil)
      (pss_one (ps_if (pt_not (pt_val (pe_callB (allK (K := K) rfl rfl) (by rfl) T.m_all (by decide +kernel) (pa_cons (pe_lc (own := [("length", 1)])  rfl sc_check_lengths.nd (piLK (K := K) rfl (pv 0)) (blkOk_by (own := [("length", 1)]) (N := N_check_lengths) (sc := defScope (topS 55)) (by decide +kernel)) (fun _ _ _ _ _ => (pg_name (i := 1) sc_check_lengths.nd rfl (Or.inl rfl))) (fun _ _ _ _ _ => pts_nil) (fun _ _ _ _ _ => (pe_call G_is_within hr (by rfl) T.g_is_within T.f_is_within.kp T.b_is_within .nil pass0 (pa_cons (pv 1) (pa_cons pe_int (pa_cons (pe_glob (v := .int 120) (by rfl) T.c_MOST_WORDS ⟨_, rfl⟩) pa_nil)))))) pa_nil))))
      (pss_one ps_never)
      pss_nil))), ?_⟩
    refine ⟨.ref m, rfl, .ref m, .ty "list", .type "list", .type "list", true, rfl, .ty _, .base (.lst hm), kit_ty (by decide +kernel), true, rfl, ?_⟩
    refine ⟨.ref m, rfl, m, _, rfl, .inl (SqL.of hm), _, 60, rfl, rfl, _, rfl, ite2 (fun c => ?_) (fun _ => ?_)⟩
    · have c : (60 : Int) < ((nvs ls).length : Int) := of_decide_eq_true c
      rw [nvs_len] at c
      omega
    refine ⟨.ref m, rfl, m, rfl, ⟨_, SqL.of hm⟩, fun D hD => ?_⟩
    refine lc_list (K := K) (xs := nvs ls) (fun i H' => Ex H H' ∧ H' D = some (.lst ((List.replicate i true).map V.bl))) ⟨Ex.new hD, upd_same⟩ (fun i H' _ p => ex_l p.1 (SqL.of hm)) (fun i x H2 hx p => ?_) (fun H2 p => ?_)
    · obtain ⟨p1, p2⟩ := p
      obtain ⟨n, gn, rfl, il⟩ := nvs_at hx
      have bn := hb n (List.mem_of_getElem? gn)
      refine ⟨rfl, .int (n : Int), rfl, n, 0, 120, rfl, fun H3 e3 => ⟨_, e3 _ _ p2, ?_, Ex.mut (p1.trans e3) hD, ?_⟩⟩
      · rw [List.length_map, List.length_replicate]
        exact sz_lt (by omega)
      · rw [upd_same, List.replicate_succ', List.map_append, decide_eq_true (show (0 : Int) ≤ n by omega), decide_eq_true (show (n : Int) ≤ 120 by omega)]
        rfl
    · obtain ⟨p1, p2⟩ := p
      refine ⟨D, _, rfl, SqL.of p2, _, rfl, ?_⟩
      rw [show (List.replicate (nvs ls).length true).all id = true by simp]
      exact q _ p1
def spCkFt (K : PySem.W.Frag) : Sp := fun vs H Q _ => ∃ (l m : Addr) (xs : List V) (es : List En) (ls : List Nat), vs = [.ref l, .ref m] ∧ H l = some (.lst xs) ∧ EnsA H xs es ∧ Ens es ∧ H m = some (.lst (nvs ls)) ∧ Fit es ls ∧ ∀ H', Ex H H' → Q .non H'
set_option maxHeartbeats 4000000 in
theorem ok_check_fit (T : TX K mg A FD TK CC) : FnOk P w K mg base CX0 1 (A 57) (FD 57) ["entries", "lengths"] (spCkFt K) := by
  refine T.f_check_fit.ok sc_check_fit (fun vs H Q E h => ?_) (fun cdv A' outer s H vs Q E hr h => ?_)
  · obtain ⟨l, m, xs, es, ls, rfl, _⟩ := h
    rfl
  · obtain ⟨l, m, xs, es, ls, rfl, hl, hE, hN, hm, hF, q⟩ := h
    refine ⟨_, (pss_one (ps_for PassesOwn.never rfl (pi_enum (by rfl) T.m_enumerate (pa_cons (pv 0) pa_nil)) (pg_tup rfl (pgs_cons (pg_name (i := 2) sc_check_fit.nd rfl (.inl rfl)) (pgs_cons (pg_tup rfl (pgs_cons (pg_name (i := 3) sc_check_fit.nd rfl (.inl rfl)) (pgs_cons (pg_name (i := 4) sc_check_fit.nd rfl (.inl rfl)) pgs_nil))) pgs_nil)))
      (pss_one (ps_if (PW.pt (pw_or (pt_cmpR op_ge (pv 3) (pe_callB (lenK (K := K) rfl) (by rfl) T.m_len (by decide +kernel) (pa_cons (pv 1) pa_nil)) (nomark _)) (pw_or1 (pt_cmpR op_ge (pe_ix (ixTK (K := K) rfl) (pv 4) (pe_un un_neg pe_int) (fun _ _ => rfl)) (pe_ix (ixLK (K := K) rfl) (pv 1) (pv 3) (fun _ _ => rfl)) (nomark _)))))
      (pss_one ps_never)
      pss_nil)))), ?_⟩
    refine ⟨.ref l, rfl, l, _, rfl, SqL.of hl, ?_⟩
    refine for_it (walk_enum (K := K) (a := l) (xs := xs)) (fun i σ' H' => (∃ o1 o2 o3, σ' = [some (.ref l), some (.ref m), o1, o2, o3]) ∧ Ex H H') ⟨⟨none, none, none, rfl⟩, Ex.refl H⟩ (fun i σ' H' _ p => SqL.of (p.2 _ _ hl)) (fun i x σ' H1 H2 hi p y => ?_) (fun σ' H1 p => ?_)
    · obtain ⟨⟨o1, o2, o3, rfl⟩, x1⟩ := p
      obtain ⟨Tt, u1, u2, rfl, nT, rfl, g1, g2⟩ := y
      cases g1
      obtain ⟨e, a, ge, rfl, hA⟩ := hE.at g2
      have eT := Ex.new (o := .tup [V.int (i : Nat), .ref a]) nT
      have em := List.mem_of_getElem? ge
      obtain ⟨t, ha, ht⟩ := hA.ex (x1.trans eT)
      obtain ⟨f1, f2⟩ := hF.fit e em
      have hm2 := (x1.trans eT) _ _ hm
      have h0 := (hN.ok e em).some
      have last := f2 (e.2[e.2.length - 1]'(by omega)) (List.getElem_mem _)
      have gl : e.2[e.2.length - 1]? = some (e.2[e.2.length - 1]'(by omega)) := List.getElem?_eq_getElem _
      generalize e.2[e.2.length - 1]'(by omega) = y at last gl
      have gls : (nvs ls)[e.1]? = some (.int ((ls.getD e.1 0 : Nat) : Int)) := by
        unfold nvs
        rw [List.getElem?_map, List.getElem?_eq_getElem f1, getD_at (List.getElem?_eq_getElem f1)]
        rfl
      have gy : (nvs e.2)[(nvs e.2).length - 1]? = some (.int (y : Int)) := by
        rw [nvs_len]
        unfold nvs
        rw [List.getElem?_map, gl]
        rfl
      refine ⟨Tt, _, rfl, SqT.of upd_same, rfl, _, _, rfl, _, _, rfl, a, _, rfl, SqT.of ha, rfl, _, _, rfl, _, _, rfl, rfl, rfl, ?_⟩
      refine ⟨.int (e.1 : Int), rfl, .ref m, rfl, m, _, rfl, .inl (SqL.of hm2), _, _, rfl, rfl, _, rfl, ite2 (fun c => ?_) (fun _ => ?_)⟩
      · have c : ((nvs ls).length : Int) ≤ (e.1 : Int) := of_decide_eq_true c
        rw [nvs_len] at c
        omega
      refine ⟨.ref t, rfl, 1, rfl, t, _, -1, _, rfl, rfl, SqT.of ht, atI_end gy, .ref m, rfl, .int (e.1 : Int), rfl, m, _, _, _, rfl, rfl, SqL.of hm2, atI_nat gls, _, _, rfl, rfl, _, rfl, ite2 (fun c => ?_) (fun _ => ?_)⟩
      · have c : ((ls.getD e.1 0 : Nat) : Int) ≤ (y : Int) := of_decide_eq_true c
        omega
      · exact ⟨⟨_, _, _, rfl⟩, x1.trans eT⟩
    · obtain ⟨⟨o1, o2, o3, rfl⟩, x1⟩ := p
      exact q _ x1
/-- all but x stays -/
def ExI (x : Addr) (H H' : Hp) : Prop := ∀ b o, b ≠ x → H b = some o → H' b = some o
theorem ExI.new {H H' : Hp} {x dx : Addr} {o u : HO} (nx : H x = none) (nd : H dx = none) (i : ExI x (upd (upd H dx o) x u) H') : Ex H H' := fun c q h => by
  refine i c q (ne_of_none h nx) ?_
  rw [upd_ne (ne_of_none h nx), upd_ne (ne_of_none h nd)]
  exact h
theorem EnsA.keep {H H' : Hp} {xs : List V} {es : List En} {C x dx : Addr} {fs : List (Str × V)} (h : EnsA H xs es) (hx : H x = some (.ins C dx fs)) (i : ExI x H H') : EnsA H' xs es := h.mono fun b zs hb => i b _ (ne_of hb hx (by intro z; cases z)) hb
theorem lst_keep {H H' : Hp} {C x dx l : Addr} {fs : List (Str × V)} {xs : List V} (h : H l = some (.lst xs)) (hx : H x = some (.ins C dx fs)) (i : ExI x H H') : H' l = some (.lst xs) := i l _ (ne_of h hx (by intro z; cases z)) h
def spBIn (C : Addr) : Sp := fun vs H Q _ => ∃ (x dx l m : Addr) (xs : List V) (es : List En) (ls : List Nat), vs = [.ref x, .ref l, .ref m] ∧ H x = some (.ins C dx []) ∧ H l = some (.lst xs) ∧ EnsA H xs es ∧ Ens es ∧ 0 < es.length ∧ H m = some (.lst (nvs ls)) ∧ Fit es ls ∧
  ∀ H', ExI x H H' → H' x = some (.ins C dx (blkF es ls)) → Q .non H'
theorem fld_step {H0 : Hp} {H H1 : Hp} {C x dx : Addr} {fs : List (Str × V)} {f : Str} {v : V} (i : ExI x H0 H) (e : Ex H H1) (hx : H x = some (.ins C dx fs)) : ExI x H0 (upd H1 x (.ins C dx (putF f v fs))) ∧ (upd H1 x (.ins C dx (putF f v fs))) x = some (.ins C dx (putF f v fs)) :=
  ⟨fun b o nb h => by rw [upd_ne nb]; exact e _ _ (i _ _ nb h), upd_same⟩
set_option maxHeartbeats 8000000 in
theorem ok_binit (T : TX K mg A FD TK CC) : FnOk P w K mg base CX0 7 (A 74) (FD 74) ["self", "entries", "lengths"] (spBIn (A 53)) := by
  have G_code_entries := ok_code_entries (P := P) (w := w) (base := base) T
  refine T.f_Block_init.ok (k := 6) sc_Block_init (fun vs H Q E h => ?_) (fun cdv A' outer s H vs Q E hr h => ?_)
  · obtain ⟨x, dx, l, m, xs, es, ls, rfl, _⟩ := h
    rfl
  · obtain ⟨x, dx, l, m, xs, es, ls, rfl, hx, hl, hE, hN, h0, hm, hF, q⟩ := h
    refine ⟨_, (pss_cons (ps_fld (pv 0) (pe_ix (ixTK (K := K) rfl) (pe_ix (ixLK (K := K) rfl) (pv 1) pe_int (fun _ _ => rfl)) pe_int (fun _ _ => rfl)) rfl)
      (pss_cons (ps_fld (pv 0) (pe_ix (ixTK (K := K) rfl) (pe_ix (ixLK (K := K) rfl) (pv 1) (pe_un un_neg pe_int) (fun _ _ => rfl)) pe_int (fun _ _ => rfl)) rfl)
      (pss_cons (ps_fld (pv 0) (pe_callB (lenK (K := K) rfl) (by rfl) T.m_len (by decide +kernel) (pa_cons (pv 1) pa_nil)) rfl)
      (pss_cons (ps_fld (pv 0) (pe_callB (maxK (K := K) rfl rfl) (by rfl) T.m_max (by decide +kernel) (pa_cons (pe_lc (own := [("slot", 3), ("places", 4)])  rfl sc_Block_init.nd (piLK (K := K) rfl (pv 1)) (blkOk_by (own := [("slot", 3), ("places", 4)]) (N := N_Block_init) (sc := defScope (inClass (topS 53) 0)) (by decide +kernel)) (fun _ _ _ _ _ => (tupGK (K := K) (n := 2) rfl rfl (pgs_cons (pg_name (i := 3) sc_Block_init.nd rfl (Or.inl rfl)) (pgs_cons (pg_name (i := 4) sc_Block_init.nd rfl (Or.inl rfl)) pgs_nil)))) (fun _ _ _ _ _ => pts_nil) (fun _ _ _ _ _ => (pe_callB (lenK (K := K) rfl) (by rfl) T.m_len (by decide +kernel) (pa_cons (pv 4) pa_nil)))) pa_nil)) rfl)
      (pss_cons (ps_fld (pv 0) (pe_callB (minK (K := K) rfl rfl) (by rfl) T.m_min (by decide +kernel) (pa_cons (pe_lc (own := [("slot", 3), ("places", 4)])  rfl sc_Block_init.nd (piLK (K := K) rfl (pv 1)) (blkOk_by (own := [("slot", 3), ("places", 4)]) (N := N_Block_init) (sc := defScope (inClass (topS 53) 0)) (by decide +kernel)) (fun _ _ _ _ _ => (tupGK (K := K) (n := 2) rfl rfl (pgs_cons (pg_name (i := 3) sc_Block_init.nd rfl (Or.inl rfl)) (pgs_cons (pg_name (i := 4) sc_Block_init.nd rfl (Or.inl rfl)) pgs_nil)))) (fun _ _ _ _ _ => pts_nil) (fun _ _ _ _ _ => (pe_ix (ixLK (K := K) rfl) (pv 2) (pv 3) (fun _ _ => rfl)))) pa_nil)) rfl)
      (pss_one (ps_fld (pv 0) (pe_call G_code_entries hr (by rfl) T.g_code_entries T.f_code_entries.kp T.b_code_entries .nil pass0 (pa_cons (pv 1) pa_nil)) rfl))))))), ?_⟩
    have few := hN.few
    have ge0 : es[0]? = some es[0] := List.getElem?_eq_getElem h0
    have geL : es[es.length - 1]? = some (es[es.length - 1]'(by omega)) := List.getElem?_eq_getElem _
    obtain ⟨a0, g0, hA0⟩ := hE.2 _ _ ge0
    obtain ⟨aL, gL, hAL⟩ := hE.2 _ _ geL
    obtain ⟨t0, ha0, _⟩ := id hA0
    -- first
    refine ⟨.ref l, rfl, l, _, 0, _, rfl, rfl, SqL.of hl, atI_nat (j := 0) g0, a0, _, 0, _, rfl, rfl, SqT.of ha0, atI_nat (j := 0) rfl, .ref x, rfl, x, A 53, dx, [], rfl, hx, T.cl_Block, T.n_Block_first, (by show 0 < 1000; decide), ?_⟩
    obtain ⟨i1, hx1⟩ := fld_step (f := "first") (v := .int (es[0].1 : Nat)) (fun b o _ h => h) (Ex.refl H) hx
    generalize (upd H x (.ins (A 53) dx (putF "first" (.int (es[0].1 : Nat)) []))) = H1 at i1 hx1 ⊢
    -- last
    obtain ⟨tL, haL, _⟩ := id (show EnA H1 aL _ from ((hE.keep hx i1).2 _ _ geL).elim fun a h => by rw [gL] at h; cases h.1; exact h.2)
    refine ⟨.ref l, rfl, 1, rfl, l, _, -1, _, rfl, rfl, SqL.of (lst_keep hl hx i1), atI_end (by rw [hE.1]; exact gL), aL, _, 0, _, rfl, rfl, SqT.of haL, atI_nat (j := 0) rfl, .ref x, rfl, x, A 53, dx, _, rfl, hx1, T.cl_Block, T.n_Block_last, (by show 1 < 1000; decide), ?_⟩
    obtain ⟨i2, hx2⟩ := fld_step (f := "last") (v := .int ((es[es.length - 1]'(by omega)).1 : Nat)) i1 (Ex.refl H1) hx1
    generalize (upd H1 x (.ins (A 53) dx (putF "last" (.int ((es[es.length - 1]'(by omega)).1 : Nat)) (putF "first" (.int (es[0].1 : Nat)) [])))) = H2 at i2 hx2 ⊢
    -- many
    have hl2 := lst_keep hl hx i2
    refine ⟨.ref l, rfl, l, _, rfl, .inl (SqL.of hl2), .ref x, rfl, x, A 53, dx, _, rfl, hx2, T.cl_Block, T.n_Block_many, (by show 2 < 1000; decide), ?_⟩
    rw [hE.1]
    obtain ⟨i3, hx3⟩ := fld_step (f := "many") (v := .int (es.length : Nat)) i2 (Ex.refl H2) hx2
    generalize (upd H2 x (.ins (A 53) dx (putF "many" (.int (es.length : Nat)) _))) = H3 at i3 hx3 ⊢
    -- most
    have hl3 := lst_keep hl hx i3
    have hE3 := hE.keep hx i3
    refine ⟨.ref l, rfl, l, rfl, ⟨_, SqL.of hl3⟩, fun D nD => ?_⟩
    refine lc_list (K := K) (xs := xs) (fun i H' => Ex H3 H' ∧ H' D = some (.lst (nvs ((es.take i).map fun e => e.2.length)))) ⟨Ex.new nD, upd_same⟩ (fun i H' _ p => ex_l p.1 (SqL.of hl3)) (fun i v H4 hv p => ?_) (fun H4 p => ?_)
    · obtain ⟨p1, p2⟩ := p
      obtain ⟨e, a, ge, rfl, hA⟩ := hE3.at hv
      obtain ⟨t, ha, ht⟩ := hA.ex p1
      refine ⟨a, _, rfl, SqT.of ha, rfl, _, _, rfl, _, _, rfl, rfl, rfl, .ref t, rfl, t, _, rfl, .inr (SqT.of ht), _, p2, ?_, Ex.mut p1 nD, ?_⟩
      · rw [nvs_len, List.length_map, List.length_take]
        exact sz_lt (by omega)
      · rw [upd_same, take_up ge, List.map_append, nvs_len]
        exact congrArg (fun z => some (HO.lst z)) (nvs_snoc _ _).symm
    obtain ⟨e4, p2⟩ := p
    rw [hE.1, List.take_length, nvs_zs] at p2
    refine ⟨D, _, rfl, SqL.of p2, by rw [zsI_len, List.length_map]; exact h0, fun mm hmm hmx => ?_⟩
    rw [show mm = ((mostE es : Nat) : Int) from mx_is hmm hmx]
    have hx4 := e4 _ _ hx3
    refine ⟨.ref x, rfl, x, A 53, dx, _, rfl, hx4, T.cl_Block, T.n_Block_most, (by show 3 < 1000; decide), ?_⟩
    obtain ⟨i5, hx5⟩ := fld_step (f := "most") (v := .int (mostE es : Nat)) i3 e4 hx3
    generalize (upd H4 x (.ins (A 53) dx (putF "most" (.int (mostE es : Nat)) _))) = H5 at i5 hx5 ⊢
    -- least
    have hl5 := lst_keep hl hx i5
    have hE5 := hE.keep hx i5
    have hm5 := lst_keep hm hx i5
    refine ⟨.ref l, rfl, l, rfl, ⟨_, SqL.of hl5⟩, fun D2 nD2 => ?_⟩
    refine lc_list (K := K) (xs := xs) (fun i H' => Ex H5 H' ∧ H' D2 = some (.lst (nvs ((es.take i).map fun e => ls.getD e.1 0)))) ⟨Ex.new nD2, upd_same⟩ (fun i H' _ p => ex_l p.1 (SqL.of hl5)) (fun i v H6 hv p => ?_) (fun H6 p => ?_)
    · obtain ⟨p1, p2⟩ := p
      obtain ⟨e, a, ge, rfl, hA⟩ := hE5.at hv
      obtain ⟨t, ha, ht⟩ := hA.ex p1
      have f1 := (hF.fit e (List.mem_of_getElem? ge)).1
      have gls : (nvs ls)[e.1]? = some (.int ((ls.getD e.1 0 : Nat) : Int)) := by
        unfold nvs
        rw [List.getElem?_map, List.getElem?_eq_getElem f1, getD_at (List.getElem?_eq_getElem f1)]
        rfl
      refine ⟨a, _, rfl, SqT.of ha, rfl, _, _, rfl, _, _, rfl, rfl, rfl, .ref m, rfl, .int (e.1 : Int), rfl, m, _, _, _, rfl, rfl, SqL.of (p1 _ _ hm5), atI_nat gls, _, p2, ?_, Ex.mut p1 nD2, ?_⟩
      · rw [nvs_len, List.length_map, List.length_take]
        exact sz_lt (by omega)
      · rw [upd_same, take_up ge, List.map_append]
        exact congrArg (fun z => some (HO.lst z)) (nvs_snoc _ _).symm
    obtain ⟨e6, p2⟩ := p
    rw [hE.1, List.take_length, nvs_zs] at p2
    refine ⟨D2, _, rfl, SqL.of p2, by rw [zsI_len, List.length_map]; exact h0, fun mm hmm hmx => ?_⟩
    rw [show mm = ((leastE es ls : Nat) : Int) from mn_is hmm hmx]
    have hx6 := e6 _ _ hx5
    refine ⟨.ref x, rfl, x, A 53, dx, _, rfl, hx6, T.cl_Block, T.n_Block_least, (by show 4 < 1000; decide), ?_⟩
    obtain ⟨i7, hx7⟩ := fld_step (f := "least") (v := .int (leastE es ls : Nat)) i5 e6 hx5
    generalize (upd H6 x (.ins (A 53) dx (putF "least" (.int (leastE es ls : Nat)) _))) = H7 at i7 hx7 ⊢
    -- coded
    refine ⟨.ref l, rfl, l, xs, es, rfl, lst_keep hl hx i7, hE.keep hx i7, hN, fun H8 e8 => ?_⟩
    have hx8 := e8 _ _ hx7
    refine ⟨.ref x, rfl, x, A 53, dx, _, rfl, hx8, T.cl_Block, T.n_Block_coded, (by show 5 < 1000; decide), ?_⟩
    obtain ⟨i9, hx9⟩ := fld_step (f := "coded") (v := .str (txt (codeE es).flatten)) i7 e8 hx7
    refine q _ i9 (hx9.trans ?_)
    unfold blkF
    rw [fst_at ge0, lst_at geL]
    rfl
theorem rgc_of {n s : Nat} (h1 : 1 ≤ s) (h2 : s ≤ 1000) (h3 : n ≤ 100000) : RgC 0 (n : Int) (s : Int) (nb n s) := by
  have e : Builtin.Range.rangeSize 0 (n : Int) (s : Int) = ((nb n s : Nat) : Int) := by
    rw [rangeSize_pos (by omega) (by omega)]
    unfold nb
    rw [Int.natCast_ediv]
    congr 1
    omega
  have l := nb_le (n := n) (s := s) h1
  refine ⟨by omega, by omega, ?_, e⟩
  unfold Builtin.Range.small
  rw [e]
  simp only [Builtin.Range.rangeFitsLong, Bool.and_eq_true, Bool.or_eq_true, decide_eq_true_eq, beq_iff_eq]
  rw [if_pos (by omega)]
  refine ⟨⟨⟨⟨⟨by decide, by decide⟩, by omega, by omega⟩, by omega, by omega⟩, by omega, by omega⟩, .inr ?_⟩
  simp only [Bool.and_eq_true, decide_eq_true_eq]
  omega
theorem cutV_at {xs : List V} {i s : Nat} : cutV xs (some ((0 : Int) + (i : Nat) * (s : Int))) (some ((0 : Int) + (i : Nat) * (s : Int) + (s : Int))) = (xs.drop (i * s)).take s := by
  unfold cutV
  have e1 : (0 : Int) + (i : Nat) * (s : Int) = ((i * s : Nat) : Int) := by
    rw [Int.natCast_mul]
    omega
  rw [e1, show ((i * s : Nat) : Int) + (s : Int) = ((i * s + s : Nat) : Int) by omega, HT.sIx_nat, HT.sIx_nat]
  rcases Nat.le_total xs.length (i * s) with h | h
  · rw [Nat.min_eq_right h, Nat.min_eq_right (by omega), List.drop_of_length_le h, List.drop_of_length_le (Nat.le_refl _), List.take_nil, List.take_nil]
  · rw [Nat.min_eq_left h]
    rcases Nat.le_total xs.length (i * s + s) with k | k
    · rw [Nat.min_eq_right k, List.take_of_length_le (by rw [List.length_drop]; omega), List.take_of_length_le (by rw [List.length_drop]; omega)]
    · rw [Nat.min_eq_left k, show i * s + s - i * s = s by omega]
/-- the blocks at bs are those of es -/
def BlksAt (CB : Addr) (H : Hp) (bs : List Addr) (s : Nat) (es : List En) (ls : List Nat) : Prop := bs.length = nb es.length s ∧ ∀ (i : Nat) (b : Addr), bs[i]? = some b → BlkAt CB H b (cutE es s i) ls
structure RowIs (z : Str) (s : Nat) (es : List En) (ls : List Nat) : Prop where
  word : isW z = true
  lo : 1 ≤ s
  hi : s ≤ 8
  ens : Ens es
  fit : Fit es ls
def rowF (z : Str) (s : Nat) (t : Addr) : List (Str × V) := [("word", .str z), ("size", .int (s : Nat)), ("cut", .ref t)]
def RowAt (CR CB : Addr) (H : Hp) (r : Addr) (z : Str) (s : Nat) (es : List En) (ls : List Nat) : Prop := ∃ (dx t : Addr) (bs : List Addr), H r = some (.ins CR dx (rowF z s t)) ∧ H t = some (.tup (bs.map V.ref)) ∧ BlksAt CB H bs s es ls
theorem BlksAt.ex {CB : Addr} {H H' : Hp} {bs : List Addr} {s : Nat} {es : List En} {ls : List Nat} (h : BlksAt CB H bs s es ls) (x : Ex H H') : BlksAt CB H' bs s es ls := ⟨h.1, fun i b g => (h.2 i b g).ex x⟩
theorem RowAt.ex {CR CB : Addr} {H H' : Hp} {r : Addr} {z : Str} {s : Nat} {es : List En} {ls : List Nat} (h : RowAt CR CB H r z s es ls) (x : Ex H H') : RowAt CR CB H' r z s es ls := by
  obtain ⟨dx, t, bs, h1, h2, h3⟩ := h
  exact ⟨dx, t, bs, x _ _ h1, x _ _ h2, h3.ex x⟩
theorem refs_at {bs : List Addr} {i : Nat} {v : V} (g : (bs.map V.ref)[i]? = some v) : ∃ b, bs[i]? = some b ∧ v = .ref b ∧ i < bs.length := by
  rw [List.getElem?_map] at g
  cases e : bs[i]? with
  | none => rw [e] at g; cases g
  | some b =>
    rw [e] at g
    cases g
    exact ⟨b, rfl, rfl, (List.getElem?_eq_some_iff.mp e).1⟩
theorem ex2 {H : Hp} {x dx : Addr} {o u : HO} (nx : H x = none) (nd : H dx = none) : Ex H (upd (upd H dx o) x u) := fun c q h => by
  rw [upd_ne (ne_of_none h nx), upd_ne (ne_of_none h nd)]
  exact h
theorem BlkAt.updL {C D : Addr} {H : Hp} {b : Addr} {es : List En} {ls : List Nat} {xs : List V} {o : HO} (h : BlkAt C H b es ls) (hD : H D = some (.lst xs)) : BlkAt C (upd H D o) b es ls := by
  obtain ⟨dx, h⟩ := h
  exact ⟨dx, by rw [upd_ne (ne_of h hD (by intro z; cases z))]; exact h⟩
theorem snoc_at {α : Type} {l : List α} {x y : α} {j : Nat} (g : (l ++ [x])[j]? = some y) : (l[j]? = some y) ∨ (j = l.length ∧ y = x) := by
  by_cases h : j < l.length
  · rw [List.getElem?_append_left h] at g
    exact .inl g
  · rw [List.getElem?_append_right (by omega)] at g
    have : j - l.length = 0 := by
      have := (List.getElem?_eq_some_iff.mp g).1
      rw [List.length_singleton] at this
      omega
    rw [this] at g
    cases g
    exact .inr ⟨by omega, rfl⟩
def spRIn (CR CB : Addr) : Sp := fun vs H Q _ => ∃ (x dx l m : Addr) (xs : List V) (z : Str) (s : Nat) (es : List En) (ls : List Nat), vs = [.ref x, .str z, .ref l, .ref m, .int (s : Nat)] ∧ H x = some (.ins CR dx []) ∧ H l = some (.lst xs) ∧ EnsA H xs es ∧ H m = some (.lst (nvs ls)) ∧ RowIs z s es ls ∧
  ∀ (H' : Hp) (t : Addr) (bs : List Addr), ExI x H H' → H' x = some (.ins CR dx (rowF z s t)) → H' t = some (.tup (bs.map V.ref)) → BlksAt CB H' bs s es ls → Q .non H'
set_option maxHeartbeats 8000000 in
theorem ok_rinit (T : TX K mg A FD TK CC) : FnOk P w K mg base CX0 9 (A 77) (FD 77) ["self", "word", "entries", "lengths", "size"] (spRIn (A 54) (A 53)) := by
  have G_check_word := (ok_check_word (P := P) (w := w) (base := base) T).mono (show 2 ≤ 8 by decide)
  have G_check_entries := (ok_check_entries (P := P) (w := w) (base := base) T).mono (show 5 ≤ 8 by decide)
  have G_check_lengths := (ok_check_lengths (P := P) (w := w) (base := base) T).mono (show 3 ≤ 8 by decide)
  have G_check_size := (ok_check_size (P := P) (w := w) (base := base) T).mono (show 3 ≤ 8 by decide)
  have G_check_fit := (ok_check_fit (P := P) (w := w) (base := base) T).mono (show 1 ≤ 8 by decide)
  have G_Block := ok_binit (P := P) (w := w) (base := base) T
  have B2_Block := T.b_Block_init
  have R2_Block : Vals [] [] := .nil
  refine T.f_Row_init.ok (k := 8) sc_Row_init (fun vs H Q E h => ?_) (fun cdv A' outer s H vs Q E hr h => ?_)
  · obtain ⟨x, dx, l, m, xs, z, s, es, ls, rfl, _⟩ := h
    rfl
  · obtain ⟨x, dx, l, m, xs, z, s, es, ls, rfl, hx, hl, hE, hm, hR, q⟩ := h
    refine ⟨_, PSs.nox (pss_cons (ps_expr (pe_call G_check_word hr (by rfl) T.g_check_word T.f_check_word.kp T.b_check_word .nil pass0 (pa_cons (pv 1) pa_nil)))
      (pss_cons (ps_expr (pe_call G_check_entries hr (by rfl) T.g_check_entries T.f_check_entries.kp T.b_check_entries .nil pass0 (pa_cons (pv 2) pa_nil)))
      (pss_cons (ps_expr (pe_call G_check_lengths hr (by rfl) T.g_check_lengths T.f_check_lengths.kp T.b_check_lengths .nil pass0 (pa_cons (pv 3) pa_nil)))
      (pss_cons (ps_expr (pe_call G_check_size hr (by rfl) T.g_check_size T.f_check_size.kp T.b_check_size .nil pass0 (pa_cons (pv 4) pa_nil)))
      (pss_cons (ps_expr (pe_call G_check_fit hr (by rfl) T.g_check_fit T.f_check_fit.kp T.b_check_fit .nil pass0 (pa_cons (pv 2) (pa_cons (pv 3) pa_nil))))
      (pss_cons (ps_fld (pv 0) (pv 1) rfl)
      (pss_cons (ps_fld (pv 0) (pv 4) rfl)
      (pss_one (ps_fld (pv 0) (pe_callTy (tupK (K := K) rfl) (by rfl) T.m_tuple (by decide +kernel) (pa_cons (pe_lc (own := [("at", 5)])  rfl sc_Row_init.nd (pi_range3 (by rfl) T.m_range (pa_cons pe_int (pa_cons (pe_callB (lenK (K := K) rfl) (by rfl) T.m_len (by decide +kernel) (pa_cons (pv 2) pa_nil)) (pa_cons (pv 4) pa_nil)))) (blkOk_by (own := [("at", 5)]) (N := N_Row_init) (sc := defScope (inClass (topS 54) 0)) (by decide +kernel)) (fun _ _ _ _ _ => (pg_name (i := 5) sc_Row_init.nd rfl (Or.inl rfl))) (fun _ _ _ _ _ => pts_nil) (fun _ _ _ _ _ => (pe_make T.M_Block G_Block hr (by rfl) T.k_Block B2_Block R2_Block pass0 (pa_cons (pe_slice (slLK (K := K) rfl) (pv 2) (po_some (pv 5)) (po_some (pe_op op_add (pv 5) (pv 4)))) (pa_cons (pv 3) pa_nil))))) pa_nil)) rfl))))))))), ?_⟩
    have few := hR.ens.few
    have s1 := hR.lo
    have s8 := hR.hi
    refine ⟨.str z, rfl, z, rfl, hR.word, fun H1 e1 => ?_⟩
    refine ⟨.ref l, rfl, l, xs, es, rfl, e1 _ _ hl, hE.ex e1, hR.ens.ok, hR.ens.ris, fun H2 e2 => ?_⟩
    have x2 := e1.trans e2
    refine ⟨.ref m, rfl, m, ls, rfl, x2 _ _ hm, hR.fit.few, hR.fit.most, fun H3 e3 => ?_⟩
    have x3 := x2.trans e3
    refine ⟨.int (s : Nat), rfl, s, rfl, s1, s8, fun H4 e4 => ?_⟩
    have x4 := x3.trans e4
    refine ⟨.ref l, rfl, .ref m, rfl, l, m, xs, es, ls, rfl, x4 _ _ hl, hE.ex x4, hR.ens, x4 _ _ hm, hR.fit, fun H5 e5 => ?_⟩
    have x5 := x4.trans e5
    clear e1 e2 e3 e4 e5 x2 x3 x4 H1 H2 H3 H4
    refine ⟨.str z, rfl, .ref x, rfl, x, A 54, dx, [], rfl, x5 _ _ hx, T.cl_Row, T.n_Row_word, (by show 0 < 1000; decide), ?_⟩
    obtain ⟨i6, hx6⟩ := fld_step (f := "word") (v := .str z) (fun b o _ h => x5 _ _ h) (Ex.refl H5) (x5 _ _ hx)
    generalize (upd H5 x (.ins (A 54) dx (putF "word" (.str z) []))) = H6 at i6 hx6 ⊢
    refine ⟨.int (s : Nat), rfl, .ref x, rfl, x, A 54, dx, _, rfl, hx6, T.cl_Row, T.n_Row_size, (by show 1 < 1000; decide), ?_⟩
    obtain ⟨i7, hx7⟩ := fld_step (f := "size") (v := .int (s : Nat)) i6 (Ex.refl H6) hx6
    generalize (upd H6 x (.ins (A 54) dx (putF "size" (.int (s : Nat)) _))) = H7 at i7 hx7 ⊢
    have hl7 := lst_keep hl hx i7
    have hm7 := lst_keep hm hx i7
    have hE7 := hE.keep hx i7
    refine ⟨.ref l, rfl, l, _, rfl, .inl (SqL.of hl7), .int (s : Nat), rfl, 0, _, _, _, rfl, (by rw [hE.1]; exact rgc_of s1 (by omega) (by omega)), fun D nD => ?_⟩
    refine lc_it (walk_rangeC (lo := 0) (c := (s : Int)) (n := nb es.length s)) (fun i H' => Ex H7 H' ∧ ∃ bs : List Addr, bs.length = i ∧ H' D = some (.lst (bs.map V.ref)) ∧ ∀ (j : Nat) (b : Addr), bs[j]? = some b → BlkAt (A 53) H' b (cutE es s j) ls) ⟨Ex.new nD, [], rfl, upd_same, fun j b g => nomatch g⟩ (fun _ _ _ _ => True.intro) (fun i v H8 H9 hi p y => ?_) (fun H8 p => ?_)
    · obtain ⟨p1, bs, bl, p2, p3⟩ := p
      obtain ⟨rfl, rfl⟩ := y
      refine ⟨rfl, .ref l, rfl, _, rfl, _, rfl, _, rfl, .int (s : Nat), rfl, _, _, rfl, rfl, _, rfl, l, _, rfl, SqL.of (p1 _ _ hl7), fun c nc => ?_⟩
      rw [cutV_at]
      have eC := Ex.new (o := .lst ((xs.drop (i * s)).take s)) nc
      have hc := upd_same (H := H9) (a := c) (o := .lst ((xs.drop (i * s)).take s))
      generalize (upd H9 c (.lst ((xs.drop (i * s)).take s))) = Hc at eC hc ⊢
      have p1c := p1.trans eC
      refine ⟨.ref m, rfl, fun b d2 nb nd _ => ?_⟩
      have e2 := ex2 (o := .own b) (u := .ins (A 53) d2 []) nb nd
      refine ⟨b, d2, c, m, _, cutE es s i, ls, rfl, upd_same, e2 _ _ hc, ((hE7.ex (p1c.trans e2)).cut s i), hR.ens.cut s i, cutE_pos s1 hi, (p1c.trans e2) _ _ hm7, hR.fit.cut s i, fun H' iE hb => ⟨rfl, ?_⟩⟩
      have eH := ExI.new nb nd iE
      have hD := eH _ _ (eC _ _ p2)
      refine ⟨_, hD, ?_, Ex.mut (p1c.trans eH) nD, bs ++ [b], ?_, ?_, fun j b' g => ?_⟩
      · rw [List.length_map]
        exact sz_lt (by have := nb_le (n := es.length) (s := s) s1; omega)
      · rw [List.length_append, bl]
        rfl
      · rw [upd_same, List.map_append]
        rfl
      · rcases snoc_at g with g | ⟨rfl, rfl⟩
        · exact ((p3 j b' g).ex (eC.trans eH)).updL hD
        · rw [bl]
          exact BlkAt.updL ⟨d2, hb⟩ hD
    · obtain ⟨p1, bs, bl, p2, p3⟩ := p
      refine ⟨D, _, rfl, .inl ⟨SqL.of p2, fun t nt => ?_⟩⟩
      have eT := Ex.new (o := .tup (bs.map V.ref)) nt
      have ht := upd_same (H := H8) (a := t) (o := .tup (bs.map V.ref))
      generalize (upd H8 t (.tup (bs.map V.ref))) = H9 at eT ht ⊢
      have hx9 := eT _ _ (p1 _ _ hx7)
      refine ⟨.ref x, rfl, x, A 54, dx, _, rfl, hx9, T.cl_Row, T.n_Row_cut, (by show 2 < 1000; decide), ?_⟩
      obtain ⟨iF, hxF⟩ := fld_step (f := "cut") (v := .ref t) i7 (p1.trans eT) hx7
      refine q _ t bs iF hxF ?_ ⟨bl, fun j b g => ?_⟩
      · rw [upd_ne (ne_of ht hx9 (by intro z; cases z))]
        exact ht
      · obtain ⟨db, hb⟩ := (p3 j b g).ex eT
        refine ⟨db, ?_⟩
        by_cases hbx : b = x
        · subst hbx
          rw [hx9] at hb
          exact absurd (Option.some.inj hb) (fun z => by
            have := congrArg (fun o => match o with | HO.ins _ _ fs => fs.length | _ => 0) z
            exact absurd (show (2 : Nat) = 6 from this) (by decide))
        · rw [upd_ne hbx]
          exact hb
def spRBlk (CR CB : Addr) : Sp := fun vs H Q _ => ∃ (r : Addr) (z : Str) (s : Nat) (es : List En) (ls : List Nat), vs = [.ref r] ∧ RowAt CR CB H r z s es ls ∧ ∀ (l : Addr) (bs : List Addr) (H' : Hp), H l = none → Ex H H' → H' l = some (.lst (bs.map V.ref)) → BlksAt CB H' bs s es ls → Q (.ref l) H'
set_option maxHeartbeats 4000000 in
theorem ok_rblocks (T : TX K mg A FD TK CC) : FnOk P w K mg base CX0 1 (A 78) (FD 78) ["self"] (spRBlk (A 54) (A 53)) := by
  refine T.f_Row_blocks.ok sc_Row_blocks (fun vs H Q E h => ?_) (fun cdv A' outer s H vs Q E hr h => ?_)
  · obtain ⟨r, z, s, es, ls, rfl, _⟩ := h
    rfl
  · obtain ⟨r, z, s, es, ls, rfl, ⟨dx, t, bs, h1, h2, h3⟩, q⟩ := h
    refine ⟨_, (pss_one (ps_ret (pe_callTy (listK (K := K) rfl) (by rfl) T.m_list (by decide +kernel) (pa_cons (fldK (K := K) rfl (pv 0) rfl) pa_nil)))), ?_⟩
    exact ⟨.ref r, rfl, r, A 54, dx, _, _, rfl, h1, T.cl_Row, T.n_Row_cut, rfl, t, _, rfl, .inr (SqT.of h2), fun l nl => q l bs _ nl (Ex.new nl) upd_same (h3.ex (Ex.new nl))⟩
/-- a thing that is no whole number -/
def Odd (K : PySem.W.Frag) (H : Hp) (v : V) : Prop := v = .non ∨ (∃ b, v = .bl b) ∨ (∃ z, v = .str z) ∨ ∃ (a : Addr) (xs : List V), v = .ref a ∧ (H a = some (.lst xs) ∨ H a = some (.tup xs))
theorem Odd.ty {K : PySem.W.Frag} {H : Hp} {v : V} (h : Odd K H v) : ∃ (ty : String) (b : Bool), TyX K H v (.type ty) ∧ kitB ty "int" = some b ∧ (b = true → kitB ty "bool" = some true) := by
  rcases h with rfl | ⟨b, rfl⟩ | ⟨z, rfl⟩ | ⟨a, xs, rfl, h | h⟩
  · exact ⟨_, false, .base .non, by decide +kernel, fun z => Bool.noConfusion z⟩
  · exact ⟨_, true, .base (.bl b), by decide +kernel, fun _ => by decide +kernel⟩
  · exact ⟨_, false, .base (.str z), by decide +kernel, fun z => Bool.noConfusion z⟩
  · exact ⟨_, false, .base (.lst h), by decide +kernel, fun z => Bool.noConfusion z⟩
  · exact ⟨_, false, .base (.tup h), by decide +kernel, fun z => Bool.noConfusion z⟩
def spWhlX (K : PySem.W.Frag) : Sp := fun vs H Q _ => ∃ v : V, vs = [v] ∧ (((∃ z : Int, v = .int z) ∧ Q (.bl true) H) ∨ (Odd K H v ∧ Q (.bl false) H))
set_option maxHeartbeats 4000000 in
theorem ok_whlA (T : TX K mg A FD TK CC) : FnOk P w K mg base CX0 1 (A 22) (FD 22) ["thing"] (spWhlX K) := by
  refine T.f_is_whole.ok sc_is_whole (fun vs H Q E h => ?_) (fun cdv A' outer s H vs Q E hr h => ?_)
  · obtain ⟨v, rfl, _⟩ := h
    rfl
  · obtain ⟨v, rfl, h⟩ := h
    refine ⟨_, (pss_one (ps_ret (pe_and (pe_callB (isiK (K := K) rfl) (by rfl) T.m_isinstance (by decide +kernel) (pa_cons (pv 0) (pa_cons (pe_bltn (v := .ty "int") (by rfl) T.m_int (by decide +kernel) rfl) pa_nil))) (pe_one (pe_not (pe_callB (isiK (K := K) rfl) (by rfl) T.m_isinstance (by decide +kernel) (pa_cons (pv 0) (pa_cons (pe_bltn (v := .ty "bool") (by rfl) T.m_bool (by decide +kernel) rfl) pa_nil)))))))), ?_⟩
    rcases h with ⟨⟨i, rfl⟩, q⟩ | ⟨ho, q⟩
    · refine ⟨.int i, rfl, .int i, .ty "int", .type "int", .type "int", true, rfl, .ty _, .base (.int i), kit_ty (by decide +kernel), true, rfl, ?_⟩
      exact ⟨.int i, rfl, .int i, .ty "bool", .type "int", .type "bool", false, rfl, .ty _, .base (.int i), kit_ty (by decide +kernel), false, rfl, q⟩
    · obtain ⟨ty, b, ht, hb, hk⟩ := ho.ty
      refine ⟨v, rfl, v, .ty "int", .type ty, .type "int", b, rfl, .ty _, ht, kit_ty hb, b, rfl, ?_⟩
      cases b with
      | false => exact q
      | true => exact ⟨v, rfl, v, .ty "bool", .type ty, .type "bool", true, rfl, .ty _, ht, kit_ty (hk rfl), true, rfl, q⟩
/-- where one who stands at the n-th entry stands: the block, and the entry in it -/
def stA (es : List En) (s n : Nat) : Nat := if n < es.length then n / s else nb es.length s
def stE (es : List En) (s n : Nat) : Nat := if n < es.length then n % s else 0
theorem stA_in {es : List En} {s n : Nat} (hs : 0 < s) (h : n < es.length) : stA es s n < nb es.length s ∧ stE es s n < (cutE es s (stA es s n)).length ∧ stA es s n * s + stE es s n = n := by
  have e1 : n / s * s + n % s = n := by rw [Nat.mul_comm]; exact Nat.div_add_mod n s
  have m := Nat.mod_lt n hs
  unfold stA stE
  rw [if_pos h, if_pos h]
  refine ⟨(nb_lt hs).mpr (by omega), ?_, e1⟩
  rw [cutE_len]
  omega
theorem stA_end {es : List En} {s n : Nat} (h : ¬ n < es.length) : stA es s n = nb es.length s ∧ stE es s n = 0 := by
  unfold stA stE
  rw [if_neg h, if_neg h]
  exact ⟨rfl, rfl⟩
theorem stA_le {es : List En} {s n : Nat} (hs : 0 < s) : stA es s n ≤ nb es.length s := by
  by_cases h : n < es.length
  · exact Nat.le_of_lt (stA_in hs h).1
  · rw [(stA_end h).1]
    exact Nat.le_refl _
theorem stA_is {es : List En} {s n : Nat} (hs : 0 < s) : stA es s n = nb es.length s ↔ ¬ n < es.length := by
  constructor
  · intro e h
    have := (stA_in hs h).1
    omega
  · exact fun h => (stA_end h).1
theorem st_of {es : List En} {s a c : Nat} (hs : 0 < s) (ha : a < nb es.length s) (hc : c < (cutE es s a).length) : stA es s (a * s + c) = a ∧ stE es s (a * s + c) = c := by
  rw [cutE_len] at hc
  have hlt : a * s + c < es.length := by omega
  have c' : c < s := by omega
  unfold stA stE
  rw [if_pos hlt, if_pos hlt]
  exact ⟨by rw [Nat.mul_comm, Nat.mul_add_div hs, Nat.div_eq_of_lt c', Nat.add_zero], by rw [Nat.mul_comm, Nat.mul_add_mod, Nat.mod_eq_of_lt c']⟩
theorem cutE_get {es : List En} {s a c : Nat} (hc : c < (cutE es s a).length) : (cutE es s a)[c]? = es[a * s + c]? := by
  rw [cutE_len] at hc
  unfold cutE
  rw [List.getElem?_take, if_pos (by omega), List.getElem?_drop]
/-- slots rise -/
theorem wslot_lt {es : List En} (hr : Ris (slots es)) : ∀ {i j : Nat} {x y : En}, i < j → es[i]? = some x → es[j]? = some y → x.1 < y.1 := by
  have step : ∀ {j : Nat} {x y : En}, es[j]? = some x → es[j + 1]? = some y → x.1 < y.1 := fun {j x y} gx gy => by
    have := hr (j + 1) y.1 (slots_at gy)
    rw [ah, getD_at (slots_at gx)] at this
    omega
  intro i j x y h gx gy
  induction j generalizing y with
  | zero => omega
  | succ j ih =>
    have hj : j < es.length := by have := (List.getElem?_eq_some_iff.mp gy).1; omega
    have gz := List.getElem?_eq_getElem hj
    have l2 := step gz gy
    rcases Nat.lt_succ_iff_lt_or_eq.mp h with h | rfl
    · have := ih h gz
      omega
    · rw [gx] at gz
      cases gz
      exact l2
theorem wslot_le {es : List En} (hr : Ris (slots es)) {i j : Nat} {x y : En} (h : i ≤ j) (gx : es[i]? = some x) (gy : es[j]? = some y) : x.1 ≤ y.1 := by
  rcases Nat.lt_or_eq_of_le h with h | rfl
  · exact Nat.le_of_lt (wslot_lt hr h gx gy)
  · rw [gx] at gy
    cases gy
    exact Nat.le_refl _
/-- m is the first one from n on whose slot is no less than z -/
structure Sought (es : List En) (z : Int) (n m : Nat) : Prop where
  ge : n ≤ m
  le : m ≤ es.length
  less : ∀ i, n ≤ i → i < m → ∀ e, es[i]? = some e → (e.1 : Int) < z
  stop : ∀ e, es[m]? = some e → z ≤ (e.1 : Int)
theorem Sought.uniq {es : List En} {z : Int} {n m k : Nat} (h : Sought es z n m) (g : Sought es z n k) : m = k := by
  have half : ∀ {m k : Nat}, Sought es z n m → Sought es z n k → ¬ m < k := fun {m k} h g l => by
    have hm : m < es.length := by have := g.le; omega
    have e := List.getElem?_eq_getElem hm
    have a := h.stop _ e
    have b := g.less m h.ge l _ e
    omega
  have a := half h g
  have b := half g h
  omega
theorem sought_at {es : List En} {z : Int} {n : Nat} {e : En} (g : es[n]? = some e) (h : z ≤ (e.1 : Int)) : Sought es z n n := ⟨Nat.le_refl _, Nat.le_of_lt (List.getElem?_eq_some_iff.mp g).1, fun i h1 h2 => by omega, fun f gf => by
  rw [g] at gf
  cases gf
  exact h⟩
theorem sought_end {es : List En} {z : Int} {n : Nat} (hn : n = es.length) : Sought es z n n := ⟨Nat.le_refl _, by omega, fun i h1 h2 => by omega, fun f gf => by
  have := (List.getElem?_eq_some_iff.mp gf).1
  omega⟩
/-- the first block from a on whose last slot is no less than z -/
structure Reach (es : List En) (s : Nat) (z : Int) (a b : Nat) : Prop where
  ge : a ≤ b
  le : b ≤ nb es.length s
  less : ∀ j, a ≤ j → j < b → (lstE (cutE es s j) : Int) < z
  stop : b < nb es.length s → z ≤ (lstE (cutE es s b) : Int)
theorem last_is {es : List En} {s j : Nat} (hs : 0 < s) (hj : j < nb es.length s) : ∃ (k : Nat) (e : En), es[k]? = some e ∧ lstE (cutE es s j) = e.1 ∧ j * s ≤ k ∧ k < (j + 1) * s ∧ (∀ i, j * s ≤ i → i < (j + 1) * s → i < es.length → i ≤ k) := by
  have hp := cutE_pos hs hj
  have g : (cutE es s j)[(cutE es s j).length - 1]? = some ((cutE es s j)[(cutE es s j).length - 1]'(by omega)) := List.getElem?_eq_getElem _
  have l := lst_at g
  rw [cutE_get (by omega)] at g
  refine ⟨_, _, g, l, by omega, ?_, fun i h1 h2 h3 => ?_⟩
  · rw [Nat.add_mul, cutE_len]
    omega
  · rw [Nat.add_mul] at h2
    rw [cutE_len]
    omega
theorem first_is {es : List En} {s j : Nat} (hs : 0 < s) (hj : j < nb es.length s) : ∃ e : En, es[j * s]? = some e ∧ fstE (cutE es s j) = e.1 := by
  have hp := cutE_pos hs hj
  have g : (cutE es s j)[0]? = some ((cutE es s j)[0]'hp) := List.getElem?_eq_getElem _
  have l := fst_at g
  rw [cutE_get hp, Nat.add_zero] at g
  exact ⟨_, g, l⟩
def lessN (B : List En) (z : Int) : Nat := (B.filter fun e => decide ((e.1 : Int) < z)).length
theorem lessN_ok (z : Int) : ∀ (B : List En), (∀ (i j : Nat) (x y : En), i < j → B[i]? = some x → B[j]? = some y → x.1 < y.1) → (∀ i, i < lessN B z → ∀ e, B[i]? = some e → (e.1 : Int) < z) ∧ (∀ e, B[lessN B z]? = some e → z ≤ (e.1 : Int)) ∧ lessN B z ≤ B.length
  | [], _ => ⟨fun i h => absurd h (Nat.not_lt_zero _), fun e h => by simp at h, Nat.le_refl _⟩
  | b :: r, h => by
    have ih := lessN_ok z r fun i j x y l gx gy => h (i + 1) (j + 1) x y (by omega) gx gy
    unfold lessN at ih ⊢
    by_cases c : (b.1 : Int) < z
    · rw [List.filter_cons_of_pos (by simpa using c), List.length_cons]
      refine ⟨fun i hi e g => ?_, fun e g => ih.2.1 e g, by rw [List.length_cons]; omega⟩
      cases i with
      | zero =>
        cases g
        exact c
      | succ i => exact ih.1 i (by omega) e g
    · have none : r.filter (fun e => decide ((e.1 : Int) < z)) = [] := by
        rw [List.filter_eq_nil_iff]
        intro e he
        obtain ⟨j, hj, ej⟩ := List.getElem_of_mem he
        have := h 0 (j + 1) b e (by omega) rfl (by rw [List.getElem?_cons_succ, List.getElem?_eq_getElem hj, ej])
        simp only [decide_eq_true_eq]
        omega
      rw [List.filter_cons_of_neg (by simpa using c), none]
      refine ⟨fun i hi => absurd hi (Nat.not_lt_zero _), fun e g => ?_, Nat.zero_le _⟩
      cases g
      omega
theorem blk_of {es : List En} {s i : Nat} (hs : 0 < s) (hi : i < es.length) : i / s < nb es.length s ∧ i / s * s ≤ i ∧ i < (i / s + 1) * s := by
  have e1 : i / s * s + i % s = i := by rw [Nat.mul_comm]; exact Nat.div_add_mod i s
  have m := Nat.mod_lt i hs
  refine ⟨(nb_lt hs).mpr (by omega), by omega, ?_⟩
  rw [Nat.add_mul]
  omega
/-- all entries ahead of the reached block are less -/
theorem reach_less {es : List En} {s a b n : Nat} {z : Int} (hr : Ris (slots es)) (hs : 0 < s) (h : Reach es s z a b) (ha : a = n / s) : ∀ i, n ≤ i → i < b * s → ∀ e, es[i]? = some e → (e.1 : Int) < z := fun i h1 h2 e g => by
  have hi := (List.getElem?_eq_some_iff.mp g).1
  obtain ⟨q1, q2, q3⟩ := blk_of hs hi
  have jb : i / s < b := (Nat.div_lt_iff_lt_mul hs).mpr h2
  have ja : a ≤ i / s := by rw [ha]; exact Nat.div_le_div_right h1
  obtain ⟨k, f, gk, l, k1, k2, k3⟩ := last_is hs q1
  have := h.less (i / s) ja jb
  rw [l] at this
  have le := wslot_le hr (k3 i q2 q3 hi) g gk
  omega
theorem nb_end {n s : Nat} (hs : 0 < s) : n ≤ nb n s * s := nb_mul hs
theorem sought_none {es : List En} {s n : Nat} {z : Int} (hr : Ris (slots es)) (hs : 0 < s) (hn : n ≤ es.length) (h : Reach es s z (n / s) (nb es.length s)) : Sought es z n es.length :=
  ⟨hn, Nat.le_refl _, fun i h1 h2 e g => reach_less hr hs h rfl i h1 (Nat.lt_of_lt_of_le h2 (nb_end hs)) e g, fun e g => by
    have := (List.getElem?_eq_some_iff.mp g).1
    omega⟩
theorem sought_first {es : List En} {s n b : Nat} {z : Int} {e : En} (hr : Ris (slots es)) (hs : 0 < s) (hn : es[n]? = some e) (hz : (e.1 : Int) < z) (h : Reach es s z (n / s) b) (hb : b < nb es.length s) (hf : z ≤ (fstE (cutE es s b) : Int)) : Sought es z n (b * s) := by
  obtain ⟨f, gf, ef⟩ := first_is hs hb
  rw [ef] at hf
  have hbs := (nb_lt hs).mp hb
  refine ⟨?_, by omega, reach_less hr hs h rfl, fun e' g => ?_⟩
  · rcases Nat.lt_or_ge (b * s) n with l | l
    · have := wslot_lt hr l gf hn
      omega
    · exact l
  · rw [gf] at g
    cases g
    exact hf
theorem cut_rise {es : List En} {s b : Nat} (hr : Ris (slots es)) : ∀ (i j : Nat) (x y : En), i < j → (cutE es s b)[i]? = some x → (cutE es s b)[j]? = some y → x.1 < y.1 := fun i j x y l gx gy => wslot_lt hr (show b * s + i < b * s + j by omega) (cutE_at gx).1 (cutE_at gy).1
theorem sought_in {es : List En} {s n b : Nat} {z : Int} {e : En} (hr : Ris (slots es)) (hs : 0 < s) (hn : es[n]? = some e) (hz : (e.1 : Int) < z) (h : Reach es s z (n / s) b) (hb : b < nb es.length s) (hf : (fstE (cutE es s b) : Int) < z) : Sought es z n (b * s + lessN (cutE es s b) z) ∧ lessN (cutE es s b) z < (cutE es s b).length ∧ 0 < lessN (cutE es s b) z := by
  obtain ⟨p1, p2, p3⟩ := lessN_ok z (cutE es s b) (cut_rise hr)
  have hp := cutE_pos hs hb
  have gl : (cutE es s b)[(cutE es s b).length - 1]? = some ((cutE es s b)[(cutE es s b).length - 1]'(by omega)) := List.getElem?_eq_getElem _
  have ll := lst_at gl
  have st := h.stop hb
  rw [ll] at st
  have c1 : lessN (cutE es s b) z < (cutE es s b).length := by
    rcases Nat.lt_or_ge (lessN (cutE es s b) z) (cutE es s b).length with l | l
    · exact l
    · have := p1 ((cutE es s b).length - 1) (by omega) _ gl
      omega
  have g0 : (cutE es s b)[0]? = some ((cutE es s b)[0]'hp) := List.getElem?_eq_getElem _
  have f0 := fst_at g0
  have c0 : 0 < lessN (cutE es s b) z := by
    rcases Nat.eq_zero_or_pos (lessN (cutE es s b) z) with q | q
    · rw [q] at p2
      have := p2 _ g0
      omega
    · exact q
  have gc : (cutE es s b)[lessN (cutE es s b) z]? = some ((cutE es s b)[lessN (cutE es s b) z]'c1) := List.getElem?_eq_getElem _
  have zc := p2 _ gc
  have gce := cutE_get c1
  rw [gc] at gce
  have hlt : b * s + lessN (cutE es s b) z < es.length := (List.getElem?_eq_some_iff.mp gce.symm).1
  refine ⟨⟨?_, by omega, fun i h1 h2 e' g => ?_, fun e' g => ?_⟩, c1, c0⟩
  · rcases Nat.lt_or_ge (b * s + lessN (cutE es s b) z) n with l | l
    · have := wslot_lt hr l gce.symm hn
      omega
    · exact l
  · rcases Nat.lt_or_ge i (b * s) with l | l
    · exact reach_less hr hs h rfl i h1 l e' g
    · have hc : i - b * s < lessN (cutE es s b) z := by omega
      have := cutE_get (es := es) (s := s) (a := b) (c := i - b * s) (by omega)
      rw [show b * s + (i - b * s) = i by omega, g] at this
      exact p1 _ hc e' this
  · rw [g] at gce
    cases gce
    exact zc
theorem nodup_few : ∀ (n : Nat) (O : List Nat), O.Nodup → (∀ j ∈ O, j < n) → O.length ≤ n
  | 0, O, _, h => by
    cases O with
    | nil => exact Nat.le_refl _
    | cons a r => exact absurd (h a (.head _)) (by omega)
  | n + 1, O, hn, h => by
    by_cases c : n ∈ O
    · have h2 := nodup_few n (O.erase n) (hn.erase n) (fun j hj => by
        have h1 := h j (List.mem_of_mem_erase hj)
        have h3 : j ≠ n := ((List.Nodup.mem_erase_iff hn).mp hj).1
        omega)
      rw [List.length_erase_of_mem c] at h2
      omega
    · exact Nat.le_succ_of_le (nodup_few n O hn fun j hj => by
        have h1 := h j hj
        have h3 : j ≠ n := fun e => c (e ▸ hj)
        omega)
/-- the blocks that are open when j is opened -/
def addO (O : List Nat) (j : Nat) : List Nat := if j ∈ O then O else O ++ [j]
theorem addO_in {O : List Nat} {j : Nat} (h : j ∈ O) : addO O j = O := if_pos h
theorem addO_new {O : List Nat} {j : Nat} (h : ¬ j ∈ O) : addO O j = O ++ [j] := if_neg h
theorem mem_addO {O : List Nat} {i j : Nat} : i ∈ addO O j ↔ i ∈ O ∨ i = j := by
  by_cases c : j ∈ O
  · rw [addO_in c]
    exact ⟨.inl, fun h => h.elim id fun e => e ▸ c⟩
  · rw [addO_new c, List.mem_append, List.mem_singleton]
def kN (j : Nat) : Key := .inl (j : Int)
theorem kN_inj {i j : Nat} (h : kN i = kN j) : i = j := by
  have := Sum.inl.inj h
  omega
structure DecAt (H : Hp) (kvs : List (Key × V)) (O : List Nat) (s : Nat) (es : List En) : Prop where
  keys : kvs.map (·.1) = O.map kN
  nd : O.Nodup
  lt : ∀ j ∈ O, j < nb es.length s
  has : ∀ j ∈ O, ∃ (l : Addr) (xs : List V), valV kvs (kN j) = some (.ref l) ∧ H l = some (.lst xs) ∧ EnsA H xs (cutE es s j)
  no : ∀ j, ¬ j ∈ O → valV kvs (kN j) = none
theorem DecAt.mono {H H' : Hp} {kvs : List (Key × V)} {O : List Nat} {s : Nat} {es : List En} (h : DecAt H kvs O s es) (kl : ∀ b zs, H b = some (.lst zs) → H' b = some (.lst zs)) (kt : ∀ b zs, H b = some (.tup zs) → H' b = some (.tup zs)) : DecAt H' kvs O s es :=
  ⟨h.keys, h.nd, h.lt, fun j hj => let ⟨l, xs, h1, h2, h3⟩ := h.has j hj; ⟨l, xs, h1, kl _ _ h2, h3.mono kt⟩, h.no⟩
theorem DecAt.len {H : Hp} {kvs : List (Key × V)} {O : List Nat} {s : Nat} {es : List En} (h : DecAt H kvs O s es) : kvs.length = O.length ∧ kvs.length ≤ nb es.length s := by
  have e : kvs.length = O.length := by
    have := congrArg List.length h.keys
    rwa [List.length_map, List.length_map] at this
  exact ⟨e, e ▸ nodup_few _ _ h.nd h.lt⟩
theorem DecAt.nil {H : Hp} {s : Nat} {es : List En} : DecAt H [] [] s es := ⟨rfl, .nil, (fun j h => nomatch h), (fun j h => nomatch h), fun j _ => rfl⟩
theorem DecAt.put {H : Hp} {kvs : List (Key × V)} {O : List Nat} {s j : Nat} {es : List En} {l : Addr} {xs : List V} (h : DecAt H kvs O s es) (hj : ¬ j ∈ O) (hb : j < nb es.length s) (hl : H l = some (.lst xs)) (hE : EnsA H xs (cutE es s j)) : DecAt H (putK kvs (kN j) (.ref l)) (O ++ [j]) s es := by
  have e := putK_new (.ref l) (h.no j hj)
  refine ⟨?_, ?_, fun i hi => ?_, fun i hi => ?_, fun i hi => ?_⟩
  · rw [e, List.map_append, List.map_append, h.keys]
    rfl
  · refine List.nodup_append.mpr ⟨h.nd, by simp, fun a ha b hb2 => ?_⟩
    rw [List.mem_singleton] at hb2
    exact fun e2 => hj (hb2 ▸ e2 ▸ ha)
  · rw [List.mem_append, List.mem_singleton] at hi
    exact hi.elim (h.lt i) fun e => e ▸ hb
  · rw [valV_put]
    by_cases c : kN i = kN j
    · rw [if_pos c, kN_inj c]
      exact ⟨l, xs, rfl, hl, hE⟩
    · rw [if_neg c]
      rw [List.mem_append, List.mem_singleton] at hi
      exact hi.elim (h.has i) fun e => absurd (congrArg kN e) c
  · rw [valV_put, if_neg (fun c => hi (List.mem_append.mpr (.inr (List.mem_singleton.mpr (kN_inj c)))))]
    exact h.no i fun c => hi (List.mem_append.mpr (.inl c))
def walkF (hl d t : Addr) : List (Str × V) := [("heads", .ref hl), ("decoded", .ref d), ("standing", .ref t)]
/-- a walker over a row with its open blocks O, its standing at t -/
structure WkD (CW CB : Addr) (H : Hp) (x d t : Addr) (s : Nat) (es : List En) (ls : List Nat) (O : List Nat) (dx hl : Addr) (bs : List Addr) (kvs : List (Key × V)) : Prop where
  ix : H x = some (.ins CW dx (walkF hl d t))
  ih : H hl = some (.lst (bs.map V.ref))
  ib : BlksAt CB H bs s es ls
  id : H d = some (.dK kvs)
  io : DecAt H kvs O s es
def StAt (H : Hp) (t : Addr) (s : Nat) (es : List En) (n : Nat) : Prop := H t = some (.tup [.int (stA es s n : Nat), .int (stE es s n : Nat)])
def WkH (CW CB : Addr) (H : Hp) (x d t : Addr) (s : Nat) (es : List En) (ls : List Nat) (O : List Nat) : Prop := ∃ (dx hl : Addr) (bs : List Addr) (kvs : List (Key × V)), WkD CW CB H x d t s es ls O dx hl bs kvs
/-- what may change where the dictionary at d alone is written -/
theorem WkD.keepD {CW CB : Addr} {H H' : Hp} {x d t dx hl : Addr} {s : Nat} {es : List En} {ls O : List Nat} {bs : List Addr} {kvs : List (Key × V)} (h : WkD CW CB H x d t s es ls O dx hl bs kvs) (i : ExI d H H') : H' x = some (.ins CW dx (walkF hl d t)) ∧ H' hl = some (.lst (bs.map V.ref)) ∧ BlksAt CB H' bs s es ls ∧ DecAt H' kvs O s es := by
  have ne : ∀ {b : Addr} {o : HO}, H b = some o → (∀ kvs', o ≠ .dK kvs') → b ≠ d := fun {b o} hb hn e => by
    subst e
    rw [h.id] at hb
    exact hn _ (Option.some.inj hb).symm
  refine ⟨i _ _ (ne h.ix (by intro _ z; cases z)) h.ix, i _ _ (ne h.ih (by intro _ z; cases z)) h.ih, ⟨h.ib.1, fun j b g => ?_⟩, h.io.mono (fun b zs hb => i _ _ (ne hb (by intro _ z; cases z)) hb) fun b zs hb => i _ _ (ne hb (by intro _ z; cases z)) hb⟩
  obtain ⟨db, hb⟩ := h.ib.2 j b g
  exact ⟨db, i _ _ (ne hb (by intro _ z; cases z)) hb⟩
theorem WkD.ex {CW CB : Addr} {H H' : Hp} {x d t dx hl : Addr} {s : Nat} {es : List En} {ls O : List Nat} {bs : List Addr} {kvs : List (Key × V)} (h : WkD CW CB H x d t s es ls O dx hl bs kvs) (i : Ex H H') : WkD CW CB H' x d t s es ls O dx hl bs kvs := ⟨i _ _ h.ix, i _ _ h.ih, h.ib.ex i, i _ _ h.id, h.io.mono (fun b zs hb => i _ _ hb) fun b zs hb => i _ _ hb⟩
theorem tup_keep {H H' : Hp} {d a : Addr} {kvs : List (Key × V)} {zs : List V} (h : H a = some (.tup zs)) (hd : H d = some (.dK kvs)) (i : ExI d H H') : H' a = some (.tup zs) := i _ _ (ne_of h hd (by intro z; cases z)) h
theorem ExI.refl {x : Addr} {H : Hp} : ExI x H H := fun b o _ h => h
theorem ExI.trans {x : Addr} {H H' H2 : Hp} (a : ExI x H H') (b : ExI x H' H2) : ExI x H H2 := fun c o n h => b c o n (a c o n h)
theorem ExI.ofEx {x : Addr} {H H' : Hp} (a : Ex H H') : ExI x H H' := fun c o _ h => a c o h
theorem ExI.mut {x : Addr} {H H' : Hp} {o : HO} (a : ExI x H H') : ExI x H (upd H' x o) := fun c q n h => by
  rw [upd_ne n]
  exact a c q n h
/-- a row's walker's facts that no call changes -/
structure WkR (s : Nat) (es : List En) (ls : List Nat) : Prop where
  lo : 1 ≤ s
  hi : s ≤ 8
  ens : Ens es
  fit : Fit es ls
theorem WkR.nb60 {s : Nat} {es : List En} {ls : List Nat} (h : WkR s es ls) : nb es.length s ≤ 60 := Nat.le_trans (nb_le h.lo) h.ens.few
def spEin (CW CB : Addr) : Sp := fun vs H Q _ => ∃ (x d t : Addr) (s : Nat) (es : List En) (ls O : List Nat) (j : Nat), vs = [.ref x, .int (j : Int)] ∧ WkH CW CB H x d t s es ls O ∧ WkR s es ls ∧ j < nb es.length s ∧
  ∀ (l : Addr) (xs : List V) (H' : Hp), ExI d H H' → WkH CW CB H' x d t s es ls (addO O j) → H' l = some (.lst xs) → EnsA H' xs (cutE es s j) → Q (.ref l) H'
set_option maxHeartbeats 8000000 in
theorem ok_entries_in (T : TX K mg A FD TK CC) : FnOk P w K mg base CX0 4 (A 87) (FD 87) ["self", "at"] (spEin (A 42) (A 53)) := by
  have G_decode_entries := ok_decode_entries (P := P) (w := w) (base := base) T
  refine T.f_Walker_entries_in.ok (k := 3) sc_Walker_entries_in (fun vs H Q E h => ?_) (fun cdv A' outer s H vs Q E hr h => ?_)
  · obtain ⟨x, d, t, s, es, ls, O, j, rfl, _⟩ := h
    rfl
  · obtain ⟨x, d, t, s, es, ls, O, j, rfl, ⟨dx, hl, bs, kvs, hW⟩, hR, hj, q⟩ := h
    refine ⟨_, (pss_cons (ps_if (pt_cmp (pc_dnotin (hu_of hr) (pv 1) (fldK (K := K) rfl (pv 0) rfl)))
      (pss_one (ps_dput (hu_of hr) (fldK (K := K) rfl (pv 0) rfl) (pv 1) (pe_call G_decode_entries hr (by rfl) T.g_decode_entries T.f_decode_entries.kp T.b_decode_entries .nil pass0 (pa_cons (fldK (K := K) rfl (pe_ix (ixLK (K := K) rfl) (fldK (K := K) rfl (pv 0) rfl) (pv 1) (fun _ _ => rfl)) rfl) pa_nil)) rfl))
      pss_nil)
      (pss_one (ps_ret (pe_dget (hu_of hr) (fldK (K := K) rfl (pv 0) rfl) (pv 1) (fun _ _ => rfl))))), ?_⟩
    refine ⟨.int (j : Int), rfl, .ref x, rfl, x, A 42, dx, _, _, rfl, hW.ix, T.cl_Walker, T.n_Walker_decoded, rfl, d, _, rfl, DGet.k (k := kN j) hW.id, ?_⟩
    by_cases c : j ∈ O
    · obtain ⟨l, xs, g1, g2, g3⟩ := hW.io.has j c
      rw [g1]
      refine ⟨_, rfl, ite2 (fun h => absurd (show false = true from h) Bool.false_ne_true) (fun _ => ?_)⟩
      refine ⟨.ref x, rfl, x, A 42, dx, _, _, rfl, hW.ix, T.cl_Walker, T.n_Walker_decoded, rfl, .int (j : Int), rfl, d, _, rfl, (g1 ▸ DGet.k (k := kN j) hW.id), ?_⟩
      rw [addO_in c] at q
      exact q l xs H ExI.refl ⟨_, _, _, _, hW⟩ g2 g3
    · rw [hW.io.no j c]
      refine ⟨_, rfl, ite2 (fun _ => ?_) (fun h => absurd rfl h)⟩
      have hjb : j < bs.length := by rw [hW.ib.1]; exact hj
      have gb : bs[j]? = some bs[j] := List.getElem?_eq_getElem hjb
      obtain ⟨db, hb⟩ := hW.ib.2 j _ gb
      have gv : (bs.map V.ref)[j]? = some (.ref bs[j]) := by rw [List.getElem?_map, gb]; rfl
      have hEc := hR.ens.cut s j
      refine ⟨.ref x, rfl, x, A 42, dx, _, _, rfl, hW.ix, T.cl_Walker, T.n_Walker_heads, rfl, .int (j : Int), rfl, hl, _, _, _, rfl, rfl, SqL.of hW.ih, atI_nat gv, bs[j], A 53, db, _, _, rfl, hb, T.cl_Block, T.n_Block_coded, rfl, cutE es s j, rfl, hEc, ?_, fun l xs H2 nl e2 hl2 hE2 => ?_⟩
      · have l1 := codeE_len2 hEc (hR.fit.sml.cut s j)
        have l2 := hEc.few
        omega
      have hW2 := hW.ex e2
      have len := hW2.io.len
      have h60 := hR.nb60
      refine ⟨.ref x, rfl, x, A 42, dx, _, _, rfl, hW2.ix, T.cl_Walker, T.n_Walker_decoded, rfl, .int (j : Int), rfl, d, _, rfl, DPut.k (k := kN j) hW2.id (sz_lt (by omega)), ?_⟩
      have iU : ExI d H2 (upd H2 d (.dK (putK kvs (kN j) (.ref l)))) := ExI.mut ExI.refl
      have hU := upd_same (H := H2) (a := d) (o := .dK (putK kvs (kN j) (.ref l)))
      generalize (upd H2 d (.dK (putK kvs (kN j) (.ref l)))) = H3 at iU hU ⊢
      obtain ⟨k1, k2, k3, k4⟩ := hW2.keepD iU
      have hl3 : H3 l = some (.lst xs) := iU _ _ (ne_of hl2 hW2.id (by intro z; cases z)) hl2
      have hE3 := hE2.mono (H' := H3) fun b zs hb => iU _ _ (ne_of hb hW2.id (by intro z; cases z)) hb
      have hP := k4.put c hj hl3 hE3
      have hW3 : WkD (A 42) (A 53) H3 x d t s es ls (O ++ [j]) dx hl bs _ := ⟨k1, k2, k3, hU, hP⟩
      have g1 : valV (putK kvs (kN j) (.ref l)) (kN j) = some (.ref l) := by rw [valV_put, if_pos rfl]
      refine ⟨.ref x, rfl, x, A 42, dx, _, _, rfl, k1, T.cl_Walker, T.n_Walker_decoded, rfl, .int (j : Int), rfl, d, _, rfl, (g1 ▸ DGet.k (k := kN j) hU), ?_⟩
      rw [addO_new c] at q
      exact q l xs H3 ((ExI.ofEx e2).trans iU) ⟨_, _, _, _, hW3⟩ hl3 hE3
theorem WkD.blk {CW CB : Addr} {H : Hp} {x d t dx hl : Addr} {s j : Nat} {es : List En} {ls O : List Nat} {bs : List Addr} {kvs : List (Key × V)} (h : WkD CW CB H x d t s es ls O dx hl bs kvs) (hj : j < nb es.length s) : ∃ b db, (bs.map V.ref)[j]? = some (.ref b) ∧ H b = some (.ins CB db (blkF (cutE es s j) ls)) := by
  have hjb : j < bs.length := by rw [h.ib.1]; exact hj
  have gb : bs[j]? = some bs[j] := List.getElem?_eq_getElem hjb
  obtain ⟨db, hb⟩ := h.ib.2 j _ gb
  exact ⟨_, db, by rw [List.getElem?_map, gb]; rfl, hb⟩
theorem WkD.len {CW CB : Addr} {H : Hp} {x d t dx hl : Addr} {s : Nat} {es : List En} {ls O : List Nat} {bs : List Addr} {kvs : List (Key × V)} (h : WkD CW CB H x d t s es ls O dx hl bs kvs) : (bs.map V.ref).length = nb es.length s := by rw [List.length_map]; exact h.ib.1
theorem vi_eq {a b : Nat} (h : decide (V.int (a : Int) = V.int (b : Int)) = true) : a = b := by
  have := V.int.inj (of_decide_eq_true h)
  omega
theorem vi_ne {a b : Nat} (h : ¬ decide (V.int (a : Int) = V.int (b : Int)) = true) : ¬ a = b := fun e => h (decide_eq_true (by rw [e]))
def opS (O : List Nat) (es : List En) (s n : Nat) : List Nat := if stE es s n = 0 then O else addO O (stA es s n)
def slotV (es : List En) (n : Nat) : V := match es[n]? with
  | some e => .int (e.1 : Nat)
  | none => .non
theorem slotV_in {es : List En} {n : Nat} {e : En} (h : es[n]? = some e) : slotV es n = .int (e.1 : Nat) := by unfold slotV; rw [h]
theorem slotV_end {es : List En} {n : Nat} (h : ¬ n < es.length) : slotV es n = .non := by unfold slotV; rw [List.getElem?_eq_none (by omega)]
def spSat (CW CB : Addr) : Sp := fun vs H Q _ => ∃ (x d t u : Addr) (s : Nat) (es : List En) (ls O : List Nat) (n : Nat), vs = [.ref x, .ref u] ∧ WkH CW CB H x d t s es ls O ∧ WkR s es ls ∧ StAt H u s es n ∧
  ∀ H', ExI d H H' → WkH CW CB H' x d t s es ls (opS O es s n) → Q (slotV es n) H'
set_option maxHeartbeats 8000000 in
theorem ok_slot_at (T : TX K mg A FD TK CC) : FnOk P w K mg base CX0 5 (A 88) (FD 88) ["self", "standing"] (spSat (A 42) (A 53)) := by
  have G_Walker_entries_in := ok_entries_in (P := P) (w := w) (base := base) T
  refine T.f_Walker_slot_at.ok (k := 4) sc_Walker_slot_at (fun vs H Q E h => ?_) (fun cdv A' outer s H vs Q E hr h => ?_)
  · obtain ⟨x, d, t, u, s, es, ls, O, n, rfl, _⟩ := h
    rfl
  · obtain ⟨x, d, t, u, s, es, ls, O, n, rfl, ⟨dx, hl, bs, kvs, hW⟩, hR, hu, q⟩ := h
    refine ⟨_, (pss_cons (ps_asg (pv 1) (pg_tup rfl (pgs_cons (pg_name (i := 2) sc_Walker_slot_at.nd rfl (.inl rfl)) (pgs_cons (pg_name (i := 3) sc_Walker_slot_at.nd rfl (.inl rfl)) pgs_nil))))
      (pss_cons (ps_if (pt_cmpR op_eq (pv 2) (pe_callB (lenK (K := K) rfl) (by rfl) T.m_len (by decide +kernel) (pa_cons (fldK (K := K) rfl (pv 0) rfl) pa_nil)) (nomark _))
      (pss_one (ps_ret pe_non))
      pss_nil)
      (pss_one (ps_ret (pe_ifExp (pt_cmpR op_eq (pv 3) pe_int (nomark _)) (fldK (K := K) rfl (pe_ix (ixLK (K := K) rfl) (fldK (K := K) rfl (pv 0) rfl) (pv 2) (fun _ _ => rfl)) rfl) (pe_ix (ixTK (K := K) rfl) (pe_ix (ixLK (K := K) rfl) (pe_meth (pv 0) T.cl_Walker T.M_Walker_entries_in G_Walker_entries_in hr T.b_Walker_entries_in .nil pass0 (pa_cons (pv 2) pa_nil)) (pv 3) (fun _ _ => rfl)) pe_int (fun _ _ => rfl))))))), ?_⟩
    refine ⟨.ref u, rfl, u, _, rfl, SqT.of hu, rfl, _, _, rfl, _, _, rfl, rfl, ?_⟩
    refine ⟨.int (stA es s n : Nat), rfl, .ref x, rfl, x, A 42, dx, _, _, rfl, hW.ix, T.cl_Walker, T.n_Walker_heads, rfl, hl, _, rfl, .inl (SqL.of hW.ih), rfl, _, rfl, ite2 (fun c => ?_) (fun c => ?_)⟩
    · rw [hW.len] at c
      have hn := (stA_is (es := es) hR.lo).mp (vi_eq c)
      have hq := q H ExI.refl
      rw [opS, if_pos (stA_end hn).2, slotV_end hn] at hq
      exact hq ⟨_, _, _, _, hW⟩
    · rw [hW.len] at c
      have hn : n < es.length := by
        apply Classical.byContradiction
        exact fun h => vi_ne c (stA_end h).1
      obtain ⟨n1, n2, n3⟩ := stA_in hR.lo hn
      have gn : es[n]? = some es[n] := List.getElem?_eq_getElem hn
      rw [slotV_in gn] at q
      have gc := cutE_get (es := es) (s := s) n2
      rw [n3, gn] at gc
      refine ⟨.int (stE es s n : Nat), rfl, rfl, _, rfl, ite2 (fun c2 => ?_) (fun c2 => ?_)⟩
      · have e0 : stE es s n = 0 := vi_eq (b := 0) c2
        obtain ⟨b, db, gb, hb⟩ := hW.blk n1
        have hq := q H ExI.refl
        rw [opS, if_pos e0] at hq
        rw [e0] at gc
        refine ⟨.ref x, rfl, x, A 42, dx, _, _, rfl, hW.ix, T.cl_Walker, T.n_Walker_heads, rfl, .int (stA es s n : Nat), rfl, hl, _, _, _, rfl, rfl, SqL.of hW.ih, atI_nat gb, b, A 53, db, _, _, rfl, hb, T.cl_Block, T.n_Block_first, rfl, ?_⟩
        rw [fst_at gc]
        exact hq ⟨_, _, _, _, hW⟩
      · have e0 : ¬ stE es s n = 0 := fun e => c2 (decide_eq_true (by rw [e]; rfl))
        rw [opS, if_neg e0] at q
        refine ⟨.ref x, rfl, x, dx, _, rfl, hW.ix, rfl, .int (stA es s n : Nat), rfl, x, d, t, s, es, ls, O, stA es s n, rfl, ⟨_, _, _, _, hW⟩, hR, n1, fun l xs H' i hW' hl' hE' => ?_⟩
        obtain ⟨a, ga, ta, ha, _⟩ := hE'.2 _ _ gc
        exact ⟨.int (stE es s n : Nat), rfl, l, _, _, _, rfl, rfl, SqL.of hl', atI_nat ga, a, _, 0, _, rfl, rfl, SqT.of ha, atI_nat (j := 0) rfl, q H' i hW'⟩
/-- where the walker stands -/
def WkAt (CW CB : Addr) (H : Hp) (x d : Addr) (s : Nat) (es : List En) (ls O : List Nat) (n : Nat) : Prop := ∃ t, WkH CW CB H x d t s es ls O ∧ StAt H t s es n ∧ n ≤ es.length
theorem StAt.keep {H H' : Hp} {d t : Addr} {s n : Nat} {es : List En} (h : StAt H t s es n) (hd : ∃ kvs, H d = some (.dK kvs)) (i : ExI d H H') : StAt H' t s es n := let ⟨_, hd⟩ := hd; tup_keep h hd i
def spSlo (CW CB : Addr) : Sp := fun vs H Q _ => ∃ (x d : Addr) (s : Nat) (es : List En) (ls O : List Nat) (n : Nat), vs = [.ref x] ∧ WkAt CW CB H x d s es ls O n ∧ WkR s es ls ∧
  ∀ H', ExI d H H' → WkAt CW CB H' x d s es ls (opS O es s n) n → Q (slotV es n) H'
set_option maxHeartbeats 4000000 in
theorem ok_slot (T : TX K mg A FD TK CC) : FnOk P w K mg base CX0 6 (A 80) (FD 80) ["self"] (spSlo (A 42) (A 53)) := by
  have G_Walker_slot_at := ok_slot_at (P := P) (w := w) (base := base) T
  refine T.f_Walker_slot.ok (k := 5) sc_Walker_slot (fun vs H Q E h => ?_) (fun cdv A' outer s H vs Q E hr h => ?_)
  · obtain ⟨x, d, s, es, ls, O, n, rfl, _⟩ := h
    rfl
  · obtain ⟨x, d, s, es, ls, O, n, rfl, ⟨t, hH, hS, hn⟩, hR, q⟩ := h
    obtain ⟨dx, hl, bs, kvs, hW⟩ := id hH
    refine ⟨_, (pss_one (ps_ret (pe_meth (pv 0) T.cl_Walker T.M_Walker_slot_at G_Walker_slot_at hr T.b_Walker_slot_at .nil pass0 (pa_cons (fldK (K := K) rfl (pv 0) rfl) pa_nil)))), ?_⟩
    exact ⟨.ref x, rfl, x, dx, _, rfl, hW.ix, rfl, .ref x, rfl, x, A 42, dx, _, _, rfl, hW.ix, T.cl_Walker, T.n_Walker_standing, rfl, x, d, t, t, s, es, ls, O, n, rfl, hH, hR, hS, fun H' i h' => q H' i ⟨t, h', hS.keep ⟨_, hW.id⟩ i, hn⟩⟩
def spRea (CW CB : Addr) : Sp := fun vs H Q _ => ∃ (x d t : Addr) (s : Nat) (es : List En) (ls O : List Nat) (z : Int) (a : Nat), vs = [.ref x, .int z, .int (a : Int)] ∧ WkH CW CB H x d t s es ls O ∧ WkR s es ls ∧ a ≤ nb es.length s ∧
  ∀ b, Reach es s z a b → Q (.int (b : Int)) H
set_option maxHeartbeats 8000000 in
theorem ok_reaching (T : TX K mg A FD TK CC) : FnOk P w K mg base CX0 1 (A 89) (FD 89) ["self", "slot", "at"] (spRea (A 42) (A 53)) := by
  refine T.f_Walker_reaching.ok (k := 0) sc_Walker_reaching (fun vs H Q E h => ?_) (fun cdv A' outer s H vs Q E hr h => ?_)
  · obtain ⟨x, d, t, s, es, ls, O, z, a, rfl, _⟩ := h
    rfl
  · obtain ⟨x, d, t, s, es, ls, O, z, a, rfl, ⟨dx, hl, bs, kvs, hW⟩, hR, ha, q⟩ := h
    refine ⟨_, (pss_cons (ps_while PassesOwn.never (PW.pt (pw_and (pt_cmpR op_lt (pv 2) (pe_callB (lenK (K := K) rfl) (by rfl) T.m_len (by decide +kernel) (pa_cons (fldK (K := K) rfl (pv 0) rfl) pa_nil)) (nomark _)) (pw_and1 (pt_cmpR op_lt (fldK (K := K) rfl (pe_ix (ixLK (K := K) rfl) (fldK (K := K) rfl (pv 0) rfl) (pv 2) (fun _ _ => rfl)) rfl) (pv 1) (nomark _)))))
      (pss_one (ps_aug (i := 2) sc_Walker_reaching.nd rfl (.inl rfl) pe_int ip_add)))
      (pss_one (ps_ret (pv 2)))), ?_⟩
    refine ⟨fun m σ' H' => H' = H ∧ ∃ b : Nat, σ' = [some (.ref x), some (.int z), some (.int (b : Int))] ∧ m = nb es.length s - b ∧ a ≤ b ∧ b ≤ nb es.length s ∧ ∀ j, a ≤ j → j < b → (lstE (cutE es s j) : Int) < z, ⟨_, rfl, a, rfl, rfl, Nat.le_refl _, ha, fun j h1 h2 => by omega⟩, fun m σ' H' p => ?_⟩
    obtain ⟨rfl, b, rfl, rfl, b1, b2, b3⟩ := p
    refine ⟨.int (b : Int), rfl, .ref x, rfl, x, A 42, dx, _, _, rfl, hW.ix, T.cl_Walker, T.n_Walker_heads, rfl, hl, _, rfl, .inl (SqL.of hW.ih), _, _, rfl, rfl, _, rfl, ite2 (fun c => ?_) (fun c => ?_)⟩
    · rw [hW.len] at c
      have hb : b < nb es.length s := by
        have : (b : Int) < (nb es.length s : Nat) := of_decide_eq_true c
        omega
      obtain ⟨bb, db, gb, hbb⟩ := hW.blk hb
      refine ⟨.ref x, rfl, x, A 42, dx, _, _, rfl, hW.ix, T.cl_Walker, T.n_Walker_heads, rfl, .int (b : Int), rfl, hl, _, _, _, rfl, rfl, SqL.of hW.ih, atI_nat gb, bb, A 53, db, _, _, rfl, hbb, T.cl_Block, T.n_Block_last, rfl, .int z, rfl, _, _, rfl, rfl, _, rfl, ite2 (fun c2 => ?_) (fun c2 => ?_)⟩
      · have hz : (lstE (cutE es s b) : Int) < z := of_decide_eq_true c2
        refine ⟨fun σ' H1 => σ' = [some (.ref x), some (.int z), some (.int ((b + 1 : Nat) : Int))] ∧ H1 = H', fun σ' H1 e => ?_, .int (b : Int), rfl, _, _, rfl, rfl, rfl, rfl⟩
        obtain ⟨rfl, rfl⟩ := e
        refine ⟨_, (by omega : nb es.length s - (b + 1) < _), rfl, b + 1, rfl, rfl, by omega, by omega, fun j h1 h2 => ?_⟩
        by_cases e : j = b
        · exact e ▸ hz
        · exact b3 j h1 (by omega)
      · exact ⟨.int (b : Int), rfl, q b ⟨b1, b2, b3, fun _ => by
          have : ¬ (lstE (cutE es s b) : Int) < z := fun h => c2 (decide_eq_true h)
          omega⟩⟩
    · rw [hW.len] at c
      have hb : ¬ b < nb es.length s := fun h => c (decide_eq_true (by omega))
      exact ⟨.int (b : Int), rfl, q b ⟨b1, b2, b3, fun h => absurd h hb⟩⟩
theorem WkH.ex {CW CB : Addr} {H H' : Hp} {x d t : Addr} {s : Nat} {es : List En} {ls O : List Nat} (h : WkH CW CB H x d t s es ls O) (i : Ex H H') : WkH CW CB H' x d t s es ls O := let ⟨a, b, c, e, h⟩ := h; ⟨a, b, c, e, h.ex i⟩
theorem StAt.ex {H H' : Hp} {t : Addr} {s n : Nat} {es : List En} (h : StAt H t s es n) (i : Ex H H') : StAt H' t s es n := i _ _ h
theorem WkAt.ex {CW CB : Addr} {H H' : Hp} {x d : Addr} {s n : Nat} {es : List En} {ls O : List Nat} (h : WkAt CW CB H x d s es ls O n) (i : Ex H H') : WkAt CW CB H' x d s es ls O n := let ⟨t, h1, h2, h3⟩ := h; ⟨t, h1.ex i, h2.ex i, h3⟩
def BlkV (CB : Addr) (H : Hp) (v : V) (s : Nat) (es : List En) (ls : List Nat) (a : Nat) : Prop := (a < nb es.length s ∧ ∃ b, v = .ref b ∧ BlkAt CB H b (cutE es s a) ls) ∨ (a = nb es.length s ∧ v = .non)
def spHat (CW CB : Addr) : Sp := fun vs H Q _ => ∃ (x d t : Addr) (s : Nat) (es : List En) (ls O : List Nat) (a : Nat), vs = [.ref x, .int (a : Int)] ∧ WkH CW CB H x d t s es ls O ∧ a ≤ nb es.length s ∧ ∀ v, BlkV CB H v s es ls a → Q v H
theorem ok_head_at (T : TX K mg A FD TK CC) : FnOk P w K mg base CX0 1 (A 86) (FD 86) ["self", "at"] (spHat (A 42) (A 53)) := by
  refine T.f_Walker_head_at.ok (k := 0) sc_Walker_head_at (fun vs H Q E h => ?_) (fun cdv A' outer s H vs Q E hr h => ?_)
  · obtain ⟨x, d, t, s, es, ls, O, a, rfl, _⟩ := h
    rfl
  · obtain ⟨x, d, t, s, es, ls, O, a, rfl, ⟨dx, hl, bs, kvs, hW⟩, ha, q⟩ := h
    refine ⟨_, (pss_one (ps_ret (pe_ifExp (pt_cmpR op_lt (pv 1) (pe_callB (lenK (K := K) rfl) (by rfl) T.m_len (by decide +kernel) (pa_cons (fldK (K := K) rfl (pv 0) rfl) pa_nil)) (nomark _)) (pe_ix (ixLK (K := K) rfl) (fldK (K := K) rfl (pv 0) rfl) (pv 1) (fun _ _ => rfl)) pe_non))), ?_⟩
    refine ⟨.int (a : Int), rfl, .ref x, rfl, x, A 42, dx, _, _, rfl, hW.ix, T.cl_Walker, T.n_Walker_heads, rfl, hl, _, rfl, .inl (SqL.of hW.ih), _, _, rfl, rfl, _, rfl, ite2 (fun c => ?_) (fun c => ?_)⟩
    · rw [hW.len] at c
      have h1 : a < nb es.length s := by
        have : (a : Int) < (nb es.length s : Nat) := of_decide_eq_true c
        omega
      obtain ⟨b, db, gb, hb⟩ := hW.blk h1
      exact ⟨.ref x, rfl, x, A 42, dx, _, _, rfl, hW.ix, T.cl_Walker, T.n_Walker_heads, rfl, .int (a : Int), rfl, hl, _, _, _, rfl, rfl, SqL.of hW.ih, atI_nat gb, q _ (.inl ⟨h1, b, rfl, db, hb⟩)⟩
    · rw [hW.len] at c
      have h1 : ¬ a < nb es.length s := fun h => c (decide_eq_true (by omega))
      exact q _ (.inr ⟨by omega, rfl⟩)
def spBlo (CW CB : Addr) : Sp := fun vs H Q _ => ∃ (x d : Addr) (s : Nat) (es : List En) (ls O : List Nat) (n : Nat), vs = [.ref x] ∧ WkAt CW CB H x d s es ls O n ∧ WkR s es ls ∧ ∀ v, BlkV CB H v s es ls (stA es s n) → Q v H
theorem ok_block (T : TX K mg A FD TK CC) : FnOk P w K mg base CX0 2 (A 84) (FD 84) ["self"] (spBlo (A 42) (A 53)) := by
  have G_Walker_head_at := ok_head_at (P := P) (w := w) (base := base) T
  refine T.f_Walker_block.ok (k := 1) sc_Walker_block (fun vs H Q E h => ?_) (fun cdv A' outer s H vs Q E hr h => ?_)
  · obtain ⟨x, d, s, es, ls, O, n, rfl, _⟩ := h
    rfl
  · obtain ⟨x, d, s, es, ls, O, n, rfl, ⟨t, hH, hS, hn⟩, hR, q⟩ := h
    obtain ⟨dx, hl, bs, kvs, hW⟩ := id hH
    refine ⟨_, (pss_one (ps_ret (pe_meth (pv 0) T.cl_Walker T.M_Walker_head_at G_Walker_head_at hr T.b_Walker_head_at .nil pass0 (pa_cons (pe_ix (ixTK (K := K) rfl) (fldK (K := K) rfl (pv 0) rfl) pe_int (fun _ _ => rfl)) pa_nil)))), ?_⟩
    exact ⟨.ref x, rfl, x, dx, _, rfl, hW.ix, rfl, .ref x, rfl, x, A 42, dx, _, _, rfl, hW.ix, T.cl_Walker, T.n_Walker_standing, rfl, t, _, 0, _, rfl, rfl, SqT.of hS, atI_nat (j := 0) rfl, x, d, t, s, es, ls, O, _, rfl, hH, stA_le hR.lo, q⟩
def RetE (C : Addr) (H : Hp) (E : XK) : Prop := ∀ H', Ex H H' → E (.ref C) none H'
def spCkN (K : PySem.W.Frag) (CN : Addr) : Sp := fun vs H Q E => ∃ v : V, vs = [v] ∧ ((∃ z : Int, v = .int z ∧ RetV .non H Q) ∨ (Odd K H v ∧ RetE CN H E))
theorem ok_check_number (T : TX K mg A FD TK CC) : FnOk P w K mg base (L2.CX P w) 2 (A 43) (FD 43) ["slot"] (spCkN K (A 5)) := by
  have G_is_whole := ok_whlA (P := P) (w := w) (base := base) T
  refine T.f_check_number.okX (k := 1) sc_check_number (fun vs H Q E h => ?_) (fun cdv A' outer s H vs Q E hr h => ?_)
  · obtain ⟨v, rfl, _⟩ := h
    rfl
  · obtain ⟨v, rfl, h⟩ := h
    refine ⟨_, (pss_one (ps_if (pt_not (pt_val (pe_call G_is_whole hr (by rfl) T.g_is_whole T.f_is_whole.kp T.b_is_whole .nil pass0 (pa_cons (pv 0) pa_nil))))
      (pss_one (ps_raise rfl (takes_of rfl rfl rfl rfl) (pmk_own PySem.F.excBase_ValueError T.x_NoNumber T.k_NoNumber T.kc_NoNumber (raises_own T.br_NoNumber T.ty_NoNumber) rfl)))
      pss_nil)), ?_⟩
    rcases h with ⟨z, rfl, q⟩ | ⟨ho, q⟩
    · exact ⟨.int z, rfl, .int z, rfl, .inl ⟨⟨z, rfl⟩, true, rfl, ite2 (fun h => absurd (show false = true from h) Bool.false_ne_true) (fun _ => q H (Ex.refl _))⟩⟩
    · refine ⟨v, rfl, v, rfl, .inr ⟨ho, false, rfl, ite2 (fun _ => ?_) (fun h => absurd rfl h)⟩⟩
      exact q H (Ex.refl _)
def spBat (K : PySem.W.Frag) (CW CB CN : Addr) : Sp := fun vs H Q E => ∃ (x d : Addr) (s : Nat) (es : List En) (ls O : List Nat) (n : Nat) (v : V), vs = [.ref x, v] ∧ WkAt CW CB H x d s es ls O n ∧ WkR s es ls ∧ ((∃ z : Int, v = .int z ∧ ∀ b u H', Ex H H' → Reach es s z (stA es s n) b → BlkV CB H' u s es ls b → Q u H') ∨ (Odd K H v ∧ RetE CN H E))
theorem ok_block_at (T : TX K mg A FD TK CC) : FnOk P w K mg base (L2.CX P w) 3 (A 85) (FD 85) ["self", "slot"] (spBat K (A 42) (A 53) (A 5)) := by
  have G_Walker_head_at := (ok_head_at (P := P) (w := w) (base := base) T).mono (show 1 ≤ 2 by decide)
  have G_Walker_reaching := (ok_reaching (P := P) (w := w) (base := base) T).mono (show 1 ≤ 2 by decide)
  have G_check_number := ok_check_number (P := P) (w := w) (base := base) T
  refine T.f_Walker_block_at.okX (k := 2) sc_Walker_block_at (fun vs H Q E h => ?_) (fun cdv A' outer s H vs Q E hr h => ?_)
  · obtain ⟨x, d, s, es, ls, O, n, v, rfl, _⟩ := h
    rfl
  · obtain ⟨x, d, s, es, ls, O, n, v, rfl, ⟨t, hH, hS, hn⟩, hR, h⟩ := h
    obtain ⟨dx, hl, bs, kvs, hW⟩ := id hH
    refine ⟨_, (pss_cons (ps_expr (pe_call G_check_number hr (by rfl) T.g_check_number T.f_check_number.kp T.b_check_number .nil (passes_call (takes_of rfl rfl rfl rfl) (fun _ _ _ _ h => h)) (pa_cons (pv 1) pa_nil)))
      (pss_one (ps_ret (pe_meth (pv 0) T.cl_Walker T.M_Walker_head_at G_Walker_head_at hr T.b_Walker_head_at .nil pass0 (pa_cons (pe_meth (pv 0) T.cl_Walker T.M_Walker_reaching G_Walker_reaching hr T.b_Walker_reaching .nil pass0 (pa_cons (pv 1) (pa_cons (pe_ix (ixTK (K := K) rfl) (fldK (K := K) rfl (pv 0) rfl) pe_int (fun _ _ => rfl)) pa_nil))) pa_nil))))), ?_⟩
    rcases h with ⟨z, rfl, q⟩ | ⟨ho, q⟩
    · refine ⟨.int z, rfl, .int z, rfl, .inl ⟨z, rfl, fun H1 e1 => ?_⟩⟩
      replace hW := hW.ex e1
      replace hH := hH.ex e1
      replace hS := hS.ex e1
      exact ⟨.ref x, rfl, x, dx, _, rfl, hW.ix, rfl, .ref x, rfl, x, dx, _, rfl, hW.ix, rfl, .int z, rfl, .ref x, rfl, x, A 42, dx, _, _, rfl, hW.ix, T.cl_Walker, T.n_Walker_standing, rfl, t, _, 0, _, rfl, rfl, SqT.of hS, atI_nat (j := 0) rfl, x, d, t, s, es, ls, O, z, _, rfl, hH, hR, stA_le hR.lo, fun b hb =>
        ⟨x, d, t, s, es, ls, O, b, rfl, hH, hb.le, fun v hv => q b v H1 e1 hb hv⟩⟩
    · exact ⟨v, rfl, v, rfl, .inr ⟨ho, q⟩⟩
theorem opS_idem {O : List Nat} {es : List En} {s n : Nat} : opS (opS O es s n) es s n = opS O es s n := by
  unfold opS
  by_cases c : stE es s n = 0
  · rw [if_pos c, if_pos c]
  · rw [if_neg c, if_neg c]
    exact addO_in (mem_addO.mpr (.inr rfl))
theorem st_next {es : List En} {s n : Nat} (hs : 0 < s) (hn : n < es.length) (h : ¬ stE es s n + 1 < (cutE es s (stA es s n)).length) : stA es s (n + 1) = stA es s n + 1 ∧ stE es s (n + 1) = 0 := by
  obtain ⟨n1, n2, n3⟩ := stA_in hs hn
  generalize stA es s n = a at n1 n2 n3 h ⊢
  generalize stE es s n = e at n2 n3 h ⊢
  rw [cutE_len] at n2 h
  have l1 := (nb_lt (n := es.length) hs).mp n1
  have ea : (a + 1) * s = a * s + s := by rw [Nat.add_mul, Nat.one_mul]
  by_cases c : n + 1 < es.length
  · have e1 : n + 1 = (a + 1) * s + 0 := by omega
    have l2 : a + 1 < nb es.length s := (nb_lt hs).mpr (by omega)
    have := st_of hs l2 (cutE_pos hs l2)
    rw [← e1] at this
    exact this
  · obtain ⟨k1, k2⟩ := stA_end (s := s) c
    rw [k1]
    refine ⟨?_, k2⟩
    have l2 : ¬ a + 1 < nb es.length s := fun z => by
      have := (nb_lt hs).mp z
      omega
    omega
theorem st_zero {es : List En} {s : Nat} (hs : 0 < s) : stA es s 0 = 0 ∧ stE es s 0 = 0 := by
  by_cases c : 0 < es.length
  · unfold stA stE
    rw [if_pos c, if_pos c]
    exact ⟨Nat.zero_div _, Nat.zero_mod _⟩
  · obtain ⟨k1, k2⟩ := stA_end (s := s) c
    refine ⟨?_, k2⟩
    rw [k1, show es.length = 0 by omega]
    unfold nb
    exact Nat.div_eq_of_lt (by omega)
def spSou (CW CB : Addr) : Sp := fun vs H Q _ => ∃ (x d t u : Addr) (s : Nat) (es : List En) (ls O : List Nat) (n : Nat) (z : Int), vs = [.ref x, .int z, .ref u] ∧ WkH CW CB H x d t s es ls O ∧ WkR s es ls ∧ StAt H u s es n ∧ n ≤ es.length ∧
  ∀ (m : Nat) (t' : Addr) (H' : Hp), Sought es z n m → ExI d H H' → WkH CW CB H' x d t s es ls (opS (opS O es s n) es s m) → StAt H' t' s es m → Q (.ref t') H'
set_option maxHeartbeats 16000000 in
theorem ok_sought (T : TX K mg A FD TK CC) : FnOk P w K mg base CX0 6 (A 90) (FD 90) ["self", "slot", "standing"] (spSou (A 42) (A 53)) := by
  have G_Walker_slot_at := ok_slot_at (P := P) (w := w) (base := base) T
  have G_Walker_entries_in := (ok_entries_in (P := P) (w := w) (base := base) T).mono (show 4 ≤ 5 by decide)
  have G_Walker_reaching := (ok_reaching (P := P) (w := w) (base := base) T).mono (show 1 ≤ 5 by decide)
  refine T.f_Walker_sought.ok (k := 5) sc_Walker_sought (fun vs H Q E h => ?_) (fun cdv A' outer s H vs Q E hr h => ?_)
  · obtain ⟨x, d, t, u, s, es, ls, O, n, z, rfl, _⟩ := h
    rfl
  · obtain ⟨x, d, t, u, s, es, ls, O, n, z, rfl, hH, hR, hu, hn, q⟩ := h
    obtain ⟨dx0, hl0, bs0, kvs0, hW0⟩ := id hH
    refine ⟨_, (pss_cons (ps_set (i := 3) sc_Walker_sought.nd rfl (.inl rfl) (pe_meth (pv 0) T.cl_Walker T.M_Walker_slot_at G_Walker_slot_at hr T.b_Walker_slot_at .nil pass0 (pa_cons (pv 2) pa_nil)))
      (pss_cons (ps_if (PW.pt (pw_or (pt_cmpR op_isN (pv 3) pe_non (nomark _)) (pw_or1 (pt_cmpR op_le (pv 1) (pv 3) (nomark _)))))
      (pss_one (ps_ret (pv 2)))
      pss_nil)
      (pss_cons (ps_set (i := 4) sc_Walker_sought.nd rfl (.inl rfl) (pe_meth (pv 0) T.cl_Walker T.M_Walker_reaching G_Walker_reaching hr T.b_Walker_reaching .nil pass0 (pa_cons (pv 1) (pa_cons (pe_ix (ixTK (K := K) rfl) (pv 2) pe_int (fun _ _ => rfl)) pa_nil))))
      (pss_cons (ps_if (PW.pt (pw_or (pt_cmpR op_eq (pv 4) (pe_callB (lenK (K := K) rfl) (by rfl) T.m_len (by decide +kernel) (pa_cons (fldK (K := K) rfl (pv 0) rfl) pa_nil)) (nomark _)) (pw_or1 (pt_cmpR op_le (pv 1) (fldK (K := K) rfl (pe_ix (ixLK (K := K) rfl) (fldK (K := K) rfl (pv 0) rfl) (pv 4) (fun _ _ => rfl)) rfl) (nomark _)))))
      (pss_one (ps_ret (pe_tup (pa_cons (pv 4) (pa_cons pe_int pa_nil)))))
      pss_nil)
      (pss_one (ps_ret (pe_tup (pa_cons (pv 4) (pa_cons (pe_callB (lenK (K := K) rfl) (by rfl) T.m_len (by decide +kernel) (pa_cons (pe_lc (own := [("one", 5), ("places", 6)])  rfl sc_Walker_sought.nd (piLK (K := K) rfl (pe_meth (pv 0) T.cl_Walker T.M_Walker_entries_in G_Walker_entries_in hr T.b_Walker_entries_in .nil pass0 (pa_cons (pv 4) pa_nil))) (blkOk_by (own := [("one", 5), ("places", 6)]) (N := N_Walker_sought) (sc := defScope (inClass (topS 42) 13)) (by decide +kernel)) (fun _ _ _ _ _ => (tupGK (K := K) (n := 2) rfl rfl (pgs_cons (pg_name (i := 5) sc_Walker_sought.nd rfl (Or.inl rfl)) (pgs_cons (pg_name (i := 6) sc_Walker_sought.nd rfl (Or.inl rfl)) pgs_nil)))) (fun _ _ _ _ _ => (pts_one (pt_cmpR op_lt (pv 5) (pv 1) (nomark _)))) (fun _ _ _ _ _ => (pv 5))) pa_nil)) pa_nil))))))))), ?_⟩
    refine ⟨.ref x, rfl, x, dx0, _, rfl, hW0.ix, rfl, .ref u, rfl, x, d, t, u, s, es, ls, O, n, rfl, hH, hR, hu, fun H1 i1 hH1 => ?_⟩
    have hu1 := hu.keep ⟨_, hW0.id⟩ i1
    have same : Sought es z n n → Q (.ref u) H1 := fun hs => q n u H1 hs i1 (by rw [opS_idem]; exact hH1) hu1
    obtain ⟨dx, hl, bs, kvs, hW⟩ := id hH1
    generalize hO1 : opS O es s n = O1 at hH1 hW q
    by_cases c : n < es.length
    · have gn : es[n]? = some es[n] := List.getElem?_eq_getElem c
      rw [slotV_in gn]
      refine ⟨.int (es[n].1 : Nat), rfl, rfl, _, rfl, ite2 (fun c1 => absurd (of_decide_eq_true c1) (by intro z; cases z)) (fun _ => ?_)⟩
      refine ⟨.int z, rfl, .int (es[n].1 : Nat), rfl, _, _, rfl, rfl, _, rfl, ite2 (fun c1 => ?_) (fun c1 => ?_)⟩
      · exact ⟨.ref u, rfl, same (sought_at gn (of_decide_eq_true c1))⟩
      · have hz : (es[n].1 : Int) < z := by
          have : ¬ z ≤ (es[n].1 : Nat) := fun h => c1 (decide_eq_true h)
          omega
        obtain ⟨n1, n2, n3⟩ := stA_in hR.lo c
        have eA : stA es s n = n / s := if_pos c
        refine ⟨.ref x, rfl, x, dx, _, rfl, hW.ix, rfl, .int z, rfl, .ref u, rfl, u, _, 0, _, rfl, rfl, SqT.of hu1, atI_nat (j := 0) rfl, x, d, t, s, es, ls, O1, z, _, rfl, hH1, hR, Nat.le_of_lt n1, fun b hb => ?_⟩
        rw [eA] at hb
        refine ⟨.int (b : Int), rfl, .ref x, rfl, x, A 42, dx, _, _, rfl, hW.ix, T.cl_Walker, T.n_Walker_heads, rfl, hl, _, rfl, .inl (SqL.of hW.ih), rfl, _, rfl, ite2 (fun c2 => ?_) (fun c2 => ?_)⟩
        · rw [hW.len] at c2
          have eb := vi_eq c2
          rw [eb] at hb ⊢
          refine ⟨.int (nb es.length s : Nat), rfl, by show 2 ≤ sizeLine; decide, fun p np => ?_⟩
          have eN := Ex.new (o := .tup [.int (nb es.length s : Nat), .int 0]) np
          have k := stA_end (es := es) (s := s) (n := es.length) (Nat.lt_irrefl _)
          refine q es.length p _ (sought_none hR.ens.ris hR.lo hn hb) (i1.trans (ExI.ofEx eN)) ?_ ?_
          · rw [opS, if_pos k.2]
            exact hH1.ex eN
          · unfold StAt
            rw [k.1, k.2]
            exact upd_same
        · rw [hW.len] at c2
          have nb1 : b < nb es.length s := Nat.lt_of_le_of_ne hb.le (fun e => vi_ne c2 e)
          obtain ⟨bb, db, gb, hbb⟩ := hW.blk nb1
          have cp := cutE_pos (es := es) hR.lo nb1
          refine ⟨.int z, rfl, .ref x, rfl, x, A 42, dx, _, _, rfl, hW.ix, T.cl_Walker, T.n_Walker_heads, rfl, .int (b : Int), rfl, hl, _, _, _, rfl, rfl, SqL.of hW.ih, atI_nat gb, bb, A 53, db, _, _, rfl, hbb, T.cl_Block, T.n_Block_first, rfl, _, _, rfl, rfl, _, rfl, ite2 (fun c3 => ?_) (fun c3 => ?_)⟩
          · have hf : z ≤ (fstE (cutE es s b) : Int) := of_decide_eq_true c3
            refine ⟨.int (b : Int), rfl, by show 2 ≤ sizeLine; decide, fun p np => ?_⟩
            have eN := Ex.new (o := .tup [.int (b : Int), .int 0]) np
            have k := st_of hR.lo nb1 cp
            refine q (b * s + 0) p _ (sought_first hR.ens.ris hR.lo gn hz hb nb1 hf) (i1.trans (ExI.ofEx eN)) ?_ ?_
            · rw [opS, if_pos k.2]
              exact hH1.ex eN
            · unfold StAt
              rw [k.1, k.2]
              exact upd_same
          · have hf : (fstE (cutE es s b) : Int) < z := by
              have : ¬ z ≤ (fstE (cutE es s b) : Int) := fun h => c3 (decide_eq_true h)
              omega
            obtain ⟨s1, s2, s3⟩ := sought_in hR.ens.ris hR.lo gn hz hb nb1 hf
            have k := st_of hR.lo nb1 s2
            have k0 : ¬ stE es s (b * s + lessN (cutE es s b) z) = 0 := by rw [k.2]; omega
            refine ⟨.int (b : Int), rfl, .ref x, rfl, x, dx, _, rfl, hW.ix, rfl, .int (b : Int), rfl, x, d, t, s, es, ls, O1, b, rfl, hH1, hR, nb1, fun l xs H2 i2 hH2 hl2 hE2 => ?_⟩
            refine ⟨l, rfl, ⟨_, SqL.of hl2⟩, fun D nD => ?_⟩
            have few := (hR.ens.cut s b).few
            refine lc_list (K := K) (xs := xs) (fun i H' => Ex H2 H' ∧ H' D = some (.lst (nvs ((((cutE es s b).take i).filter fun e => decide ((e.1 : Int) < z)).map (·.1))))) ⟨Ex.new nD, upd_same⟩ (fun i H' _ p => ex_l p.1 (SqL.of hl2)) (fun i v H4 hv p => ?_) (fun H4 p => ?_)
            · obtain ⟨p1, p2⟩ := p
              obtain ⟨e, a, ge, rfl, hA⟩ := hE2.at hv
              obtain ⟨ta, ha, _⟩ := hA.ex p1
              refine ⟨a, _, rfl, SqT.of ha, rfl, _, _, rfl, _, _, rfl, rfl, rfl, .int (e.1 : Nat), rfl, .int z, rfl, _, _, rfl, rfl, _, rfl, ite2 (fun cc => ?_) (fun cc => ?_)⟩
              · refine ⟨.int (e.1 : Nat), rfl, _, p2, ?_, Ex.mut p1 nD, ?_⟩
                · rw [nvs_len, List.length_map]
                  have := List.length_filter_le (fun e : En => decide ((e.1 : Int) < z)) ((cutE es s b).take i)
                  rw [List.length_take] at this
                  exact sz_lt (by omega)
                · rw [upd_same, take_up ge, List.filter_append, List.map_append, show List.filter (fun f : En => decide ((f.1 : Int) < z)) [e] = [e] from List.filter_cons_of_pos (p := fun f : En => decide ((f.1 : Int) < z)) cc]
                  exact congrArg (fun z => some (HO.lst z)) (nvs_snoc _ _).symm
              · refine ⟨p1, ?_⟩
                rw [p2, take_up ge, List.filter_append, show List.filter (fun f : En => decide ((f.1 : Int) < z)) [e] = [] from List.filter_cons_of_neg (p := fun f : En => decide ((f.1 : Int) < z)) cc, List.append_nil]
            · obtain ⟨p1, p2⟩ := p
              rw [hE2.1, List.take_length] at p2
              refine ⟨D, _, rfl, .inl (SqL.of p2), by show 2 ≤ sizeLine; decide, fun p np => ?_⟩
              rw [nvs_len, List.length_map]
              have eN := Ex.new (o := .tup [.int (b : Int), .int (lessN (cutE es s b) z : Nat)]) np
              have hH4 := hH2.ex (p1.trans eN)
              refine q (b * s + lessN (cutE es s b) z) p _ s1 ((i1.trans i2).trans (ExI.ofEx (p1.trans eN))) ?_ ?_
              · rw [opS, if_neg k0, k.1]
                exact hH4
              · unfold StAt
                rw [k.1, k.2]
                exact upd_same
    · rw [slotV_end c]
      exact ⟨.non, rfl, rfl, _, rfl, ite2 (fun _ => ⟨.ref u, rfl, same (sought_end (by omega))⟩) (fun c1 => absurd rfl c1)⟩
/-- all but x and d stays -/
def ExW (x d : Addr) (H H' : Hp) : Prop := ∀ b o, b ≠ x → b ≠ d → H b = some o → H' b = some o
theorem ExI.toW {x d : Addr} {H H' : Hp} (h : ExI d H H') : ExW x d H H' := fun b o _ n2 g => h b o n2 g
theorem ExW.trans {x d : Addr} {H H' H2 : Hp} (a : ExW x d H H') (b : ExW x d H' H2) : ExW x d H H2 := fun c o n1 n2 h => b c o n1 n2 (a c o n1 n2 h)
theorem ExW.ofEx {x d : Addr} {H H' : Hp} (a : Ex H H') : ExW x d H H' := fun c o _ _ h => a c o h
theorem ExW.mutx {x d : Addr} {H : Hp} {o : HO} : ExW x d H (upd H x o) := fun b q n _ h => by
  rw [upd_ne n]
  exact h
theorem WkD.stand {CW CB : Addr} {H : Hp} {x d t t' dx hl : Addr} {s : Nat} {es : List En} {ls O : List Nat} {bs : List Addr} {kvs : List (Key × V)} (h : WkD CW CB H x d t s es ls O dx hl bs kvs) : WkD CW CB (upd H x (.ins CW dx (putF "standing" (.ref t') (walkF hl d t)))) x d t' s es ls O dx hl bs kvs := by
  have ne : ∀ {b : Addr} {o : HO}, H b = some o → o ≠ .ins CW dx (walkF hl d t) → b ≠ x := fun {b o} hb hn e => by
    subst e
    rw [h.ix] at hb
    exact hn (Option.some.inj hb).symm
  refine ⟨upd_same, ?_, ⟨h.ib.1, fun j b g => ?_⟩, ?_, h.io.mono (fun b zs hb => ?_) fun b zs hb => ?_⟩
  · rw [upd_ne (ne h.ih (by intro z; cases z))]
    exact h.ih
  · obtain ⟨db, hb⟩ := h.ib.2 j b g
    refine ⟨db, ?_⟩
    rw [upd_ne (ne hb (fun z => by
      have := congrArg (fun o => match o with | HO.ins _ _ fs => fs.length | _ => 0) z
      exact absurd (show (6 : Nat) = 3 from this) (by decide)))]
    exact hb
  · rw [upd_ne (ne h.id (by intro z; cases z))]
    exact h.id
  · rw [upd_ne (ne hb (by intro z; cases z))]
    exact hb
  · rw [upd_ne (ne hb (by intro z; cases z))]
    exact hb
theorem StAt.stand {H : Hp} {x C dx t : Addr} {s n : Nat} {es : List En} {fs gs : List (Str × V)} (h : StAt H t s es n) (hx : H x = some (.ins C dx fs)) : StAt (upd H x (.ins C dx gs)) t s es n := by
  unfold StAt
  rw [upd_ne (ne_of h hx (by intro z; cases z))]
  exact h
def spSek (K : PySem.W.Frag) (CW CB CN : Addr) : Sp := fun vs H Q E => ∃ (x d : Addr) (s : Nat) (es : List En) (ls O : List Nat) (n : Nat) (v : V), vs = [.ref x, v] ∧ WkAt CW CB H x d s es ls O n ∧ WkR s es ls ∧
  ((∃ z : Int, v = .int z ∧ ∀ (m : Nat) (H' : Hp), Sought es z n m → ExW x d H H' → WkAt CW CB H' x d s es ls (opS (opS O es s n) es s m) m → Q (slotV es m) H') ∨ (Odd K H v ∧ RetE CN H E))
set_option maxHeartbeats 4000000 in
theorem ok_seek (T : TX K mg A FD TK CC) : FnOk P w K mg base (L2.CX P w) 7 (A 82) (FD 82) ["self", "slot"] (spSek K (A 42) (A 53) (A 5)) := by
  have G_Walker_slot := ok_slot (P := P) (w := w) (base := base) T
  have G_Walker_sought := ok_sought (P := P) (w := w) (base := base) T
  have G_check_number := (ok_check_number (P := P) (w := w) (base := base) T).mono (show 2 ≤ 6 by decide)
  refine T.f_Walker_seek.okX (k := 6) sc_Walker_seek (fun vs H Q E h => ?_) (fun cdv A' outer s H vs Q E hr h => ?_)
  · obtain ⟨x, d, s, es, ls, O, n, v, rfl, _⟩ := h
    rfl
  · obtain ⟨x, d, s, es, ls, O, n, v, rfl, ⟨t, hH, hS, hn⟩, hR, h⟩ := h
    refine ⟨_, (pss_cons (ps_expr (pe_call G_check_number hr (by rfl) T.g_check_number T.f_check_number.kp T.b_check_number .nil (passes_call (takes_of rfl rfl rfl rfl) (fun _ _ _ _ h => h)) (pa_cons (pv 1) pa_nil)))
      (pss_cons (ps_fld (pv 0) (pe_meth (pv 0) T.cl_Walker T.M_Walker_sought G_Walker_sought hr T.b_Walker_sought .nil pass0 (pa_cons (pv 1) (pa_cons (fldK (K := K) rfl (pv 0) rfl) pa_nil))) rfl)
      (pss_one (ps_ret (pe_meth0 (pv 0) T.cl_Walker T.M_Walker_slot G_Walker_slot hr T.b_Walker_slot .nil pass0))))), ?_⟩
    rcases h with ⟨z, rfl, q⟩ | ⟨ho, q⟩
    rotate_left
    · exact ⟨v, rfl, v, rfl, .inr ⟨ho, q⟩⟩
    refine ⟨.int z, rfl, .int z, rfl, .inl ⟨z, rfl, fun H1 e1 => ?_⟩⟩
    have hH1 := hH.ex e1
    have hS1 := hS.ex e1
    obtain ⟨dx, hl, bs, kvs, hW⟩ := id hH1
    refine ⟨.ref x, rfl, x, dx, _, rfl, hW.ix, rfl, .int z, rfl, .ref x, rfl, x, A 42, dx, _, _, rfl, hW.ix, T.cl_Walker, T.n_Walker_standing, rfl, x, d, t, t, s, es, ls, O, n, z, rfl, hH1, hR, hS1, hn, fun m t' H2 hs i2 hH2 hS2 => ?_⟩
    obtain ⟨dx2, hl2, bs2, kvs2, hW2⟩ := id hH2
    refine ⟨.ref x, rfl, x, A 42, dx2, _, rfl, hW2.ix, T.cl_Walker, T.n_Walker_standing, (by show 3 < 1000; decide), ?_⟩
    have hW3 := hW2.stand (t' := t')
    have hS3 := hS2.stand (gs := putF "standing" (.ref t') (walkF hl2 d t)) hW2.ix
    have w3 : ExW x d H2 (upd H2 x (.ins (A 42) dx2 (putF "standing" (.ref t') (walkF hl2 d t)))) := ExW.mutx
    generalize (upd H2 x (.ins (A 42) dx2 (putF "standing" (.ref t') (walkF hl2 d t)))) = H3 at hW3 hS3 w3 ⊢
    refine ⟨.ref x, rfl, x, dx2, _, rfl, hW3.ix, rfl, x, d, s, es, ls, _, m, rfl, ⟨t', ⟨_, _, _, _, hW3⟩, hS3, hs.le⟩, hR, fun H4 i4 h4 => ?_⟩
    rw [opS_idem] at h4
    exact q m H4 hs (((ExW.ofEx e1).trans i2.toW).trans (w3.trans i4.toW)) h4
def nxt (es : List En) (n : Nat) : Nat := if n < es.length then n + 1 else n
def spStp (CW CB : Addr) : Sp := fun vs H Q _ => ∃ (x d : Addr) (s : Nat) (es : List En) (ls O : List Nat) (n : Nat), vs = [.ref x] ∧ WkAt CW CB H x d s es ls O n ∧ WkR s es ls ∧
  ∀ H' : Hp, ExW x d H H' → WkAt CW CB H' x d s es ls (opS O es s (nxt es n)) (nxt es n) → Q (slotV es (nxt es n)) H'
set_option maxHeartbeats 4000000 in
theorem ok_step (T : TX K mg A FD TK CC) : FnOk P w K mg base CX0 7 (A 81) (FD 81) ["self"] (spStp (A 42) (A 53)) := by
  have G_Walker_slot := ok_slot (P := P) (w := w) (base := base) T
  refine T.f_Walker_step.ok (k := 6) sc_Walker_step (fun vs H Q E h => ?_) (fun cdv A' outer s H vs Q E hr h => ?_)
  · obtain ⟨x, d, s, es, ls, O, n, rfl, _⟩ := h
    rfl
  · obtain ⟨x, d, s, es, ls, O, n, rfl, ⟨t, hH, hS, hn⟩, hR, q⟩ := h
    refine ⟨_, (pss_cons (ps_asg (fldK (K := K) rfl (pv 0) rfl) (pg_tup rfl (pgs_cons (pg_name (i := 1) sc_Walker_step.nd rfl (.inl rfl)) (pgs_cons (pg_name (i := 2) sc_Walker_step.nd rfl (.inl rfl)) pgs_nil))))
      (pss_cons (ps_if (pt_cmpR op_lt (pv 1) (pe_callB (lenK (K := K) rfl) (by rfl) T.m_len (by decide +kernel) (pa_cons (fldK (K := K) rfl (pv 0) rfl) pa_nil)) (nomark _))
      (pss_cons (ps_set (i := 3) sc_Walker_step.nd rfl (.inl rfl) (pe_cmpR op_lt (pe_op op_add (pv 2) pe_int) (fldK (K := K) rfl (pe_ix (ixLK (K := K) rfl) (fldK (K := K) rfl (pv 0) rfl) (pv 1) (fun _ _ => rfl)) rfl) (nomark _)))
      (pss_one (ps_fld (pv 0) (pe_ifExp (pt_val (pv 3)) (pe_tup (pa_cons (pv 1) (pa_cons (pe_op op_add (pv 2) pe_int) pa_nil))) (pe_tup (pa_cons (pe_op op_add (pv 1) pe_int) (pa_cons pe_int pa_nil)))) rfl)))
      pss_nil)
      (pss_one (ps_ret (pe_meth0 (pv 0) T.cl_Walker T.M_Walker_slot G_Walker_slot hr T.b_Walker_slot .nil pass0))))), ?_⟩
    obtain ⟨dx, hl, bs, kvs, hW⟩ := id hH
    refine ⟨.ref x, rfl, x, A 42, dx, _, _, rfl, hW.ix, T.cl_Walker, T.n_Walker_standing, rfl, t, _, rfl, SqT.of hS, rfl, _, _, rfl, _, _, rfl, rfl, ?_⟩
    refine ⟨.int (stA es s n : Nat), rfl, .ref x, rfl, x, A 42, dx, _, _, rfl, hW.ix, T.cl_Walker, T.n_Walker_heads, rfl, hl, _, rfl, .inl (SqL.of hW.ih), _, _, rfl, rfl, _, rfl, ite2 (fun c => ?_) (fun c => ?_)⟩
    · rw [hW.len] at c
      have n1 : stA es s n < nb es.length s := by
        have : (stA es s n : Int) < (nb es.length s : Nat) := of_decide_eq_true c
        omega
      have hlt : n < es.length := by
        apply Classical.byContradiction
        intro h
        have := (stA_end (s := s) h).1
        omega
      obtain ⟨_, n2, n3⟩ := stA_in hR.lo hlt
      have en : nxt es n = n + 1 := if_pos hlt
      rw [en] at q
      obtain ⟨b, db, gb, hb⟩ := hW.blk n1
      refine ⟨.int (stE es s n : Nat), rfl, _, _, rfl, rfl, .ref x, rfl, x, A 42, dx, _, _, rfl, hW.ix, T.cl_Walker, T.n_Walker_heads, rfl, .int (stA es s n : Nat), rfl, hl, _, _, _, rfl, rfl, SqL.of hW.ih, atI_nat gb, b, A 53, db, _, _, rfl, hb, T.cl_Block, T.n_Block_many, rfl, _, _, rfl, rfl, ?_⟩
      have last : ∀ (t' : Addr) (H1 : Hp), Ex H H1 → StAt H1 t' s es (n + 1) → H1 x = some (.ins (A 42) dx (walkF hl d t)) ∧ ((∀ H4, ExI d (upd H1 x (.ins (A 42) dx (putF "standing" (.ref t') (walkF hl d t)))) H4 → WkAt (A 42) (A 53) H4 x d s es ls (opS O es s (n + 1)) (n + 1) → Q (slotV es (n + 1)) H4) ∧ WkAt (A 42) (A 53) (upd H1 x (.ins (A 42) dx (putF "standing" (.ref t') (walkF hl d t)))) x d s es ls O (n + 1)) := fun t' H1 e1 hS1 => by
        have hW1 := hW.ex e1
        exact ⟨hW1.ix, fun H4 i4 h4 => q H4 ((ExW.ofEx e1).trans (ExW.mutx.trans i4.toW)) h4, t', ⟨_, _, _, _, hW1.stand⟩, hS1.stand hW1.ix, hlt⟩
      by_cases cc : stE es s n + 1 < (cutE es s (stA es s n)).length
      · have k := st_of hR.lo n1 cc
        rw [show stA es s n * s + (stE es s n + 1) = n + 1 by omega] at k
        refine ⟨_, rfl, _, rfl, ite2 (fun _ => ?_) (fun c2 => absurd (decide_eq_true (by omega)) c2)⟩
        refine ⟨.int (stA es s n : Nat), rfl, .int (stE es s n : Nat), rfl, _, _, rfl, rfl, by show 2 ≤ sizeLine; decide, fun p np => ?_⟩
        obtain ⟨hx1, q1, h1⟩ := last p _ (Ex.new np) (by unfold StAt; rw [k.1, k.2]; exact upd_same)
        refine ⟨.ref x, rfl, x, A 42, dx, _, rfl, hx1, T.cl_Walker, T.n_Walker_standing, (by show 3 < 1000; decide), ?_⟩
        obtain ⟨t1, ⟨dx1, hl1, bs1, kvs1, hW1⟩, _⟩ := id h1
        exact ⟨.ref x, rfl, x, dx1, _, rfl, hW1.ix, rfl, x, d, s, es, ls, O, n + 1, rfl, h1, hR, q1⟩
      · have k := st_next hR.lo hlt cc
        refine ⟨_, rfl, _, rfl, ite2 (fun c2 => absurd (of_decide_eq_true c2) (by omega)) (fun _ => ?_)⟩
        refine ⟨.int (stA es s n : Nat), rfl, _, _, rfl, rfl, by show 2 ≤ sizeLine; decide, fun p np => ?_⟩
        obtain ⟨hx1, q1, h1⟩ := last p _ (Ex.new np) (by unfold StAt; rw [k.1, k.2]; exact upd_same)
        refine ⟨.ref x, rfl, x, A 42, dx, _, rfl, hx1, T.cl_Walker, T.n_Walker_standing, (by show 3 < 1000; decide), ?_⟩
        obtain ⟨t1, ⟨dx1, hl1, bs1, kvs1, hW1⟩, _⟩ := id h1
        exact ⟨.ref x, rfl, x, dx1, _, rfl, hW1.ix, rfl, x, d, s, es, ls, O, n + 1, rfl, h1, hR, q1⟩
    · rw [hW.len] at c
      have hlt : ¬ n < es.length := fun h => c (decide_eq_true (by have := (stA_in hR.lo h).1; omega))
      have en : nxt es n = n := if_neg hlt
      rw [en] at q
      exact ⟨.ref x, rfl, x, dx, _, rfl, hW.ix, rfl, x, d, s, es, ls, O, n, rfl, ⟨t, hH, hS, hn⟩, hR, fun H4 i4 h4 => q H4 i4.toW h4⟩
def spPla (CW CB CP : Addr) : Sp := fun vs H Q E => ∃ (x d : Addr) (s : Nat) (es : List En) (ls O : List Nat) (n : Nat), vs = [.ref x] ∧ WkAt CW CB H x d s es ls O n ∧ WkR s es ls ∧
  ((∃ e : En, es[n]? = some e ∧ ∀ (a : Addr) (H' : Hp), ExI d H H' → WkAt CW CB H' x d s es ls (addO O (stA es s n)) n → H' a = some (.tup (nvs e.2)) → Q (.ref a) H') ∨ (¬ n < es.length ∧ RetE CP H E))
set_option maxHeartbeats 4000000 in
theorem ok_places (T : TX K mg A FD TK CC) : FnOk P w K mg base (L2.CX P w) 5 (A 83) (FD 83) ["self"] (spPla (A 42) (A 53) (A 19)) := by
  have G_Walker_entries_in := ok_entries_in (P := P) (w := w) (base := base) T
  refine T.f_Walker_places.okX (k := 4) sc_Walker_places (fun vs H Q E h => ?_) (fun cdv A' outer s H vs Q E hr h => ?_)
  · obtain ⟨x, d, s, es, ls, O, n, rfl, _⟩ := h
    rfl
  · obtain ⟨x, d, s, es, ls, O, n, rfl, ⟨t, hH, hS, hn⟩, hR, h⟩ := h
    refine ⟨_, (pss_cons (ps_asg (fldK (K := K) rfl (pv 0) rfl) (pg_tup rfl (pgs_cons (pg_name (i := 1) sc_Walker_places.nd rfl (.inl rfl)) (pgs_cons (pg_name (i := 2) sc_Walker_places.nd rfl (.inl rfl)) pgs_nil))))
      (pss_cons (ps_if (pt_cmpR op_eq (pv 1) (pe_callB (lenK (K := K) rfl) (by rfl) T.m_len (by decide +kernel) (pa_cons (fldK (K := K) rfl (pv 0) rfl) pa_nil)) (nomark _))
      (pss_one (ps_raise rfl (takes_of rfl rfl rfl rfl) (pmk_own PySem.F.excBase_IndexError T.x_NoPlace T.k_NoPlace T.kc_NoPlace (raises_own T.br_NoPlace T.ty_NoPlace) rfl)))
      pss_nil)
      (pss_one (ps_ret (pe_ix (ixTK (K := K) rfl) (pe_ix (ixLK (K := K) rfl) (pe_meth (pv 0) T.cl_Walker T.M_Walker_entries_in G_Walker_entries_in hr T.b_Walker_entries_in .nil pass0 (pa_cons (pv 1) pa_nil)) (pv 2) (fun _ _ => rfl)) pe_int (fun _ _ => rfl)))))), ?_⟩
    obtain ⟨dx, hl, bs, kvs, hW⟩ := id hH
    refine ⟨.ref x, rfl, x, A 42, dx, _, _, rfl, hW.ix, T.cl_Walker, T.n_Walker_standing, rfl, t, _, rfl, SqT.of hS, rfl, _, _, rfl, _, _, rfl, rfl, ?_⟩
    refine ⟨.int (stA es s n : Nat), rfl, .ref x, rfl, x, A 42, dx, _, _, rfl, hW.ix, T.cl_Walker, T.n_Walker_heads, rfl, hl, _, rfl, .inl (SqL.of hW.ih), rfl, _, rfl, ite2 (fun c => ?_) (fun c => ?_)⟩
    · rw [hW.len] at c
      have c := vi_eq c
      rcases h with ⟨e, gn, q⟩ | ⟨_, q⟩
      · have hlt := (List.getElem?_eq_some_iff.mp gn).1
        obtain ⟨n1, n2, n3⟩ := stA_in hR.lo hlt
        omega
      · exact q H (Ex.refl _)
    · rcases h with ⟨e, gn, q⟩ | ⟨hno, q⟩
      · have hlt := (List.getElem?_eq_some_iff.mp gn).1
        obtain ⟨n1, n2, n3⟩ := stA_in hR.lo hlt
        have gc := cutE_get (es := es) (s := s) n2
        rw [n3, gn] at gc
        refine ⟨.ref x, rfl, x, dx, _, rfl, hW.ix, rfl, .int (stA es s n : Nat), rfl, x, d, t, s, es, ls, O, stA es s n, rfl, hH, hR, n1, fun l xs H' i hW' hl' hE' => ?_⟩
        obtain ⟨a, ga, ta, ha, hta⟩ := hE'.2 _ _ gc
        exact ⟨.int (stE es s n : Nat), rfl, l, _, _, _, rfl, rfl, SqL.of hl', atI_nat ga, a, _, 1, _, rfl, rfl, SqT.of ha, atI_nat (j := 1) rfl, q ta H' i ⟨t, hW', hS.keep ⟨_, hW.id⟩ i, hn⟩ hta⟩
      · refine absurd ?_ c
        have := (stA_end (s := s) hno).1
        rw [hW.len]
        exact decide_eq_true (by show V.int ((stA es s n : Nat) : Int) = V.int ((nb es.length s : Nat) : Int); rw [this])
theorem lst_x {H : Hp} {C x dx l : Addr} {fs : List (Str × V)} {xs : List V} {o : HO} (h : H l = some (.lst xs)) (hx : H x = some (.ins C dx fs)) : (upd H x o) l = some (.lst xs) := by
  rw [upd_ne (ne_of h hx (by intro z; cases z))]
  exact h
theorem BlksAt.updx {CB : Addr} {H : Hp} {bs : List Addr} {s : Nat} {es : List En} {ls : List Nat} {C x dx : Addr} {fs : List (Str × V)} {o : HO} (h : BlksAt CB H bs s es ls) (hx : H x = some (.ins C dx fs)) (hf : fs.length ≠ 6) : BlksAt CB (upd H x o) bs s es ls := ⟨h.1, fun j b g => by
  obtain ⟨db, hb⟩ := h.2 j b g
  refine ⟨db, ?_⟩
  rw [upd_ne (ne_of hb hx (fun z => by
    have := congrArg (fun o => match o with | HO.ins _ _ fs => fs.length | _ => 0) z
    exact hf (show (6 : Nat) = fs.length from this).symm))]
  exact hb⟩
def spWIn (CW CR CB : Addr) : Sp := fun vs H Q _ => ∃ (x dx r : Addr) (z : Str) (s : Nat) (es : List En) (ls : List Nat), vs = [.ref x, .ref r] ∧ H x = some (.ins CW dx []) ∧ RowAt CR CB H r z s es ls ∧ WkR s es ls ∧
  ∀ (d : Addr) (H' : Hp), H d = none → ExI x H H' → WkAt CW CB H' x d s es ls [] 0 → Q .non H'
set_option maxHeartbeats 4000000 in
theorem ok_winit (T : TX K mg A FD TK CC) : FnOk P w K mg base CX0 2 (A 79) (FD 79) ["self", "row"] (spWIn (A 42) (A 54) (A 53)) := by
  have G_Row_blocks := ok_rblocks (P := P) (w := w) (base := base) T
  refine T.f_Walker_init.ok (k := 1) sc_Walker_init (fun vs H Q E h => ?_) (fun cdv A' outer s H vs Q E hr h => ?_)
  · obtain ⟨x, dx, r, z, s, es, ls, rfl, _⟩ := h
    rfl
  · obtain ⟨x, dx, r, z, s, es, ls, rfl, hx, hRow, hR, q⟩ := h
    refine ⟨_, (pss_cons (ps_fld (pv 0) (pe_meth0 (pv 1) T.cl_Row T.M_Row_blocks G_Row_blocks hr T.b_Row_blocks .nil pass0) rfl)
      (pss_cons (ps_fld (pv 0) pe_dnewK rfl)
      (pss_one (ps_fld (pv 0) (pe_tup (pa_cons pe_int (pa_cons pe_int pa_nil))) rfl)))), ?_⟩
    obtain ⟨dr, tr, br, hr0, _⟩ := id hRow
    refine ⟨.ref r, rfl, r, dr, _, rfl, hr0, rfl, r, z, s, es, ls, rfl, hRow, fun l bs H1 nl e1 hl1 hb1 => ?_⟩
    refine ⟨.ref x, rfl, x, A 42, dx, [], rfl, e1 _ _ hx, T.cl_Walker, T.n_Walker_heads, (by show 0 < 1000; decide), ?_⟩
    obtain ⟨i1, hx1⟩ := fld_step (f := "heads") (v := .ref l) (fun b o _ h => h) e1 hx
    have hl2 := lst_x (o := .ins (A 42) dx (putF "heads" (.ref l) [])) hl1 (e1 _ _ hx)
    have hb2 := hb1.updx (o := .ins (A 42) dx (putF "heads" (.ref l) [])) (e1 _ _ hx) (by decide)
    generalize (upd H1 x (.ins (A 42) dx (putF "heads" (.ref l) []))) = H2 at i1 hx1 hl2 hb2 ⊢
    intro d nd
    have eD := Ex.new (o := .dK []) nd
    have hd := upd_same (H := H2) (a := d) (o := .dK [])
    have nd0 : H d = none := by
      cases e : H d with
      | none => rfl
      | some o =>
        by_cases c : d = x
        · rw [c, hx1] at nd
          cases nd
        · rw [i1 d o c e] at nd
          cases nd
    generalize (upd H2 d (.dK [])) = H3 at eD hd ⊢
    refine ⟨.ref x, rfl, x, A 42, dx, _, rfl, eD _ _ hx1, T.cl_Walker, T.n_Walker_decoded, (by show 1 < 1000; decide), ?_⟩
    obtain ⟨i4, hx4⟩ := fld_step (f := "decoded") (v := .ref d) i1 eD hx1
    have hl4 := lst_x (o := .ins (A 42) dx (putF "decoded" (.ref d) (putF "heads" (.ref l) []))) (eD _ _ hl2) (eD _ _ hx1)
    have hb4 := (hb2.ex eD).updx (o := .ins (A 42) dx (putF "decoded" (.ref d) (putF "heads" (.ref l) []))) (eD _ _ hx1) (show (1 : Nat) ≠ 6 by decide)
    have hd4 : (upd H3 x (.ins (A 42) dx (putF "decoded" (.ref d) (putF "heads" (.ref l) [])))) d = some (.dK []) := by
      rw [upd_ne (ne_of hd (eD _ _ hx1) (by intro z; cases z))]
      exact hd
    generalize (upd H3 x (.ins (A 42) dx (putF "decoded" (.ref d) (putF "heads" (.ref l) [])))) = H4 at i4 hx4 hl4 hb4 hd4 ⊢
    refine ⟨by show 2 ≤ sizeLine; decide, fun t nt => ?_⟩
    have eT := Ex.new (o := .tup [.int 0, .int 0]) nt
    have ht := upd_same (H := H4) (a := t) (o := .tup [.int 0, .int 0])
    generalize (upd H4 t (.tup [.int 0, .int 0])) = H5 at eT ht ⊢
    have hx5 := eT _ _ hx4
    refine ⟨.ref x, rfl, x, A 42, dx, _, rfl, hx5, T.cl_Walker, T.n_Walker_standing, (by show 2 < 1000; decide), ?_⟩
    obtain ⟨i6, hx6⟩ := fld_step (f := "standing") (v := .ref t) i4 eT hx4
    have hl6 := lst_x (o := .ins (A 42) dx (putF "standing" (.ref t) (putF "decoded" (.ref d) (putF "heads" (.ref l) [])))) (eT _ _ hl4) hx5
    have hb6 := (hb4.ex eT).updx (o := .ins (A 42) dx (putF "standing" (.ref t) (putF "decoded" (.ref d) (putF "heads" (.ref l) [])))) hx5 (show (2 : Nat) ≠ 6 by decide)
    refine q d _ nd0 i6 ⟨t, ⟨dx, l, bs, [], hx6, hl6, hb6, ?_, DecAt.nil⟩, ?_, Nat.zero_le _⟩
    · rw [upd_ne (ne_of (eT _ _ hd4) hx5 (by intro z; cases z))]
      exact eT _ _ hd4
    · unfold StAt
      rw [upd_ne (ne_of ht hx5 (by intro z; cases z)), (st_zero hR.lo).1, (st_zero hR.lo).2]
      exact ht
theorem ris_snoc {xs : List Nat} {n : Nat} (h : Ris xs) (hn : ah xs xs.length < (n : Int)) : Ris (xs ++ [n]) := fun i x g => by
  have hd : ∀ j, j < xs.length → (xs ++ [n]).getD j 0 = xs.getD j 0 := fun j hj => by
    rw [List.getD_eq_getElem?_getD, List.getElem?_append_left hj, List.getD_eq_getElem?_getD]
  have ha : ∀ j, j ≤ xs.length → ah (xs ++ [n]) j = ah xs j := fun j hj => by
    cases j with
    | zero => rfl
    | succ j =>
      show (((xs ++ [n]).getD j 0 : Nat) : Int) = ((xs.getD j 0 : Nat) : Int)
      rw [hd j (by omega)]
  rcases snoc_at g with g | ⟨rfl, rfl⟩
  · rw [ha i (Nat.le_of_lt (List.getElem?_eq_some_iff.mp g).1)]
    exact h i x g
  · rw [ha _ (Nat.le_refl _)]
    exact hn
theorem ah_snoc (xs : List Nat) (n : Nat) : ah (xs ++ [n]) (xs.length + 1) = (n : Int) := by
  show (((xs ++ [n]).getD xs.length 0 : Nat) : Int) = (n : Int)
  rw [List.getD_eq_getElem?_getD, List.getElem?_append_right (Nat.le_refl _)]
  simp
theorem pick4 {a b c e d : Int} (h0 : 0 ≤ d) (h1 : d < 4) {B : Int} (ka : 0 ≤ a ∧ a ≤ B) (kb : 0 ≤ b ∧ b ≤ B) (kc : 0 ≤ c ∧ c ≤ B) (ke : 0 ≤ e ∧ e ≤ B) : ∃ v : Int, atI [V.int a, .int b, .int c, .int e] d = some (.int v) ∧ 0 ≤ v ∧ v ≤ B := by
  obtain ⟨j, rfl⟩ := Int.eq_ofNat_of_zero_le h0
  match j, h1 with
  | 0, _ => exact ⟨a, atI_nat rfl, ka⟩
  | 1, _ => exact ⟨b, atI_nat rfl, kb⟩
  | 2, _ => exact ⟨c, atI_nat rfl, kc⟩
  | 3, _ => exact ⟨e, atI_nat rfl, ke⟩
  | j + 4, h => omega
/-- drawn entries: few, small ones -/
structure EnsL (es : List En) : Prop where
  ens : Ens es
  few : es.length ≤ 20
  slot : ∀ e ∈ es, e.1 < 60
  place : ∀ e ∈ es, ∀ n ∈ e.2, n < 68
def spRowEn : Sp := fun vs H Q _ => ∃ (p : Addr) (c many most : Nat), vs = [.ref p, .int (many : Nat), .int (most : Nat)] ∧ many ≤ 20 ∧ 1 ≤ most ∧ most ≤ 4 ∧ Pl H p c ∧ c < 900000 ∧
  ∀ (l : Addr) (xs : List V) (es : List En) (H' : Hp), l ≠ p → H l = none → H' l = some (.lst xs) → EnsA H' xs es → EnsL es → es.length ≤ many → Pl H' p (c + 300) → Fx p H H' → Q (.ref l) H'
theorem EnsA.fx {p : Addr} {H H' : Hp} {xs : List V} {es : List En} {c : Nat} (h : EnsA H xs es) (hp : Pl H p c) (f : Fx p H H') : EnsA H' xs es := h.mono fun b zs hb => f.tup hp hb
theorem EnsA.updL {H : Hp} {D : Addr} {o : HO} {xs ys : List V} {es : List En} (h : EnsA H xs es) (hD : H D = some (.lst ys)) : EnsA (upd H D o) xs es := h.mono fun b zs hb => by
  rw [upd_ne (ne_of hb hD (by intro z; cases z))]
  exact hb
theorem fx_mut {p D : Addr} {H H' : Hp} {o : HO} (f : Fx p H H') (n : H D = none) : Fx p H (upd H' D o) := fun a u na h => by
  rw [upd_ne (ne_of_none h n)]
  exact f a u na h
set_option maxHeartbeats 8000000 in
theorem ok_l_row_entries (T : TX K mg A FD TK CC) : FnOk P w K mg base CX0 2 (A 63) (FD 63) ["_law_pool_here", "_law_many", "_law_most"] spRowEn := by
  have G_l_take := ok_l_take (P := P) (w := w) (base := base) T
  refine T.f_l_row_entries.ok (k := 1) sc_l_row_entries (fun vs H Q E h => ?_) (fun cdv A' outer s H vs Q E hr h => ?_)
  · obtain ⟨p, c, many, most, rfl, _⟩ := h
    rfl
  · obtain ⟨p, c, many, most, rfl, hmy, hm1, hm4, hp, hc, q⟩ := h
    refine ⟨_, (pss_cons (ps_set (i := 3) sc_l_row_entries.nd rfl (.inl rfl) (pe_lst pa_nil))
      (pss_cons (ps_set (i := 4) sc_l_row_entries.nd rfl (.inl rfl) (pe_un un_neg pe_int))
      (pss_cons (ps_for PassesOwn.never rfl (pi_range1 (by rfl) T.m_range (pa_cons (pe_call G_l_take hr (by rfl) T.g_l_take T.f_l_take.kp T.b_l_take .nil pass0 (pa_cons (pv 0) (pa_cons (pe_op op_add (pv 1) pe_int) pa_nil))) pa_nil)) (pg_name (i := 5) sc_l_row_entries.nd rfl (.inl rfl))
      (pss_cons (ps_set (i := 4) sc_l_row_entries.nd rfl (.inl rfl) (pe_op op_add (pe_op op_add (pv 4) pe_int) (pe_ix (ixLK (K := K) rfl) (pe_lst (pa_cons pe_int (pa_cons pe_int (pa_cons pe_int (pa_cons pe_int pa_nil))))) (pe_call G_l_take hr (by rfl) T.g_l_take T.f_l_take.kp T.b_l_take .nil pass0 (pa_cons (pv 0) (pa_cons pe_int pa_nil))) (fun _ _ => rfl))))
      (pss_cons (ps_set (i := 6) sc_l_row_entries.nd rfl (.inl rfl) (pe_lst pa_nil))
      (pss_cons (ps_set (i := 7) sc_l_row_entries.nd rfl (.inl rfl) (pe_un un_neg pe_int))
      (pss_cons (ps_for PassesOwn.never rfl (pi_range1 (by rfl) T.m_range (pa_cons (pe_op op_add pe_int (pe_call G_l_take hr (by rfl) T.g_l_take T.f_l_take.kp T.b_l_take .nil pass0 (pa_cons (pv 0) (pa_cons (pv 2) pa_nil)))) pa_nil)) (pg_name (i := 8) sc_l_row_entries.nd rfl (.inl rfl))
      (pss_cons (ps_set (i := 7) sc_l_row_entries.nd rfl (.inl rfl) (pe_op op_add (pe_op op_add (pv 7) pe_int) (pe_ix (ixLK (K := K) rfl) (pe_lst (pa_cons pe_int (pa_cons pe_int (pa_cons (pe_call G_l_take hr (by rfl) T.g_l_take T.f_l_take.kp T.b_l_take .nil pass0 (pa_cons (pv 0) (pa_cons pe_int pa_nil))) (pa_cons (pe_op op_add pe_int (pe_call G_l_take hr (by rfl) T.g_l_take T.f_l_take.kp T.b_l_take .nil pass0 (pa_cons (pv 0) (pa_cons pe_int pa_nil)))) pa_nil))))) (pe_call G_l_take hr (by rfl) T.g_l_take T.f_l_take.kp T.b_l_take .nil pass0 (pa_cons (pv 0) (pa_cons pe_int pa_nil))) (fun _ _ => rfl))))
      (pss_one (ps_expr (pe_bm PySem.F.plainAttrs_list PySem.F.slot_list_append PySem.F.type_list_append mt_append (pv 6) (pa_cons (pv 7) pa_nil))))))
      (pss_one (ps_expr (pe_bm PySem.F.plainAttrs_list PySem.F.slot_list_append PySem.F.type_list_append mt_append (pv 3) (pa_cons (pe_tup (pa_cons (pv 4) (pa_cons (pe_callTy (tupK (K := K) rfl) (by rfl) T.m_tuple (by decide +kernel) (pa_cons (pv 6) pa_nil)) pa_nil))) pa_nil)))))))))
      (pss_one (ps_ret (pv 3)))))), ?_⟩
    refine ⟨Nat.zero_le _, fun D nD => ⟨1, rfl, ?_⟩⟩
    have nDp := pool_ne hp nD
    refine ⟨.ref p, rfl, .int (many : Nat), rfl, _, 1, rfl, rfl, p, (many : Int) + 1, c, rfl, hp.ex (Ex.new nD), by omega, by omega, by omega, fun n H1 n0 n1 hp1 f1 => ?_⟩
    refine ⟨n, rfl, by omega, by omega, ?_⟩
    have fH1 : Fx p H H1 := (Fx.ex (Ex.new nD)).trans f1
    refine for_range (lo := 0) (n := n.toNat) (fun i σ' H' => ∃ (es : List En) (xs : List V) (o5 o6 o7 o8 : Option V), σ' = [some (.ref p), some (.int (many : Nat)), some (.int (most : Nat)), some (.ref D), some (.int (ah (slots es) i)), o5, o6, o7, o8] ∧
        H' D = some (.lst xs) ∧ EnsA H' xs es ∧ (∀ e ∈ es, EnOk e) ∧ Ris (slots es) ∧ es.length = i ∧ ah (slots es) i < 3 * (i : Int) ∧ (∀ e ∈ es, e.1 < 60) ∧ (∀ e ∈ es, ∀ n ∈ e.2, n < 68) ∧ Pl H' p (c + 1 + i * 14) ∧ Fx p H H')
      ⟨[], [], none, none, none, none, rfl, f1 _ _ nDp upd_same, ⟨rfl, fun i e g => nomatch g⟩, (fun e he => nomatch he), (fun i x g => nomatch g), rfl, by show (-1 : Int) < _; omega, (fun e he => nomatch he), (fun e he => nomatch he), hp1, fH1⟩ (fun i σ' H2 hi pv => ?_) (fun σ' H2 pv => ?_)
    · obtain ⟨es, xs, o5, o6, o7, o8, rfl, hD2, hE2, hok, hris, hlen, hah, hsl, hpl, hp2, f2⟩ := pv
      have ag := ah_ge (slots es) i
      -- the slot
      refine ⟨_, rfl, _, 1, rfl, rfl, by show 4 ≤ sizeLine; decide, fun L1 nL1 => ?_⟩
      have e3 := Ex.new (o := .lst [V.int 0, .int 0, .int 1, .int 2]) nL1
      have g3 := upd_same (H := H2) (a := L1) (o := .lst [V.int 0, .int 0, .int 1, .int 2])
      generalize (upd H2 L1 (.lst [V.int 0, .int 0, .int 1, .int 2])) = H3 at e3 g3 ⊢
      have nL1p := pool_ne hp2 nL1
      refine ⟨.ref p, rfl, p, 4, c + 1 + i * 14, rfl, hp2.ex e3, by decide, by decide, by omega, fun d H4 d0 d1 hp4 f4 => ?_⟩
      obtain ⟨v, av, v0, v2⟩ := pick4 d0 d1 (B := 2) (a := 0) (b := 0) (c := 1) (e := 2) (by omega) (by omega) (by omega) (by omega)
      refine ⟨L1, _, d, _, rfl, rfl, SqL.of (f4 _ _ nL1p g3), av, _, v, rfl, rfl, ?_⟩
      have hD4 := f4 _ _ nDp (e3 _ _ hD2)
      have hE4 := (hE2.ex e3).fx (hp2.ex e3) f4
      have fH4 : Fx p H H4 := f2.trans ((Fx.ex e3).trans f4)
      have sl0 : 0 ≤ ah (slots es) i + 1 + v := by omega
      have sl3 : ah (slots es) i + 1 + v < 3 * (((i + 1 : Nat)) : Int) := by omega
      have slg : ah (slots es) i < ah (slots es) i + 1 + v := by omega
      generalize hsl' : ah (slots es) i + 1 + v = sl at sl0 sl3 slg
      obtain ⟨sn, rfl⟩ := Int.eq_ofNat_of_zero_le sl0
      -- the places
      refine ⟨Nat.zero_le _, fun S nS => ⟨1, rfl, ?_⟩⟩
      have nSp := pool_ne hp4 nS
      have nDS : D ≠ S := ne_of_none hD4 nS
      refine ⟨.ref p, rfl, .int (most : Nat), rfl, p, (most : Int), c + 1 + i * 14 + 1, rfl, hp4.ex (Ex.new nS), by omega, by omega, by omega, fun k H5 k0 k1 hp5 f5 => ?_⟩
      refine ⟨1, k, rfl, rfl, 1 + k, rfl, by omega, by omega, ?_⟩
      have fH5 : Fx p H H5 := fH4.trans ((Fx.ex (Ex.new nS)).trans f5)
      have nSH : H S = none := fx_free fH4 hp4 nS
      refine for_range (lo := 0) (n := (1 + k).toNat) (fun j σ' H' => ∃ (ns : List Nat) (o8 : Option V), σ' = [some (.ref p), some (.int (many : Nat)), some (.int (most : Nat)), some (.ref D), some (.int (sn : Nat)), some (.int ((0 : Int) + i)), some (.ref S), some (.int (ah ns j)), o8] ∧
          H' S = some (.lst (nvs ns)) ∧ Ris ns ∧ ns.length = j ∧ ah ns j < 17 * (j : Int) ∧ (∀ n ∈ ns, n < 68) ∧ H' D = some (.lst xs) ∧ EnsA H' xs es ∧ Pl H' p (c + 1 + i * 14 + 2 + j * 3) ∧ Fx p H H')
        ⟨[], _, by rw [← hsl']; rfl, f5 _ _ nSp upd_same, (fun i x g => nomatch g), rfl, by show (-1 : Int) < _; omega, (fun n hn => nomatch hn), f5 _ _ nDp ((Ex.new nS) _ _ hD4), (hE4.ex (Ex.new nS)).fx (hp4.ex (Ex.new nS)) f5, hp5, fH5⟩ (fun j σ' H6 hj pv => ?_) (fun σ' H6 pv => ?_)
      · obtain ⟨ns, o8', rfl, hS6, hris6, hlen6, hah6, hpl6, hD6, hE6, hp6, f6⟩ := pv
        have ag6 := ah_ge ns j
        have jm : j < 4 := by omega
        refine ⟨_, rfl, _, 1, rfl, rfl, .ref p, rfl, p, 3, c + 1 + i * 14 + 2 + j * 3, rfl, hp6, by decide, by decide, by omega, fun a H7 a0 a1 hp7 f7 => ?_⟩
        refine ⟨.ref p, rfl, p, 4, c + 1 + i * 14 + 2 + j * 3 + 1, rfl, hp7, by decide, by decide, by omega, fun b H8 b0 b1 hp8 f8 => ?_⟩
        refine ⟨13, b, rfl, rfl, by show 4 ≤ sizeLine; decide, fun L2 nL2 => ?_⟩
        have e9 := Ex.new (o := .lst [V.int 0, .int 0, .int a, .int (13 + b)]) nL2
        have g9 := upd_same (H := H8) (a := L2) (o := .lst [V.int 0, .int 0, .int a, .int (13 + b)])
        generalize (upd H8 L2 (.lst [V.int 0, .int 0, .int a, .int (13 + b)])) = H9 at e9 g9 ⊢
        have nL2p := pool_ne hp8 nL2
        refine ⟨.ref p, rfl, p, 4, c + 1 + i * 14 + 2 + j * 3 + 2, rfl, hp8.ex e9, by decide, by decide, by omega, fun d' HA d0' d1' hpA fA => ?_⟩
        obtain ⟨u, au, u0, u16⟩ := pick4 d0' d1' (B := 16) (a := 0) (b := 0) (c := a) (e := 13 + b) (by omega) (by omega) (by omega) (by omega)
        refine ⟨L2, _, d', _, rfl, rfl, SqL.of (fA _ _ nL2p g9), au, _, u, rfl, rfl, ?_⟩
        have f7A : Fx p H6 HA := f7.trans (f8.trans ((Fx.ex e9).trans fA))
        have hSA := f7A _ _ nSp hS6
        have hDA := f7A _ _ nDp hD6
        have l0 : 0 ≤ ah ns j + 1 + u := by omega
        have l1 : ah ns j + 1 + u < 17 * (((j + 1 : Nat)) : Int) := by omega
        have lg : ah ns j < ah ns j + 1 + u := by omega
        generalize hla : ah ns j + 1 + u = la at l0 l1 lg
        obtain ⟨ln, rfl⟩ := Int.eq_ofNat_of_zero_le l0
        refine ⟨.ref S, rfl, .inl ⟨rfl, _, SqL.of hSA⟩, _, rfl, S, _, _, rfl, rfl, hSA, ?_, ns ++ [ln], some (.int ((0 : Int) + j)), ?_, ?_, ?_, ?_, ?_, ?_, ?_, ?_, ?_, ?_⟩
        · rw [nvs_len]
          exact sz_lt (by omega)
        · have e1 : ah (ns ++ [ln]) (j + 1) = (ln : Int) := by rw [← hlen6]; exact ah_snoc _ _
          rw [e1, ← hla]
          rfl
        · rw [upd_same, nvs_snoc, ← hla]
        · exact ris_snoc hris6 (by rw [hlen6]; exact lg)
        · rw [List.length_append, hlen6]
          rfl
        · rw [← hlen6, ah_snoc]
          rw [← hlen6] at l1
          exact l1
        · intro n hn
          rcases List.mem_append.mp hn with hn | hn
          · exact hpl6 n hn
          · rw [List.mem_singleton.mp hn]
            omega
        · rw [upd_ne nDS]
          exact hDA
        · exact (hE6.fx hp6 f7A).updL hSA
        · exact (pl_upd hpA nSp).mono (by omega)
        · exact fx_mut (f6.trans f7A) nSH
      · obtain ⟨ns, o8', rfl, hS6, hris6, hlen6, hah6, hpl6, hD6, hE6, hp6, f6⟩ := pv
        have lk : ns.length ≤ 4 := by omega
        have l1 : 0 < ns.length := by omega
        refine ⟨.ref D, rfl, .inl ⟨rfl, _, SqL.of hD6⟩, .int (sn : Nat), rfl, .ref S, rfl, S, _, rfl, .inl ⟨SqL.of hS6, fun t nt => ?_⟩⟩
        have e7 := Ex.new (o := .tup (nvs ns)) nt
        have g7 := upd_same (H := H6) (a := t) (o := .tup (nvs ns))
        generalize (upd H6 t (.tup (nvs ns))) = H7 at e7 g7 ⊢
        refine ⟨by show 2 ≤ sizeLine; decide, fun y ny => ?_⟩
        have e8 := Ex.new (o := .tup [V.int (sn : Nat), .ref t]) ny
        have g8 := upd_same (H := H7) (a := y) (o := .tup [V.int (sn : Nat), .ref t])
        generalize (upd H7 y (.tup [V.int (sn : Nat), .ref t])) = H8 at e8 g8 ⊢
        have x68 := e7.trans e8
        have hD8 := x68 _ _ hD6
        have eo : EnOk (sn, ns) := ⟨hris6, l1, by show ns.length ≤ 120; omega, small_nat (by show sn ≤ 1000; omega), fun n hn => small_nat (by have := hpl6 n hn; omega)⟩
        have sle : slots (es ++ [(sn, ns)]) = slots es ++ [sn] := List.map_append ..
        have sll : (slots es).length = i := by rw [← hlen]; exact List.length_map ..
        have aho : ah (slots es ++ [sn]) (i + 1) = (sn : Int) := by rw [← sll]; exact ah_snoc _ _
        refine ⟨D, _, _, rfl, rfl, hD8, ?_, es ++ [(sn, ns)], _, some (.int ((0 : Int) + i)), some (.ref S), some (.int (ah ns (1 + k).toNat)), o8', ?_, upd_same, ?_, ?_, ?_, ?_, ?_, ?_, ?_, ?_, ?_⟩
        · rw [hE6.1]
          exact sz_lt (by omega)
        · rw [sle, aho]
        · exact EnsA.snoc ((hE6.ex x68).updL hD8) ⟨t, by rw [upd_ne (ne_of g8 hD8 (by intro z; cases z))]; exact g8, by rw [upd_ne (ne_of (e8 _ _ g7) hD8 (by intro z; cases z))]; exact e8 _ _ g7⟩
        · intro e he
          rcases List.mem_append.mp he with he | he
          · exact hok e he
          · rw [List.mem_singleton.mp he]
            exact eo
        · rw [sle]
          exact ris_snoc hris (by rw [sll]; exact slg)
        · rw [List.length_append, hlen]
          rfl
        · rw [sle, aho]
          exact sl3
        · intro e he
          rcases List.mem_append.mp he with he | he
          · exact hsl e he
          · rw [List.mem_singleton.mp he]
            show sn < 60
            omega
        · intro e he
          rcases List.mem_append.mp he with he | he
          · exact hpl e he
          · rw [List.mem_singleton.mp he]
            exact hpl6
        · exact (pl_upd (hp6.ex x68) nDp).mono (by omega)
        · exact fx_mut (f6.trans (Fx.ex x68)) nD
    · obtain ⟨es, xs, o5, o6, o7, o8, rfl, hD2, hE2, hok, hris, hlen, hah, hsl, hpl, hp2, f2⟩ := pv
      exact ⟨.ref D, rfl, q D xs es H2 nDp nD hD2 hE2 ⟨⟨hok, hris, by omega⟩, by omega, hsl, hpl⟩ (by omega) (hp2.mono (by omega)) f2⟩
theorem ris_le {xs : List Nat} (h : Ris xs) : ∀ (k i : Nat) {a b : Nat}, xs[i]? = some a → xs[i + k]? = some b → a ≤ b
  | 0, i, a, b, g1, g2 => by
    rw [Nat.add_zero, g1] at g2
    cases g2
    exact Nat.le_refl _
  | k + 1, i, a, b, g1, g2 => by
    have hi : i + k < xs.length := by
      have := (List.getElem?_eq_some_iff.mp g2).1
      omega
    have g3 := List.getElem?_eq_getElem hi
    have i1 := ris_le h k i g1 g3
    have i2 := h (i + k + 1) b g2
    have i3 : ah xs (i + k + 1) = ((xs[i + k] : Nat) : Int) := by
      show ((xs.getD (i + k) 0 : Nat) : Int) = _
      rw [getD_at g3]
    omega
theorem ris_last {xs : List Nat} (h : Ris xs) {n y : Nat} (hn : n ∈ xs) (g : xs[xs.length - 1]? = some y) : n ≤ y := by
  obtain ⟨i, hi, e⟩ := List.getElem_of_mem hn
  have g1 : xs[i]? = some n := by rw [List.getElem?_eq_getElem hi, e]
  exact ris_le h (xs.length - 1 - i) i g1 (by rw [show i + (xs.length - 1 - i) = xs.length - 1 by omega]; exact g)
theorem ah_last (xs : List Nat) : ((0 :: xs.map (· + 1))[xs.length]?) = some ((ah xs xs.length + 1).toNat) := by
  cases xs with
  | nil => rfl
  | cons a r =>
    have hi : r.length < (a :: r).length := by simp
    show ((a :: r).map (· + 1))[r.length]? = some ((((a :: r).getD r.length 0 : Nat) : Int) + 1).toNat
    rw [List.getElem?_map, List.getElem?_eq_getElem hi, getD_at (List.getElem?_eq_getElem hi)]
    show some ((a :: r)[r.length] + 1) = _
    congr 1
/-- the entries' slots lie below n -/
theorem slot_lt {es : List En} (h : Ris (slots es)) {e : En} (he : e ∈ es) : (e.1 : Int) < ah (slots es) es.length + 1 := by
  have hm : e.1 ∈ slots es := List.mem_map.mpr ⟨e, he, rfl⟩
  have l : (slots es).length = es.length := List.length_map ..
  have hp : 0 < es.length := List.length_pos_of_mem he
  have hi : (slots es).length - 1 < (slots es).length := by omega
  have g := List.getElem?_eq_getElem hi
  have := ris_last h hm g
  have e1 : ah (slots es) es.length = (((slots es)[(slots es).length - 1]'(by omega) : Nat) : Int) := by
    obtain ⟨k, hk⟩ : ∃ k, es.length = k + 1 := ⟨es.length - 1, by omega⟩
    rw [hk]
    show (((slots es).getD k 0 : Nat) : Int) = _
    rw [show k = (slots es).length - 1 by omega, getD_at g]
  omega
theorem fit_more {es : List En} {ls : List Nat} {v : Nat} (h : ∀ e ∈ es, e.1 < ls.length → ∀ n ∈ e.2, n < ls.getD e.1 0) (k : ∀ e ∈ es, e.1 = ls.length → ∀ n ∈ e.2, n < v) : ∀ e ∈ es, e.1 < ls.length + 1 → ∀ n ∈ e.2, n < (ls ++ [v]).getD e.1 0 := fun e he hs n hn => by
  rcases Nat.lt_or_ge e.1 ls.length with lt | ge
  · have e1 : (ls ++ [v]).getD e.1 0 = ls.getD e.1 0 := by
      rw [List.getD_eq_getElem?_getD, List.getElem?_append_left lt, List.getD_eq_getElem?_getD]
    rw [e1]
    exact h e he lt n hn
  · have e0 : e.1 = ls.length := by omega
    have e1 : (ls ++ [v]).getD e.1 0 = v := by
      rw [List.getD_eq_getElem?_getD, e0, List.getElem?_append_right (Nat.le_refl _)]
      simp
    rw [e1]
    exact k e he e0 n hn
theorem pick3 {a b c d : Int} (h0 : 0 ≤ d) (h1 : d < 3) {B : Int} (ka : 0 ≤ a ∧ a ≤ B) (kb : 0 ≤ b ∧ b ≤ B) (kc : 0 ≤ c ∧ c ≤ B) : ∃ v : Int, atI [V.int a, .int b, .int c] d = some (.int v) ∧ 0 ≤ v ∧ v ≤ B := by
  obtain ⟨j, rfl⟩ := Int.eq_ofNat_of_zero_le h0
  match j, h1 with
  | 0, _ => exact ⟨a, atI_nat rfl, ka⟩
  | 1, _ => exact ⟨b, atI_nat rfl, kb⟩
  | 2, _ => exact ⟨c, atI_nat rfl, kc⟩
  | j + 3, h => omega
def spLens : Sp := fun vs H Q _ => ∃ (p l : Addr) (c : Nat) (xs : List V) (es : List En), vs = [.ref p, .ref l] ∧ Pl H p c ∧ c < 900000 ∧ l ≠ p ∧ H l = some (.lst xs) ∧ EnsA H xs es ∧ EnsL es ∧
  ∀ (m : Addr) (ls : List Nat) (H' : Hp), m ≠ p → H m = none → H' m = some (.lst (nvs ls)) → Fit es ls → Pl H' p (c + 200) → Fx p H H' → Q (.ref m) H'
set_option maxHeartbeats 8000000 in
theorem ok_l_lengths (T : TX K mg A FD TK CC) : FnOk P w K mg base CX0 2 (A 64) (FD 64) ["_law_pool_here", "_law_entries"] spLens := by
  have G_l_take := ok_l_take (P := P) (w := w) (base := base) T
  refine T.f_l_lengths.ok (k := 1) sc_l_lengths (fun vs H Q E h => ?_) (fun cdv A' outer s H vs Q E hr h => ?_)
  · obtain ⟨p, l, c, xs, es, rfl, _⟩ := h
    rfl
  · obtain ⟨p, l, c, xs, es, rfl, hp, hc, nlp, hl, hE, hL, q⟩ := h
    refine ⟨_, (pss_cons (ps_set (i := 2) sc_l_lengths.nd rfl (.inl rfl) (pe_lst pa_nil))
      (pss_cons (ps_for PassesOwn.never rfl (pi_range1 (by rfl) T.m_range (pa_cons (pe_callB (call_min2 rfl) (by rfl) T.m_min (by decide +kernel) (pa_cons pe_int (pa_cons (pe_op op_add (pe_ix (ixLK (K := K) rfl) (pe_lc (own := [("_law_slot_here", 3), ("_law_spots", 5)])  rfl sc_l_lengths.nd (piLK (K := K) rfl (pe_op op_cat (pe_lst (pa_cons (pe_tup (pa_cons (pe_un un_neg pe_int) (pa_cons (pe_tup pa_nil) pa_nil))) pa_nil)) (pv 1))) (blkOk_by (own := [("_law_slot_here", 3), ("_law_spots", 5)]) (N := N_l_lengths) (sc := defScope (topS 64)) (by decide +kernel)) (fun _ _ _ _ _ => (tupGK (K := K) (n := 2) rfl rfl (pgs_cons (pg_name (i := 3) sc_l_lengths.nd rfl (Or.inl rfl)) (pgs_cons (pg_name (i := 5) sc_l_lengths.nd rfl (Or.inl rfl)) pgs_nil)))) (fun _ _ _ _ _ => pts_nil) (fun _ _ _ _ _ => (pe_op op_add (pv 3) pe_int))) (pe_un un_neg pe_int) (fun _ _ => rfl)) (pe_call G_l_take hr (by rfl) T.g_l_take T.f_l_take.kp T.b_l_take .nil pass0 (pa_cons (pv 0) (pa_cons pe_int pa_nil)))) pa_nil))) pa_nil)) (pg_name (i := 3) sc_l_lengths.nd rfl (.inr rfl))
      (pss_cons (ps_setLc (i := 4) (own := [("_law_other", 6), ("_law_spots", 5)])  rfl sc_l_lengths.nd rfl rfl (sw_true rfl rfl rfl (by decide +kernel)) (piLK (K := K) rfl (pv 1)) (blkOk_by (own := [("_law_other", 6), ("_law_spots", 5)]) (N := N_l_lengths) (sc := defScope (topS 64)) (by decide +kernel)) (fun _ _ _ _ _ => (tupGK (K := K) (n := 2) rfl rfl (pgs_cons (pg_name (i := 6) sc_l_lengths.nd rfl (Or.inl rfl)) (pgs_cons (pg_name (i := 5) sc_l_lengths.nd rfl (Or.inl rfl)) pgs_nil)))) (fun _ _ _ _ _ => (pts_one (pt_cmpR op_eq (pv 6) (pv 3) (nomark _)))) (fun _ _ _ _ _ => (pe_op op_add (pe_ix (ixTK (K := K) rfl) (pv 5) (pe_un un_neg pe_int) (fun _ _ => rfl)) pe_int)))
      (pss_one (ps_expr (pe_bm PySem.F.plainAttrs_list PySem.F.slot_list_append PySem.F.type_list_append mt_append (pv 2) (pa_cons (pe_callB (call_min2 rfl) (by rfl) T.m_min (by decide +kernel) (pa_cons pe_int (pa_cons (pe_op op_add (pe_callB (maxK (K := K) rfl rfl) (by rfl) T.m_max (by decide +kernel) (pa_cons (pe_op op_cat (pe_lst (pa_cons pe_int pa_nil)) (pv 4)) pa_nil)) (pe_ix (ixLK (K := K) rfl) (pe_lst (pa_cons pe_int (pa_cons (pe_call G_l_take hr (by rfl) T.g_l_take T.f_l_take.kp T.b_l_take .nil pass0 (pa_cons (pv 0) (pa_cons pe_int pa_nil))) (pa_cons (pe_call G_l_take hr (by rfl) T.g_l_take T.f_l_take.kp T.b_l_take .nil pass0 (pa_cons (pv 0) (pa_cons pe_int pa_nil))) pa_nil)))) (pe_call G_l_take hr (by rfl) T.g_l_take T.f_l_take.kp T.b_l_take .nil pass0 (pa_cons (pv 0) (pa_cons pe_int pa_nil))) (fun _ _ => rfl))) pa_nil))) pa_nil))))))
      (pss_one (ps_ret (pv 2))))), ?_⟩
    refine ⟨Nat.zero_le _, fun D nD => ?_⟩
    have nDp := pool_ne hp nD
    have few := hL.few
    have e1 := Ex.new (o := .lst []) nD
    have hD1 := upd_same (H := H) (a := D) (o := .lst [])
    generalize (upd H D (.lst [])) = H1 at e1 hD1 ⊢
    refine ⟨1, rfl, Nat.zero_le _, fun u0 nu0 => ?_⟩
    have e2 := Ex.new (o := .tup []) nu0
    generalize (upd H1 u0 (.tup [])) = H2 at e2 ⊢
    refine ⟨by show 2 ≤ sizeLine; decide, fun t0 nt0 => ?_⟩
    have e3 := Ex.new (o := .tup [V.int (-1), .ref u0]) nt0
    have g3 := upd_same (H := H2) (a := t0) (o := .tup [V.int (-1), .ref u0])
    generalize hH3 : (upd H2 t0 (.tup [V.int (-1), .ref u0])) = H3 at e3 g3 ⊢
    refine ⟨by show 1 ≤ sizeLine; decide, fun L0 nL0 => ?_⟩
    have e4 := Ex.new (o := .lst [V.ref t0]) nL0
    have g4 := upd_same (H := H3) (a := L0) (o := .lst [V.ref t0])
    generalize (upd H3 L0 (.lst [V.ref t0])) = H4 at e4 g4 ⊢
    have x4 := ((e1.trans e2).trans e3).trans e4
    have xl := hE.1
    refine ⟨.ref l, rfl, L0, l, _, _, rfl, rfl, g4, x4 _ _ hl, by show 1 + xs.length ≤ sizeLine; exact sz (by omega), fun R nR => ?_⟩
    have e5 := Ex.new (o := .lst ([V.ref t0] ++ xs)) nR
    have g5 := upd_same (H := H4) (a := R) (o := .lst ([V.ref t0] ++ xs))
    generalize (upd H4 R (.lst ([V.ref t0] ++ xs))) = H5 at e5 g5 ⊢
    have x5 := x4.trans e5
    have ht0 := e5 _ _ (e4 _ _ g3)
    refine ⟨R, rfl, ⟨_, SqL.of g5⟩, fun D2 nD2 => ?_⟩
    refine lc_list (K := K) (xs := [V.ref t0] ++ xs) (fun i H' => Ex H5 H' ∧ H' D2 = some (.lst (nvs ((0 :: (slots es).map (· + 1)).take i)))) ⟨Ex.new nD2, upd_same⟩ (fun i H' _ p => ex_l p.1 (SqL.of g5)) (fun i v H6 hv p => ?_) (fun H6 p => ?_)
    · obtain ⟨p1, p2⟩ := p
      have hlt : i < 1 + xs.length := by
        have := (List.getElem?_eq_some_iff.mp hv).1
        rw [List.length_append, List.length_singleton] at this
        exact this
      have lenc : (nvs ((0 :: (slots es).map (· + 1)).take i)).length < sizeLine := by
        rw [nvs_len, List.length_take]
        exact sz_lt (by omega)
      cases i with
      | zero =>
        cases hv
        exact ⟨t0, _, rfl, SqT.of (p1 _ _ ht0), rfl, _, _, rfl, _, _, rfl, rfl, rfl, _, rfl, -1, 1, rfl, rfl, _, p2, lenc, Ex.mut p1 nD2, upd_same⟩
      | succ i =>
        have hv' : xs[i]? = some v := hv
        obtain ⟨e, a, ge, rfl, hA⟩ := (hE.ex x5).at hv'
        obtain ⟨t, ha, ht⟩ := hA.ex p1
        refine ⟨a, _, rfl, SqT.of ha, rfl, _, _, rfl, _, _, rfl, rfl, rfl, _, rfl, (e.1 : Int), 1, rfl, rfl, _, p2, lenc, Ex.mut p1 nD2, ?_⟩
        have gs : ((slots es).map (· + 1))[i]? = some (e.1 + 1) := by
          rw [List.getElem?_map, slots_at ge]
          rfl
        rw [upd_same, List.take_succ_cons, List.take_succ_cons, take_up gs, ← List.cons_append, nvs_snoc]
        rfl
    obtain ⟨p1, p2⟩ := p
    rw [List.take_of_length_le (by simp [slots, xl])] at p2
    have x6 := x5.trans p1
    have sl : (slots es).length = es.length := List.length_map ..
    have la := ah_last (slots es)
    rw [sl] at la
    have lav : (nvs (0 :: (slots es).map (· + 1)))[(nvs (0 :: (slots es).map (· + 1))).length - 1]? = some (.int (ah (slots es) es.length + 1)) := by
      rw [nvs_len]
      unfold nvs
      rw [List.getElem?_map, List.length_cons, List.length_map, sl, Nat.add_sub_cancel, la]
      have := ah_ge (slots es) es.length
      show some (V.int (((ah (slots es) es.length + 1).toNat : Nat) : Int)) = _
      rw [Int.toNat_of_nonneg (by omega)]
    refine ⟨1, rfl, D2, _, _, _, rfl, rfl, SqL.of p2, atI_end lav, ?_⟩
    refine ⟨.ref p, rfl, p, 3, c, rfl, hp.ex x6, by decide, by decide, by omega, fun d H7 d0 d1 hp7 f7 => ?_⟩
    refine ⟨_, d, rfl, rfl, 60, _, rfl, ?_⟩
    have a60 : ah (slots es) es.length + 1 ≤ 60 := by
      cases hk : es.length with
      | zero => show (-1 : Int) + 1 ≤ 60; omega
      | succ k =>
        have hi : k < es.length := by omega
        have := hL.slot es[k] (List.getElem_mem hi)
        show (((slots es).getD k 0 : Nat) : Int) + 1 ≤ 60
        rw [getD_at (slots_at (List.getElem?_eq_getElem hi))]
        omega
    have ag := ah_ge (slots es) es.length
    have nb0 : 0 ≤ (if ah (slots es) es.length + 1 + d < 60 then ah (slots es) es.length + 1 + d else 60) := by split <;> omega
    have nb1 : (if ah (slots es) es.length + 1 + d < 60 then ah (slots es) es.length + 1 + d else 60) ≤ 60 := by split <;> omega
    have nb2 : ah (slots es) es.length + 1 ≤ (if ah (slots es) es.length + 1 + d < 60 then ah (slots es) es.length + 1 + d else 60) := by split <;> omega
    refine ⟨if ah (slots es) es.length + 1 + d < 60 then ah (slots es) es.length + 1 + d else 60, rfl, by omega, by omega, ?_⟩
    generalize (if ah (slots es) es.length + 1 + d < 60 then ah (slots es) es.length + 1 + d else 60) = nn at nb0 nb1 nb2 ⊢
    have fH7 : Fx p H H7 := (Fx.ex x6).trans f7
    refine for_range (lo := 0) (n := nn.toNat) (fun i σ' H' => ∃ (ls : List Nat) (o3 o4 o5 o6 : Option V), σ' = [some (.ref p), some (.ref l), some (.ref D), o3, o4, o5, o6] ∧ ls.length = i ∧ (∀ n ∈ ls, n ≤ 120) ∧ (∀ e ∈ es, e.1 < ls.length → ∀ n ∈ e.2, n < ls.getD e.1 0) ∧
        H' D = some (.lst (nvs ls)) ∧ EnsA H' xs es ∧ Pl H' p (c + 1 + i * 3) ∧ Fx p H H')
      ⟨[], none, none, none, none, rfl, rfl, (fun n hn => nomatch hn), (fun e he hs => absurd hs (Nat.not_lt_zero _)), f7 _ _ nDp (((((e2.trans e3).trans e4).trans e5).trans p1) _ _ hD1), (hE.ex x6).fx (hp.ex x6) f7, hp7, fH7⟩ (fun i σ' H8 hi pv => ?_) (fun σ' H8 pv => ?_)
    · obtain ⟨ls, o3, o4, o5, o6, rfl, hlen, h120, hfit, hD8, hE8, hp8, f8⟩ := pv
      have hl8 := f8 _ _ nlp hl
      refine ⟨.ref l, rfl, l, rfl, ⟨_, SqL.of hl8⟩, fun D3 nD3 => ?_⟩
      refine lc_list (K := K) (xs := xs) (fun k H' => Ex H8 H' ∧ ∃ zs : List Nat, H' D3 = some (.lst (nvs zs)) ∧ zs.length ≤ k ∧ (∀ z ∈ zs, z ≤ 68) ∧ ∀ e ∈ es.take k, e.1 = i → ∀ n ∈ e.2, ∃ z ∈ zs, n < z) ⟨Ex.new nD3, [], upd_same, Nat.le_refl _, (fun z hz => nomatch hz), fun e he => by simp at he⟩ (fun k H' _ p => ex_l p.1 (SqL.of hl8)) (fun k v H9 hv p => ?_) (fun H9 p => ?_)
      · obtain ⟨p1, zs, p2, p3, p4, p5⟩ := p
        obtain ⟨e, a, ge, rfl, hA⟩ := hE8.at hv
        obtain ⟨t, ha, ht⟩ := hA.ex p1
        have em := List.mem_of_getElem? ge
        have eo := hL.ens.ok e em
        have h0 := eo.some
        have hk : k < xs.length := (List.getElem?_eq_some_iff.mp hv).1
        have gl : e.2[e.2.length - 1]? = some (e.2[e.2.length - 1]'(by omega)) := List.getElem?_eq_getElem _
        have lm : e.2[e.2.length - 1]'(by omega) ∈ e.2 := List.getElem_mem _
        generalize e.2[e.2.length - 1]'(by omega) = y at gl lm
        have gy : (nvs e.2)[(nvs e.2).length - 1]? = some (.int (y : Int)) := by
          rw [nvs_len]
          unfold nvs
          rw [List.getElem?_map, gl]
          rfl
        refine ⟨a, _, rfl, SqT.of ha, rfl, _, _, rfl, _, _, rfl, rfl, rfl, .int (e.1 : Int), rfl, .int ((0 : Int) + i), rfl, rfl, _, rfl, ite2 (fun cc => ?_) (fun cc => ?_)⟩
        · refine ⟨.ref t, rfl, 1, rfl, t, _, _, _, rfl, rfl, SqT.of ht, atI_end gy, _, 1, rfl, rfl, _, p2, ?_, Ex.mut p1 nD3, zs ++ [y + 1], ?_, ?_, ?_, ?_⟩
          · rw [nvs_len]
            exact sz_lt (by omega)
          · rw [upd_same, nvs_snoc]
            rfl
          · rw [List.length_append]
            show zs.length + 1 ≤ k + 1
            omega
          · intro z hz
            rcases List.mem_append.mp hz with hz | hz
            · exact p4 z hz
            · rw [List.mem_singleton.mp hz]
              have := hL.place e em y lm
              omega
          · intro f hf hfi n hn
            rw [take_up ge] at hf
            rcases List.mem_append.mp hf with hf | hf
            · obtain ⟨z, hz, lz⟩ := p5 f hf hfi n hn
              exact ⟨z, List.mem_append_left _ hz, lz⟩
            · rw [List.mem_singleton.mp hf] at hn
              exact ⟨y + 1, List.mem_append_right _ (List.mem_singleton.mpr rfl), by have := ris_last eo.ris hn gl; omega⟩
        · refine ⟨p1, zs, p2, by omega, p4, fun f hf hfi n hn => ?_⟩
          rw [take_up ge] at hf
          rcases List.mem_append.mp hf with hf | hf
          · exact p5 f hf hfi n hn
          · rw [List.mem_singleton.mp hf] at hfi
            exact absurd (decide_eq_true (congrArg V.int (show (e.1 : Int) = 0 + (i : Int) by omega))) cc
      obtain ⟨p1, zs, p2, p3, p4, p5⟩ := p
      rw [xl, List.take_length] at p5
      have hD9 := p1 _ _ hD8
      have hp9 := hp8.ex p1
      refine ⟨.ref D, rfl, .inl ⟨rfl, _, SqL.of hD9⟩, by show 1 ≤ sizeLine; decide, fun L1 nL1 => ?_⟩
      have eA := Ex.new (o := .lst [V.int 0]) nL1
      have gA := upd_same (H := H9) (a := L1) (o := .lst [V.int 0])
      generalize (upd H9 L1 (.lst [V.int 0])) = HA at eA gA ⊢
      refine ⟨.ref D3, rfl, L1, D3, _, _, rfl, rfl, gA, eA _ _ p2, by show 1 + (nvs zs).length ≤ sizeLine; rw [nvs_len]; exact sz (by omega), fun R1 nR1 => ?_⟩
      have eB := Ex.new (o := .lst ([V.int 0] ++ nvs zs)) nR1
      have gB := upd_same (H := HA) (a := R1) (o := .lst ([V.int 0] ++ nvs zs))
      generalize (upd HA R1 (.lst ([V.int 0] ++ nvs zs))) = HB at eB gB ⊢
      have gB' : HB R1 = some (.lst ((zsI (0 :: zs)).map V.int)) := by
        rw [gB, ← nvs_zs]
        rfl
      refine ⟨R1, _, rfl, SqL.of gB', by simp [zsI], fun mm hmm hmx => ?_⟩
      rw [mx_is hmm hmx]
      have x9B := eA.trans eB
      have hpB := hp9.ex x9B
      have mz : mxL (0 :: zs) ≤ 68 := by
        rcases List.mem_cons.mp (mxL_mem (ns := 0 :: zs) (by simp)) with h | h
        · omega
        · exact p4 _ h
      have mge : ∀ z ∈ zs, z ≤ mxL (0 :: zs) := fun z hz => mxL_ge (List.mem_cons_of_mem _ hz)
      generalize mxL (0 :: zs) = mv at mz mge
      refine ⟨.ref p, rfl, p, 4, c + 1 + i * 3, rfl, hpB, by decide, by decide, by omega, fun a HC a0 a1 hpC fC => ?_⟩
      refine ⟨.ref p, rfl, p, 90, c + 1 + i * 3 + 1, rfl, hpC, by decide, by decide, by omega, fun b HD b0 b1 hpD fD => ?_⟩
      refine ⟨by show 3 ≤ sizeLine; decide, fun L2 nL2 => ?_⟩
      have eE := Ex.new (o := .lst [V.int 0, .int a, .int b]) nL2
      have gE := upd_same (H := HD) (a := L2) (o := .lst [V.int 0, .int a, .int b])
      generalize (upd HD L2 (.lst [V.int 0, .int a, .int b])) = HE at eE gE ⊢
      have nL2p := pool_ne hpD nL2
      refine ⟨.ref p, rfl, p, 3, c + 1 + i * 3 + 1 + 1, rfl, hpD.ex eE, by decide, by decide, by omega, fun d' HF d0' d1' hpF fF => ?_⟩
      obtain ⟨u, au, u0, u90⟩ := pick3 d0' d1' (B := 90) (a := 0) (b := a) (c := b) (by omega) (by omega) (by omega)
      have fall : Fx p H8 HF := (Fx.ex (p1.trans x9B)).trans (fC.trans (fD.trans ((Fx.ex eE).trans fF)))
      have hDF := fall _ _ nDp hD8
      refine ⟨L2, _, d', _, rfl, rfl, SqL.of (fF _ _ nL2p gE), au, _, u, rfl, rfl, 120, _, rfl, D, _, _, rfl, rfl, hDF, ?_, ?_⟩
      · rw [nvs_len]
        exact sz_lt (by omega)
      · have w0 : 0 ≤ (if ((mv : Nat) : Int) + u < 120 then ((mv : Nat) : Int) + u else 120) := by split <;> omega
        have w1 : (if ((mv : Nat) : Int) + u < 120 then ((mv : Nat) : Int) + u else 120) ≤ 120 := by split <;> omega
        have w2 : ((mv : Nat) : Int) ≤ (if ((mv : Nat) : Int) + u < 120 then ((mv : Nat) : Int) + u else 120) := by split <;> omega
        show ∃ (ls2 : List Nat) (o3 o4 o5 o6 : Option V), _ ∧ ls2.length = i + 1 ∧ _ ∧ _ ∧ (upd HF D (.lst (nvs ls ++ [V.int (if ((mv : Nat) : Int) + u < 120 then ((mv : Nat) : Int) + u else 120)]))) D = _ ∧ _
        generalize (if ((mv : Nat) : Int) + u < 120 then ((mv : Nat) : Int) + u else 120) = w at w0 w1 w2 ⊢
        obtain ⟨wn, rfl⟩ := Int.eq_ofNat_of_zero_le w0
        refine ⟨ls ++ [wn], some (.int ((0 : Int) + i)), some (.ref D3), o5, o6, rfl, ?_, ?_, ?_, ?_, ?_, ?_, ?_⟩
        · rw [List.length_append, hlen]
          rfl
        · intro n hn
          rcases List.mem_append.mp hn with hn | hn
          · exact h120 n hn
          · rw [List.mem_singleton.mp hn]
            omega
        · intro e he hs
          rw [List.length_append] at hs
          refine fit_more hfit (fun f hf hfi n hn => ?_) e he hs
          obtain ⟨z, hz, lz⟩ := p5 f hf (by omega) n hn
          have := mge z hz
          omega
        · rw [upd_same, nvs_snoc]
        · exact (hE8.fx hp8 fall).updL hDF
        · exact (pl_upd hpF nDp).mono (by omega)
        · exact fx_mut (f8.trans fall) nD
    · obtain ⟨ls, o3, o4, o5, o6, rfl, hlen, h120, hfit, hD8, hE8, hp8, f8⟩ := pv
      refine ⟨.ref D, rfl, q D ls H8 nDp nD hD8 ⟨by omega, h120, fun e he => ?_⟩ (hp8.mono (by omega)) f8⟩
      have := slot_lt hL.ens.ris he
      have lt : e.1 < ls.length := by omega
      exact ⟨lt, hfit e he lt⟩
def dV (ns : List Nat) : List PyData := ns.map fun (n : Nat) => .int (n : Int)
def dE (e : En) : PyData := .tuple [.int (e.1 : Int), .tuple (dV e.2)]
def dEs (es : List En) : List PyData := es.map dE
theorem dpV {K : PySem.W.Frag} {H : Hp} : ∀ ns : List Nat, DpAll K H (nvs ns) (dV ns)
  | [] => .nil
  | n :: r => .cons (.int _) (dpV r)
theorem dp_all {K : PySem.W.Frag} {H : Hp} {α : Type} {f : α → PyData} : ∀ {xs : List V} {as : List α}, xs.length = as.length → (∀ (i : Nat) (a : α), as[i]? = some a → ∃ v, xs[i]? = some v ∧ Dp K H v (f a)) → DpAll K H xs (as.map f)
  | [], [], _, _ => .nil
  | v :: xs, a :: as, hl, h => by
    obtain ⟨u, e, d⟩ := h 0 a rfl
    cases e
    exact .cons d (dp_all (by simpa using hl) fun i a g => h (i + 1) a g)
  | [], _ :: _, hl, _ => by simp at hl
  | _ :: _, [], hl, _ => by simp at hl
theorem dpE {K : PySem.W.Frag} {H : Hp} {a : Addr} {e : En} (h : EnA H a e) : Dp K H (.ref a) (dE e) := by
  obtain ⟨t, h1, h2⟩ := h
  exact .tup (SqT.of h1) (.cons (.int _) (.cons (.tup (SqT.of h2) (dpV _)) .nil))
theorem dpEs {K : PySem.W.Frag} {H : Hp} {xs : List V} {es : List En} (h : EnsA H xs es) : DpAll K H xs (dEs es) := dp_all h.1 fun i e g => let ⟨a, h1, h2⟩ := h.2 i e g; ⟨_, h1, dpE h2⟩
theorem shV (ns : List Nat) : PyData.canLayAll0 (dV ns) = true ∧ PyData.depthAll (dV ns) = 0 := by
  unfold dV
  induction ns with
  | nil => exact ⟨rfl, rfl⟩
  | cons n r ih => exact ⟨by rw [List.map_cons, PyData.canLayAll0, ih.1]; rfl, by rw [List.map_cons, PyData.depthAll, ih.2, PyData.depth]; rfl⟩
theorem sh_all {α : Type} {f : α → PyData} {k : Nat} (h : ∀ a, PyData.canLay0 (f a) = true ∧ PyData.depth (f a) ≤ k) : ∀ as : List α, PyData.canLayAll0 (as.map f) = true ∧ PyData.depthAll (as.map f) ≤ k
  | [] => ⟨rfl, Nat.zero_le _⟩
  | a :: r => by
    have i := sh_all h r
    exact ⟨by rw [List.map_cons, PyData.canLayAll0, (h a).1, i.1]; rfl, by rw [List.map_cons, PyData.depthAll]; exact Nat.max_le.mpr ⟨(h a).2, i.2⟩⟩
theorem sh_list {ds : List PyData} {k : Nat} (hk : k ≤ 60) (h : PyData.canLayAll0 ds = true ∧ PyData.depthAll ds ≤ k) : SeqAt.shaped (.list ds) = true := by
  unfold SeqAt.shaped
  rw [PyData.canLay0, PyData.depth, h.1, Bool.true_and]
  have := h.2
  exact decide_eq_true (by omega)
theorem shT (ns : List Nat) : PyData.canLay0 (.tuple (dV ns)) = true ∧ PyData.depth (.tuple (dV ns)) ≤ 1 := ⟨by rw [PyData.canLay0]; exact (shV ns).1, by rw [PyData.depth, (shV ns).2]; exact Nat.le_refl _⟩
theorem shE (e : En) : PyData.canLay0 (dE e) = true ∧ PyData.depth (dE e) ≤ 2 := by
  unfold dE
  refine ⟨?_, ?_⟩
  · rw [PyData.canLay0, PyData.canLayAll0, PyData.canLayAll0, (shT e.2).1]
    rfl
  · rw [PyData.depth, PyData.depthAll, PyData.depthAll]
    have := (shT e.2).2
    simp only [PyData.depthAll, PyData.depth] at this ⊢
    omega
theorem shEs (es : List En) : SeqAt.shaped (.list (dEs es)) = true := sh_list (k := 2) (by decide) (sh_all shE es)
theorem eqv_self {d : PyData} (h : SeqAt.shaped d = true) : PyData.eqv d d = true := SeqAt.eqv_refl _ (SeqAt.canLay_of_shaped h)
theorem kb_row (T : TX K mg A FD TK CC) : KBn K (FD 77) ["self", "word", "entries", "lengths", "size"] 4 ["size"] (fun us ws => us ++ ws) (fun vs zs => vs ++ zs) := by
  obtain ⟨oc, od, dV, kV, doc, pm, an, cdv, ct, osl, e, lk, hcd, hD, hK⟩ := T.f_Row_init.ex
  rcases hD with ⟨_, rfl⟩ | ⟨e', _⟩
  · rw [e]
    rcases hK with e' | ⟨D, rfl, _⟩
    · cases e'
    · exact ⟨fun s us ws _ l1 l2 => match us, ws, l1, l2 with | [_, _, _, _], [_], _, _ => .of_eq rfl, fun r1 r2 => r1.append r2⟩
  · exact absurd rfl e'
theorem bd_row (T : TX K mg A FD TK CC) : ∃ ds, Vals [V.int 4] ds ∧ Binds K (FD 77) ["self", "word", "entries", "lengths", "size"] ds :=
  T.f_Row_init.binds0 4 (by simp) rfl fun D doc pm an cdv ct us ks l1 l2 => match us, ks, l1, l2 with
    | [_, _, _, _], [_], _, _ => ⟨_, _, _, _, _, _, rfl, rfl, rfl⟩
/-- the row is made -/
theorem mk_row {CR CB : Addr} {H : Hp} {x dx l m : Addr} {xs : List V} {z : Str} {s : Nat} {es : List En} {ls : List Nat} {R : Hp → Prop} {E : XK} (nx : H x = none) (nd : H dx = none) (hl : H l = some (.lst xs)) (hE : EnsA H xs es) (hm : H m = some (.lst (nvs ls))) (hR : RowIs z s es ls) (q : ∀ H', Ex H H' → RowAt CR CB H' x z s es ls → R H') :
    spRIn CR CB [.ref x, .str z, .ref l, .ref m, .int (s : Nat)] (upd (upd H dx (.own x)) x (.ins CR dx [])) (fun v H2 => v = .non ∧ R H2) E := by
  have e := ex2 (o := .own x) (u := .ins CR dx []) nx nd
  exact ⟨x, dx, l, m, xs, z, s, es, ls, rfl, upd_same, e _ _ hl, hE.ex e, e _ _ hm, hR, fun H' t bs i h1 h2 h3 => ⟨rfl, q H' (ExI.new nx nd i) ⟨dx, t, bs, h1, h2, h3⟩⟩⟩
theorem EnsL.row {es : List En} {ls : List Nat} {z : Str} {s : Nat} (h : EnsL es) (f : Fit es ls) (hz : isW z = true) (h1 : 1 ≤ s) (h8 : s ≤ 8) : RowIs z s es ls := ⟨hz, h1, h8, h.ens, f⟩
theorem shTd (ns : List Nat) : SeqAt.shaped (.tuple (dV ns)) = true := by
  unfold SeqAt.shaped
  rw [(shT ns).1, Bool.true_and]
  have := (shT ns).2
  exact decide_eq_true (by omega)
def spHd (CB : Addr) : Sp := fun vs H Q _ => ∃ (b : Addr) (es : List En) (ls : List Nat), vs = [.ref b] ∧ BlkAt CB H b es ls ∧ ∀ (t : Addr) (H' : Hp), H t = none → Ex H H' → H' t = some (.tup (nvs (headE es ls))) → Q (.ref t) H'
set_option maxHeartbeats 4000000 in
theorem ok_bhead (T : TX K mg A FD TK CC) : FnOk P w K mg base CX0 1 (A 76) (FD 76) ["self"] (spHd (A 53)) := by
  refine T.f_Block_head.ok sc_Block_head (fun vs H Q E h => ?_) (fun cdv A' outer s H vs Q E hr h => ?_)
  · obtain ⟨b, es, ls, rfl, _⟩ := h
    rfl
  · obtain ⟨b, es, ls, rfl, ⟨dx, hb⟩, q⟩ := h
    refine ⟨_, (pss_one (ps_ret (pe_tup (pa_cons (fldK (K := K) rfl (pv 0) rfl) (pa_cons (fldK (K := K) rfl (pv 0) rfl) (pa_cons (fldK (K := K) rfl (pv 0) rfl) (pa_cons (fldK (K := K) rfl (pv 0) rfl) (pa_cons (fldK (K := K) rfl (pv 0) rfl) pa_nil)))))))), ?_⟩
    refine ⟨.ref b, rfl, b, _, dx, _, _, rfl, hb, T.cl_Block, T.n_Block_first, rfl, .ref b, rfl, b, _, dx, _, _, rfl, hb, T.cl_Block, T.n_Block_last, rfl, .ref b, rfl, b, _, dx, _, _, rfl, hb, T.cl_Block, T.n_Block_many, rfl, .ref b, rfl, b, _, dx, _, _, rfl, hb, T.cl_Block, T.n_Block_most, rfl, .ref b, rfl, b, _, dx, _, _, rfl, hb, T.cl_Block, T.n_Block_least, rfl, by show 5 ≤ sizeLine; decide, fun t nt => ?_⟩
    exact q t _ nt (Ex.new nt) upd_same
/-- the answer of a block's == -/
def blkEq (es : List En) (ls : List Nat) (fs : List En) (ks : List Nat) : Bool := PyData.eqv (.tuple (dV (headE es ls))) (.tuple (dV (headE fs ks))) && decide (V.str (txt (codeE es).flatten) = V.str (txt (codeE fs).flatten))
/-- a thing of another class -/
def Else (K : PySem.W.Frag) (C : Addr) (H : Hp) (y : V) : Prop := ∃ τ, TyX K H y τ ∧ PySem.W.kitOne K τ (.ref C) = some false
def spBEq (K : PySem.W.Frag) (CB : Addr) : Sp := fun vs H Q _ => ∃ (a : Addr) (es : List En) (ls : List Nat) (y : V), vs = [.ref a, y] ∧ BlkAt CB H a es ls ∧ ((∃ b fs ks, y = .ref b ∧ BlkAt CB H b fs ks ∧ ∀ H', Ex H H' → Q (.bl (blkEq es ls fs ks)) H') ∨ (Else K CB H y ∧ Q (.bl false) H))
set_option maxHeartbeats 8000000 in
theorem ok_beq (T : TX K mg A FD TK CC) : FnOk P w K mg base CX0 2 (A 75) (FD 75) ["self", "other"] (spBEq K (A 53)) := by
  have G_Block_head := ok_bhead (P := P) (w := w) (base := base) T
  refine T.f_Block_eq.ok (k := 1) sc_Block_eq (fun vs H Q E h => ?_) (fun cdv A' outer s H vs Q E hr h => ?_)
  · obtain ⟨a, es, ls, y, rfl, _⟩ := h
    rfl
  · obtain ⟨a, es, ls, y, rfl, hA, hy⟩ := h
    obtain ⟨da, ha⟩ := id hA
    refine ⟨_, (pss_one (ps_ret (pe_and (pe_callB (isiK (K := K) rfl) (by rfl) T.m_isinstance (by decide +kernel) (pa_cons (pv 1) (pa_cons (pe_glob (v := .ref (A 53)) (by rfl) T.k_Block rfl) pa_nil))) (pe_and (pe_cmpR (eqDK (K := K) rfl hr.units) (pe_meth0 (pv 0) T.cl_Block T.M_Block_head G_Block_head hr T.b_Block_head .nil pass0) (pe_meth0 (pv 1) T.cl_Block T.M_Block_head G_Block_head hr T.b_Block_head .nil pass0) (nomark _)) (pe_one (pe_cmpR op_eq (fldK (K := K) rfl (pv 0) rfl) (fldK (K := K) rfl (pv 1) rfl) (nomark _))))))), ?_⟩
    rcases hy with ⟨b, fs, ks, rfl, hB, q⟩ | ⟨⟨τ, ht, hk⟩, q⟩
    · obtain ⟨db, hb⟩ := id hB
      refine ⟨.ref b, rfl, .ref b, .ref (A 53), _, .ref (A 53), true, rfl, .own _, .base (.ins hb T.cl_Block T.ciB T.cs T.ct T.moB), T.kB, true, rfl, ?_⟩
      refine ⟨.ref a, rfl, a, da, _, rfl, ha, rfl, a, es, ls, rfl, hA, fun t H1 nt e1 gt => ?_⟩
      refine ⟨.ref b, rfl, b, db, _, rfl, e1 _ _ hb, rfl, b, fs, ks, rfl, hB.ex e1, fun u H2 nu e2 gu => ?_⟩
      have e12 := e1.trans e2
      have q2 := q H2 e12
      unfold blkEq at q2
      refine ⟨.tuple (dV (headE es ls)), .tuple (dV (headE fs ks)), .tup (SqT.of (e2 _ _ gt)) (dpV _), .tup (SqT.of gu) (dpV _), shTd _, shTd _, _, rfl, ite2 (fun c => ?_) (fun c => ?_)⟩
      · rw [c, Bool.true_and] at q2
        exact ⟨.ref a, rfl, a, _, da, _, _, rfl, e12 _ _ ha, T.cl_Block, T.n_Block_coded, rfl, .ref b, rfl, b, _, db, _, _, rfl, e12 _ _ hb, T.cl_Block, T.n_Block_coded, rfl, rfl, q2⟩
      · have c' : PyData.eqv (.tuple (dV (headE es ls))) (.tuple (dV (headE fs ks))) = false := by
          cases h : PyData.eqv (.tuple (dV (headE es ls))) (.tuple (dV (headE fs ks))) with
          | true => exact absurd h c
          | false => rfl
        rw [c', Bool.false_and] at q2
        exact q2
    · exact ⟨y, rfl, y, .ref (A 53), _, .ref (A 53), false, rfl, .own _, ht, hk, false, rfl, q⟩
def Stood (O : List Nat) (es : List En) (s n : Nat) : Prop := opS O es s n = O
theorem Stood.op {O : List Nat} {es : List En} {s n : Nat} : Stood (opS O es s n) es s n := opS_idem
theorem Stood.zero {es : List En} {s : Nat} (hs : 0 < s) : Stood [] es s 0 := if_pos (st_zero hs).2
theorem Stood.add {O : List Nat} {es : List En} {s n : Nat} (h : Stood O es s n) : Stood (addO O (stA es s n)) es s n := by
  unfold Stood opS at h ⊢
  by_cases c : stE es s n = 0
  · rw [if_pos c]
  · rw [if_neg c]
    exact addO_in (mem_addO.mpr (.inr rfl))
def spLsk : Sp := fun vs H Q _ => ∃ (l : Addr) (xs : List V) (es : List En) (n : Nat) (z : Int), vs = [.ref l, .int (n : Int), .int z] ∧ H l = some (.lst xs) ∧ EnsA H xs es ∧ n ≤ es.length ∧ ∀ m, Sought es z n m → Q (.int (m : Int)) H
set_option maxHeartbeats 4000000 in
theorem ok_l_seek (T : TX K mg A FD TK CC) : FnOk P w K mg base CX0 1 (A 65) (FD 65) ["_law_entries", "_law_at", "_law_slot_here"] spLsk := by
  refine T.f_l_seek.ok (k := 0) sc_l_seek (fun vs H Q E h => ?_) (fun cdv A' outer s H vs Q E hr h => ?_)
  · obtain ⟨l, xs, es, n, z, rfl, _⟩ := h
    rfl
  · obtain ⟨l, xs, es, n, z, rfl, hl, hE, hn, q⟩ := h
    refine ⟨_, (pss_cons (ps_while PassesOwn.never (PW.pt (pw_and (pt_cmpR op_lt (pv 1) (pe_callB (lenK (K := K) rfl) (by rfl) T.m_len (by decide +kernel) (pa_cons (pv 0) pa_nil)) (nomark _)) (pw_and1 (pt_cmpR op_lt (pe_ix (ixTK (K := K) rfl) (pe_ix (ixLK (K := K) rfl) (pv 0) (pv 1) (fun _ _ => rfl)) pe_int (fun _ _ => rfl)) (pv 2) (nomark _)))))
      (pss_one (ps_set (i := 1) sc_l_seek.nd rfl (.inl rfl) (pe_op op_add (pv 1) pe_int))))
      (pss_one (ps_ret (pv 1)))), ?_⟩
    refine ⟨fun m σ' H' => H' = H ∧ ∃ b : Nat, σ' = [some (.ref l), some (.int (b : Int)), some (.int z)] ∧ m = es.length - b ∧ n ≤ b ∧ b ≤ es.length ∧ ∀ i, n ≤ i → i < b → ∀ e, es[i]? = some e → (e.1 : Int) < z, ⟨_, rfl, n, rfl, rfl, Nat.le_refl _, hn, fun j h1 h2 => by omega⟩, fun m σ' H' p => ?_⟩
    obtain ⟨rfl, b, rfl, rfl, b1, b2, b3⟩ := p
    refine ⟨.int (b : Int), rfl, .ref l, rfl, l, _, rfl, .inl (SqL.of hl), _, _, rfl, rfl, _, rfl, ite2 (fun c => ?_) (fun c => ?_)⟩
    · rw [hE.1] at c
      have hb : b < es.length := by
        have : (b : Int) < (es.length : Nat) := of_decide_eq_true c
        omega
      have gb : es[b]? = some es[b] := List.getElem?_eq_getElem hb
      obtain ⟨a, ga, t, ha, _⟩ := hE.2 _ _ gb
      refine ⟨.ref l, rfl, .int (b : Int), rfl, l, _, _, _, rfl, rfl, SqL.of hl, atI_nat ga, a, _, 0, _, rfl, rfl, SqT.of ha, atI_nat (j := 0) rfl, .int z, rfl, _, _, rfl, rfl, _, rfl, ite2 (fun c2 => ?_) (fun c2 => ?_)⟩
      · have hz : (es[b].1 : Int) < z := of_decide_eq_true c2
        refine ⟨fun σ' H1 => σ' = [some (.ref l), some (.int ((b + 1 : Nat) : Int)), some (.int z)] ∧ H1 = H', fun σ' H1 e => ?_, .int (b : Int), rfl, _, _, rfl, rfl, rfl, rfl⟩
        obtain ⟨rfl, rfl⟩ := e
        refine ⟨_, (by omega : es.length - (b + 1) < _), rfl, b + 1, rfl, rfl, by omega, by omega, fun j h1 h2 e g => ?_⟩
        by_cases ej : j = b
        · rw [ej, gb] at g
          cases g
          exact hz
        · exact b3 j h1 (by omega) e g
      · refine ⟨.int (b : Int), rfl, q b ⟨b1, b2, b3, fun e g => ?_⟩⟩
        rw [gb] at g
        cases g
        have : ¬ (es[b].1 : Int) < z := fun h => c2 (decide_eq_true h)
        omega
    · rw [hE.1] at c
      have hb : ¬ b < es.length := fun h => c (decide_eq_true (by omega))
      exact ⟨.int (b : Int), rfl, q b ⟨b1, b2, b3, fun e g => absurd (List.getElem?_eq_some_iff.mp g).1 hb⟩⟩
def spLsl : Sp := fun vs H Q _ => ∃ (l : Addr) (xs : List V) (es : List En) (n : Nat), vs = [.ref l, .int (n : Int)] ∧ H l = some (.lst xs) ∧ EnsA H xs es ∧ es.length ≤ 60 ∧ n ≤ es.length ∧ ∀ H', Ex H H' → Q (slotV es n) H'
set_option maxHeartbeats 4000000 in
theorem ok_l_slot (T : TX K mg A FD TK CC) : FnOk P w K mg base CX0 1 (A 66) (FD 66) ["_law_entries", "_law_at"] spLsl := by
  refine T.f_l_slot.ok (k := 0) sc_l_slot (fun vs H Q E h => ?_) (fun cdv A' outer s H vs Q E hr h => ?_)
  · obtain ⟨l, xs, es, n, rfl, _⟩ := h
    rfl
  · obtain ⟨l, xs, es, n, rfl, hl, hE, few, hn, q⟩ := h
    refine ⟨_, (pss_one (ps_ret (pe_ix (ixLK (K := K) rfl) (pe_lc (own := [("_law_entry", 2)])  rfl sc_l_slot.nd (piLK (K := K) rfl (pe_op op_cat (pe_slice (slLK (K := K) rfl) (pv 0) (po_some (pv 1)) (po_some (pe_op op_add (pv 1) pe_int))) (pe_lst (pa_cons (pe_tup (pa_cons pe_non (pa_cons (pe_tup pa_nil) pa_nil))) pa_nil)))) (blkOk_by (own := [("_law_entry", 2)]) (N := N_l_slot) (sc := defScope (topS 66)) (by decide +kernel)) (fun _ _ _ _ _ => (pg_name (i := 2) sc_l_slot.nd rfl (Or.inl rfl))) (fun _ _ _ _ _ => pts_nil) (fun _ _ _ _ _ => (pe_ix (ixTK (K := K) rfl) (pv 2) pe_int (fun _ _ => rfl)))) pe_int (fun _ _ => rfl)))), ?_⟩
    refine ⟨.ref l, rfl, .int (n : Int), rfl, n, rfl, .int (n : Int), rfl, (n : Int), 1, rfl, rfl, (n : Int) + 1, rfl, l, xs, rfl, SqL.of hl, fun c nc => ?_⟩
    have hcut : cutV xs (some (n : Int)) (some ((n : Int) + 1)) = (xs.drop n).take 1 := by
      have := cutV_at (xs := xs) (i := n) (s := 1)
      rw [Nat.mul_one] at this
      simpa using this
    rw [hcut]
    have e1 := Ex.new (o := .lst ((xs.drop n).take 1)) nc
    have g1 := upd_same (H := H) (a := c) (o := .lst ((xs.drop n).take 1))
    generalize (upd H c (.lst ((xs.drop n).take 1))) = H1 at e1 g1 ⊢
    refine ⟨Nat.zero_le _, fun u0 nu0 => ?_⟩
    have e2 := Ex.new (o := .tup []) nu0
    generalize (upd H1 u0 (.tup [])) = H2 at e2 ⊢
    refine ⟨by show 2 ≤ sizeLine; decide, fun t0 nt0 => ?_⟩
    have e3 := Ex.new (o := .tup [V.non, .ref u0]) nt0
    have g3 := upd_same (H := H2) (a := t0) (o := .tup [V.non, .ref u0])
    generalize (upd H2 t0 (.tup [V.non, .ref u0])) = H3 at e3 g3 ⊢
    refine ⟨by show 1 ≤ sizeLine; decide, fun L0 nL0 => ?_⟩
    have e4 := Ex.new (o := .lst [V.ref t0]) nL0
    have g4 := upd_same (H := H3) (a := L0) (o := .lst [V.ref t0])
    generalize (upd H3 L0 (.lst [V.ref t0])) = H4 at e4 g4 ⊢
    refine ⟨c, L0, _, _, rfl, rfl, (e2.trans (e3.trans e4)) _ _ g1, g4, ?_, fun R nR => ?_⟩
    · rw [List.length_take, List.length_singleton]
      exact sz (by omega)
    have e5 := Ex.new (o := .lst ((xs.drop n).take 1 ++ [V.ref t0])) nR
    have g5 := upd_same (H := H4) (a := R) (o := .lst ((xs.drop n).take 1 ++ [V.ref t0]))
    generalize (upd H4 R (.lst ((xs.drop n).take 1 ++ [V.ref t0]))) = H5 at e5 g5 ⊢
    have x5 := e1.trans (e2.trans (e3.trans (e4.trans e5)))
    have ht0 := (e4.trans e5) _ _ g3
    have hE5 := hE.ex x5
    -- each thing's first
    have each : ∀ (i : Nat) (v : V), ((xs.drop n).take 1 ++ [V.ref t0])[i]? = some v → ∃ (a : Addr) (y z : V), v = .ref a ∧ H5 a = some (.tup [y, z]) ∧ (i = 0 → y = slotV es n) := fun i v g => by
      by_cases c1 : n < es.length
      · have gn : es[n]? = some es[n] := List.getElem?_eq_getElem c1
        obtain ⟨a, ga, t, ha, _⟩ := hE5.2 _ _ gn
        have ec : (xs.drop n).take 1 = [V.ref a] := by
          have hx : n < xs.length := by rw [hE.1]; exact c1
          rw [List.drop_eq_getElem_cons hx, List.take_succ_cons, List.take_zero]
          rw [List.getElem?_eq_getElem hx] at ga
          rw [Option.some.inj ga]
        rw [ec] at g
        match i, g with
        | 0, g =>
          cases g
          exact ⟨a, _, _, rfl, ha, fun _ => (slotV_in gn).symm⟩
        | 1, g =>
          cases g
          exact ⟨t0, _, _, rfl, ht0, fun h => absurd h (by decide)⟩
        | i + 2, g => cases g
      · have ec : (xs.drop n).take 1 = [] := by
          rw [List.drop_of_length_le (by rw [hE.1]; omega)]
          rfl
        rw [ec] at g
        match i, g with
        | 0, g =>
          cases g
          exact ⟨t0, _, _, rfl, ht0, fun _ => (slotV_end c1).symm⟩
        | i + 1, g => cases g
    have lenR : ((xs.drop n).take 1 ++ [V.ref t0]).length ≤ 2 := by
      rw [List.length_append, List.length_take, List.length_singleton]
      omega
    have lenP : 0 < ((xs.drop n).take 1 ++ [V.ref t0]).length := by
      rw [List.length_append, List.length_singleton]
      omega
    refine ⟨R, rfl, ⟨_, SqL.of g5⟩, fun D nD => ?_⟩
    refine lc_list (K := K) (xs := (xs.drop n).take 1 ++ [V.ref t0]) (fun i H' => Ex H5 H' ∧ ∃ ys : List V, H' D = some (.lst ys) ∧ ys.length = i ∧ (0 < i → ys[0]? = some (slotV es n))) ⟨Ex.new nD, [], upd_same, rfl, fun h => absurd h (Nat.lt_irrefl _)⟩ (fun i H' _ p => ex_l p.1 (SqL.of g5)) (fun i v H6 hv p => ?_) (fun H6 p => ?_)
    · obtain ⟨p1, ys, p2, p3, p4⟩ := p
      obtain ⟨a, y, z, rfl, ha, hy⟩ := each i v hv
      have hi : i < 2 := Nat.lt_of_lt_of_le (List.getElem?_eq_some_iff.mp hv).1 lenR
      refine ⟨rfl, .ref a, rfl, a, _, 0, _, rfl, rfl, SqT.of (p1 _ _ ha), atI_nat (j := 0) rfl, _, p2, sz_lt (by omega), Ex.mut p1 nD, ys ++ [y], upd_same, by rw [List.length_append, p3]; rfl, fun _ => ?_⟩
      cases i with
      | zero =>
        rw [List.length_eq_zero_iff.mp p3, hy rfl]
        rfl
      | succ i =>
        rw [List.getElem?_append_left (by omega)]
        exact p4 (by omega)
    · obtain ⟨p1, ys, p2, p3, p4⟩ := p
      exact ⟨D, _, 0, _, rfl, rfl, SqL.of p2, atI_nat (j := 0) (p4 lenP), q _ (x5.trans p1)⟩
def spLai : Sp := fun vs H Q _ => ∃ (p l : Addr) (c : Nat) (xs : List V) (es : List En), vs = [.ref p, .ref l] ∧ Pl H p c ∧ c < 900000 ∧ l ≠ p ∧ H l = some (.lst xs) ∧ EnsA H xs es ∧ es.length ≤ 60 ∧
  ∀ (z : Int) (H' : Hp), Pl H' p (c + 3) → Fx p H H' → Q (.int z) H'
set_option maxHeartbeats 4000000 in
theorem ok_l_aim (T : TX K mg A FD TK CC) : FnOk P w K mg base CX0 2 (A 70) (FD 70) ["_law_pool_here", "_law_entries"] spLai := by
  have G_l_take := ok_l_take (P := P) (w := w) (base := base) T
  refine T.f_l_aim.ok (k := 1) sc_l_aim (fun vs H Q E h => ?_) (fun cdv A' outer s H vs Q E hr h => ?_)
  · obtain ⟨p, l, c, xs, es, rfl, _⟩ := h
    rfl
  · obtain ⟨p, l, c, xs, es, rfl, hp, hc, nlp, hl, hE, few, q⟩ := h
    refine ⟨_, (pss_cons (ps_if (PW.pt (pw_or (pt_cmpR (eqDK (K := K) rfl hr.units) (pv 1) (pe_lst pa_nil) (nomark _)) (pw_or1 (pt_cmpR op_eq (pe_call G_l_take hr (by rfl) T.g_l_take T.f_l_take.kp T.b_l_take .nil pass0 (pa_cons (pv 0) (pa_cons pe_int pa_nil))) pe_int (nomark _)))))
      (pss_one (ps_ret (pe_op op_sub (pe_call G_l_take hr (by rfl) T.g_l_take T.f_l_take.kp T.b_l_take .nil pass0 (pa_cons (pv 0) (pa_cons pe_int pa_nil))) pe_int)))
      pss_nil)
      (pss_one (ps_ret (pe_op op_sub (pe_op op_add (pe_ix (ixTK (K := K) rfl) (pe_ix (ixLK (K := K) rfl) (pv 1) (pe_call G_l_take hr (by rfl) T.g_l_take T.f_l_take.kp T.b_l_take .nil pass0 (pa_cons (pv 0) (pa_cons (pe_callB (lenK (K := K) rfl) (by rfl) T.m_len (by decide +kernel) (pa_cons (pv 1) pa_nil)) pa_nil))) (fun _ _ => rfl)) pe_int (fun _ _ => rfl)) (pe_call G_l_take hr (by rfl) T.g_l_take T.f_l_take.kp T.b_l_take .nil pass0 (pa_cons (pv 0) (pa_cons pe_int pa_nil)))) pe_int)))), ?_⟩
    refine ⟨.ref l, rfl, Nat.zero_le _, fun em nem => ?_⟩
    have e1 := Ex.new (o := .lst []) nem
    have g1 := upd_same (H := H) (a := em) (o := .lst [])
    generalize (upd H em (.lst [])) = H1 at e1 g1 ⊢
    have hp1 := hp.ex e1
    have any : ∀ (H2 : Hp) (c2 : Nat), Pl H2 p c2 → c2 ≤ c + 2 → Fx p H H2 → ∀ (d : Int) (H3 : Hp), Pl H3 p (c2 + 1) → Fx p H2 H3 → Q (.int (d - 5)) H3 := fun H2 c2 _ h2 f2 d H3 hp3 f3 => q _ H3 (hp3.mono (by omega)) (f2.trans f3)
    refine ⟨_, _, .lst (SqL.of (e1 _ _ hl)) (dpEs (hE.ex e1)), .lst (SqL.of g1) .nil, shEs es, shEs [], _, rfl, ite2 (fun c1 => ?_) (fun c1 => ?_)⟩
    · exact ⟨.ref p, rfl, p, 70, c, rfl, hp1, by decide, by decide, by omega, fun d H2 d0 d1 hp2 f2 => ⟨d, 5, rfl, rfl, any H1 c hp1 (by omega) (Fx.ex e1) d H2 hp2 f2⟩⟩
    have pos : 0 < es.length := by
      cases es with
      | nil => exact absurd (eqv_self (shEs [])) c1
      | cons a r => exact Nat.zero_lt_succ _
    refine ⟨.ref p, rfl, p, 3, c, rfl, hp1, by decide, by decide, by omega, fun d H2 d0 d1 hp2 f2 => ?_⟩
    have F2 : Fx p H H2 := (Fx.ex e1).trans f2
    refine ⟨rfl, _, rfl, ite2 (fun c2 => ?_) (fun c2 => ?_)⟩
    · exact ⟨.ref p, rfl, p, 70, c + 1, rfl, hp2, by decide, by decide, by omega, fun d H3 d0 d1 hp3 f3 => ⟨d, 5, rfl, rfl, any H2 (c + 1) hp2 (by omega) F2 d H3 hp3 f3⟩⟩
    · have hl2 := F2 _ _ nlp hl
      have lx := hE.1
      refine ⟨.ref l, rfl, .ref p, rfl, .ref l, rfl, l, _, rfl, .inl (SqL.of hl2), p, _, c + 1, rfl, hp2, (by omega), (by omega), by omega, fun d H3 d0 d1 hp3 f3 => ?_⟩
      obtain ⟨j, rfl⟩ := Int.eq_ofNat_of_zero_le d0
      have hj : j < es.length := by omega
      have gj : es[j]? = some es[j] := List.getElem?_eq_getElem hj
      have F3 := F2.trans f3
      have hE3 := hE.fx hp F3
      obtain ⟨a, ga, t, ha, _⟩ := hE3.2 _ _ gj
      refine ⟨l, _, _, _, rfl, rfl, SqL.of (F3 _ _ nlp hl), atI_nat ga, a, _, 0, _, rfl, rfl, SqT.of ha, atI_nat (j := 0) rfl, .ref p, rfl, p, 3, c + 1 + 1, rfl, hp3, by decide, by decide, by omega, fun d2 H4 _ _ hp4 f4 => ?_⟩
      exact ⟨_, _, rfl, rfl, _, 1, rfl, rfl, q _ H4 hp4 (F3.trans f4)⟩
theorem WkAt.keep {CW CB : Addr} {H H' : Hp} {x d : Addr} {s n : Nat} {es : List En} {ls O : List Nat} (h : WkAt CW CB H x d s es ls O n) (ki : ∀ b C dx fs, H b = some (.ins C dx fs) → H' b = some (.ins C dx fs)) (kd : ∀ kvs, H d = some (.dK kvs) → H' d = some (.dK kvs)) (kt : ∀ b zs, H b = some (.tup zs) → H' b = some (.tup zs))
    (kl : ∀ b zs, (∀ z ∈ zs, ∃ a, z = V.ref a) → H b = some (.lst zs) → H' b = some (.lst zs)) : WkAt CW CB H' x d s es ls O n := by
  obtain ⟨t, ⟨dx, hl, bs, kvs, hW⟩, hS, hn⟩ := h
  refine ⟨t, ⟨dx, hl, bs, kvs, ki _ _ _ _ hW.ix, kl _ _ (fun z hz => ?_) hW.ih, ⟨hW.ib.1, fun j b g => ?_⟩, kd _ hW.id, ⟨hW.io.keys, hW.io.nd, hW.io.lt, fun j hj => ?_, hW.io.no⟩⟩, kt _ _ hS, hn⟩
  · obtain ⟨b, _, rfl⟩ := List.mem_map.mp hz
    exact ⟨b, rfl⟩
  · obtain ⟨db, hb⟩ := hW.ib.2 j b g
    exact ⟨db, ki _ _ _ _ hb⟩
  · obtain ⟨l, xs, h1, h2, h3⟩ := hW.io.has j hj
    refine ⟨l, xs, h1, kl _ _ (fun z hz => ?_) h2, h3.mono fun b zs hb => kt _ _ hb⟩
    obtain ⟨i, hi, e⟩ := List.getElem_of_mem hz
    obtain ⟨en, a, _, e2, _⟩ := h3.at (show xs[i]? = some z by rw [List.getElem?_eq_getElem hi, e])
    exact ⟨a, e2⟩
theorem WkAt.fx {CW CB : Addr} {H H' : Hp} {x d p : Addr} {s n c : Nat} {es : List En} {ls O : List Nat} (h : WkAt CW CB H x d s es ls O n) (hp : Pl H p c) (f : Fx p H H') : WkAt CW CB H' x d s es ls O n := by
  obtain ⟨g, b, k, x1, x2⟩ := hp
  refine h.keep (fun b C dx fs hb => f _ _ (ne_of hb x1 (by intro z; cases z)) hb) (fun kvs hb => f _ _ (ne_of hb x1 (by intro z; cases z)) hb) (fun b zs hb => f _ _ (ne_of hb x1 (by intro z; cases z)) hb) fun b zs hz hb => f _ _ (fun e => ?_) hb
  subst e
  rw [x1] at hb
  cases hb
  obtain ⟨a, e⟩ := hz _ (.head _)
  cases e
theorem WkAt.ixd {CW CB : Addr} {H : Hp} {x d : Addr} {s n : Nat} {es : List En} {ls O : List Nat} (h : WkAt CW CB H x d s es ls O n) : ∃ dx hl t kvs, H x = some (.ins CW dx (walkF hl d t)) ∧ H d = some (.dK kvs) ∧ O.length ≤ nb es.length s ∧ n ≤ es.length := by
  obtain ⟨t, ⟨dx, hl, bs, kvs, hW⟩, hS, hn⟩ := h
  have l := hW.io.len
  exact ⟨dx, hl, t, kvs, hW.ix, hW.id, by omega, hn⟩
abbrev lamQ (n : Str) : Str := n ++ ".<locals>." ++ "<lambda>"
abbrev TabL (PR : Addr) : List (Addr × Str) := [(PR, lamQ "_law_rests_so")]
theorem tabs_but {Tt : List (Addr × Str)} {H H' : Hp} {a : Addr} (t : LamX.Tabs Tt H) (ha : (∃ xs, H a = some (.lst xs)) ∨ ∃ kvs, H a = some (.dK kvs)) (f : ∀ b o, b ≠ a → H b = some o → H' b = some o) : LamX.Tabs Tt H' := fun q hq => by
  obtain ⟨ps, h1, h2, h3⟩ := t q hq
  refine ⟨ps, f _ _ ?_ h1, h2, fun pos cv hc => ?_⟩
  · rcases ha with ⟨xs, hx⟩ | ⟨xs, hx⟩
    · exact ne_of h1 hx (by intro z; cases z)
    · exact ne_of h1 hx (by intro z; cases z)
  obtain ⟨c, e1, e2⟩ := h3 pos cv hc
  refine ⟨c, e1, f _ _ ?_ e2⟩
  rcases ha with ⟨xs, hx⟩ | ⟨xs, hx⟩
  · exact ne_of e2 hx (by intro z; cases z)
  · exact ne_of e2 hx (by intro z; cases z)
/-- all but the dictionaries and the tables stay -/
def Kd (H H' : Hp) : Prop := ∀ a o, H a = some o → (∀ ps, o ≠ .tbl ps) → (∀ kvs, o ≠ .dK kvs) → H' a = some o
section
variable {H H' H2 : Hp} {a d : Addr} {xs : List V}
theorem Kd.refl : Kd H H := fun _ _ h _ _ => h
theorem Kd.trans (x : Kd H H') (y : Kd H' H2) : Kd H H2 := fun b o h n m => y b o (x b o h n m) n m
theorem Kd.ofEx (e : Ex H H') : Kd H H' := fun b o h _ _ => e b o h
theorem Kd.ofN (e : LamX.ExtN H H') : Kd H H' := fun b o h n _ => e b o h n
theorem Kd.ofI (hd : ∃ kvs, H d = some (.dK kvs)) (i : ExI d H H') : Kd H H' := fun b o h _ m => i b o (fun e => by
  obtain ⟨kvs, hd⟩ := hd
  subst e
  rw [hd] at h
  cases h
  exact m _ rfl) h
theorem Kd.lst (k : Kd H H') (h : H a = some (.lst xs)) : H' a = some (.lst xs) := k _ _ h (by intro z e; cases e) (by intro z e; cases e)
theorem Kd.tup (k : Kd H H') (h : H a = some (.tup xs)) : H' a = some (.tup xs) := k _ _ h (by intro z e; cases e) (by intro z e; cases e)
theorem WkAt.kd {x : Addr} {CW CB : Addr} {s n : Nat} {es : List En} {ls O : List Nat} (h : WkAt CW CB H x d s es ls O n) (k : Kd H H') (kd : ∀ kvs, H d = some (.dK kvs) → H' d = some (.dK kvs)) : WkAt CW CB H' x d s es ls O n :=
  h.keep (fun b C dx fs g => k _ _ g (by intro z e; cases e) (by intro z e; cases e)) kd (fun b zs g => k.tup g) (fun b zs _ g => k.lst g)
end
theorem RowAt.keep {CR CB : Addr} {H H' : Hp} {r : Addr} {z : Str} {s : Nat} {es : List En} {ls : List Nat} (h : RowAt CR CB H r z s es ls) (ki : ∀ b C dx fs, (fs.length = 6 ∨ ∃ v, fs.lookup ("word" : Str) = some v) → H b = some (.ins C dx fs) → H' b = some (.ins C dx fs)) (kt : ∀ b zs, H b = some (.tup zs) → H' b = some (.tup zs)) : RowAt CR CB H' r z s es ls := by
  obtain ⟨dx, t, bs, h1, h2, h3⟩ := h
  refine ⟨dx, t, bs, ki _ _ _ _ (.inr ⟨_, rfl⟩) h1, kt _ _ h2, h3.1, fun i b g => ?_⟩
  obtain ⟨db, hb⟩ := h3.2 i b g
  exact ⟨db, ki _ _ _ _ (.inl rfl) hb⟩
theorem RowAt.kd {CR CB : Addr} {H H' : Hp} {r : Addr} {z : Str} {s : Nat} {es : List En} {ls : List Nat} (h : RowAt CR CB H r z s es ls) (k : Kd H H') : RowAt CR CB H' r z s es ls :=
  h.keep (fun b C dx fs _ g => k _ _ g (by intro z e; cases e) (by intro z e; cases e)) fun b zs g => k.tup g
theorem fx_new {p : Addr} {H H1 H2 : Hp} (n : H p = none) (e : Ex H H1) (f : Fx p H1 H2) : Ex H H2 := fun a o h => f a o (ne_of_none h n) (e a o h)
theorem sql_kd {K : PySem.W.Frag} {H H' : Hp} {a : Addr} {xs : List V} (e : Kd H H') (h : SqL K H a xs) : SqL K H' a xs := by
  rcases h with (h | ⟨o, h⟩) | h
  · exact .inl (.inl (e.lst h))
  · exact .inl (.inr ⟨o, e _ _ h (by intro ps z; cases z) (by intro ps z; cases z)⟩)
  · exact .inr h
theorem sqt_kd {K : PySem.W.Frag} {H H' : Hp} {a : Addr} {xs : List V} (e : Kd H H') (h : SqT K H a xs) : SqT K H' a xs := by
  rcases h with (h | ⟨o, h⟩) | h
  · exact .inl (.inl (e.tup h))
  · exact .inl (.inr ⟨o, e _ _ h (by intro ps z; cases z) (by intro ps z; cases z)⟩)
  · exact .inr h
theorem WkAt.nle {CW CB : Addr} {H : Hp} {x d : Addr} {s n : Nat} {es : List En} {ls O : List Nat} (h : WkAt CW CB H x d s es ls O n) : n ≤ es.length := let ⟨_, _, _, h⟩ := h; h
/-- where the walker stands, what it is -/
theorem WkAt.ix {CW CB : Addr} {H : Hp} {x d : Addr} {s n : Nat} {es : List En} {ls O : List Nat} (h : WkAt CW CB H x d s es ls O n) : ∃ (dx : Addr) (q : Addr × Addr), H x = some (.ins CW dx (walkF q.1 d q.2)) := let ⟨dx, h0, t, _, e, _⟩ := h.ixd; ⟨dx, (h0, t), e⟩
theorem cutV_from (xs : List V) (k : Nat) : cutV xs (some (k : Int)) none = xs.drop k := by
  unfold cutV
  rw [HT.sIx_none, HT.sIx_nat]
  by_cases c : k ≤ xs.length
  · rw [Nat.min_eq_left c, List.take_of_length_le (by rw [List.length_drop]; omega)]
  · rw [Nat.min_eq_right (by omega), Nat.sub_self, List.take_zero, List.drop_of_length_le (by omega)]
/-- the first of the blocks from a on, below i, whose last is not below z -/
def FirB (es : List En) (s : Nat) (z : Int) (bs : List Addr) (a i : Nat) (zs : List V) : Prop := (zs = [] ∧ ∀ j, a ≤ j → j < i → (lstE (cutE es s j) : Int) < z) ∨ ∃ (j : Nat) (b : Addr) (rest : List V), zs = .ref b :: rest ∧ a ≤ j ∧ j < i ∧ bs[j]? = some b ∧ (∀ m, a ≤ m → m < j → (lstE (cutE es s m) : Int) < z) ∧ z ≤ (lstE (cutE es s j) : Int)
def spLbd (CR CB : Addr) : Sp := fun vs H Q _ => ∃ (r l : Addr) (w : Str) (s n : Nat) (es : List En) (ls : List Nat) (xs : List V) (z : Int), vs = [.ref r, .ref l, .int (s : Int), .int (n : Int), .int z] ∧ RowAt CR CB H r w s es ls ∧ H l = some (.lst xs) ∧ EnsA H xs es ∧ 1 ≤ s ∧ s ≤ 8 ∧ es.length ≤ 60 ∧ n ≤ es.length ∧
  ∀ (v : V) (b : Nat) (H' : Hp), Ex H H' → Reach es s z (stA es s n) b → BlkV CB H' v s es ls b → Q v H'
set_option maxHeartbeats 8000000 in
theorem ok_l_block_due (T : TX K mg A FD TK CC) : FnOk P w K mg base CX0 2 (A 71) (FD 71) ["_law_row", "_law_entries", "_law_wide", "_law_at", "_law_slot_here"] (spLbd (A 54) (A 53)) := by
  have G_Row_blocks := ok_rblocks (P := P) (w := w) (base := base) T
  refine T.f_l_block_due.ok (k := 1) sc_l_block_due (fun vs H Q E h => ?_) (fun cdv A' outer s0 H vs Q E hr h => ?_)
  · obtain ⟨r, l, w', s, n, es, ls, xs, z, rfl, _⟩ := h
    rfl
  · obtain ⟨r, l, w', s, n, es, ls, xs, z, rfl, hRow, hl, hE, s1, s8, few, hn, q⟩ := h
    refine ⟨_, (pss_cons (ps_setLc (i := 5) (own := [("_law_block", 6)])  rfl sc_l_block_due.nd rfl rfl (sw_true rfl rfl rfl (by decide +kernel)) (piLK (K := K) rfl (pe_slice (slLK (K := K) rfl) (pe_meth0 (pv 0) T.cl_Row T.M_Row_blocks G_Row_blocks hr T.b_Row_blocks .nil pass0) (po_some (pe_op op_fdiv (pv 3) (pv 2))) po_none)) (blkOk_by (own := [("_law_block", 6)]) (N := N_l_block_due) (sc := defScope (topS 71)) (by decide +kernel)) (fun _ _ _ _ _ => (pg_name (i := 6) sc_l_block_due.nd rfl (Or.inl rfl))) (fun _ _ _ _ _ => (pts_one (pt_cmpR op_ge (fldK (K := K) rfl (pv 6) rfl) (pv 4) (nomark _)))) (fun _ _ _ _ _ => (pv 6)))
      (pss_cons (ps_if (pt_cmpR op_ge (pv 3) (pe_callB (lenK (K := K) rfl) (by rfl) T.m_len (by decide +kernel) (pa_cons (pv 1) pa_nil)) (nomark _))
      (pss_one (ps_ret pe_non))
      pss_nil)
      (pss_one (ps_ret (pe_ix (ixLK (K := K) rfl) (pe_op op_cat (pv 5) (pe_lst (pa_cons pe_non pa_nil))) pe_int (fun _ _ => rfl)))))), ?_⟩
    obtain ⟨dx, t, bs0, h1, h2, h3⟩ := id hRow
    have ed : (n : Int) / (s : Int) = ((n / s : Nat) : Int) := (Int.natCast_ediv n s).symm
    refine ⟨.ref r, rfl, r, dx, _, rfl, h1, rfl, r, w', s, es, ls, rfl, hRow, fun b bs H1 nb1 e1 hb hB => ?_⟩
    refine ⟨.int (n : Int), rfl, .int (s : Int), rfl, (n : Int), (s : Int), rfl, rfl, ⟨by omega, by omega⟩, _, rfl, b, _, rfl, SqL.of hb, fun c nc => ?_⟩
    rw [ed, cutV_from]
    have e2 := Ex.new (o := .lst ((bs.map V.ref).drop (n / s))) nc
    have g2 := upd_same (H := H1) (a := c) (o := .lst ((bs.map V.ref).drop (n / s)))
    generalize (upd H1 c (.lst ((bs.map V.ref).drop (n / s)))) = H2 at e2 g2 ⊢
    have nbl := nb_le (n := es.length) (s := s) s1
    have bl := hB.1
    refine ⟨c, rfl, ⟨_, SqL.of g2⟩, fun D nD => ?_⟩
    refine lc_list (K := K) (xs := (bs.map V.ref).drop (n / s)) (fun i H' => Ex H2 H' ∧ ∃ zs : List V, H' D = some (.lst zs) ∧ zs.length ≤ i ∧ FirB es s z bs (n / s) (n / s + i) zs) ⟨Ex.new nD, [], upd_same, Nat.le_refl _, .inl ⟨rfl, fun j j1 j2 => by omega⟩⟩ (fun i H' _ p => ex_l p.1 (SqL.of g2)) (fun i v H3 hv p => ?_) (fun H3 p => ?_)
    · obtain ⟨p1, zs, p2, p3, p4⟩ := p
      rw [List.getElem?_drop] at hv
      obtain ⟨bi, gb, rfl, ib⟩ := refs_at hv
      obtain ⟨db, hbi⟩ := ((hB.2 _ bi gb).ex e2).ex p1
      have ib2 : i < bs.length := Nat.lt_of_le_of_lt (Nat.le_add_left _ _) ib
      refine ⟨rfl, .ref bi, rfl, bi, _, db, _, _, rfl, hbi, T.cl_Block, T.n_Block_last, rfl, .int z, rfl, _, _, rfl, rfl, _, rfl, ite2 (fun cc => ?_) (fun cc => ?_)⟩
      · have hz : z ≤ (lstE (cutE es s (n / s + i)) : Int) := of_decide_eq_true cc
        refine ⟨.ref bi, rfl, zs, p2, sz_lt (by omega), Ex.mut p1 nD, zs ++ [.ref bi], upd_same, by rw [List.length_append]; show zs.length + 1 ≤ i + 1; omega, ?_⟩
        rcases p4 with ⟨rfl, p5⟩ | ⟨j, b', rest, rfl, j1, j2, j3, j4, j5⟩
        · exact .inr ⟨n / s + i, bi, [], rfl, Nat.le_add_right _ _, by omega, gb, fun m m1 m2 => p5 m m1 m2, hz⟩
        · exact .inr ⟨j, b', rest ++ [.ref bi], rfl, j1, by omega, j3, j4, j5⟩
      · have hz : (lstE (cutE es s (n / s + i)) : Int) < z := by
          have : ¬ z ≤ (lstE (cutE es s (n / s + i)) : Int) := fun h => cc (decide_eq_true h)
          omega
        refine ⟨p1, zs, p2, by omega, ?_⟩
        rcases p4 with ⟨rfl, p5⟩ | ⟨j, b', rest, rfl, j1, j2, j3, j4, j5⟩
        · refine .inl ⟨rfl, fun j j1 j2 => ?_⟩
          by_cases e : j = n / s + i
          · rw [e]
            exact hz
          · exact p5 j j1 (by omega)
        · exact .inr ⟨j, b', rest, rfl, j1, by omega, j3, j4, j5⟩
    · obtain ⟨p1, zs, p2, p3, p4⟩ := p
      have x3 := (e1.trans e2).trans p1
      refine ⟨.int (n : Int), rfl, .ref l, rfl, l, _, rfl, .inl (SqL.of (x3 _ _ hl)), _, _, rfl, rfl, _, rfl, ite2 (fun c => ?_) (fun c => ?_)⟩
      · rw [hE.1] at c
        have hno : ¬ n < es.length := by
          have : ((es.length : Nat) : Int) ≤ (n : Int) := of_decide_eq_true c
          omega
        have e0 := (stA_end (s := s) hno).1
        exact q .non (nb es.length s) H3 x3 (by rw [e0]; exact ⟨Nat.le_refl _, Nat.le_refl _, fun j j1 j2 => by omega, fun h => by omega⟩) (.inr ⟨rfl, rfl⟩)
      · rw [hE.1] at c
        have hlt : n < es.length := by
          have : ¬ ((es.length : Nat) : Int) ≤ (n : Int) := fun h => c (decide_eq_true h)
          omega
        have e0 : stA es s n = n / s := if_pos hlt
        have n1 := (stA_in s1 hlt).1
        rw [e0] at n1 q
        have lr : ((bs.map V.ref).drop (n / s)).length = nb es.length s - n / s := by
          rw [List.length_drop, List.length_map, bl]
        rw [lr, show n / s + (nb es.length s - n / s) = nb es.length s by omega] at p4
        rw [lr] at p3
        refine ⟨.ref D, rfl, by show 1 ≤ sizeLine; decide, fun m nm => ?_⟩
        have e4 := Ex.new (o := .lst [V.non]) nm
        have g4 := upd_same (H := H3) (a := m) (o := .lst [V.non])
        generalize (upd H3 m (.lst [V.non])) = H4 at e4 g4 ⊢
        refine ⟨D, m, _, _, rfl, rfl, e4 _ _ p2, g4, sz (by rw [List.length_singleton]; omega), fun u nu => ?_⟩
        have e5 := Ex.new (o := .lst (zs ++ [V.non])) nu
        have x5 := x3.trans (e4.trans e5)
        rcases p4 with ⟨rfl, p5⟩ | ⟨j, b', rest, rfl, j1, j2, j3, j4, j5⟩
        · exact ⟨u, _, 0, _, rfl, rfl, SqL.of upd_same, atI_nat (j := 0) rfl, q .non (nb es.length s) _ x5 ⟨by omega, Nat.le_refl _, fun j j1 j2 => p5 j j1 j2, fun h => by omega⟩ (.inr ⟨rfl, rfl⟩)⟩
        · exact ⟨u, _, 0, _, rfl, rfl, SqL.of upd_same, atI_nat (j := 0) rfl, q (.ref b') j _ x5 ⟨j1, by omega, j4, fun _ => j5⟩ (.inl ⟨j2, b', rfl, (((hB.2 j b' j3).ex e2).ex p1).ex (e4.trans e5)⟩)⟩
theorem slotV_sc {es : List En} {n : Nat} : scal (slotV es n) (slotV es n) = true := by
  unfold slotV
  split <;> rfl
theorem blkEq_self (es : List En) (ls : List Nat) : blkEq es ls es ls = true := by
  unfold blkEq
  rw [eqv_self (shTd _), decide_eq_true rfl]
  rfl
def spRs (CW CR CB : Addr) (Tt : List (Addr × Str)) : Sp := fun vs H Q _ => ∃ (x d r l : Addr) (w : Str) (s n : Nat) (es : List En) (ls O : List Nat) (xs : List V), vs = [.ref x, .ref r, .ref l, .int (s : Int), .int (n : Int)] ∧
  WkAt CW CB H x d s es ls O n ∧ WkR s es ls ∧ opS O es s n = O ∧ RowAt CR CB H r w s es ls ∧ H l = some (.lst xs) ∧ EnsA H xs es ∧ LamX.Tabs Tt H ∧
  ∀ (H' : Hp), Kd H H' → WkAt CW CB H' x d s es ls O n → LamX.Tabs Tt H' → Q (.bl true) H'
structure RsS (CW CB : Addr) (Tt : List (Addr × Str)) (x d : Addr) (s n : Nat) (es : List En) (ls O : List Nat) (H0 H : Hp) : Prop where
  wk : WkAt CW CB H x d s es ls O n
  kd : Kd H0 H
  tb : LamX.Tabs Tt H
section
variable {CW CB : Addr} {Tt : List (Addr × Str)} {x d : Addr} {s n : Nat} {es : List En} {ls O O' : List Nat} {H0 H H' : Hp}
theorem RsS.ex (t : RsS CW CB Tt x d s n es ls O H0 H) (e : Ex H H') : RsS CW CB Tt x d s n es ls O H0 H' := ⟨t.wk.ex e, t.kd.trans (Kd.ofEx e), LamX.Tabs.ext t.tb e⟩
theorem RsS.exN (t : RsS CW CB Tt x d s n es ls O H0 H) (e : LamX.ExtN H H') (tb : LamX.Tabs Tt H') : RsS CW CB Tt x d s n es ls O H0 H' :=
  ⟨t.wk.kd (Kd.ofN e) fun kvs h => e _ _ h (by intro z q; cases q), t.kd.trans (Kd.ofN e), tb⟩
theorem RsS.gl (t : RsS CW CB Tt x d s n es ls O H0 H) (i : ExI d H H') (wk : WkAt CW CB H' x d s es ls O' n) : RsS CW CB Tt x d s n es ls O' H0 H' := by
  obtain ⟨_, _, _, kvs, _, hd, _⟩ := t.wk.ixd
  exact ⟨wk, t.kd.trans (Kd.ofI ⟨_, hd⟩ i), tabs_but t.tb (.inr ⟨_, hd⟩) i⟩
end
set_option maxHeartbeats 32000000 in
theorem ok_l_rests_so (T : TX K mg A FD TK CC) {PR : Addr} (TBL : LamX.TabB base mg (CC 72) PR) : FnOk P w K mg base CX0 10 (A 72) (FD 72) ["_law_walker", "_law_row", "_law_entries", "_law_wide", "_law_at"] (spRs (A 42) (A 54) (A 53) (TabL PR)) := by
  have G_l_slot := (ok_l_slot (P := P) (w := w) (base := base) T).mono (show 1 ≤ 9 by decide)
  have G_Row_blocks := (ok_rblocks (P := P) (w := w) (base := base) T).mono (show 1 ≤ 9 by decide)
  have G_Block_eq7 := (ok_beq (P := P) (w := w) (base := base) T).mono (show 2 ≤ 8 by decide)
  have G_Walker_slot := (ok_slot (P := P) (w := w) (base := base) T).mono (show 6 ≤ 9 by decide)
  have G_Walker_block := (ok_block (P := P) (w := w) (base := base) T).mono (show 2 ≤ 9 by decide)
  have G_Walker_places_lam := (ok_places (P := P) (w := w) (base := base) T).mono (show 5 ≤ 7 by decide)
  have G_Walker_seek_lam := (ok_seek (P := P) (w := w) (base := base) T).mono (show 7 ≤ 7 by decide)
  have G_Walker_block_at_lam := (ok_block_at (P := P) (w := w) (base := base) T).mono (show 3 ≤ 7 by decide)
  have hmL : (PR, lamQ "_law_rests_so") ∈ TabL PR := List.mem_cons_self ..
  have huL : ∀ q ∈ TabL PR, q.1 = PR → q.2 = lamQ "_law_rests_so" := fun q hq _ => by rw [List.mem_singleton.mp hq]
  refine T.F_l_rests_so.ok (k := 9) sc_l_rests_so (fun vs H Q E h => ?_) (fun A' outer s0 H vs Q E hr h => ?_)
  · obtain ⟨x, d, r, l, w', s, n, es, ls, O, xs, rfl, _⟩ := h
    rfl
  · obtain ⟨x, d, r, l, w', s, n, es, ls, O, xs, rfl, hW, hR, hO, hRow, hl, hE, hT, q⟩ := h
    refine ⟨_, (pss_cons (ps_if (pt_cmpR op_ne (pe_meth0 (pv 0) T.cl_Walker T.M_Walker_slot G_Walker_slot hr T.b_Walker_slot .nil pass0) (pe_call G_l_slot hr (by rfl) T.g_l_slot T.f_l_slot.kp T.b_l_slot .nil pass0 (pa_cons (pv 2) (pa_cons (pv 4) pa_nil))) (nomark _))
      (pss_one (ps_ret pe_bl))
      pss_nil)
      (pss_cons (ps_if (pt_cmpR op_ge (pv 4) (pe_callB (lenK (K := K) rfl) (by rfl) T.m_len (by decide +kernel) (pa_cons (pv 2) pa_nil)) (nomark _))
      (pss_one (ps_ret (pe_and (pe_cmpR op_isN (pe_meth0 (pv 0) T.cl_Walker T.M_Walker_block G_Walker_block hr T.b_Walker_block .nil pass0) pe_non (nomark _)) (pe_one (pe_cmpR op_eq (pe_how T TBL rfl hmL huL hr (LamX.lamS_by (sc := defScope (topS 72)) (by decide +kernel)) (fun _ _ _ _ E _ _ hr2 => (pe_meth0 (pv 0) T.cl_Walker T.M_Walker_places G_Walker_places_lam hr2 T.b_Walker_places .nil (passes_call (takes_of rfl rfl rfl rfl) (fun _ _ _ _ h => h))))) pe_str (nomark _))))))
      pss_nil)
      (pss_cons (ps_if (pt_cmpR (OwnT.op_or (Own.op_neO G_Block_eq7 T.M_Block_eq T.b_Block_eq pass0 hr T.neB T.moB (K := K) rfl) op_ne) (pe_meth0 (pv 0) T.cl_Walker T.M_Walker_block G_Walker_block hr T.b_Walker_block .nil pass0) (pe_ix (ixLK (K := K) rfl) (pe_meth0 (pv 1) T.cl_Row T.M_Row_blocks G_Row_blocks hr T.b_Row_blocks .nil pass0) (pe_op op_fdiv (pv 4) (pv 3)) (fun _ _ => rfl)) (nomark _))
      (pss_one (ps_ret pe_bl))
      pss_nil)
      (pss_cons (ps_for PassesOwn.never rfl (piTK (K := K) rfl (pe_tup (pa_cons pe_bl (pa_cons pe_non (pa_cons pe_str (pa_cons (pe_tup (pa_cons pe_int pa_nil)) pa_nil)))))) (pg_name (i := 5) sc_l_rests_so.nd rfl (.inr rfl))
      (pss_cons (ps_if (pt_cmpR op_ne (pe_how T TBL rfl hmL huL hr (LamX.lamS_by (sc := defScope (topS 72)) (by decide +kernel)) (fun _ _ _ _ E _ _ hr2 => (pe_meth (pv 0) T.cl_Walker T.M_Walker_seek G_Walker_seek_lam hr2 T.b_Walker_seek .nil (passes_call (takes_of rfl rfl rfl rfl) (fun _ _ _ _ h => h)) (pa_cons (pv 5) pa_nil)))) pe_str (nomark _))
      (pss_one (ps_ret pe_bl))
      pss_nil)
      (pss_one (ps_if (pt_cmpR op_ne (pe_how T TBL rfl hmL huL hr (LamX.lamS_by (sc := defScope (topS 72)) (by decide +kernel)) (fun _ _ _ _ E _ _ hr2 => (pe_meth (pv 0) T.cl_Walker T.M_Walker_block_at G_Walker_block_at_lam hr2 T.b_Walker_block_at .nil (passes_call (takes_of rfl rfl rfl rfl) (fun _ _ _ _ h => h)) (pa_cons (pv 5) pa_nil)))) pe_str (nomark _))
      (pss_one (ps_ret pe_bl))
      pss_nil))))
      (pss_one (ps_ret (pe_cmpR op_eq (pe_meth0 (pv 0) T.cl_Walker T.M_Walker_slot G_Walker_slot hr T.b_Walker_slot .nil pass0) (pe_ix (ixTK (K := K) rfl) (pe_ix (ixLK (K := K) rfl) (pv 2) (pv 4) (fun _ _ => rfl)) pe_int (fun _ _ => rfl)) (nomark _)))))))), ?_⟩
    have few := hR.ens.few
    obtain ⟨dx, h0, t0, kvd, hx, hd, lO, hn⟩ := hW.ixd
    have t00 : RsS (A 42) (A 53) (TabL PR) x d s n es ls O H H := ⟨hW, Kd.refl, hT⟩
    refine ⟨.ref x, rfl, x, dx, _, rfl, hx, rfl, x, d, s, es, ls, O, n, rfl, hW, hR, fun H1 i1 wk1 => ?_⟩
    rw [hO] at wk1
    have t1 := t00.gl i1 wk1
    refine ⟨.ref l, rfl, .int (n : Int), rfl, l, xs, es, n, rfl, t1.kd.lst hl, hE.mono fun b zs hb => t1.kd.tup hb, few, hn, fun H2 e2 => ?_⟩
    have t2 := t1.ex e2
    refine ⟨slotV_sc, _, rfl, ite2 (fun c => by rw [decide_eq_true rfl] at c; cases c) (fun _ => ?_)⟩
    have hl2 := t2.kd.lst hl
    obtain ⟨dx2, h2', hx2⟩ := t2.wk.ix
    refine ⟨.int (n : Int), rfl, .ref l, rfl, l, _, rfl, .inl (SqL.of hl2), _, _, rfl, rfl, _, rfl, ite2 (fun c => ?_) (fun c => ?_)⟩
    · rw [hE.1] at c
      have hno : ¬ n < es.length := by
        have : ((es.length : Nat) : Int) ≤ (n : Int) := of_decide_eq_true c
        omega
      have e0 := (stA_end (s := s) hno).1
      refine ⟨.ref x, rfl, x, dx2, _, rfl, hx2, rfl, x, d, s, es, ls, O, n, rfl, t2.wk, hR, fun v hv => ?_⟩
      rcases hv with ⟨c2, _⟩ | ⟨_, rfl⟩
      · omega
      refine ⟨rfl, ?_⟩
      rw [decide_eq_true rfl]
      refine ⟨_, rfl, iteT ?_⟩
      refine ⟨t2.tb, fun H3 x3 T3 => ?_⟩
      have t3 := t2.exN x3 T3
      obtain ⟨dx3, h3', hx3⟩ := t3.wk.ix
      refine ⟨.ref x, rfl, x, dx3, _, rfl, hx3, rfl, x, d, s, es, ls, O, n, rfl, t3.wk, hR, .inr ⟨hno, fun H4 e4 => ?_⟩⟩
      have t4 := t3.ex e4
      refine ⟨A 19, rfl, .inr ⟨T.hp_NoPlace, (fun dd z => by cases z), fun H5 e5 => ?_⟩⟩
      have t5 := t4.ex e5
      refine ⟨rfl, ?_⟩
      rw [decide_eq_true rfl]
      exact q _ t5.kd t5.wk t5.tb
    · rw [hE.1] at c
      have hlt : n < es.length := by
        have : ¬ ((es.length : Nat) : Int) ≤ (n : Int) := fun h => c (decide_eq_true h)
        omega
      have e0 : stA es s n = n / s := if_pos hlt
      have n1 := (stA_in hR.lo hlt).1
      rw [e0] at n1
      have ed : (n : Int) / (s : Int) = ((n / s : Nat) : Int) := (Int.natCast_ediv n s).symm
      refine ⟨.ref x, rfl, x, dx2, _, rfl, hx2, rfl, x, d, s, es, ls, O, n, rfl, t2.wk, hR, fun v hv => ?_⟩
      rw [e0] at hv
      rcases hv with ⟨_, b, rfl, hb⟩ | ⟨c2, _⟩
      rotate_left
      · omega
      have hRow2 := hRow.kd t2.kd
      obtain ⟨rx, rt, rbs, r1, r2, r3⟩ := id hRow2
      refine ⟨.ref r, rfl, r, rx, _, rfl, r1, rfl, r, w', s, es, ls, rfl, hRow2, fun bl bs H3 nbl e3 hbl hB => ?_⟩
      have t3 := t2.ex e3
      have lt2 : n / s < bs.length := by
        rw [hB.1]
        exact n1
      have gb : bs[n / s]? = some bs[n / s] := List.getElem?_eq_getElem lt2
      have gb' : (bs.map V.ref)[n / s]? = some (.ref bs[n / s]) := by
        rw [List.getElem?_map, gb]
        rfl
      have hb' := hB.2 _ _ gb
      refine ⟨.int (n : Int), rfl, .int (s : Int), rfl, (n : Int), (s : Int), rfl, rfl, ⟨by have := hR.lo; omega, by have := hR.hi; omega⟩, bl, _, _, _, rfl, rfl, SqL.of hbl, (by rw [ed]; exact atI_nat gb'), ?_⟩
      obtain ⟨d1, hb1⟩ := hb.ex e3
      obtain ⟨d2, hb2⟩ := id hb'
      refine .inl ⟨b, d1, _, rfl, hb1, .inl ⟨_, d2, _, rfl, hb2⟩, b, _, _, _, rfl, hb.ex e3, .inl ⟨_, _, _, rfl, hb', fun H4 e4 => ?_⟩⟩
      have t4 := t3.ex e4
      refine ⟨_, rfl, ?_⟩
      rw [blkEq_self]
      refine ⟨_, rfl, iteF ?_⟩
      refine ⟨by show 1 ≤ sizeLine; decide, fun u nu => ⟨by show 4 ≤ sizeLine; decide, fun tt ntt => ?_⟩⟩
      have e5 := Ex.new (o := .tup [V.int 1]) nu
      have gu := upd_same (H := H4) (a := u) (o := .tup [V.int 1])
      have t5 := t4.ex e5
      generalize (upd H4 u (.tup [V.int 1])) = H5 at e5 gu t5 ntt ⊢
      have e6 := Ex.new (o := .tup [V.bl true, .non, .str "1", .ref u]) ntt
      have gt := upd_same (H := H5) (a := tt) (o := .tup [V.bl true, .non, .str "1", .ref u])
      have gu6 := e6 _ _ gu
      have t6 := t5.ex e6
      generalize (upd H5 tt (.tup [V.bl true, .non, .str "1", .ref u])) = H6 at e6 gt t6 gu6 ⊢
      refine ⟨tt, rfl, ⟨_, SqT.of gt⟩, ?_⟩
      refine for_tup (K := K) (xs := [V.bl true, .non, .str "1", .ref u]) (fun k σ2 Hm => ∃ o5 : Option V, σ2 = [some (.ref x), some (.ref r), some (.ref l), some (.int (s : Int)), some (.int (n : Int)), o5] ∧ Kd H6 Hm ∧ RsS (A 42) (A 53) (TabL PR) x d s n es ls O H Hm)
        ⟨none, rfl, Kd.refl, t6⟩ (fun k σ2 Hm _ pv => ?_) (fun k v σ2 Hm hv pv => ?_) (fun σ2 Hm pv => ?_)
      · obtain ⟨o5, rfl, km, tm⟩ := pv
        exact sqt_kd km (SqT.of gt)
      · obtain ⟨o5, rfl, km, tm⟩ := pv
        have odd : ∀ HN : Hp, HN u = some (.tup [V.int 1]) → Odd K HN v := fun HN hu => by
          match k, hv with
          | 0, hv => cases hv; exact .inr (.inl ⟨_, rfl⟩)
          | 1, hv => cases hv; exact .inl rfl
          | 2, hv => cases hv; exact .inr (.inr (.inl ⟨_, rfl⟩))
          | 3, hv => cases hv; exact .inr (.inr (.inr ⟨u, _, rfl, .inr hu⟩))
          | k + 4, hv => simp at hv
        refine ⟨tm.tb, fun HN xN TN => ?_⟩
        have tN := tm.exN xN TN
        have kN' := km.trans (Kd.ofN xN)
        obtain ⟨dx3, hl3, hx3⟩ := tN.wk.ix
        refine ⟨.ref x, rfl, x, dx3, _, rfl, hx3, rfl, v, rfl, x, d, s, es, ls, O, n, v, rfl, tN.wk, hR, .inr ⟨odd _ (kN'.tup gu6), fun HO eO => ?_⟩⟩
        have tO := tN.ex eO
        refine ⟨A 5, rfl, .inl ⟨5, "number", rfl, .inl ⟨T.h_NoNumber, (fun dd z => by cases z), fun HP eP => ?_⟩⟩⟩
        have tP := tO.ex eP
        have kP := (kN'.trans (Kd.ofEx eO)).trans (Kd.ofEx eP)
        refine ⟨rfl, _, rfl, ite2 (fun h => absurd h (by decide)) (fun _ => ?_)⟩
        refine ⟨tP.tb, fun HQ xQ TQ => ?_⟩
        have tQ := tP.exN xQ TQ
        have kQ := kP.trans (Kd.ofN xQ)
        obtain ⟨dx4, hl4, hx4⟩ := tQ.wk.ix
        refine ⟨.ref x, rfl, x, dx4, _, rfl, hx4, rfl, v, rfl, x, d, s, es, ls, O, n, v, rfl, tQ.wk, hR, .inr ⟨odd _ (kQ.tup gu6), fun HO2 eO2 => ?_⟩⟩
        refine ⟨A 5, rfl, .inl ⟨5, "number", rfl, .inl ⟨T.h_NoNumber, (fun dd z => by cases z), fun HP2 eP2 => ?_⟩⟩⟩
        refine ⟨rfl, _, rfl, ite2 (fun h => absurd h (by decide)) (fun _ => ?_)⟩
        exact ⟨some v, rfl, (kQ.trans (Kd.ofEx eO2)).trans (Kd.ofEx eP2), (tQ.ex eO2).ex eP2⟩
      · obtain ⟨o5, rfl, km, tm⟩ := pv
        obtain ⟨dx4, hl4, hx4⟩ := tm.wk.ix
        refine ⟨.ref x, rfl, x, dx4, _, rfl, hx4, rfl, x, d, s, es, ls, O, n, rfl, tm.wk, hR, fun H9 i9 wk9 => ?_⟩
        rw [hO] at wk9
        have t9 := tm.gl i9 wk9
        have gn : es[n]? = some es[n] := List.getElem?_eq_getElem hlt
        obtain ⟨a, ga, ta, ha, _⟩ := (hE.mono fun b zs hb => t9.kd.tup hb).2 _ _ gn
        refine ⟨.ref l, rfl, .int (n : Int), rfl, l, _, _, _, rfl, rfl, SqL.of (t9.kd.lst hl), atI_nat ga, a, _, 0, _, rfl, rfl, SqT.of ha, atI_nat (j := 0) rfl, ?_⟩
        rw [slotV_in gn]
        refine ⟨rfl, ?_⟩
        rw [decide_eq_true rfl]
        exact q _ t9.kd t9.wk t9.tb
def spLaw (K : PySem.W.Frag) (Tt : List (Addr × Str)) : Sp := fun vs H Q _ => ∃ (a : Addr) (ns : List Int), vs = [.ref a] ∧ SqL K H a (ns.map V.int) ∧ ns.length ≤ 63 ∧ LamX.Tabs Tt H ∧ ∀ H', Q (.bl true) H'
theorem maxmin6 (n : Nat) : 1 ≤ (if (if (n : Int) < 6 then (n : Int) else 6) > 1 then (if (n : Int) < 6 then (n : Int) else 6) else 1) ∧ (if (if (n : Int) < 6 then (n : Int) else 6) > 1 then (if (n : Int) < 6 then (n : Int) else 6) else 1) ≤ 6 := by
  constructor
  · split <;> split <;> omega
  · split <;> split <;> omega
theorem Reach.uniq {es : List En} {s a b c : Nat} {z : Int} (h : Reach es s z a b) (k : Reach es s z a c) : b = c := by
  have one : ∀ {b c : Nat}, Reach es s z a b → Reach es s z a c → ¬ b < c := fun {b c} h k l => by
    have h1 := h.stop (Nat.lt_of_lt_of_le l k.le)
    have h2 := k.less b h.ge l
    omega
  have := one h k
  have := one k h
  omega
theorem minN {es : List En} {n : Nat} {xs : List V} (hn : n ≤ es.length) (hx : xs.length = es.length) : (if ((xs.length : Nat) : Int) < (n : Int) + 1 then ((xs.length : Nat) : Int) else (n : Int) + 1) = ((nxt es n : Nat) : Int) := by
  unfold nxt
  rw [hx]
  split <;> split <;> omega
/-- what does not change in a turn -/
structure Fix (H0 : Hp) (p l x d : Addr) (s : Nat) (es : List En) (ls : List Nat) : Prop where
  R : WkR s es ls
  lp : l ≠ p
  x0 : H0 x = none
  p0 : H0 p = none
structure Trn (CW CR CB : Addr) (Tt : List (Addr × Str)) (H0 : Hp) (p l x d r : Addr) (w : Str) (s : Nat) (es : List En) (ls : List Nat) (xs : List V) (c : Nat) (O : List Nat) (n : Nat) (H : Hp) : Prop where
  wk : WkAt CW CB H x d s es ls O n
  st : Stood O es s n
  pl : Pl H p c
  hl : H l = some (.lst xs)
  hE : EnsA H xs es
  row : RowAt CR CB H r w s es ls
  kd : Kd H0 H
  tb : LamX.Tabs Tt H
section
variable {CW CR CB : Addr} {Tt : List (Addr × Str)} {H0 H H' : Hp} {p l x d r : Addr} {s c n : Nat} {es : List En} {ls O : List Nat} {xs : List V} {w : Str}
theorem Trn.toEx (t : Trn CW CR CB Tt H0 p l x d r w s es ls xs c O n H) (e : Ex H H') : Trn CW CR CB Tt H0 p l x d r w s es ls xs c O n H' :=
  ⟨t.wk.ex e, t.st, t.pl.ex e, e _ _ t.hl, t.hE.ex e, t.row.ex e, t.kd.trans (Kd.ofEx e), LamX.Tabs.ext t.tb e⟩
theorem Trn.fx {c' : Nat} (t : Trn CW CR CB Tt H0 p l x d r w s es ls xs c O n H) (F : Fix H0 p l x d s es ls) (f : Fx p H H') (hp : Pl H' p c') : Trn CW CR CB Tt H0 p l x d r w s es ls xs c' O n H' := by
  obtain ⟨ys, hy⟩ := t.pl.some
  exact ⟨t.wk.fx t.pl f, t.st, hp, f _ _ F.lp t.hl, t.hE.fx t.pl f, t.row.keep (fun b C dx fs _ g => f _ _ (ne_of g hy (by intro z; cases z)) g) (fun b zs g => f _ _ (ne_of g hy (by intro z; cases z)) g), fun b o h m1 m2 => f _ _ (ne_of_none h F.p0) (t.kd _ _ h m1 m2), tabs_but t.tb (.inl ⟨_, hy⟩) f⟩
theorem Trn.toKd {O' : List Nat} (t : Trn CW CR CB Tt H0 p l x d r w s es ls xs c O n H) (k : Kd H H') (wk : WkAt CW CB H' x d s es ls O' n) (st : Stood O' es s n) (tb : LamX.Tabs Tt H') : Trn CW CR CB Tt H0 p l x d r w s es ls xs c O' n H' := by
  obtain ⟨g, b, k1, x1, x2⟩ := t.pl
  exact ⟨wk, st, ⟨g, b, k1, k.lst x1, x2⟩, k.lst t.hl, t.hE.mono fun b zs hb => k.tup hb, t.row.kd k, t.kd.trans k, tb⟩
theorem Trn.toI {O' : List Nat} (t : Trn CW CR CB Tt H0 p l x d r w s es ls xs c O n H) (i : ExI d H H') (wk : WkAt CW CB H' x d s es ls O' n) (st : Stood O' es s n) : Trn CW CR CB Tt H0 p l x d r w s es ls xs c O' n H' := by
  obtain ⟨_, _, _, kvs, _, hd, _⟩ := t.wk.ixd
  exact t.toKd (Kd.ofI ⟨_, hd⟩ i) wk st (tabs_but t.tb (.inr ⟨_, hd⟩) i)
theorem Trn.toW {O' : List Nat} {n' : Nat} (t : Trn CW CR CB Tt H0 p l x d r w s es ls xs c O n H) (F : Fix H0 p l x d s es ls) (i : ExW x d H H') (h : WkAt CW CB H' x d s es ls O' n') (st : Stood O' es s n') : Trn CW CR CB Tt H0 p l x d r w s es ls xs c O' n' H' := by
  obtain ⟨dx, h0, t0, kvs, hx, hd, _⟩ := t.wk.ixd
  have kl : ∀ b zs, H b = some (.lst zs) → H' b = some (.lst zs) := fun b zs g => i b _ (ne_of g hx (by intro z; cases z)) (ne_of g hd (by intro z; cases z)) g
  have kt : ∀ b zs, H b = some (.tup zs) → H' b = some (.tup zs) := fun b zs g => i b _ (ne_of g hx (by intro z; cases z)) (ne_of g hd (by intro z; cases z)) g
  obtain ⟨g, b, k1, x1, x2⟩ := t.pl
  refine ⟨h, st, ⟨g, b, k1, kl _ _ x1, x2⟩, kl _ _ t.hl, t.hE.mono kt, t.row.keep (fun b C dx' fs hk g => i _ _ (fun e => ?_) (ne_of g hd (by intro z; cases z)) g) kt, fun b o g m1 m2 => ?_, fun q hq => ?_⟩
  · subst e
    rw [hx] at g
    cases g
    rcases hk with hk | ⟨v, hk⟩
    · exact absurd (show (3 : Nat) = 6 from hk) (by decide)
    · have : (walkF h0 d t0).lookup ("word" : Str) = none := rfl
      rw [this] at hk
      cases hk
  · have g1 := t.kd _ _ g m1 m2
    exact i _ _ (ne_of_none g F.x0) (fun e => by subst e; rw [hd] at g1; cases g1; exact m2 _ rfl) g1
  · obtain ⟨ps, h1, h2, h3⟩ := t.tb q hq
    refine ⟨ps, i _ _ (ne_of h1 hx (by intro z; cases z)) (ne_of h1 hd (by intro z; cases z)) h1, h2, fun pos cv hc => ?_⟩
    obtain ⟨c, e1, e2⟩ := h3 pos cv hc
    exact ⟨c, e1, i _ _ (ne_of e2 hx (by intro z; cases z)) (ne_of e2 hd (by intro z; cases z)) e2⟩
end
/-- behind the tests of a turn's deed -/
def Ph (CW CR CB : Addr) (Tt : List (Addr × Str)) (H0 : Hp) (a p l x d r : Addr) (w : Str) (s : Nat) (es : List En) (ls : List Nat) (xs : List V) (c : Nat) (k1 k8 so z : Int) (o : Option V) : L2.St → Hp → Prop := fun σ' H' => ∃ (n' : Nat) (O' : List Nat),
  σ' = [some (.ref a), some (.int k1), some (.ref p), some (.ref l), some (.int (s : Int)), some (.ref r), some (.ref x), some (.int (n' : Int)), some (.int k8), some (.int so), some (.int z), o] ∧ Trn CW CR CB Tt H0 p l x d r w s es ls xs c O' n' H'
set_option maxHeartbeats 32000000 in
theorem ok_law (T : TX K mg A FD TK CC) {PR : Addr} (TBR : LamX.TabB base mg (CC 72) PR) : FnOk P w K mg base CX0 12 (A 73) (FD 73) ["_law_script"] (spLaw K (TabL PR)) := by
  have G_l_pool := (ok_l_pool (P := P) (w := w) (base := base) T).mono (show 1 ≤ 11 by decide)
  have G_l_take := (ok_l_take (P := P) (w := w) (base := base) T).mono (show 1 ≤ 11 by decide)
  have G_l_kinds := (ok_l_kinds (P := P) (w := w) (base := base) T).mono (show 2 ≤ 11 by decide)
  have G_l_row_entries := (ok_l_row_entries (P := P) (w := w) (base := base) T).mono (show 2 ≤ 11 by decide)
  have G_l_lengths := (ok_l_lengths (P := P) (w := w) (base := base) T).mono (show 2 ≤ 11 by decide)
  have G_l_aim := (ok_l_aim (P := P) (w := w) (base := base) T).mono (show 2 ≤ 11 by decide)
  have G_l_seek := (ok_l_seek (P := P) (w := w) (base := base) T).mono (show 1 ≤ 11 by decide)
  have G_l_slot := (ok_l_slot (P := P) (w := w) (base := base) T).mono (show 1 ≤ 11 by decide)
  have G_l_block_due := (ok_l_block_due (P := P) (w := w) (base := base) T).mono (show 2 ≤ 11 by decide)
  have G_l_rests_so := (ok_l_rests_so (P := P) (w := w) (base := base) T TBR).mono (show 10 ≤ 11 by decide)
  have G_Block_eq7 := (ok_beq (P := P) (w := w) (base := base) T).mono (show 2 ≤ 10 by decide)
  have G_Row := (ok_rinit (P := P) (w := w) (base := base) T).mono (show 9 ≤ 10 by decide)
  have G_Walker := (ok_winit (P := P) (w := w) (base := base) T).mono (show 2 ≤ 10 by decide)
  have G_Walker_step := (ok_step (P := P) (w := w) (base := base) T).mono (show 7 ≤ 11 by decide)
  have G_Walker_seek := (ok_seek (P := P) (w := w) (base := base) T).mono (show 7 ≤ 11 by decide)
  have G_Walker_places := (ok_places (P := P) (w := w) (base := base) T).mono (show 5 ≤ 11 by decide)
  have G_Walker_block_at := (ok_block_at (P := P) (w := w) (base := base) T).mono (show 3 ≤ 11 by decide)
  have KB3_Row := kb_row T
  obtain ⟨dsb, R3_Row, B3_Row⟩ := bd_row T
  have B1_Walker := T.b_Walker_init
  have R1_Walker : Vals [] [] := .nil
  refine T.f_law.ok (k := 11) sc_law (fun vs H Q E h => ?_) (fun cdv A' outer s H vs Q E hr h => ?_)
  · obtain ⟨a, ns, rfl, _⟩ := h
    rfl
  · obtain ⟨a, ns, rfl, hS, hn, hT, q⟩ := h
    refine ⟨_, (pss_cons (ps_for PassesOwn.never rfl (pi_range1 (by rfl) T.m_range (pa_cons (pe_callB (call_max2 rfl) (by rfl) T.m_max (by decide +kernel) (pa_cons pe_int (pa_cons (pe_callB (call_min2 rfl) (by rfl) T.m_min (by decide +kernel) (pa_cons pe_int (pa_cons (pe_callB (lenK (K := K) rfl) (by rfl) T.m_len (by decide +kernel) (pa_cons (pv 0) pa_nil)) pa_nil))) pa_nil))) pa_nil)) (pg_name (i := 1) sc_law.nd rfl (.inl rfl))
      (pss_cons (ps_set (i := 2) sc_law.nd rfl (.inl rfl) (pe_call G_l_pool hr (by rfl) T.g_l_pool T.f_l_pool.kp T.b_l_pool .nil pass0 (pa_cons (pv 0) (pa_cons (pv 1) pa_nil))))
      (pss_cons (ps_set (i := 3) sc_law.nd rfl (.inl rfl) (pe_call G_l_row_entries hr (by rfl) T.g_l_row_entries T.f_l_row_entries.kp T.b_l_row_entries .nil pass0 (pa_cons (pv 2) (pa_cons pe_int (pa_cons pe_int pa_nil)))))
      (pss_cons (ps_set (i := 4) sc_law.nd rfl (.inl rfl) (pe_op op_add pe_int (pe_call G_l_take hr (by rfl) T.g_l_take T.f_l_take.kp T.b_l_take .nil pass0 (pa_cons (pv 2) (pa_cons pe_int pa_nil)))))
      (pss_cons (ps_set (i := 5) sc_law.nd rfl (.inl rfl) (pe_makeK T.M_Row G_Row hr (by rfl) T.k_Row KB3_Row pass0 (pa_cons (pe_ix (ixLK (K := K) rfl) (pe_call G_l_kinds hr (by rfl) T.g_l_kinds T.f_l_kinds.kp T.b_l_kinds .nil pass0 (pa_cons (pv 2) pa_nil)) pe_int (fun _ _ => rfl)) (pa_cons (pv 3) (pa_cons (pe_call G_l_lengths hr (by rfl) T.g_l_lengths T.f_l_lengths.kp T.b_l_lengths .nil pass0 (pa_cons (pv 2) (pa_cons (pv 3) pa_nil))) pa_nil))) (pk_cons (pv 4) pk_nil)))
      (pss_cons (ps_set (i := 6) sc_law.nd rfl (.inl rfl) (pe_make T.M_Walker G_Walker hr (by rfl) T.k_Walker B1_Walker R1_Walker pass0 (pa_cons (pv 5) pa_nil)))
      (pss_cons (ps_set (i := 7) sc_law.nd rfl (.inl rfl) pe_int)
      (pss_one (ps_for PassesOwn.never rfl (pi_range1 (by rfl) T.m_range (pa_cons pe_int pa_nil)) (pg_name (i := 8) sc_law.nd rfl (.inl rfl))
      (pss_cons (ps_set (i := 9) sc_law.nd rfl (.inl rfl) (pe_call G_l_take hr (by rfl) T.g_l_take T.f_l_take.kp T.b_l_take .nil pass0 (pa_cons (pv 2) (pa_cons pe_int pa_nil))))
      (pss_cons (ps_set (i := 10) sc_law.nd rfl (.inl rfl) (pe_call G_l_aim hr (by rfl) T.g_l_aim T.f_l_aim.kp T.b_l_aim .nil pass0 (pa_cons (pv 2) (pa_cons (pv 3) pa_nil))))
      (pss_cut (ps_if (pt_cmpR op_lt (pv 9) pe_int (nomark _))
      (pss_cons (ps_set (i := 7) sc_law.nd rfl (.inl rfl) (pe_callB (call_min2 rfl) (by rfl) T.m_min (by decide +kernel) (pa_cons (pe_op op_add (pv 7) pe_int) (pa_cons (pe_callB (lenK (K := K) rfl) (by rfl) T.m_len (by decide +kernel) (pa_cons (pv 3) pa_nil)) pa_nil))))
      (pss_one (ps_if (pt_cmpR op_ne (pe_meth0 (pv 6) T.cl_Walker T.M_Walker_step G_Walker_step hr T.b_Walker_step .nil pass0) (pe_call G_l_slot hr (by rfl) T.g_l_slot T.f_l_slot.kp T.b_l_slot .nil pass0 (pa_cons (pv 3) (pa_cons (pv 7) pa_nil))) (nomark _))
      (pss_one (ps_ret pe_bl))
      pss_nil)))
      pss_nil)
      (pss_cut (ps_if (pt_cmpR (inK (K := K) rfl) (pv 9) (pe_tup (pa_cons pe_int (pa_cons pe_int pa_nil))) (by rfl))
      (pss_cons (ps_set (i := 7) sc_law.nd rfl (.inl rfl) (pe_call G_l_seek hr (by rfl) T.g_l_seek T.f_l_seek.kp T.b_l_seek .nil pass0 (pa_cons (pv 3) (pa_cons (pv 7) (pa_cons (pv 10) pa_nil)))))
      (pss_one (ps_if (pt_cmpR op_ne (pe_meth (pv 6) T.cl_Walker T.M_Walker_seek G_Walker_seek hr T.b_Walker_seek .nil passL (pa_cons (pv 10) pa_nil)) (pe_call G_l_slot hr (by rfl) T.g_l_slot T.f_l_slot.kp T.b_l_slot .nil pass0 (pa_cons (pv 3) (pa_cons (pv 7) pa_nil))) (nomark _))
      (pss_one (ps_ret pe_bl))
      pss_nil)))
      pss_nil)
      (pss_cut (ps_if (PW.pt (pw_and (pt_cmpR op_eq (pv 9) pe_int (nomark _)) (pw_and1 (pt_cmpR op_lt (pv 7) (pe_callB (lenK (K := K) rfl) (by rfl) T.m_len (by decide +kernel) (pa_cons (pv 3) pa_nil)) (nomark _)))))
      (pss_one (ps_if (PW.pt (pw_or (pt_not (pt_val (pe_callB (isiK (K := K) rfl) (by rfl) T.m_isinstance (by decide +kernel) (pa_cons (pe_meth0 (pv 6) T.cl_Walker T.M_Walker_places G_Walker_places hr T.b_Walker_places .nil passL) (pa_cons (pe_bltn (v := .ty "tuple") (by rfl) T.m_tuple (by decide +kernel) rfl) pa_nil))))) (pw_or1 (pt_cmpR (neDK (K := K) rfl hr.units) (pe_meth0 (pv 6) T.cl_Walker T.M_Walker_places G_Walker_places hr T.b_Walker_places .nil passL) (pe_ix (ixTK (K := K) rfl) (pe_ix (ixLK (K := K) rfl) (pv 3) (pv 7) (fun _ _ => rfl)) pe_int (fun _ _ => rfl)) (nomark _)))))
      (pss_one (ps_ret pe_bl))
      pss_nil))
      pss_nil)
      (pss_cons (ps_set (i := 11) sc_law.nd rfl (.inl rfl) (pe_call G_l_block_due hr (by rfl) T.g_l_block_due T.f_l_block_due.kp T.b_l_block_due .nil pass0 (pa_cons (pv 5) (pa_cons (pv 3) (pa_cons (pv 4) (pa_cons (pv 7) (pa_cons (pv 10) pa_nil)))))))
      (pss_cut (ps_if (PW.pt (pw_and (pt_cmpR op_eq (pv 9) pe_int (nomark _)) (pw_and1 (pt_cmpR (OwnT.op_or (Own.op_neO G_Block_eq7 T.M_Block_eq T.b_Block_eq pass0 hr T.neB T.moB (K := K) rfl) op_ne) (pe_meth (pv 6) T.cl_Walker T.M_Walker_block_at G_Walker_block_at hr T.b_Walker_block_at .nil passL (pa_cons (pv 10) pa_nil)) (pv 11) (nomark _)))))
      (pss_one (ps_ret pe_bl))
      pss_nil)
      (pss_one (ps_if (pt_not (pt_val (pe_call G_l_rests_so hr (by rfl) T.g_l_rests_so T.f_l_rests_so.kp T.b_l_rests_so .nil pass0 (pa_cons (pv 6) (pa_cons (pv 5) (pa_cons (pv 3) (pa_cons (pv 4) (pa_cons (pv 7) pa_nil))))))))
      (pss_one (ps_ret pe_bl))
      pss_nil))))))))))))))))))
      (pss_one (ps_ret pe_bl))), ?_⟩
    refine ⟨.ref a, rfl, a, _, rfl, .inl hS, 6, _, rfl, 1, _, rfl, (if (if ((ns.map V.int).length : Int) < 6 then ((ns.map V.int).length : Int) else 6) > 1 then (if ((ns.map V.int).length : Int) < 6 then ((ns.map V.int).length : Int) else 6) else 1), rfl, ?_, ?_, ?_⟩
    · have := maxmin6 (ns.map V.int).length
      omega
    · have := maxmin6 (ns.map V.int).length
      omega
    have hmm := maxmin6 (ns.map V.int).length
    generalize (if (if ((ns.map V.int).length : Int) < 6 then ((ns.map V.int).length : Int) else 6) > 1 then (if ((ns.map V.int).length : Int) < 6 then ((ns.map V.int).length : Int) else 6) else 1) = nn at hmm ⊢
    refine for_range (lo := 0) (n := nn.toNat) (fun i σ' H' => ∃ y1 y2 y3 y4 y5 y6 y7 y8 y9 y10 y11 : Option V, σ' = [some (.ref a), y1, y2, y3, y4, y5, y6, y7, y8, y9, y10, y11] ∧ Kd H H' ∧ LamX.Tabs (TabL PR) H') ⟨none, none, none, none, none, none, none, none, none, none, none, rfl, Kd.refl, hT⟩ (fun i σ' H' hi pv => ?_) (fun σ' H' pv => ?_)
    rotate_left
    · obtain ⟨y1, y2, y3, y4, y5, y6, y7, y8, y9, y10, y11, rfl, e0, T0⟩ := pv
      exact q H'
    obtain ⟨y1, y2, y3, y4, y5, y6, y7, y8, y9, y10, y11, rfl, e0, T0⟩ := pv
    refine ⟨.ref a, rfl, .int ((0 : Int) + i), rfl, a, ns, i, ?_, sql_kd e0 hS, hn, by omega, fun p H1 np e1 hp1 => ?_⟩
    · show [V.ref a, V.int ((0 : Int) + i)] = [V.ref a, V.int (i : Int)]
      rw [Int.zero_add]
    refine ⟨.ref p, rfl, p, 0, 20, 3, rfl, by decide, by decide, by decide, hp1, by decide, fun l xs es H2 nlp nl hl hE hL hmy hp2 f2 => ?_⟩
    refine ⟨.ref p, rfl, p, 8, _, rfl, hp2, by decide, by decide, by decide, fun dd H3 d0 d1 hp3 f3 => ⟨1, dd, rfl, rfl, ?_⟩⟩
    obtain ⟨s, hs⟩ : ∃ n : Nat, 1 + dd = (n : Int) := ⟨(1 + dd).toNat, by omega⟩
    refine ⟨.ref p, rfl, p, _, rfl, hp3, by decide, fun kk zs H4 nkk hk4 hp4 f4 => ?_⟩
    obtain ⟨z, az, wz⟩ : ∃ z : Str, atI (zs.map V.str) 0 = some (.str z) ∧ isW z = true := by
      have h1 := hk4.2.1
      match zs, h1, hk4.2.2.2 with
      | z :: r, _, h => exact ⟨z, atI_nat (j := 0) rfl, by rw [List.all_cons, Bool.and_eq_true] at h; exact h.1⟩
    refine ⟨kk, _, _, _, rfl, rfl, SqL.of hk4.1, az, ?_⟩
    have F24 := f3.trans f4
    have hl4 := F24 _ _ nlp hl
    have hE4 := hE.fx hp2 F24
    refine ⟨.ref l, rfl, .ref p, rfl, .ref l, rfl, p, l, _, xs, es, rfl, hp4, by decide, nlp, hl4, hE4, hL, fun m ls H5 nmp nm hm hF hp5 f5 => ?_⟩
    have F5 := (f2.trans F24).trans f5
    have x5 : Ex H' H5 := fx_new np e1 F5
    have hl5 := f5 _ _ nlp hl4
    have hE5 := hE4.fx hp4 f5
    have R1 : RowIs z s es ls := hL.row hF wz (by omega) (by omega)
    have hR : WkR s es ls := ⟨by omega, by omega, hL.ens, hF⟩
    refine ⟨.int (s : Nat), ?_, rfl, rfl, fun r dx1 nr1 nd1 _ => mk_row nr1 nd1 hl5 hE5 hm R1 fun H6 e6 hr1 => ?_⟩
    · rw [← hs]
      rfl
    have x6 := x5.trans e6
    refine ⟨.ref r, rfl, fun x dx nx nd _ => ?_⟩
    have e7 := ex2 (o := .own x) (u := .ins (A 42) dx []) nx nd
    refine ⟨x, dx, r, z, s, es, ls, rfl, upd_same, hr1.ex e7, hR, fun d H8 nd8 i8 h8 => ⟨rfl, ?_⟩⟩
    have e8 : Ex H6 H8 := ExI.new nx nd i8
    have x8 := x6.trans e8
    have F : Fix H' p l x d s es ls := ⟨hR, nlp, fresh_back x6 nx, np⟩
    have x68 := e6.trans e8
    have t9 : Trn (A 42) (A 54) (A 53) (TabL PR) H' p l x d r z s es ls xs (0 + 300 + 1 + 20 + 200) [] 0 H8 :=
      ⟨h8, Stood.zero hR.lo, (hp5.ex x68).mono (by omega), x68 _ _ hl5, hE5.ex x68, hr1.ex e8, Kd.ofEx x8, LamX.Tabs.ext T0 x8⟩
    refine ⟨17, rfl, by decide, by decide, ?_⟩
    refine for_range (lo := 0) (n := 17) (fun j σ' HA => ∃ (y8 y9 y10 y11 : Option V) (n : Nat) (O : List Nat), σ' = [some (.ref a), some (.int ((0 : Int) + i)), some (.ref p), some (.ref l), some (.int (s : Int)), some (.ref r), some (.ref x), some (.int (n : Int)), y8, y9, y10, y11] ∧
      Trn (A 42) (A 54) (A 53) (TabL PR) H' p l x d r z s es ls xs (600 + j * 4) O n HA) ⟨y8, y9, y10, y11, 0, [], ?_, ⟨t9.wk, t9.st, t9.pl.mono (by omega), t9.hl, t9.hE, t9.row, t9.kd, t9.tb⟩⟩ (fun j σ' HA hj pv => ?_) (fun σ' HA pv => ?_)
    · rw [← hs]
      rfl
    rotate_left
    · obtain ⟨y8, y9, y10, y11, n, O, rfl, t⟩ := pv
      exact ⟨_, _, _, _, _, _, _, _, _, _, _, rfl, e0.trans t.kd, t.tb⟩
    obtain ⟨y8, y9, y10, y11, n, O, rfl, t⟩ := pv
    have few := hL.ens.few
    have hn0 := t.wk.nle
    refine ⟨.ref p, rfl, p, 6, _, rfl, t.pl, by decide, by decide, by omega, fun so HB so0 so6 hpB fB => ?_⟩
    have tB := t.fx F fB hpB
    refine ⟨.ref p, rfl, .ref l, rfl, p, l, _, xs, es, rfl, hpB, by omega, nlp, tB.hl, tB.hE, few, fun z2 HC hpC fC => ?_⟩
    have tC := tB.fx F fC hpC
    refine ⟨Ph (A 42) (A 54) (A 53) (TabL PR) H' a p l x d r z s es ls xs (600 + j * 4 + 1 + 3) ((0 : Int) + i) ((0 : Int) + j) so z2 y11, ?_, fun σ' HE ph => ?_⟩
    · refine ⟨.int so, rfl, so, 2, rfl, rfl, _, rfl, ite2 (fun c => ?_) (fun c => ?_)⟩
      · refine ⟨.int (n : Int), rfl, (n : Int), 1, rfl, rfl, .ref l, rfl, l, _, rfl, .inl (SqL.of tC.hl), (n : Int) + 1, _, rfl, ?_⟩
        rw [minN hn0 hE.1]
        obtain ⟨dx1, hl1, hx1⟩ := tC.wk.ix
        refine ⟨.ref x, rfl, x, dx1, _, rfl, hx1, rfl, x, d, s, es, ls, O, n, rfl, tC.wk, hR, fun HF wF hF2 => ?_⟩
        have tF := tC.toW F wF hF2 Stood.op
        refine ⟨.ref l, rfl, .int _, rfl, l, xs, es, nxt es n, rfl, tF.hl, tF.hE, few, tF.wk.nle, fun HM eM => ?_⟩
        refine ⟨slotV_sc, _, rfl, ite2 (fun c => by rw [decide_eq_true rfl] at c; cases c) (fun _ => ?_)⟩
        exact ⟨nxt es n, _, rfl, tF.toEx eM⟩
      · exact ⟨n, O, rfl, tC⟩
    refine ⟨Ph (A 42) (A 54) (A 53) (TabL PR) H' a p l x d r z s es ls xs (600 + j * 4 + 1 + 3) ((0 : Int) + i) ((0 : Int) + j) so z2 y11, ?_, fun σ' HF ph => ?_⟩
    · obtain ⟨n1, O1, rfl, tE⟩ := ph
      have hn1 := tE.wk.nle
      refine ⟨.int so, rfl, by show 2 ≤ sizeLine; decide, fun tp ntp => ?_⟩
      have eE := Ex.new (o := .tup [.int 2, .int 3]) ntp
      have gtp := upd_same (H := HE) (a := tp) (o := .tup [.int 2, .int 3])
      have tF := tE.toEx eE
      refine ⟨tp, _, rfl, .inr (SqT.of gtp), rfl, rfl, _, rfl, ite2 (fun c => ?_) (fun c => ?_)⟩
      · generalize (upd HE tp (.tup [.int 2, .int 3])) = HF at tF
        refine ⟨.ref l, rfl, .int (n1 : Int), rfl, .int z2, rfl, l, xs, es, n1, z2, rfl, tF.hl, tF.hE, hn1, fun m hm => ?_⟩
        obtain ⟨dx1, hl1, hx1⟩ := tF.wk.ix
        refine ⟨.ref x, rfl, x, dx1, _, rfl, hx1, rfl, .int z2, rfl, x, d, s, es, ls, O1, n1, _, rfl, tF.wk, hR, .inl ⟨z2, rfl, fun m' HI hm' wI hI => ?_⟩⟩
        obtain rfl := hm'.uniq hm
        rw [tF.st] at hI
        have tI := tF.toW F wI hI Stood.op
        refine ⟨.ref l, rfl, .int _, rfl, l, xs, es, m', rfl, tI.hl, tI.hE, few, hm'.le, fun HM eM => ?_⟩
        refine ⟨slotV_sc, _, rfl, ite2 (fun c => by rw [decide_eq_true rfl] at c; cases c) (fun _ => ?_)⟩
        exact ⟨m', _, rfl, tI.toEx eM⟩
      · exact ⟨n1, O1, rfl, tF⟩
    refine ⟨Ph (A 42) (A 54) (A 53) (TabL PR) H' a p l x d r z s es ls xs (600 + j * 4 + 1 + 3) ((0 : Int) + i) ((0 : Int) + j) so z2 y11, ?_, fun σ' HG ph => ?_⟩
    · obtain ⟨n1, O1, rfl, tE⟩ := ph
      refine ⟨.int so, rfl, rfl, _, rfl, ite2 (fun c => ?_) (fun c => ?_)⟩
      · refine ⟨.int (n1 : Int), rfl, .ref l, rfl, l, _, rfl, .inl (SqL.of tE.hl), _, _, rfl, rfl, _, rfl, ite2 (fun c2 => ?_) (fun c2 => ?_)⟩
        · rw [hE.1] at c2
          have hlt : n1 < es.length := by
            have : (n1 : Int) < (es.length : Nat) := of_decide_eq_true c2
            omega
          have gme : es[n1]? = some es[n1] := List.getElem?_eq_getElem hlt
          obtain ⟨dx1, hl1, hx1⟩ := tE.wk.ix
          refine ⟨.ref x, rfl, x, dx1, _, rfl, hx1, rfl, x, d, s, es, ls, O1, n1, rfl, tE.wk, hR, .inl ⟨_, gme, fun pa HI iI wkI gI => ?_⟩⟩
          have tI := tE.toI iI wkI tE.st.add
          refine ⟨.ref pa, .ty "tuple", .type "tuple", .type "tuple", true, rfl, .ty _, .base (.tup gI), kit_ty (by decide +kernel), true, rfl, ite2 (fun h => absurd (show false = true from h) Bool.false_ne_true) (fun _ => ?_)⟩
          obtain ⟨dx2, hl2, hx2⟩ := tI.wk.ix
          refine ⟨.ref x, rfl, x, dx2, _, rfl, hx2, rfl, x, d, s, es, ls, _, n1, rfl, tI.wk, hR, .inl ⟨_, gme, fun pb HJ iJ wkJ gJ => ?_⟩⟩
          have tJ := tI.toI iJ wkJ tI.st.add
          obtain ⟨am, gam, tam, ham, htam⟩ := tJ.hE.2 _ _ gme
          refine ⟨.ref l, rfl, .int (n1 : Int), rfl, l, _, _, _, rfl, rfl, SqL.of tJ.hl, atI_nat gam, am, _, 1, _, rfl, rfl, SqT.of ham, atI_nat (j := 1) rfl, ?_⟩
          have shX := shTd es[n1].2
          refine ⟨_, _, .tup (SqT.of gJ) (dpV _), .tup (SqT.of htam) (dpV _), shX, shX, ?_⟩
          rw [eqv_self shX]
          refine ⟨_, rfl, iteF ?_⟩
          exact ⟨n1, _, rfl, tJ⟩
        · exact ⟨n1, O1, rfl, tE⟩
      · exact ⟨n1, O1, rfl, tE⟩
    obtain ⟨n1, O1, rfl, tG⟩ := ph
    have hn1 := tG.wk.nle
    refine ⟨.ref r, rfl, .ref l, rfl, .int (s : Int), rfl, .int (n1 : Int), rfl, .int z2, rfl, r, l, z, s, n1, es, ls, xs, z2, rfl, tG.row, tG.hl, tG.hE, hR.lo, hR.hi, few, hn1, fun v b HH eH hb hv => ?_⟩
    have tH := tG.toEx eH
    refine ⟨fun σ' H1 => σ' = [some (.ref a), some (.int ((0 : Int) + i)), some (.ref p), some (.ref l), some (.int (s : Int)), some (.ref r), some (.ref x), some (.int (n1 : Int)), some (.int ((0 : Int) + j)), some (.int so), some (.int z2), some v] ∧ Trn (A 42) (A 54) (A 53) (TabL PR) H' p l x d r z s es ls xs (600 + j * 4 + 1 + 3) O1 n1 H1, ?_, fun σ' HI ph => ?_⟩
    · refine ⟨.int so, rfl, rfl, _, rfl, ite2 (fun c => ?_) (fun c => ?_)⟩
      · obtain ⟨dx1, hl1, hx1⟩ := tH.wk.ix
        refine ⟨.ref x, rfl, x, dx1, _, rfl, hx1, rfl, .int z2, rfl, x, d, s, es, ls, O1, n1, _, rfl, tH.wk, hR, .inl ⟨z2, rfl, fun b' u HI eI hb' hu => ?_⟩⟩
        obtain rfl := hb'.uniq hb
        have tI := tH.toEx eI
        rcases hv with ⟨n2, bv, rfl, hbv⟩ | ⟨n2, rfl⟩
        · rcases hu with ⟨_, bu, rfl, hbu⟩ | ⟨n3, _⟩
          rotate_left
          · omega
          have hbv' := hbv.ex eI
          obtain ⟨d1, hb1⟩ := id hbu
          obtain ⟨d2, hb2⟩ := id hbv'
          refine ⟨.ref bv, rfl, .inl ⟨bu, d1, _, rfl, hb1, .inl ⟨_, d2, _, rfl, hb2⟩, bu, _, _, _, rfl, hbu, .inl ⟨_, _, _, rfl, hbv', fun HJ eJ => ?_⟩⟩⟩
          refine ⟨_, rfl, ?_⟩
          rw [blkEq_self]
          refine ⟨_, rfl, iteF ?_⟩
          exact ⟨rfl, tI.toEx eJ⟩
        · rcases hu with ⟨n3, _⟩ | ⟨_, rfl⟩
          · omega
          refine ⟨.non, rfl, .inr ⟨rfl, _, rfl, ite2 (fun c => by rw [decide_eq_true rfl] at c; cases c) (fun _ => ?_)⟩⟩
          exact ⟨rfl, tI⟩
      · exact ⟨rfl, tH⟩
    obtain ⟨rfl, tI⟩ := ph
    refine ⟨.ref x, rfl, .ref r, rfl, .ref l, rfl, .int (s : Int), rfl, .int (n1 : Int), rfl, x, d, r, l, z, s, n1, es, ls, O1, xs, rfl, tI.wk, hR, tI.st, tI.row, tI.hl, tI.hE, tI.tb, fun HJ kJ wkJ TJ => ?_⟩
    have tJ := tI.toKd kJ wkJ tI.st TJ
    refine ⟨true, rfl, ite2 (fun h => absurd (show false = true from h) Bool.false_ne_true) (fun _ => ?_)⟩
    exact ⟨_, _, _, _, n1, O1, rfl, tJ.wk, tJ.st, tJ.pl.mono (by omega), tJ.hl, tJ.hE, tJ.row, tJ.kd, tJ.tb⟩
end
set_option maxHeartbeats 8000000 in
theorem all_mk {l : PySem.W.OpenLaw} {w : World} {K : PySem.W.Frag} {h : Heap} {mg : Str → Option Value} {fa : Addr} (X : K.In h) (G : h.Ns mainGlobals mg) (hfa : mg "law" = some (.ref fa))
    {f22 : Addr} {od22 an22 : Option Addr} {sl22 : Array (Option Value)} {oc22 kV22 dc22 pm22 cd22 ct22 : Value}
    (a22 : PySem.W.nsIn K mainGlobals "is_whole" = some (some (.ref f22))) (l22 : K.lookup f22 = some ⟨oc22, od22, .func (PySem.W.fnOf "is_whole" "is_whole" (defArgs (topS 22)) (defBody (topS 22)) (defScope (topS 22)) .none kV22 dc22 pm22 an22 cd22 ct22), sl22⟩) (c22 : PySem.W.codeIn K cd22 "is_whole" = true) (k22 : PySem.W.keepIn K (.ref f22) = true)
    {f23 : Addr} {od23 an23 : Option Addr} {sl23 : Array (Option Value)} {oc23 kV23 dc23 pm23 cd23 ct23 : Value}
    (a23 : PySem.W.nsIn K mainGlobals "is_within" = some (some (.ref f23))) (l23 : K.lookup f23 = some ⟨oc23, od23, .func (PySem.W.fnOf "is_within" "is_within" (defArgs (topS 23)) (defBody (topS 23)) (defScope (topS 23)) .none kV23 dc23 pm23 an23 cd23 ct23), sl23⟩) (c23 : PySem.W.codeIn K cd23 "is_within" = true) (k23 : PySem.W.keepIn K (.ref f23) = true)
    {f27 : Addr} {od27 an27 : Option Addr} {sl27 : Array (Option Value)} {oc27 kV27 dc27 pm27 cd27 ct27 : Value}
    (a27 : PySem.W.nsIn K mainGlobals "is_count" = some (some (.ref f27))) (l27 : K.lookup f27 = some ⟨oc27, od27, .func (PySem.W.fnOf "is_count" "is_count" (defArgs (topS 27)) (defBody (topS 27)) (defScope (topS 27)) .none kV27 dc27 pm27 an27 cd27 ct27), sl27⟩) (c27 : PySem.W.codeIn K cd27 "is_count" = true) (k27 : PySem.W.keepIn K (.ref f27) = true)
    {f28 : Addr} {od28 an28 : Option Addr} {sl28 : Array (Option Value)} {oc28 kV28 dc28 pm28 cd28 ct28 : Value}
    (a28 : PySem.W.nsIn K mainGlobals "code" = some (some (.ref f28))) (l28 : K.lookup f28 = some ⟨oc28, od28, .func (PySem.W.fnOf "code" "code" (defArgs (topS 28)) (defBody (topS 28)) (defScope (topS 28)) .none kV28 dc28 pm28 an28 cd28 ct28), sl28⟩) (c28 : PySem.W.codeIn K cd28 "code" = true) (k28 : PySem.W.keepIn K (.ref f28) = true)
    {f29 : Addr} {od29 an29 : Option Addr} {sl29 : Array (Option Value)} {oc29 kV29 dc29 pm29 cd29 ct29 : Value}
    (a29 : PySem.W.nsIn K mainGlobals "code_all" = some (some (.ref f29))) (l29 : K.lookup f29 = some ⟨oc29, od29, .func (PySem.W.fnOf "code_all" "code_all" (defArgs (topS 29)) (defBody (topS 29)) (defScope (topS 29)) .none kV29 dc29 pm29 an29 cd29 ct29), sl29⟩) (c29 : PySem.W.codeIn K cd29 "code_all" = true) (k29 : PySem.W.keepIn K (.ref f29) = true)
    {f30 : Addr} {od30 an30 : Option Addr} {sl30 : Array (Option Value)} {oc30 kV30 dc30 pm30 cd30 ct30 : Value}
    (a30 : PySem.W.nsIn K mainGlobals "code_entries" = some (some (.ref f30))) (l30 : K.lookup f30 = some ⟨oc30, od30, .func (PySem.W.fnOf "code_entries" "code_entries" (defArgs (topS 30)) (defBody (topS 30)) (defScope (topS 30)) .none kV30 dc30 pm30 an30 cd30 ct30), sl30⟩) (c30 : PySem.W.codeIn K cd30 "code_entries" = true) (k30 : PySem.W.keepIn K (.ref f30) = true)
    {f31 : Addr} {od31 an31 : Option Addr} {sl31 : Array (Option Value)} {oc31 kV31 dc31 pm31 cd31 ct31 : Value}
    (a31 : PySem.W.nsIn K mainGlobals "decode_entries" = some (some (.ref f31))) (l31 : K.lookup f31 = some ⟨oc31, od31, .func (PySem.W.fnOf "decode_entries" "decode_entries" (defArgs (topS 31)) (defBody (topS 31)) (defScope (topS 31)) .none kV31 dc31 pm31 an31 cd31 ct31), sl31⟩) (c31 : PySem.W.codeIn K cd31 "decode_entries" = true) (k31 : PySem.W.keepIn K (.ref f31) = true)
    {f32 : Addr} {od32 an32 : Option Addr} {sl32 : Array (Option Value)} {oc32 kV32 dc32 pm32 cd32 ct32 : Value}
    (a32 : PySem.W.nsIn K mainGlobals "check_entries" = some (some (.ref f32))) (l32 : K.lookup f32 = some ⟨oc32, od32, .func (PySem.W.fnOf "check_entries" "check_entries" (defArgs (topS 32)) (defBody (topS 32)) (defScope (topS 32)) .none kV32 dc32 pm32 an32 cd32 ct32), sl32⟩) (c32 : PySem.W.codeIn K cd32 "check_entries" = true) (k32 : PySem.W.keepIn K (.ref f32) = true)
    {f33 : Addr} {od33 an33 : Option Addr} {sl33 : Array (Option Value)} {oc33 kV33 dc33 pm33 cd33 ct33 : Value}
    (a33 : PySem.W.nsIn K mainGlobals "is_entry" = some (some (.ref f33))) (l33 : K.lookup f33 = some ⟨oc33, od33, .func (PySem.W.fnOf "is_entry" "is_entry" (defArgs (topS 33)) (defBody (topS 33)) (defScope (topS 33)) .none kV33 dc33 pm33 an33 cd33 ct33), sl33⟩) (c33 : PySem.W.codeIn K cd33 "is_entry" = true) (k33 : PySem.W.keepIn K (.ref f33) = true)
    {f34 : Addr} {od34 an34 : Option Addr} {sl34 : Array (Option Value)} {oc34 kV34 dc34 pm34 cd34 ct34 : Value}
    (a34 : PySem.W.nsIn K mainGlobals "are_places" = some (some (.ref f34))) (l34 : K.lookup f34 = some ⟨oc34, od34, .func (PySem.W.fnOf "are_places" "are_places" (defArgs (topS 34)) (defBody (topS 34)) (defScope (topS 34)) .none kV34 dc34 pm34 an34 cd34 ct34), sl34⟩) (c34 : PySem.W.codeIn K cd34 "are_places" = true) (k34 : PySem.W.keepIn K (.ref f34) = true)
    {f35 : Addr} {od35 an35 : Option Addr} {sl35 : Array (Option Value)} {oc35 kV35 dc35 pm35 cd35 ct35 : Value}
    (a35 : PySem.W.nsIn K mainGlobals "first_fall" = some (some (.ref f35))) (l35 : K.lookup f35 = some ⟨oc35, od35, .func (PySem.W.fnOf "first_fall" "first_fall" (defArgs (topS 35)) (defBody (topS 35)) (defScope (topS 35)) .none kV35 dc35 pm35 an35 cd35 ct35), sl35⟩) (c35 : PySem.W.codeIn K cd35 "first_fall" = true) (k35 : PySem.W.keepIn K (.ref f35) = true)
    {f36 : Addr} {od36 an36 : Option Addr} {sl36 : Array (Option Value)} {oc36 kV36 dc36 pm36 cd36 ct36 : Value}
    (a36 : PySem.W.nsIn K mainGlobals "gaps_of" = some (some (.ref f36))) (l36 : K.lookup f36 = some ⟨oc36, od36, .func (PySem.W.fnOf "gaps_of" "gaps_of" (defArgs (topS 36)) (defBody (topS 36)) (defScope (topS 36)) .none kV36 dc36 pm36 an36 cd36 ct36), sl36⟩) (c36 : PySem.W.codeIn K cd36 "gaps_of" = true) (k36 : PySem.W.keepIn K (.ref f36) = true)
    {f37 : Addr} {od37 an37 : Option Addr} {sl37 : Array (Option Value)} {oc37 kV37 dc37 pm37 cd37 ct37 : Value}
    (a37 : PySem.W.nsIn K mainGlobals "risen" = some (some (.ref f37))) (l37 : K.lookup f37 = some ⟨oc37, od37, .func (PySem.W.fnOf "risen" "risen" (defArgs (topS 37)) (defBody (topS 37)) (defScope (topS 37)) .none kV37 dc37 pm37 an37 cd37 ct37), sl37⟩) (c37 : PySem.W.codeIn K cd37 "risen" = true) (k37 : PySem.W.keepIn K (.ref f37) = true)
    {f38 : Addr} {od38 an38 : Option Addr} {sl38 : Array (Option Value)} {oc38 kV38 dc38 pm38 cd38 ct38 : Value}
    (a38 : PySem.W.nsIn K mainGlobals "check_text" = some (some (.ref f38))) (l38 : K.lookup f38 = some ⟨oc38, od38, .func (PySem.W.fnOf "check_text" "check_text" (defArgs (topS 38)) (defBody (topS 38)) (defScope (topS 38)) .none kV38 dc38 pm38 an38 cd38 ct38), sl38⟩) (c38 : PySem.W.codeIn K cd38 "check_text" = true) (k38 : PySem.W.keepIn K (.ref f38) = true)
    {f39 : Addr} {od39 an39 : Option Addr} {sl39 : Array (Option Value)} {oc39 kV39 dc39 pm39 cd39 ct39 : Value}
    (a39 : PySem.W.nsIn K mainGlobals "read_number" = some (some (.ref f39))) (l39 : K.lookup f39 = some ⟨oc39, od39, .func (PySem.W.fnOf "read_number" "read_number" (defArgs (topS 39)) (defBody (topS 39)) (defScope (topS 39)) .none kV39 dc39 pm39 an39 cd39 ct39), sl39⟩) (c39 : PySem.W.codeIn K cd39 "read_number" = true) (k39 : PySem.W.keepIn K (.ref f39) = true)
    {f40 : Addr} {od40 an40 : Option Addr} {sl40 : Array (Option Value)} {oc40 kV40 dc40 pm40 cd40 ct40 : Value}
    (a40 : PySem.W.nsIn K mainGlobals "read_numbers" = some (some (.ref f40))) (l40 : K.lookup f40 = some ⟨oc40, od40, .func (PySem.W.fnOf "read_numbers" "read_numbers" (defArgs (topS 40)) (defBody (topS 40)) (defScope (topS 40)) .none kV40 dc40 pm40 an40 cd40 ct40), sl40⟩) (c40 : PySem.W.codeIn K cd40 "read_numbers" = true) (k40 : PySem.W.keepIn K (.ref f40) = true)
    {f43 : Addr} {od43 an43 : Option Addr} {sl43 : Array (Option Value)} {oc43 kV43 dc43 pm43 cd43 ct43 : Value}
    (a43 : PySem.W.nsIn K mainGlobals "check_number" = some (some (.ref f43))) (l43 : K.lookup f43 = some ⟨oc43, od43, .func (PySem.W.fnOf "check_number" "check_number" (defArgs (topS 43)) (defBody (topS 43)) (defScope (topS 43)) .none kV43 dc43 pm43 an43 cd43 ct43), sl43⟩) (c43 : PySem.W.codeIn K cd43 "check_number" = true) (k43 : PySem.W.keepIn K (.ref f43) = true)
    {f47 : Addr} {od47 an47 : Option Addr} {sl47 : Array (Option Value)} {oc47 kV47 dc47 pm47 cd47 ct47 : Value}
    (a47 : PySem.W.nsIn K mainGlobals "is_word" = some (some (.ref f47))) (l47 : K.lookup f47 = some ⟨oc47, od47, .func (PySem.W.fnOf "is_word" "is_word" (defArgs (topS 47)) (defBody (topS 47)) (defScope (topS 47)) .none kV47 dc47 pm47 an47 cd47 ct47), sl47⟩) (c47 : PySem.W.codeIn K cd47 "is_word" = true) (k47 : PySem.W.keepIn K (.ref f47) = true)
    {f48 : Addr} {od48 an48 : Option Addr} {sl48 : Array (Option Value)} {oc48 kV48 dc48 pm48 cd48 ct48 : Value}
    (a48 : PySem.W.nsIn K mainGlobals "check_word" = some (some (.ref f48))) (l48 : K.lookup f48 = some ⟨oc48, od48, .func (PySem.W.fnOf "check_word" "check_word" (defArgs (topS 48)) (defBody (topS 48)) (defScope (topS 48)) .none kV48 dc48 pm48 an48 cd48 ct48), sl48⟩) (c48 : PySem.W.codeIn K cd48 "check_word" = true) (k48 : PySem.W.keepIn K (.ref f48) = true)
    {f55 : Addr} {od55 an55 : Option Addr} {sl55 : Array (Option Value)} {oc55 kV55 dc55 pm55 cd55 ct55 : Value}
    (a55 : PySem.W.nsIn K mainGlobals "check_lengths" = some (some (.ref f55))) (l55 : K.lookup f55 = some ⟨oc55, od55, .func (PySem.W.fnOf "check_lengths" "check_lengths" (defArgs (topS 55)) (defBody (topS 55)) (defScope (topS 55)) .none kV55 dc55 pm55 an55 cd55 ct55), sl55⟩) (c55 : PySem.W.codeIn K cd55 "check_lengths" = true) (k55 : PySem.W.keepIn K (.ref f55) = true)
    {f56 : Addr} {od56 an56 : Option Addr} {sl56 : Array (Option Value)} {oc56 kV56 dc56 pm56 cd56 ct56 : Value}
    (a56 : PySem.W.nsIn K mainGlobals "check_size" = some (some (.ref f56))) (l56 : K.lookup f56 = some ⟨oc56, od56, .func (PySem.W.fnOf "check_size" "check_size" (defArgs (topS 56)) (defBody (topS 56)) (defScope (topS 56)) .none kV56 dc56 pm56 an56 cd56 ct56), sl56⟩) (c56 : PySem.W.codeIn K cd56 "check_size" = true) (k56 : PySem.W.keepIn K (.ref f56) = true)
    {f57 : Addr} {od57 an57 : Option Addr} {sl57 : Array (Option Value)} {oc57 kV57 dc57 pm57 cd57 ct57 : Value}
    (a57 : PySem.W.nsIn K mainGlobals "check_fit" = some (some (.ref f57))) (l57 : K.lookup f57 = some ⟨oc57, od57, .func (PySem.W.fnOf "check_fit" "check_fit" (defArgs (topS 57)) (defBody (topS 57)) (defScope (topS 57)) .none kV57 dc57 pm57 an57 cd57 ct57), sl57⟩) (c57 : PySem.W.codeIn K cd57 "check_fit" = true) (k57 : PySem.W.keepIn K (.ref f57) = true)
    {f59 : Addr} {od59 an59 : Option Addr} {sl59 : Array (Option Value)} {oc59 kV59 dc59 pm59 cd59 ct59 : Value}
    (a59 : PySem.W.nsIn K mainGlobals "_law_pool" = some (some (.ref f59))) (l59 : K.lookup f59 = some ⟨oc59, od59, .func (PySem.W.fnOf "_law_pool" "_law_pool" (defArgs (topS 59)) (defBody (topS 59)) (defScope (topS 59)) .none kV59 dc59 pm59 an59 cd59 ct59), sl59⟩) (c59 : PySem.W.codeIn K cd59 "_law_pool" = true) (k59 : PySem.W.keepIn K (.ref f59) = true)
    {f60 : Addr} {od60 an60 : Option Addr} {sl60 : Array (Option Value)} {oc60 kV60 dc60 pm60 cd60 ct60 : Value}
    (a60 : PySem.W.nsIn K mainGlobals "_law_take" = some (some (.ref f60))) (l60 : K.lookup f60 = some ⟨oc60, od60, .func (PySem.W.fnOf "_law_take" "_law_take" (defArgs (topS 60)) (defBody (topS 60)) (defScope (topS 60)) .none kV60 dc60 pm60 an60 cd60 ct60), sl60⟩) (c60 : PySem.W.codeIn K cd60 "_law_take" = true) (k60 : PySem.W.keepIn K (.ref f60) = true)
    {f61 : Addr} {od61 an61 : Option Addr} {sl61 : Array (Option Value)} {oc61 kV61 dc61 pm61 cd61 ct61 : Value}
    (a61 : PySem.W.nsIn K mainGlobals "_law_kinds" = some (some (.ref f61))) (l61 : K.lookup f61 = some ⟨oc61, od61, .func (PySem.W.fnOf "_law_kinds" "_law_kinds" (defArgs (topS 61)) (defBody (topS 61)) (defScope (topS 61)) .none kV61 dc61 pm61 an61 cd61 ct61), sl61⟩) (c61 : PySem.W.codeIn K cd61 "_law_kinds" = true) (k61 : PySem.W.keepIn K (.ref f61) = true)
    {f63 : Addr} {od63 an63 : Option Addr} {sl63 : Array (Option Value)} {oc63 kV63 dc63 pm63 cd63 ct63 : Value}
    (a63 : PySem.W.nsIn K mainGlobals "_law_row_entries" = some (some (.ref f63))) (l63 : K.lookup f63 = some ⟨oc63, od63, .func (PySem.W.fnOf "_law_row_entries" "_law_row_entries" (defArgs (topS 63)) (defBody (topS 63)) (defScope (topS 63)) .none kV63 dc63 pm63 an63 cd63 ct63), sl63⟩) (c63 : PySem.W.codeIn K cd63 "_law_row_entries" = true) (k63 : PySem.W.keepIn K (.ref f63) = true)
    {f64 : Addr} {od64 an64 : Option Addr} {sl64 : Array (Option Value)} {oc64 kV64 dc64 pm64 cd64 ct64 : Value}
    (a64 : PySem.W.nsIn K mainGlobals "_law_lengths" = some (some (.ref f64))) (l64 : K.lookup f64 = some ⟨oc64, od64, .func (PySem.W.fnOf "_law_lengths" "_law_lengths" (defArgs (topS 64)) (defBody (topS 64)) (defScope (topS 64)) .none kV64 dc64 pm64 an64 cd64 ct64), sl64⟩) (c64 : PySem.W.codeIn K cd64 "_law_lengths" = true) (k64 : PySem.W.keepIn K (.ref f64) = true)
    {f65 : Addr} {od65 an65 : Option Addr} {sl65 : Array (Option Value)} {oc65 kV65 dc65 pm65 cd65 ct65 : Value}
    (a65 : PySem.W.nsIn K mainGlobals "_law_seek" = some (some (.ref f65))) (l65 : K.lookup f65 = some ⟨oc65, od65, .func (PySem.W.fnOf "_law_seek" "_law_seek" (defArgs (topS 65)) (defBody (topS 65)) (defScope (topS 65)) .none kV65 dc65 pm65 an65 cd65 ct65), sl65⟩) (c65 : PySem.W.codeIn K cd65 "_law_seek" = true) (k65 : PySem.W.keepIn K (.ref f65) = true)
    {f66 : Addr} {od66 an66 : Option Addr} {sl66 : Array (Option Value)} {oc66 kV66 dc66 pm66 cd66 ct66 : Value}
    (a66 : PySem.W.nsIn K mainGlobals "_law_slot" = some (some (.ref f66))) (l66 : K.lookup f66 = some ⟨oc66, od66, .func (PySem.W.fnOf "_law_slot" "_law_slot" (defArgs (topS 66)) (defBody (topS 66)) (defScope (topS 66)) .none kV66 dc66 pm66 an66 cd66 ct66), sl66⟩) (c66 : PySem.W.codeIn K cd66 "_law_slot" = true) (k66 : PySem.W.keepIn K (.ref f66) = true)
    {f68 : Addr} {od68 an68 : Option Addr} {sl68 : Array (Option Value)} {oc68 kV68 dc68 pm68 cd68 ct68 : Value}
    (a68 : PySem.W.nsIn K mainGlobals "_law_kind" = some (some (.ref f68))) (l68 : K.lookup f68 = some ⟨oc68, od68, .func (PySem.W.fnOf "_law_kind" "_law_kind" (defArgs (topS 68)) (defBody (topS 68)) (defScope (topS 68)) .none kV68 dc68 pm68 an68 cd68 ct68), sl68⟩) (c68 : PySem.W.codeIn K cd68 "_law_kind" = true) (k68 : PySem.W.keepIn K (.ref f68) = true)
    {f69 : Addr} {od69 an69 : Option Addr} {sl69 : Array (Option Value)} {oc69 kV69 dc69 pm69 cd69 ct69 : Value}
    (a69 : PySem.W.nsIn K mainGlobals "_law_how" = some (some (.ref f69))) (l69 : K.lookup f69 = some ⟨oc69, od69, .func (PySem.W.fnOf "_law_how" "_law_how" (defArgs (topS 69)) (defBody (topS 69)) (defScope (topS 69)) .none kV69 dc69 pm69 an69 cd69 ct69), sl69⟩) (c69 : PySem.W.codeIn K cd69 "_law_how" = true) (k69 : PySem.W.keepIn K (.ref f69) = true)
    {f70 : Addr} {od70 an70 : Option Addr} {sl70 : Array (Option Value)} {oc70 kV70 dc70 pm70 cd70 ct70 : Value}
    (a70 : PySem.W.nsIn K mainGlobals "_law_aim" = some (some (.ref f70))) (l70 : K.lookup f70 = some ⟨oc70, od70, .func (PySem.W.fnOf "_law_aim" "_law_aim" (defArgs (topS 70)) (defBody (topS 70)) (defScope (topS 70)) .none kV70 dc70 pm70 an70 cd70 ct70), sl70⟩) (c70 : PySem.W.codeIn K cd70 "_law_aim" = true) (k70 : PySem.W.keepIn K (.ref f70) = true)
    {f71 : Addr} {od71 an71 : Option Addr} {sl71 : Array (Option Value)} {oc71 kV71 dc71 pm71 cd71 ct71 : Value}
    (a71 : PySem.W.nsIn K mainGlobals "_law_block_due" = some (some (.ref f71))) (l71 : K.lookup f71 = some ⟨oc71, od71, .func (PySem.W.fnOf "_law_block_due" "_law_block_due" (defArgs (topS 71)) (defBody (topS 71)) (defScope (topS 71)) .none kV71 dc71 pm71 an71 cd71 ct71), sl71⟩) (c71 : PySem.W.codeIn K cd71 "_law_block_due" = true) (k71 : PySem.W.keepIn K (.ref f71) = true)
    {f72 : Addr} {od72 an72 : Option Addr} {sl72 : Array (Option Value)} {oc72 kV72 dc72 pm72 ct72 : Value} {cc72 : Addr}
    (a72 : PySem.W.nsIn K mainGlobals "_law_rests_so" = some (some (.ref f72))) (l72 : K.lookup f72 = some ⟨oc72, od72, .func (PySem.W.fnOf "_law_rests_so" "_law_rests_so" (defArgs (topS 72)) (defBody (topS 72)) (defScope (topS 72)) .none kV72 dc72 pm72 an72 (.ref cc72) ct72), sl72⟩) (c72 : PySem.W.codeIn K (.ref cc72) "_law_rests_so" = true) (k72 : PySem.W.keepIn K (.ref f72) = true)
    {f73 : Addr} {od73 an73 : Option Addr} {sl73 : Array (Option Value)} {oc73 kV73 dc73 pm73 cd73 ct73 : Value}
    (a73 : PySem.W.nsIn K mainGlobals "law" = some (some (.ref f73))) (l73 : K.lookup f73 = some ⟨oc73, od73, .func (PySem.W.fnOf "law" "law" (defArgs (topS 73)) (defBody (topS 73)) (defScope (topS 73)) .none kV73 dc73 pm73 an73 cd73 ct73), sl73⟩) (c73 : PySem.W.codeIn K cd73 "law" = true) (k73 : PySem.W.keepIn K (.ref f73) = true)
    (z_IndexError : PySem.W.nsIn K mainGlobals "IndexError" = some none)
    (z_ValueError : PySem.W.nsIn K mainGlobals "ValueError" = some none)
    (z_abs : PySem.W.nsIn K mainGlobals "abs" = some none)
    (z_all : PySem.W.nsIn K mainGlobals "all" = some none)
    (z_bool : PySem.W.nsIn K mainGlobals "bool" = some none)
    (z_divmod : PySem.W.nsIn K mainGlobals "divmod" = some none)
    (z_enumerate : PySem.W.nsIn K mainGlobals "enumerate" = some none)
    (z_int : PySem.W.nsIn K mainGlobals "int" = some none)
    (z_isinstance : PySem.W.nsIn K mainGlobals "isinstance" = some none)
    (z_len : PySem.W.nsIn K mainGlobals "len" = some none)
    (z_list : PySem.W.nsIn K mainGlobals "list" = some none)
    (z_max : PySem.W.nsIn K mainGlobals "max" = some none)
    (z_min : PySem.W.nsIn K mainGlobals "min" = some none)
    (z_range : PySem.W.nsIn K mainGlobals "range" = some none)
    (z_str : PySem.W.nsIn K mainGlobals "str" = some none)
    (z_tuple : PySem.W.nsIn K mainGlobals "tuple" = some none)
    {tk25 : Tok} (e25 : PySem.W.nsIn K mainGlobals "DIGITS_AHEAD" = some (some (.str "ABCDEFGHIJKLMNOP" tk25)))
    {tk26 : Tok} (e26 : PySem.W.nsIn K mainGlobals "LAST_DIGITS" = some (some (.str "abcdefghijklmnop" tk26)))
    {tk45 : Tok} (e45 : PySem.W.nsIn K mainGlobals "MOST_LETTERS" = some (some (.int 12 tk45)))
    {tk46 : Tok} (e46 : PySem.W.nsIn K mainGlobals "MOST_WORDS" = some (some (.int 120 tk46)))
    {tk50 : Tok} (e50 : PySem.W.nsIn K mainGlobals "SIZE" = some (some (.int 4 tk50)))
    {tk51 : Tok} (e51 : PySem.W.nsIn K mainGlobals "MOST_SIZE" = some (some (.int 8 tk51)))
    {tk52 : Tok} (e52 : PySem.W.nsIn K mainGlobals "MOST_LENGTHS" = some (some (.int 60 tk52)))
    {f2 : Addr} (a2 : PySem.W.nsIn K mainGlobals "Wrong" = some (some (.ref f2)))
    {f3 : Addr} (a3 : PySem.W.nsIn K mainGlobals "NoWord" = some (some (.ref f3)))
    {f4 : Addr} (a4 : PySem.W.nsIn K mainGlobals "NoText" = some (some (.ref f4)))
    {f5 : Addr} (a5 : PySem.W.nsIn K mainGlobals "NoNumber" = some (some (.ref f5)))
    {f6 : Addr} (a6 : PySem.W.nsIn K mainGlobals "NoSize" = some (some (.ref f6)))
    {f7 : Addr} (a7 : PySem.W.nsIn K mainGlobals "NoLengths" = some (some (.ref f7)))
    {f8 : Addr} (a8 : PySem.W.nsIn K mainGlobals "NoQuery" = some (some (.ref f8)))
    {f9 : Addr} (a9 : PySem.W.nsIn K mainGlobals "NoName" = some (some (.ref f9)))
    {f10 : Addr} (a10 : PySem.W.nsIn K mainGlobals "NoCode" = some (some (.ref f10)))
    {f11 : Addr} (a11 : PySem.W.nsIn K mainGlobals "NoRow" = some (some (.ref f11)))
    {f12 : Addr} (a12 : PySem.W.nsIn K mainGlobals "NoEntries" = some (some (.ref f12)))
    {f13 : Addr} (a13 : PySem.W.nsIn K mainGlobals "NoQueryText" = some (some (.ref f13)))
    {f14 : Addr} (a14 : PySem.W.nsIn K mainGlobals "NoPages" = some (some (.ref f14)))
    {f15 : Addr} (a15 : PySem.W.nsIn K mainGlobals "NoQueries" = some (some (.ref f15)))
    {f16 : Addr} (a16 : PySem.W.nsIn K mainGlobals "NoShelf" = some (some (.ref f16)))
    {f17 : Addr} (a17 : PySem.W.nsIn K mainGlobals "NoDeed" = some (some (.ref f17)))
    {f18 : Addr} (a18 : PySem.W.nsIn K mainGlobals "Taken" = some (some (.ref f18)))
    {f19 : Addr} (a19 : PySem.W.nsIn K mainGlobals "NoPlace" = some (some (.ref f19)))
    {f20 : Addr} (a20 : PySem.W.nsIn K mainGlobals "NoSlot" = some (some (.ref f20)))
    {f42 : Addr} (a42 : PySem.W.nsIn K mainGlobals "Walker" = some (some (.ref f42)))
    {f53 : Addr} (a53 : PySem.W.nsIn K mainGlobals "Block" = some (some (.ref f53)))
    {f54 : Addr} (a54 : PySem.W.nsIn K mainGlobals "Row" = some (some (.ref f54)))
    (xx5 : PySem.W.excIn K f5 [.type "ValueError", .type "Exception", .type "BaseException", .type "object"] "ValueError.__new__" = true) (xk5 : PySem.W.keepIn K (.ref f5) = true) (xb5 : PySem.W.subIn K (.ref f5) (.type "BaseException") = some true) (xt5 : PySem.W.typeIn K (.ref f5) = some (.type "type"))
    (xh5 : plainB K ⟨[f10, f12, f14, f13, f11], f2, [f19, f20], [f10, f17, f12, f7, f9, f5, f14, f15, f8, f13, f11, f16, f6, f4, f3, f18]⟩ f5 5 = true)
    (xx19 : PySem.W.excIn K f19 [.type "IndexError", .type "LookupError", .type "Exception", .type "BaseException", .type "object"] "IndexError.__new__" = true) (xk19 : PySem.W.keepIn K (.ref f19) = true) (xb19 : PySem.W.subIn K (.ref f19) (.type "BaseException") = some true) (xt19 : PySem.W.typeIn K (.ref f19) = some (.type "type"))
    (xh19 : placeB K ⟨[f10, f12, f14, f13, f11], f2, [f19, f20], [f10, f17, f12, f7, f9, f5, f14, f15, f8, f13, f11, f16, f6, f4, f3, f18]⟩ f19 = true)
    (pg53 : PySem.W.plainGet K f53 Str.empty = true) (hd53 : PySem.W.hasDictIn K f53 = true) (po53 : PySem.W.plainOver K f53 = true) (sa53 : PySem.W.findIn K (.ref f53) "__setattr__" = some (some (.builtin "object.__setattr__"))) (mk53 : PySem.W.makesIn K f53 = true) (kc53 : PySem.W.keepIn K (.ref f53) = true)
    (na53_first : PySem.W.findIn K (.ref f53) "first" = some none)
    (na53_last : PySem.W.findIn K (.ref f53) "last" = some none)
    (na53_many : PySem.W.findIn K (.ref f53) "many" = some none)
    (na53_most : PySem.W.findIn K (.ref f53) "most" = some none)
    (na53_least : PySem.W.findIn K (.ref f53) "least" = some none)
    (na53_coded : PySem.W.findIn K (.ref f53) "coded" = some none)
    (pg54 : PySem.W.plainGet K f54 Str.empty = true) (hd54 : PySem.W.hasDictIn K f54 = true) (po54 : PySem.W.plainOver K f54 = true) (sa54 : PySem.W.findIn K (.ref f54) "__setattr__" = some (some (.builtin "object.__setattr__"))) (mk54 : PySem.W.makesIn K f54 = true) (kc54 : PySem.W.keepIn K (.ref f54) = true)
    (na54_word : PySem.W.findIn K (.ref f54) "word" = some none)
    (na54_size : PySem.W.findIn K (.ref f54) "size" = some none)
    (na54_cut : PySem.W.findIn K (.ref f54) "cut" = some none)
    (pg42 : PySem.W.plainGet K f42 Str.empty = true) (hd42 : PySem.W.hasDictIn K f42 = true) (po42 : PySem.W.plainOver K f42 = true) (sa42 : PySem.W.findIn K (.ref f42) "__setattr__" = some (some (.builtin "object.__setattr__"))) (mk42 : PySem.W.makesIn K f42 = true) (kc42 : PySem.W.keepIn K (.ref f42) = true)
    (na42_heads : PySem.W.findIn K (.ref f42) "heads" = some none)
    (na42_decoded : PySem.W.findIn K (.ref f42) "decoded" = some none)
    (na42_standing : PySem.W.findIn K (.ref f42) "standing" = some none)
    {f74 : Addr} {od74 an74 : Option Addr} {sl74 : Array (Option Value)} {oc74 kV74 dc74 pm74 cd74 ct74 : Value}
    (a74 : PySem.W.findIn K (.ref f53) "__init__" = some (some (.ref f74))) (i74 : PySem.W.isFn K (.ref f74) = true)
    (l74 : K.lookup f74 = some ⟨oc74, od74, .func (PySem.W.fnOf "__init__" "Block.__init__" (defArgs (inClass (topS 53) 0)) (defBody (inClass (topS 53) 0)) (defScope (inClass (topS 53) 0)) .none kV74 dc74 pm74 an74 cd74 ct74), sl74⟩) (c74 : PySem.W.codeIn K cd74 "Block.__init__" = true) (k74 : PySem.W.keepIn K (.ref f74) = true)
    {f75 : Addr} {od75 an75 : Option Addr} {sl75 : Array (Option Value)} {oc75 kV75 dc75 pm75 cd75 ct75 : Value}
    (a75 : PySem.W.findIn K (.ref f53) "__eq__" = some (some (.ref f75))) (i75 : PySem.W.isFn K (.ref f75) = true)
    (l75 : K.lookup f75 = some ⟨oc75, od75, .func (PySem.W.fnOf "__eq__" "Block.__eq__" (defArgs (inClass (topS 53) 1)) (defBody (inClass (topS 53) 1)) (defScope (inClass (topS 53) 1)) .none kV75 dc75 pm75 an75 cd75 ct75), sl75⟩) (c75 : PySem.W.codeIn K cd75 "Block.__eq__" = true) (k75 : PySem.W.keepIn K (.ref f75) = true)
    {f76 : Addr} {od76 an76 : Option Addr} {sl76 : Array (Option Value)} {oc76 kV76 dc76 pm76 cd76 ct76 : Value}
    (a76 : PySem.W.findIn K (.ref f53) "head" = some (some (.ref f76))) (i76 : PySem.W.isFn K (.ref f76) = true)
    (l76 : K.lookup f76 = some ⟨oc76, od76, .func (PySem.W.fnOf "head" "Block.head" (defArgs (inClass (topS 53) 3)) (defBody (inClass (topS 53) 3)) (defScope (inClass (topS 53) 3)) .none kV76 dc76 pm76 an76 cd76 ct76), sl76⟩) (c76 : PySem.W.codeIn K cd76 "Block.head" = true) (k76 : PySem.W.keepIn K (.ref f76) = true)
    {f77 : Addr} {od77 an77 : Option Addr} {sl77 : Array (Option Value)} {oc77 dc77 pm77 cd77 ct77 : Value} {DK77 : Addr}
    (a77 : PySem.W.findIn K (.ref f54) "__init__" = some (some (.ref f77))) (i77 : PySem.W.isFn K (.ref f77) = true)
    (l77 : K.lookup f77 = some ⟨oc77, od77, .func (PySem.W.fnOf "__init__" "Row.__init__" (defArgs (inClass (topS 54) 0)) (defBody (inClass (topS 54) 0)) (defScope (inClass (topS 54) 0)) .none (.ref DK77) dc77 pm77 an77 cd77 ct77), sl77⟩) (c77 : PySem.W.codeIn K cd77 "Row.__init__" = true) (k77 : PySem.W.keepIn K (.ref f77) = true)
    {tmk77_0 : Tok} (dk77_0 : PySem.W.nsIn K DK77 "size" = some (some (.int 4 tmk77_0)))
    {f78 : Addr} {od78 an78 : Option Addr} {sl78 : Array (Option Value)} {oc78 kV78 dc78 pm78 cd78 ct78 : Value}
    (a78 : PySem.W.findIn K (.ref f54) "blocks" = some (some (.ref f78))) (i78 : PySem.W.isFn K (.ref f78) = true)
    (l78 : K.lookup f78 = some ⟨oc78, od78, .func (PySem.W.fnOf "blocks" "Row.blocks" (defArgs (inClass (topS 54) 3)) (defBody (inClass (topS 54) 3)) (defScope (inClass (topS 54) 3)) .none kV78 dc78 pm78 an78 cd78 ct78), sl78⟩) (c78 : PySem.W.codeIn K cd78 "Row.blocks" = true) (k78 : PySem.W.keepIn K (.ref f78) = true)
    {f79 : Addr} {od79 an79 : Option Addr} {sl79 : Array (Option Value)} {oc79 kV79 dc79 pm79 cd79 ct79 : Value}
    (a79 : PySem.W.findIn K (.ref f42) "__init__" = some (some (.ref f79))) (i79 : PySem.W.isFn K (.ref f79) = true)
    (l79 : K.lookup f79 = some ⟨oc79, od79, .func (PySem.W.fnOf "__init__" "Walker.__init__" (defArgs (inClass (topS 42) 0)) (defBody (inClass (topS 42) 0)) (defScope (inClass (topS 42) 0)) .none kV79 dc79 pm79 an79 cd79 ct79), sl79⟩) (c79 : PySem.W.codeIn K cd79 "Walker.__init__" = true) (k79 : PySem.W.keepIn K (.ref f79) = true)
    {f80 : Addr} {od80 an80 : Option Addr} {sl80 : Array (Option Value)} {oc80 kV80 dc80 pm80 cd80 ct80 : Value}
    (a80 : PySem.W.findIn K (.ref f42) "slot" = some (some (.ref f80))) (i80 : PySem.W.isFn K (.ref f80) = true)
    (l80 : K.lookup f80 = some ⟨oc80, od80, .func (PySem.W.fnOf "slot" "Walker.slot" (defArgs (inClass (topS 42) 1)) (defBody (inClass (topS 42) 1)) (defScope (inClass (topS 42) 1)) .none kV80 dc80 pm80 an80 cd80 ct80), sl80⟩) (c80 : PySem.W.codeIn K cd80 "Walker.slot" = true) (k80 : PySem.W.keepIn K (.ref f80) = true)
    {f81 : Addr} {od81 an81 : Option Addr} {sl81 : Array (Option Value)} {oc81 kV81 dc81 pm81 cd81 ct81 : Value}
    (a81 : PySem.W.findIn K (.ref f42) "step" = some (some (.ref f81))) (i81 : PySem.W.isFn K (.ref f81) = true)
    (l81 : K.lookup f81 = some ⟨oc81, od81, .func (PySem.W.fnOf "step" "Walker.step" (defArgs (inClass (topS 42) 2)) (defBody (inClass (topS 42) 2)) (defScope (inClass (topS 42) 2)) .none kV81 dc81 pm81 an81 cd81 ct81), sl81⟩) (c81 : PySem.W.codeIn K cd81 "Walker.step" = true) (k81 : PySem.W.keepIn K (.ref f81) = true)
    {f82 : Addr} {od82 an82 : Option Addr} {sl82 : Array (Option Value)} {oc82 kV82 dc82 pm82 cd82 ct82 : Value}
    (a82 : PySem.W.findIn K (.ref f42) "seek" = some (some (.ref f82))) (i82 : PySem.W.isFn K (.ref f82) = true)
    (l82 : K.lookup f82 = some ⟨oc82, od82, .func (PySem.W.fnOf "seek" "Walker.seek" (defArgs (inClass (topS 42) 3)) (defBody (inClass (topS 42) 3)) (defScope (inClass (topS 42) 3)) .none kV82 dc82 pm82 an82 cd82 ct82), sl82⟩) (c82 : PySem.W.codeIn K cd82 "Walker.seek" = true) (k82 : PySem.W.keepIn K (.ref f82) = true)
    {f83 : Addr} {od83 an83 : Option Addr} {sl83 : Array (Option Value)} {oc83 kV83 dc83 pm83 cd83 ct83 : Value}
    (a83 : PySem.W.findIn K (.ref f42) "places" = some (some (.ref f83))) (i83 : PySem.W.isFn K (.ref f83) = true)
    (l83 : K.lookup f83 = some ⟨oc83, od83, .func (PySem.W.fnOf "places" "Walker.places" (defArgs (inClass (topS 42) 4)) (defBody (inClass (topS 42) 4)) (defScope (inClass (topS 42) 4)) .none kV83 dc83 pm83 an83 cd83 ct83), sl83⟩) (c83 : PySem.W.codeIn K cd83 "Walker.places" = true) (k83 : PySem.W.keepIn K (.ref f83) = true)
    {f84 : Addr} {od84 an84 : Option Addr} {sl84 : Array (Option Value)} {oc84 kV84 dc84 pm84 cd84 ct84 : Value}
    (a84 : PySem.W.findIn K (.ref f42) "block" = some (some (.ref f84))) (i84 : PySem.W.isFn K (.ref f84) = true)
    (l84 : K.lookup f84 = some ⟨oc84, od84, .func (PySem.W.fnOf "block" "Walker.block" (defArgs (inClass (topS 42) 5)) (defBody (inClass (topS 42) 5)) (defScope (inClass (topS 42) 5)) .none kV84 dc84 pm84 an84 cd84 ct84), sl84⟩) (c84 : PySem.W.codeIn K cd84 "Walker.block" = true) (k84 : PySem.W.keepIn K (.ref f84) = true)
    {f85 : Addr} {od85 an85 : Option Addr} {sl85 : Array (Option Value)} {oc85 kV85 dc85 pm85 cd85 ct85 : Value}
    (a85 : PySem.W.findIn K (.ref f42) "block_at" = some (some (.ref f85))) (i85 : PySem.W.isFn K (.ref f85) = true)
    (l85 : K.lookup f85 = some ⟨oc85, od85, .func (PySem.W.fnOf "block_at" "Walker.block_at" (defArgs (inClass (topS 42) 6)) (defBody (inClass (topS 42) 6)) (defScope (inClass (topS 42) 6)) .none kV85 dc85 pm85 an85 cd85 ct85), sl85⟩) (c85 : PySem.W.codeIn K cd85 "Walker.block_at" = true) (k85 : PySem.W.keepIn K (.ref f85) = true)
    {f86 : Addr} {od86 an86 : Option Addr} {sl86 : Array (Option Value)} {oc86 kV86 dc86 pm86 cd86 ct86 : Value}
    (a86 : PySem.W.findIn K (.ref f42) "head_at" = some (some (.ref f86))) (i86 : PySem.W.isFn K (.ref f86) = true)
    (l86 : K.lookup f86 = some ⟨oc86, od86, .func (PySem.W.fnOf "head_at" "Walker.head_at" (defArgs (inClass (topS 42) 9)) (defBody (inClass (topS 42) 9)) (defScope (inClass (topS 42) 9)) .none kV86 dc86 pm86 an86 cd86 ct86), sl86⟩) (c86 : PySem.W.codeIn K cd86 "Walker.head_at" = true) (k86 : PySem.W.keepIn K (.ref f86) = true)
    {f87 : Addr} {od87 an87 : Option Addr} {sl87 : Array (Option Value)} {oc87 kV87 dc87 pm87 cd87 ct87 : Value}
    (a87 : PySem.W.findIn K (.ref f42) "entries_in" = some (some (.ref f87))) (i87 : PySem.W.isFn K (.ref f87) = true)
    (l87 : K.lookup f87 = some ⟨oc87, od87, .func (PySem.W.fnOf "entries_in" "Walker.entries_in" (defArgs (inClass (topS 42) 10)) (defBody (inClass (topS 42) 10)) (defScope (inClass (topS 42) 10)) .none kV87 dc87 pm87 an87 cd87 ct87), sl87⟩) (c87 : PySem.W.codeIn K cd87 "Walker.entries_in" = true) (k87 : PySem.W.keepIn K (.ref f87) = true)
    {f88 : Addr} {od88 an88 : Option Addr} {sl88 : Array (Option Value)} {oc88 kV88 dc88 pm88 cd88 ct88 : Value}
    (a88 : PySem.W.findIn K (.ref f42) "slot_at" = some (some (.ref f88))) (i88 : PySem.W.isFn K (.ref f88) = true)
    (l88 : K.lookup f88 = some ⟨oc88, od88, .func (PySem.W.fnOf "slot_at" "Walker.slot_at" (defArgs (inClass (topS 42) 11)) (defBody (inClass (topS 42) 11)) (defScope (inClass (topS 42) 11)) .none kV88 dc88 pm88 an88 cd88 ct88), sl88⟩) (c88 : PySem.W.codeIn K cd88 "Walker.slot_at" = true) (k88 : PySem.W.keepIn K (.ref f88) = true)
    {f89 : Addr} {od89 an89 : Option Addr} {sl89 : Array (Option Value)} {oc89 kV89 dc89 pm89 cd89 ct89 : Value}
    (a89 : PySem.W.findIn K (.ref f42) "reaching" = some (some (.ref f89))) (i89 : PySem.W.isFn K (.ref f89) = true)
    (l89 : K.lookup f89 = some ⟨oc89, od89, .func (PySem.W.fnOf "reaching" "Walker.reaching" (defArgs (inClass (topS 42) 12)) (defBody (inClass (topS 42) 12)) (defScope (inClass (topS 42) 12)) .none kV89 dc89 pm89 an89 cd89 ct89), sl89⟩) (c89 : PySem.W.codeIn K cd89 "Walker.reaching" = true) (k89 : PySem.W.keepIn K (.ref f89) = true)
    {f90 : Addr} {od90 an90 : Option Addr} {sl90 : Array (Option Value)} {oc90 kV90 dc90 pm90 cd90 ct90 : Value}
    (a90 : PySem.W.findIn K (.ref f42) "sought" = some (some (.ref f90))) (i90 : PySem.W.isFn K (.ref f90) = true)
    (l90 : K.lookup f90 = some ⟨oc90, od90, .func (PySem.W.fnOf "sought" "Walker.sought" (defArgs (inClass (topS 42) 13)) (defBody (inClass (topS 42) 13)) (defScope (inClass (topS 42) 13)) .none kV90 dc90 pm90 an90 cd90 ct90), sl90⟩) (c90 : PySem.W.codeIn K cd90 "Walker.sought" = true) (k90 : PySem.W.keepIn K (.ref f90) = true)
    (ff_cs : PySem.W.specialIn K (.builtin "object.__class__") "__get__" = some (some (.builtin "getset_descriptor.__get__")))
    (ff_ct : PySem.W.takesIn K (.builtin "object.__class__") = some true)
    (ff_ciB : PySem.W.findIn K (.ref f53) "__class__" = some (some (.builtin "object.__class__")))
    (ff_moB : PySem.W.mroIn K f53 (.type "object") = some true)
    (ff_neB : PySem.W.findIn K (.ref f53) "__ne__" = some (some (.builtin "object.__ne__")))
    (ff_kB : PySem.W.kitOne K (.ref f53) (.ref f53) = some true)
    {P72 : Addr} (tb72 : h.get? P72 = some (PySem.W.tabObj #[])) (tn72 : K.lookup P72 = none) (th72 : PySem.W.codeHdIn K cc72 P72 = true)
    : LamX.LawAtS l w K CX0 12 63 "_law_script" mg fa h := by
  have e := hfa.symm.trans (PySem.W.mg_of X G a73)
  cases e
  let A : Nat → Addr := fun i => ([0, 0, f2, f3, f4, f5, f6, f7, f8, f9, f10, f11, f12, f13, f14, f15, f16, f17, f18, f19, f20, 0, f22, f23, 0, 0, 0, f27, f28, f29, f30, f31, f32, f33, f34, f35, f36, f37, f38, f39, f40, 0, f42, f43, 0, 0, 0, f47, f48, 0, 0, 0, 0, f53, f54, f55, f56, f57, 0, f59, f60, f61, 0, f63, f64, f65, f66, 0, f68, f69, f70, f71, f72, fa, f74, f75, f76, f77, f78, f79, f80, f81, f82, f83, f84, f85, f86, f87, f88, f89, f90] : List Addr).getD i 0
  let FD : Nat → FuncData := fun i => ([PySem.W.fnOf "law" "law" (defArgs (topS 73)) (defBody (topS 73)) (defScope (topS 73)) .none kV73 dc73 pm73 an73 cd73 ct73, PySem.W.fnOf "law" "law" (defArgs (topS 73)) (defBody (topS 73)) (defScope (topS 73)) .none kV73 dc73 pm73 an73 cd73 ct73, PySem.W.fnOf "law" "law" (defArgs (topS 73)) (defBody (topS 73)) (defScope (topS 73)) .none kV73 dc73 pm73 an73 cd73 ct73, PySem.W.fnOf "law" "law" (defArgs (topS 73)) (defBody (topS 73)) (defScope (topS 73)) .none kV73 dc73 pm73 an73 cd73 ct73, PySem.W.fnOf "law" "law" (defArgs (topS 73)) (defBody (topS 73)) (defScope (topS 73)) .none kV73 dc73 pm73 an73 cd73 ct73, PySem.W.fnOf "law" "law" (defArgs (topS 73)) (defBody (topS 73)) (defScope (topS 73)) .none kV73 dc73 pm73 an73 cd73 ct73, PySem.W.fnOf "law" "law" (defArgs (topS 73)) (defBody (topS 73)) (defScope (topS 73)) .none kV73 dc73 pm73 an73 cd73 ct73, PySem.W.fnOf "law" "law" (defArgs (topS 73)) (defBody (topS 73)) (defScope (topS 73)) .none kV73 dc73 pm73 an73 cd73 ct73, PySem.W.fnOf "law" "law" (defArgs (topS 73)) (defBody (topS 73)) (defScope (topS 73)) .none kV73 dc73 pm73 an73 cd73 ct73, PySem.W.fnOf "law" "law" (defArgs (topS 73)) (defBody (topS 73)) (defScope (topS 73)) .none kV73 dc73 pm73 an73 cd73 ct73, PySem.W.fnOf "law" "law" (defArgs (topS 73)) (defBody (topS 73)) (defScope (topS 73)) .none kV73 dc73 pm73 an73 cd73 ct73, PySem.W.fnOf "law" "law" (defArgs (topS 73)) (defBody (topS 73)) (defScope (topS 73)) .none kV73 dc73 pm73 an73 cd73 ct73, PySem.W.fnOf "law" "law" (defArgs (topS 73)) (defBody (topS 73)) (defScope (topS 73)) .none kV73 dc73 pm73 an73 cd73 ct73, PySem.W.fnOf "law" "law" (defArgs (topS 73)) (defBody (topS 73)) (defScope (topS 73)) .none kV73 dc73 pm73 an73 cd73 ct73, PySem.W.fnOf "law" "law" (defArgs (topS 73)) (defBody (topS 73)) (defScope (topS 73)) .none kV73 dc73 pm73 an73 cd73 ct73, PySem.W.fnOf "law" "law" (defArgs (topS 73)) (defBody (topS 73)) (defScope (topS 73)) .none kV73 dc73 pm73 an73 cd73 ct73, PySem.W.fnOf "law" "law" (defArgs (topS 73)) (defBody (topS 73)) (defScope (topS 73)) .none kV73 dc73 pm73 an73 cd73 ct73, PySem.W.fnOf "law" "law" (defArgs (topS 73)) (defBody (topS 73)) (defScope (topS 73)) .none kV73 dc73 pm73 an73 cd73 ct73, PySem.W.fnOf "law" "law" (defArgs (topS 73)) (defBody (topS 73)) (defScope (topS 73)) .none kV73 dc73 pm73 an73 cd73 ct73, PySem.W.fnOf "law" "law" (defArgs (topS 73)) (defBody (topS 73)) (defScope (topS 73)) .none kV73 dc73 pm73 an73 cd73 ct73, PySem.W.fnOf "law" "law" (defArgs (topS 73)) (defBody (topS 73)) (defScope (topS 73)) .none kV73 dc73 pm73 an73 cd73 ct73, PySem.W.fnOf "law" "law" (defArgs (topS 73)) (defBody (topS 73)) (defScope (topS 73)) .none kV73 dc73 pm73 an73 cd73 ct73, PySem.W.fnOf "is_whole" "is_whole" (defArgs (topS 22)) (defBody (topS 22)) (defScope (topS 22)) .none kV22 dc22 pm22 an22 cd22 ct22, PySem.W.fnOf "is_within" "is_within" (defArgs (topS 23)) (defBody (topS 23)) (defScope (topS 23)) .none kV23 dc23 pm23 an23 cd23 ct23, PySem.W.fnOf "law" "law" (defArgs (topS 73)) (defBody (topS 73)) (defScope (topS 73)) .none kV73 dc73 pm73 an73 cd73 ct73, PySem.W.fnOf "law" "law" (defArgs (topS 73)) (defBody (topS 73)) (defScope (topS 73)) .none kV73 dc73 pm73 an73 cd73 ct73, PySem.W.fnOf "law" "law" (defArgs (topS 73)) (defBody (topS 73)) (defScope (topS 73)) .none kV73 dc73 pm73 an73 cd73 ct73, PySem.W.fnOf "is_count" "is_count" (defArgs (topS 27)) (defBody (topS 27)) (defScope (topS 27)) .none kV27 dc27 pm27 an27 cd27 ct27, PySem.W.fnOf "code" "code" (defArgs (topS 28)) (defBody (topS 28)) (defScope (topS 28)) .none kV28 dc28 pm28 an28 cd28 ct28, PySem.W.fnOf "code_all" "code_all" (defArgs (topS 29)) (defBody (topS 29)) (defScope (topS 29)) .none kV29 dc29 pm29 an29 cd29 ct29, PySem.W.fnOf "code_entries" "code_entries" (defArgs (topS 30)) (defBody (topS 30)) (defScope (topS 30)) .none kV30 dc30 pm30 an30 cd30 ct30, PySem.W.fnOf "decode_entries" "decode_entries" (defArgs (topS 31)) (defBody (topS 31)) (defScope (topS 31)) .none kV31 dc31 pm31 an31 cd31 ct31, PySem.W.fnOf "check_entries" "check_entries" (defArgs (topS 32)) (defBody (topS 32)) (defScope (topS 32)) .none kV32 dc32 pm32 an32 cd32 ct32, PySem.W.fnOf "is_entry" "is_entry" (defArgs (topS 33)) (defBody (topS 33)) (defScope (topS 33)) .none kV33 dc33 pm33 an33 cd33 ct33, PySem.W.fnOf "are_places" "are_places" (defArgs (topS 34)) (defBody (topS 34)) (defScope (topS 34)) .none kV34 dc34 pm34 an34 cd34 ct34, PySem.W.fnOf "first_fall" "first_fall" (defArgs (topS 35)) (defBody (topS 35)) (defScope (topS 35)) .none kV35 dc35 pm35 an35 cd35 ct35, PySem.W.fnOf "gaps_of" "gaps_of" (defArgs (topS 36)) (defBody (topS 36)) (defScope (topS 36)) .none kV36 dc36 pm36 an36 cd36 ct36, PySem.W.fnOf "risen" "risen" (defArgs (topS 37)) (defBody (topS 37)) (defScope (topS 37)) .none kV37 dc37 pm37 an37 cd37 ct37, PySem.W.fnOf "check_text" "check_text" (defArgs (topS 38)) (defBody (topS 38)) (defScope (topS 38)) .none kV38 dc38 pm38 an38 cd38 ct38, PySem.W.fnOf "read_number" "read_number" (defArgs (topS 39)) (defBody (topS 39)) (defScope (topS 39)) .none kV39 dc39 pm39 an39 cd39 ct39, PySem.W.fnOf "read_numbers" "read_numbers" (defArgs (topS 40)) (defBody (topS 40)) (defScope (topS 40)) .none kV40 dc40 pm40 an40 cd40 ct40, PySem.W.fnOf "law" "law" (defArgs (topS 73)) (defBody (topS 73)) (defScope (topS 73)) .none kV73 dc73 pm73 an73 cd73 ct73, PySem.W.fnOf "law" "law" (defArgs (topS 73)) (defBody (topS 73)) (defScope (topS 73)) .none kV73 dc73 pm73 an73 cd73 ct73, PySem.W.fnOf "check_number" "check_number" (defArgs (topS 43)) (defBody (topS 43)) (defScope (topS 43)) .none kV43 dc43 pm43 an43 cd43 ct43, PySem.W.fnOf "law" "law" (defArgs (topS 73)) (defBody (topS 73)) (defScope (topS 73)) .none kV73 dc73 pm73 an73 cd73 ct73, PySem.W.fnOf "law" "law" (defArgs (topS 73)) (defBody (topS 73)) (defScope (topS 73)) .none kV73 dc73 pm73 an73 cd73 ct73, PySem.W.fnOf "law" "law" (defArgs (topS 73)) (defBody (topS 73)) (defScope (topS 73)) .none kV73 dc73 pm73 an73 cd73 ct73, PySem.W.fnOf "is_word" "is_word" (defArgs (topS 47)) (defBody (topS 47)) (defScope (topS 47)) .none kV47 dc47 pm47 an47 cd47 ct47, PySem.W.fnOf "check_word" "check_word" (defArgs (topS 48)) (defBody (topS 48)) (defScope (topS 48)) .none kV48 dc48 pm48 an48 cd48 ct48, PySem.W.fnOf "law" "law" (defArgs (topS 73)) (defBody (topS 73)) (defScope (topS 73)) .none kV73 dc73 pm73 an73 cd73 ct73, PySem.W.fnOf "law" "law" (defArgs (topS 73)) (defBody (topS 73)) (defScope (topS 73)) .none kV73 dc73 pm73 an73 cd73 ct73, PySem.W.fnOf "law" "law" (defArgs (topS 73)) (defBody (topS 73)) (defScope (topS 73)) .none kV73 dc73 pm73 an73 cd73 ct73, PySem.W.fnOf "law" "law" (defArgs (topS 73)) (defBody (topS 73)) (defScope (topS 73)) .none kV73 dc73 pm73 an73 cd73 ct73, PySem.W.fnOf "law" "law" (defArgs (topS 73)) (defBody (topS 73)) (defScope (topS 73)) .none kV73 dc73 pm73 an73 cd73 ct73, PySem.W.fnOf "law" "law" (defArgs (topS 73)) (defBody (topS 73)) (defScope (topS 73)) .none kV73 dc73 pm73 an73 cd73 ct73, PySem.W.fnOf "check_lengths" "check_lengths" (defArgs (topS 55)) (defBody (topS 55)) (defScope (topS 55)) .none kV55 dc55 pm55 an55 cd55 ct55, PySem.W.fnOf "check_size" "check_size" (defArgs (topS 56)) (defBody (topS 56)) (defScope (topS 56)) .none kV56 dc56 pm56 an56 cd56 ct56, PySem.W.fnOf "check_fit" "check_fit" (defArgs (topS 57)) (defBody (topS 57)) (defScope (topS 57)) .none kV57 dc57 pm57 an57 cd57 ct57, PySem.W.fnOf "law" "law" (defArgs (topS 73)) (defBody (topS 73)) (defScope (topS 73)) .none kV73 dc73 pm73 an73 cd73 ct73, PySem.W.fnOf "_law_pool" "_law_pool" (defArgs (topS 59)) (defBody (topS 59)) (defScope (topS 59)) .none kV59 dc59 pm59 an59 cd59 ct59, PySem.W.fnOf "_law_take" "_law_take" (defArgs (topS 60)) (defBody (topS 60)) (defScope (topS 60)) .none kV60 dc60 pm60 an60 cd60 ct60, PySem.W.fnOf "_law_kinds" "_law_kinds" (defArgs (topS 61)) (defBody (topS 61)) (defScope (topS 61)) .none kV61 dc61 pm61 an61 cd61 ct61, PySem.W.fnOf "law" "law" (defArgs (topS 73)) (defBody (topS 73)) (defScope (topS 73)) .none kV73 dc73 pm73 an73 cd73 ct73, PySem.W.fnOf "_law_row_entries" "_law_row_entries" (defArgs (topS 63)) (defBody (topS 63)) (defScope (topS 63)) .none kV63 dc63 pm63 an63 cd63 ct63, PySem.W.fnOf "_law_lengths" "_law_lengths" (defArgs (topS 64)) (defBody (topS 64)) (defScope (topS 64)) .none kV64 dc64 pm64 an64 cd64 ct64, PySem.W.fnOf "_law_seek" "_law_seek" (defArgs (topS 65)) (defBody (topS 65)) (defScope (topS 65)) .none kV65 dc65 pm65 an65 cd65 ct65, PySem.W.fnOf "_law_slot" "_law_slot" (defArgs (topS 66)) (defBody (topS 66)) (defScope (topS 66)) .none kV66 dc66 pm66 an66 cd66 ct66, PySem.W.fnOf "law" "law" (defArgs (topS 73)) (defBody (topS 73)) (defScope (topS 73)) .none kV73 dc73 pm73 an73 cd73 ct73, PySem.W.fnOf "_law_kind" "_law_kind" (defArgs (topS 68)) (defBody (topS 68)) (defScope (topS 68)) .none kV68 dc68 pm68 an68 cd68 ct68, PySem.W.fnOf "_law_how" "_law_how" (defArgs (topS 69)) (defBody (topS 69)) (defScope (topS 69)) .none kV69 dc69 pm69 an69 cd69 ct69, PySem.W.fnOf "_law_aim" "_law_aim" (defArgs (topS 70)) (defBody (topS 70)) (defScope (topS 70)) .none kV70 dc70 pm70 an70 cd70 ct70, PySem.W.fnOf "_law_block_due" "_law_block_due" (defArgs (topS 71)) (defBody (topS 71)) (defScope (topS 71)) .none kV71 dc71 pm71 an71 cd71 ct71, PySem.W.fnOf "_law_rests_so" "_law_rests_so" (defArgs (topS 72)) (defBody (topS 72)) (defScope (topS 72)) .none kV72 dc72 pm72 an72 (.ref cc72) ct72, PySem.W.fnOf "law" "law" (defArgs (topS 73)) (defBody (topS 73)) (defScope (topS 73)) .none kV73 dc73 pm73 an73 cd73 ct73, PySem.W.fnOf "__init__" "Block.__init__" (defArgs (inClass (topS 53) 0)) (defBody (inClass (topS 53) 0)) (defScope (inClass (topS 53) 0)) .none kV74 dc74 pm74 an74 cd74 ct74, PySem.W.fnOf "__eq__" "Block.__eq__" (defArgs (inClass (topS 53) 1)) (defBody (inClass (topS 53) 1)) (defScope (inClass (topS 53) 1)) .none kV75 dc75 pm75 an75 cd75 ct75, PySem.W.fnOf "head" "Block.head" (defArgs (inClass (topS 53) 3)) (defBody (inClass (topS 53) 3)) (defScope (inClass (topS 53) 3)) .none kV76 dc76 pm76 an76 cd76 ct76, PySem.W.fnOf "__init__" "Row.__init__" (defArgs (inClass (topS 54) 0)) (defBody (inClass (topS 54) 0)) (defScope (inClass (topS 54) 0)) .none (.ref DK77) dc77 pm77 an77 cd77 ct77, PySem.W.fnOf "blocks" "Row.blocks" (defArgs (inClass (topS 54) 3)) (defBody (inClass (topS 54) 3)) (defScope (inClass (topS 54) 3)) .none kV78 dc78 pm78 an78 cd78 ct78, PySem.W.fnOf "__init__" "Walker.__init__" (defArgs (inClass (topS 42) 0)) (defBody (inClass (topS 42) 0)) (defScope (inClass (topS 42) 0)) .none kV79 dc79 pm79 an79 cd79 ct79, PySem.W.fnOf "slot" "Walker.slot" (defArgs (inClass (topS 42) 1)) (defBody (inClass (topS 42) 1)) (defScope (inClass (topS 42) 1)) .none kV80 dc80 pm80 an80 cd80 ct80, PySem.W.fnOf "step" "Walker.step" (defArgs (inClass (topS 42) 2)) (defBody (inClass (topS 42) 2)) (defScope (inClass (topS 42) 2)) .none kV81 dc81 pm81 an81 cd81 ct81, PySem.W.fnOf "seek" "Walker.seek" (defArgs (inClass (topS 42) 3)) (defBody (inClass (topS 42) 3)) (defScope (inClass (topS 42) 3)) .none kV82 dc82 pm82 an82 cd82 ct82, PySem.W.fnOf "places" "Walker.places" (defArgs (inClass (topS 42) 4)) (defBody (inClass (topS 42) 4)) (defScope (inClass (topS 42) 4)) .none kV83 dc83 pm83 an83 cd83 ct83, PySem.W.fnOf "block" "Walker.block" (defArgs (inClass (topS 42) 5)) (defBody (inClass (topS 42) 5)) (defScope (inClass (topS 42) 5)) .none kV84 dc84 pm84 an84 cd84 ct84, PySem.W.fnOf "block_at" "Walker.block_at" (defArgs (inClass (topS 42) 6)) (defBody (inClass (topS 42) 6)) (defScope (inClass (topS 42) 6)) .none kV85 dc85 pm85 an85 cd85 ct85, PySem.W.fnOf "head_at" "Walker.head_at" (defArgs (inClass (topS 42) 9)) (defBody (inClass (topS 42) 9)) (defScope (inClass (topS 42) 9)) .none kV86 dc86 pm86 an86 cd86 ct86, PySem.W.fnOf "entries_in" "Walker.entries_in" (defArgs (inClass (topS 42) 10)) (defBody (inClass (topS 42) 10)) (defScope (inClass (topS 42) 10)) .none kV87 dc87 pm87 an87 cd87 ct87, PySem.W.fnOf "slot_at" "Walker.slot_at" (defArgs (inClass (topS 42) 11)) (defBody (inClass (topS 42) 11)) (defScope (inClass (topS 42) 11)) .none kV88 dc88 pm88 an88 cd88 ct88, PySem.W.fnOf "reaching" "Walker.reaching" (defArgs (inClass (topS 42) 12)) (defBody (inClass (topS 42) 12)) (defScope (inClass (topS 42) 12)) .none kV89 dc89 pm89 an89 cd89 ct89, PySem.W.fnOf "sought" "Walker.sought" (defArgs (inClass (topS 42) 13)) (defBody (inClass (topS 42) 13)) (defScope (inClass (topS 42) 13)) .none kV90 dc90 pm90 an90 cd90 ct90] : List FuncData).getD i (PySem.W.fnOf "law" "law" (defArgs (topS 73)) (defBody (topS 73)) (defScope (topS 73)) .none kV73 dc73 pm73 an73 cd73 ct73)
  let TK : Nat → Tok := fun i => ([0, 0, 0, 0, 0, 0, 0, 0, 0, 0, 0, 0, 0, 0, 0, 0, 0, 0, 0, 0, 0, 0, 0, 0, 0, tk25, tk26, 0, 0, 0, 0, 0, 0, 0, 0, 0, 0, 0, 0, 0, 0, 0, 0, 0, 0, tk45, tk46, 0, 0, 0, tk50, tk51, tk52] : List Tok).getD i 0
  let CC : Nat → Addr := fun i => ([0, 0, 0, 0, 0, 0, 0, 0, 0, 0, 0, 0, 0, 0, 0, 0, 0, 0, 0, 0, 0, 0, 0, 0, 0, 0, 0, 0, 0, 0, 0, 0, 0, 0, 0, 0, 0, 0, 0, 0, 0, 0, 0, 0, 0, 0, 0, 0, 0, 0, 0, 0, 0, 0, 0, 0, 0, 0, 0, 0, 0, 0, 0, 0, 0, 0, 0, 0, 0, 0, 0, 0, cc72, 0] : List Addr).getD i 0
  have T : TX K mg A FD TK CC := {
    f_is_whole := fun_mk (st := topS 22) l22 c22 k22
    b_is_whole := (fun_mk (st := topS 22) l22 c22 k22).binds (ps := ["thing"]) fun _ _ _ _ _ _ us hl => match us, hl with | [_], _ => rfl
    g_is_whole := PySem.W.mg_of X G a22
    f_is_within := fun_mk (st := topS 23) l23 c23 k23
    b_is_within := (fun_mk (st := topS 23) l23 c23 k23).binds (ps := ["thing", "least", "most"]) fun _ _ _ _ _ _ us hl => match us, hl with | [_, _, _], _ => rfl
    g_is_within := PySem.W.mg_of X G a23
    f_is_count := fun_mk (st := topS 27) l27 c27 k27
    b_is_count := (fun_mk (st := topS 27) l27 c27 k27).binds (ps := ["thing"]) fun _ _ _ _ _ _ us hl => match us, hl with | [_], _ => rfl
    g_is_count := PySem.W.mg_of X G a27
    f_code := fun_mk (st := topS 28) l28 c28 k28
    b_code := (fun_mk (st := topS 28) l28 c28 k28).binds (ps := ["number"]) fun _ _ _ _ _ _ us hl => match us, hl with | [_], _ => rfl
    g_code := PySem.W.mg_of X G a28
    f_code_all := fun_mk (st := topS 29) l29 c29 k29
    b_code_all := (fun_mk (st := topS 29) l29 c29 k29).binds (ps := ["numbers"]) fun _ _ _ _ _ _ us hl => match us, hl with | [_], _ => rfl
    g_code_all := PySem.W.mg_of X G a29
    f_code_entries := fun_mk (st := topS 30) l30 c30 k30
    b_code_entries := (fun_mk (st := topS 30) l30 c30 k30).binds (ps := ["entries"]) fun _ _ _ _ _ _ us hl => match us, hl with | [_], _ => rfl
    g_code_entries := PySem.W.mg_of X G a30
    f_decode_entries := fun_mk (st := topS 31) l31 c31 k31
    b_decode_entries := (fun_mk (st := topS 31) l31 c31 k31).binds (ps := ["text"]) fun _ _ _ _ _ _ us hl => match us, hl with | [_], _ => rfl
    g_decode_entries := PySem.W.mg_of X G a31
    f_check_entries := fun_mk (st := topS 32) l32 c32 k32
    b_check_entries := (fun_mk (st := topS 32) l32 c32 k32).binds (ps := ["entries"]) fun _ _ _ _ _ _ us hl => match us, hl with | [_], _ => rfl
    g_check_entries := PySem.W.mg_of X G a32
    f_is_entry := fun_mk (st := topS 33) l33 c33 k33
    b_is_entry := (fun_mk (st := topS 33) l33 c33 k33).binds (ps := ["thing"]) fun _ _ _ _ _ _ us hl => match us, hl with | [_], _ => rfl
    g_is_entry := PySem.W.mg_of X G a33
    f_are_places := fun_mk (st := topS 34) l34 c34 k34
    b_are_places := (fun_mk (st := topS 34) l34 c34 k34).binds (ps := ["thing"]) fun _ _ _ _ _ _ us hl => match us, hl with | [_], _ => rfl
    g_are_places := PySem.W.mg_of X G a34
    f_first_fall := fun_mk (st := topS 35) l35 c35 k35
    b_first_fall := (fun_mk (st := topS 35) l35 c35 k35).binds (ps := ["things"]) fun _ _ _ _ _ _ us hl => match us, hl with | [_], _ => rfl
    g_first_fall := PySem.W.mg_of X G a35
    f_gaps_of := fun_mk (st := topS 36) l36 c36 k36
    b_gaps_of := (fun_mk (st := topS 36) l36 c36 k36).binds (ps := ["numbers"]) fun _ _ _ _ _ _ us hl => match us, hl with | [_], _ => rfl
    g_gaps_of := PySem.W.mg_of X G a36
    f_risen := fun_mk (st := topS 37) l37 c37 k37
    b_risen := (fun_mk (st := topS 37) l37 c37 k37).binds (ps := ["gaps"]) fun _ _ _ _ _ _ us hl => match us, hl with | [_], _ => rfl
    g_risen := PySem.W.mg_of X G a37
    f_check_text := fun_mk (st := topS 38) l38 c38 k38
    b_check_text := (fun_mk (st := topS 38) l38 c38 k38).binds (ps := ["text"]) fun _ _ _ _ _ _ us hl => match us, hl with | [_], _ => rfl
    g_check_text := PySem.W.mg_of X G a38
    f_read_number := fun_mk (st := topS 39) l39 c39 k39
    b_read_number := (fun_mk (st := topS 39) l39 c39 k39).binds (ps := ["text", "start"]) fun _ _ _ _ _ _ us hl => match us, hl with | [_, _], _ => rfl
    g_read_number := PySem.W.mg_of X G a39
    f_read_numbers := fun_mk (st := topS 40) l40 c40 k40
    b_read_numbers := (fun_mk (st := topS 40) l40 c40 k40).binds (ps := ["text", "at", "many"]) fun _ _ _ _ _ _ us hl => match us, hl with | [_, _, _], _ => rfl
    g_read_numbers := PySem.W.mg_of X G a40
    f_check_number := fun_mk (st := topS 43) l43 c43 k43
    b_check_number := (fun_mk (st := topS 43) l43 c43 k43).binds (ps := ["slot"]) fun _ _ _ _ _ _ us hl => match us, hl with | [_], _ => rfl
    g_check_number := PySem.W.mg_of X G a43
    f_is_word := fun_mk (st := topS 47) l47 c47 k47
    b_is_word := (fun_mk (st := topS 47) l47 c47 k47).binds (ps := ["thing"]) fun _ _ _ _ _ _ us hl => match us, hl with | [_], _ => rfl
    g_is_word := PySem.W.mg_of X G a47
    f_check_word := fun_mk (st := topS 48) l48 c48 k48
    b_check_word := (fun_mk (st := topS 48) l48 c48 k48).binds (ps := ["word"]) fun _ _ _ _ _ _ us hl => match us, hl with | [_], _ => rfl
    g_check_word := PySem.W.mg_of X G a48
    f_check_lengths := fun_mk (st := topS 55) l55 c55 k55
    b_check_lengths := (fun_mk (st := topS 55) l55 c55 k55).binds (ps := ["lengths"]) fun _ _ _ _ _ _ us hl => match us, hl with | [_], _ => rfl
    g_check_lengths := PySem.W.mg_of X G a55
    f_check_size := fun_mk (st := topS 56) l56 c56 k56
    b_check_size := (fun_mk (st := topS 56) l56 c56 k56).binds (ps := ["size"]) fun _ _ _ _ _ _ us hl => match us, hl with | [_], _ => rfl
    g_check_size := PySem.W.mg_of X G a56
    f_check_fit := fun_mk (st := topS 57) l57 c57 k57
    b_check_fit := (fun_mk (st := topS 57) l57 c57 k57).binds (ps := ["entries", "lengths"]) fun _ _ _ _ _ _ us hl => match us, hl with | [_, _], _ => rfl
    g_check_fit := PySem.W.mg_of X G a57
    f_l_pool := fun_mk (st := topS 59) l59 c59 k59
    b_l_pool := (fun_mk (st := topS 59) l59 c59 k59).binds (ps := ["_law_script", "_law_at"]) fun _ _ _ _ _ _ us hl => match us, hl with | [_, _], _ => rfl
    g_l_pool := PySem.W.mg_of X G a59
    f_l_take := fun_mk (st := topS 60) l60 c60 k60
    b_l_take := (fun_mk (st := topS 60) l60 c60 k60).binds (ps := ["_law_pool_here", "_law_many"]) fun _ _ _ _ _ _ us hl => match us, hl with | [_, _], _ => rfl
    g_l_take := PySem.W.mg_of X G a60
    f_l_kinds := fun_mk (st := topS 61) l61 c61 k61
    b_l_kinds := (fun_mk (st := topS 61) l61 c61 k61).binds (ps := ["_law_pool_here"]) fun _ _ _ _ _ _ us hl => match us, hl with | [_], _ => rfl
    g_l_kinds := PySem.W.mg_of X G a61
    f_l_row_entries := fun_mk (st := topS 63) l63 c63 k63
    b_l_row_entries := (fun_mk (st := topS 63) l63 c63 k63).binds (ps := ["_law_pool_here", "_law_many", "_law_most"]) fun _ _ _ _ _ _ us hl => match us, hl with | [_, _, _], _ => rfl
    g_l_row_entries := PySem.W.mg_of X G a63
    f_l_lengths := fun_mk (st := topS 64) l64 c64 k64
    b_l_lengths := (fun_mk (st := topS 64) l64 c64 k64).binds (ps := ["_law_pool_here", "_law_entries"]) fun _ _ _ _ _ _ us hl => match us, hl with | [_, _], _ => rfl
    g_l_lengths := PySem.W.mg_of X G a64
    f_l_seek := fun_mk (st := topS 65) l65 c65 k65
    b_l_seek := (fun_mk (st := topS 65) l65 c65 k65).binds (ps := ["_law_entries", "_law_at", "_law_slot_here"]) fun _ _ _ _ _ _ us hl => match us, hl with | [_, _, _], _ => rfl
    g_l_seek := PySem.W.mg_of X G a65
    f_l_slot := fun_mk (st := topS 66) l66 c66 k66
    b_l_slot := (fun_mk (st := topS 66) l66 c66 k66).binds (ps := ["_law_entries", "_law_at"]) fun _ _ _ _ _ _ us hl => match us, hl with | [_, _], _ => rfl
    g_l_slot := PySem.W.mg_of X G a66
    f_l_kind := fun_mk (st := topS 68) l68 c68 k68
    b_l_kind := (fun_mk (st := topS 68) l68 c68 k68).binds (ps := ["_law_e"]) fun _ _ _ _ _ _ us hl => match us, hl with | [_], _ => rfl
    g_l_kind := PySem.W.mg_of X G a68
    f_l_how := fun_mk (st := topS 69) l69 c69 k69
    b_l_how := (fun_mk (st := topS 69) l69 c69 k69).binds (ps := ["_law_deed"]) fun _ _ _ _ _ _ us hl => match us, hl with | [_], _ => rfl
    g_l_how := PySem.W.mg_of X G a69
    f_l_aim := fun_mk (st := topS 70) l70 c70 k70
    b_l_aim := (fun_mk (st := topS 70) l70 c70 k70).binds (ps := ["_law_pool_here", "_law_entries"]) fun _ _ _ _ _ _ us hl => match us, hl with | [_, _], _ => rfl
    g_l_aim := PySem.W.mg_of X G a70
    f_l_block_due := fun_mk (st := topS 71) l71 c71 k71
    b_l_block_due := (fun_mk (st := topS 71) l71 c71 k71).binds (ps := ["_law_row", "_law_entries", "_law_wide", "_law_at", "_law_slot_here"]) fun _ _ _ _ _ _ us hl => match us, hl with | [_, _, _, _, _], _ => rfl
    g_l_block_due := PySem.W.mg_of X G a71
    F_l_rests_so := ⟨⟨oc72, od72, kV72, dc72, pm72, an72, ct72, sl72, rfl, l72, c72⟩, k72⟩
    f_l_rests_so := fun_mk (st := topS 72) l72 c72 k72
    b_l_rests_so := (fun_mk (st := topS 72) l72 c72 k72).binds (ps := ["_law_walker", "_law_row", "_law_entries", "_law_wide", "_law_at"]) fun _ _ _ _ _ _ us hl => match us, hl with | [_, _, _, _, _], _ => rfl
    g_l_rests_so := PySem.W.mg_of X G a72
    f_law := fun_mk (st := topS 73) l73 c73 k73
    b_law := (fun_mk (st := topS 73) l73 c73 k73).binds (ps := ["_law_script"]) fun _ _ _ _ _ _ us hl => match us, hl with | [_], _ => rfl
    g_law := PySem.W.mg_of X G a73
    m_IndexError := PySem.W.mg_none_of X G z_IndexError
    m_ValueError := PySem.W.mg_none_of X G z_ValueError
    m_abs := PySem.W.mg_none_of X G z_abs
    m_all := PySem.W.mg_none_of X G z_all
    m_bool := PySem.W.mg_none_of X G z_bool
    m_divmod := PySem.W.mg_none_of X G z_divmod
    m_enumerate := PySem.W.mg_none_of X G z_enumerate
    m_int := PySem.W.mg_none_of X G z_int
    m_isinstance := PySem.W.mg_none_of X G z_isinstance
    m_len := PySem.W.mg_none_of X G z_len
    m_list := PySem.W.mg_none_of X G z_list
    m_max := PySem.W.mg_none_of X G z_max
    m_min := PySem.W.mg_none_of X G z_min
    m_range := PySem.W.mg_none_of X G z_range
    m_str := PySem.W.mg_none_of X G z_str
    m_tuple := PySem.W.mg_none_of X G z_tuple
    c_DIGITS_AHEAD := PySem.W.mg_of X G e25
    c_LAST_DIGITS := PySem.W.mg_of X G e26
    c_MOST_LETTERS := PySem.W.mg_of X G e45
    c_MOST_WORDS := PySem.W.mg_of X G e46
    c_SIZE := PySem.W.mg_of X G e50
    c_MOST_SIZE := PySem.W.mg_of X G e51
    c_MOST_LENGTHS := PySem.W.mg_of X G e52
    k_Wrong := PySem.W.mg_of X G a2
    k_NoWord := PySem.W.mg_of X G a3
    k_NoText := PySem.W.mg_of X G a4
    k_NoNumber := PySem.W.mg_of X G a5
    k_NoSize := PySem.W.mg_of X G a6
    k_NoLengths := PySem.W.mg_of X G a7
    k_NoQuery := PySem.W.mg_of X G a8
    k_NoName := PySem.W.mg_of X G a9
    k_NoCode := PySem.W.mg_of X G a10
    k_NoRow := PySem.W.mg_of X G a11
    k_NoEntries := PySem.W.mg_of X G a12
    k_NoQueryText := PySem.W.mg_of X G a13
    k_NoPages := PySem.W.mg_of X G a14
    k_NoQueries := PySem.W.mg_of X G a15
    k_NoShelf := PySem.W.mg_of X G a16
    k_NoDeed := PySem.W.mg_of X G a17
    k_Taken := PySem.W.mg_of X G a18
    k_NoPlace := PySem.W.mg_of X G a19
    k_NoSlot := PySem.W.mg_of X G a20
    k_Walker := PySem.W.mg_of X G a42
    k_Block := PySem.W.mg_of X G a53
    k_Row := PySem.W.mg_of X G a54
    cl_Block := ⟨pg53, hd53, po53, sa53⟩
    n_Block_first := na53_first
    n_Block_last := na53_last
    n_Block_many := na53_many
    n_Block_most := na53_most
    n_Block_least := na53_least
    n_Block_coded := na53_coded
    cl_Row := ⟨pg54, hd54, po54, sa54⟩
    n_Row_word := na54_word
    n_Row_size := na54_size
    n_Row_cut := na54_cut
    cl_Walker := ⟨pg42, hd42, po42, sa42⟩
    n_Walker_heads := na42_heads
    n_Walker_decoded := na42_decoded
    n_Walker_standing := na42_standing
    f_Block_init := fun_mk (st := inClass (topS 53) 0) l74 c74 k74
    b_Block_init := (fun_mk (st := inClass (topS 53) 0) l74 c74 k74).binds (ps := ["self", "entries", "lengths"]) fun _ _ _ _ _ _ us hl => match us, hl with | [_, _, _], _ => rfl
    M_Block := ⟨mk53, a74, i74, kc53⟩
    f_Block_eq := fun_mk (st := inClass (topS 53) 1) l75 c75 k75
    b_Block_eq := (fun_mk (st := inClass (topS 53) 1) l75 c75 k75).binds (ps := ["self", "other"]) fun _ _ _ _ _ _ us hl => match us, hl with | [_, _], _ => rfl
    M_Block_eq := ⟨a75, i75, k75⟩
    f_Block_head := fun_mk (st := inClass (topS 53) 3) l76 c76 k76
    b_Block_head := (fun_mk (st := inClass (topS 53) 3) l76 c76 k76).binds (ps := ["self"]) fun _ _ _ _ _ _ us hl => match us, hl with | [_], _ => rfl
    M_Block_head := ⟨a76, i76, k76⟩
    f_Row_init := ⟨⟨oc77, od77, .none, .ref DK77, dc77, pm77, an77, cd77, ct77, sl77, rfl, l77, c77, .inl ⟨rfl, rfl⟩, .inr ⟨DK77, rfl, fun q hq => by
        simp only [List.mem_cons, List.not_mem_nil, or_false] at hq
        subst hq
        exact ⟨_, dk77_0, ⟨_, rfl⟩⟩⟩⟩, k77⟩
    M_Row := ⟨mk54, a77, i77, kc54⟩
    f_Row_blocks := fun_mk (st := inClass (topS 54) 3) l78 c78 k78
    b_Row_blocks := (fun_mk (st := inClass (topS 54) 3) l78 c78 k78).binds (ps := ["self"]) fun _ _ _ _ _ _ us hl => match us, hl with | [_], _ => rfl
    M_Row_blocks := ⟨a78, i78, k78⟩
    f_Walker_init := fun_mk (st := inClass (topS 42) 0) l79 c79 k79
    b_Walker_init := (fun_mk (st := inClass (topS 42) 0) l79 c79 k79).binds (ps := ["self", "row"]) fun _ _ _ _ _ _ us hl => match us, hl with | [_, _], _ => rfl
    M_Walker := ⟨mk42, a79, i79, kc42⟩
    f_Walker_slot := fun_mk (st := inClass (topS 42) 1) l80 c80 k80
    b_Walker_slot := (fun_mk (st := inClass (topS 42) 1) l80 c80 k80).binds (ps := ["self"]) fun _ _ _ _ _ _ us hl => match us, hl with | [_], _ => rfl
    M_Walker_slot := ⟨a80, i80, k80⟩
    f_Walker_step := fun_mk (st := inClass (topS 42) 2) l81 c81 k81
    b_Walker_step := (fun_mk (st := inClass (topS 42) 2) l81 c81 k81).binds (ps := ["self"]) fun _ _ _ _ _ _ us hl => match us, hl with | [_], _ => rfl
    M_Walker_step := ⟨a81, i81, k81⟩
    f_Walker_seek := fun_mk (st := inClass (topS 42) 3) l82 c82 k82
    b_Walker_seek := (fun_mk (st := inClass (topS 42) 3) l82 c82 k82).binds (ps := ["self", "slot"]) fun _ _ _ _ _ _ us hl => match us, hl with | [_, _], _ => rfl
    M_Walker_seek := ⟨a82, i82, k82⟩
    f_Walker_places := fun_mk (st := inClass (topS 42) 4) l83 c83 k83
    b_Walker_places := (fun_mk (st := inClass (topS 42) 4) l83 c83 k83).binds (ps := ["self"]) fun _ _ _ _ _ _ us hl => match us, hl with | [_], _ => rfl
    M_Walker_places := ⟨a83, i83, k83⟩
    f_Walker_block := fun_mk (st := inClass (topS 42) 5) l84 c84 k84
    b_Walker_block := (fun_mk (st := inClass (topS 42) 5) l84 c84 k84).binds (ps := ["self"]) fun _ _ _ _ _ _ us hl => match us, hl with | [_], _ => rfl
    M_Walker_block := ⟨a84, i84, k84⟩
    f_Walker_block_at := fun_mk (st := inClass (topS 42) 6) l85 c85 k85
    b_Walker_block_at := (fun_mk (st := inClass (topS 42) 6) l85 c85 k85).binds (ps := ["self", "slot"]) fun _ _ _ _ _ _ us hl => match us, hl with | [_, _], _ => rfl
    M_Walker_block_at := ⟨a85, i85, k85⟩
    f_Walker_head_at := fun_mk (st := inClass (topS 42) 9) l86 c86 k86
    b_Walker_head_at := (fun_mk (st := inClass (topS 42) 9) l86 c86 k86).binds (ps := ["self", "at"]) fun _ _ _ _ _ _ us hl => match us, hl with | [_, _], _ => rfl
    M_Walker_head_at := ⟨a86, i86, k86⟩
    f_Walker_entries_in := fun_mk (st := inClass (topS 42) 10) l87 c87 k87
    b_Walker_entries_in := (fun_mk (st := inClass (topS 42) 10) l87 c87 k87).binds (ps := ["self", "at"]) fun _ _ _ _ _ _ us hl => match us, hl with | [_, _], _ => rfl
    M_Walker_entries_in := ⟨a87, i87, k87⟩
    f_Walker_slot_at := fun_mk (st := inClass (topS 42) 11) l88 c88 k88
    b_Walker_slot_at := (fun_mk (st := inClass (topS 42) 11) l88 c88 k88).binds (ps := ["self", "standing"]) fun _ _ _ _ _ _ us hl => match us, hl with | [_, _], _ => rfl
    M_Walker_slot_at := ⟨a88, i88, k88⟩
    f_Walker_reaching := fun_mk (st := inClass (topS 42) 12) l89 c89 k89
    b_Walker_reaching := (fun_mk (st := inClass (topS 42) 12) l89 c89 k89).binds (ps := ["self", "slot", "at"]) fun _ _ _ _ _ _ us hl => match us, hl with | [_, _, _], _ => rfl
    M_Walker_reaching := ⟨a89, i89, k89⟩
    f_Walker_sought := fun_mk (st := inClass (topS 42) 13) l90 c90 k90
    b_Walker_sought := (fun_mk (st := inClass (topS 42) 13) l90 c90 k90).binds (ps := ["self", "slot", "standing"]) fun _ _ _ _ _ _ us hl => match us, hl with | [_, _, _], _ => rfl
    M_Walker_sought := ⟨a90, i90, k90⟩
    x_NoNumber := xx5
    kc_NoNumber := xk5
    br_NoNumber := xb5
    ty_NoNumber := xt5
    h_NoNumber := plain_of xh5
    x_NoPlace := xx19
    kc_NoPlace := xk19
    br_NoPlace := xb19
    ty_NoPlace := xt19
    hp_NoPlace := place_of xh19
    cs := ff_cs
    ct := ff_ct
    ciB := ff_ciB
    moB := ff_moB
    neB := ff_neB
    kB := ff_kB }
  refine ⟨FD 73, [(cc72, P72)], spLaw K [(P72, lamQ "_law_rests_so")], (fun p hp => by
      simp only [List.mem_cons, List.not_mem_nil, or_false] at hp
      subst hp
      exact tb72), (fun p hp => by
      simp only [List.mem_cons, List.not_mem_nil, or_false] at hp
      subst hp
      exact tn72), (fun p hp => by
      simp only [List.mem_cons, List.not_mem_nil, or_false] at hp
      subst hp
      exact PySem.W.codeHd_of_K X th72), fun s v => .of_eq rfl, fun H a ns hl _ hT hS => ⟨a, ns, rfl, hS, hl, ?_, fun _ => rfl⟩, fun base _ _ hB => ok_law T (hB (cc72, P72) (by simp))⟩
  intro p hp
  simp only [List.mem_cons, List.not_mem_nil, or_false] at hp
  subst hp
  exact LamX.TabS.nil (hT (cc72, P72) (by simp))
end K14
open PySem PySem.W PyProof.Rows
set_option maxHeartbeats 0 in
theorem PySem.Challenge.cw_blocksearch_k14_walkers_walk_holds : PySem.Challenge.rw_blocksearch_k14_walkers_walk.Holds := by
  w_on; o_law; k_head; (case hw => w_witness2)
  k_fill
  refine LamX.walk_ofTs (l := PySem.Challenge.rw_blocksearch_k14_walkers_walk) (n := 63) (k := 12) (x := "_law_script") (CX := fun _ => L2.CX0) rfl (by decide) rfl ⟨rfl, by decide, by decide⟩ (fun w h Y => PySem.W.km_in_of Y) ?F (fun _ _ _ _ _ h => h)
  case F =>
    intro w mg fa h Y KX G hmg
    have hT8 := PySem.W.km_tabs_of Y
    refine' K14.all_mk KX G hmg ?a22 ?l22 ?c22 ?k22 ?a23 ?l23 ?c23 ?k23 ?a27 ?l27 ?c27 ?k27 ?a28 ?l28 ?c28 ?k28 ?a29 ?l29 ?c29 ?k29 ?a30 ?l30 ?c30 ?k30 ?a31 ?l31 ?c31 ?k31 ?a32 ?l32 ?c32 ?k32 ?a33 ?l33 ?c33 ?k33 ?a34 ?l34 ?c34 ?k34 ?a35 ?l35 ?c35 ?k35 ?a36 ?l36 ?c36 ?k36 ?a37 ?l37 ?c37 ?k37 ?a38 ?l38 ?c38 ?k38 ?a39 ?l39 ?c39 ?k39 ?a40 ?l40 ?c40 ?k40 ?a43 ?l43 ?c43 ?k43 ?a47 ?l47 ?c47 ?k47 ?a48 ?l48 ?c48 ?k48 ?a55 ?l55 ?c55 ?k55 ?a56 ?l56 ?c56 ?k56 ?a57 ?l57 ?c57 ?k57 ?a59 ?l59 ?c59 ?k59 ?a60 ?l60 ?c60 ?k60 ?a61 ?l61 ?c61 ?k61 ?a63 ?l63 ?c63 ?k63 ?a64 ?l64 ?c64 ?k64 ?a65 ?l65 ?c65 ?k65 ?a66 ?l66 ?c66 ?k66 ?a68 ?l68 ?c68 ?k68 ?a69 ?l69 ?c69 ?k69 ?a70 ?l70 ?c70 ?k70 ?a71 ?l71 ?c71 ?k71 ?a72 ?l72 ?c72 ?k72 ?a73 ?l73 ?c73 ?k73 ?z_IndexError ?z_ValueError ?z_abs ?z_all ?z_bool ?z_divmod ?z_enumerate ?z_int ?z_isinstance ?z_len ?z_list ?z_max ?z_min ?z_range ?z_str ?z_tuple ?e25 ?e26 ?e45 ?e46 ?e50 ?e51 ?e52 ?a2 ?a3 ?a4 ?a5 ?a6 ?a7 ?a8 ?a9 ?a10 ?a11 ?a12 ?a13 ?a14 ?a15 ?a16 ?a17 ?a18 ?a19 ?a20 ?a42 ?a53 ?a54 ?xx5 ?xk5 ?xb5 ?xt5 ?xh5 ?xx19 ?xk19 ?xb19 ?xt19 ?xh19 ?pg53 ?hd53 ?po53 ?sa53 ?mk53 ?kc53 ?na53_first ?na53_last ?na53_many ?na53_most ?na53_least ?na53_coded ?pg54 ?hd54 ?po54 ?sa54 ?mk54 ?kc54 ?na54_word ?na54_size ?na54_cut ?pg42 ?hd42 ?po42 ?sa42 ?mk42 ?kc42 ?na42_heads ?na42_decoded ?na42_standing ?a74 ?i74 ?l74 ?c74 ?k74 ?a75 ?i75 ?l75 ?c75 ?k75 ?a76 ?i76 ?l76 ?c76 ?k76 ?a77 ?i77 ?l77 ?c77 ?k77 ?dk77_0 ?a78 ?i78 ?l78 ?c78 ?k78 ?a79 ?i79 ?l79 ?c79 ?k79 ?a80 ?i80 ?l80 ?c80 ?k80 ?a81 ?i81 ?l81 ?c81 ?k81 ?a82 ?i82 ?l82 ?c82 ?k82 ?a83 ?i83 ?l83 ?c83 ?k83 ?a84 ?i84 ?l84 ?c84 ?k84 ?a85 ?i85 ?l85 ?c85 ?k85 ?a86 ?i86 ?l86 ?c86 ?k86 ?a87 ?i87 ?l87 ?c87 ?k87 ?a88 ?i88 ?l88 ?c88 ?k88 ?a89 ?i89 ?l89 ?c89 ?k89 ?a90 ?i90 ?l90 ?c90 ?k90 ?ff_cs ?ff_ct ?ff_ciB ?ff_moB ?ff_neB ?ff_kB ?tb72 ?tn72 ?th72
    (case a22 => k_is)
    (case l22 => k_is)
    (case c22 => k_is)
    (case k22 => k_is)
    (case a23 => k_is)
    (case l23 => k_is)
    (case c23 => k_is)
    (case k23 => k_is)
    (case a27 => k_is)
    (case l27 => k_is)
    (case c27 => k_is)
    (case k27 => k_is)
    (case a28 => k_is)
    (case l28 => k_is)
    (case c28 => k_is)
    (case k28 => k_is)
    (case a29 => k_is)
    (case l29 => k_is)
    (case c29 => k_is)
    (case k29 => k_is)
    (case a30 => k_is)
    (case l30 => k_is)
    (case c30 => k_is)
    (case k30 => k_is)
    (case a31 => k_is)
    (case l31 => k_is)
    (case c31 => k_is)
    (case k31 => k_is)
    (case a32 => k_is)
    (case l32 => k_is)
    (case c32 => k_is)
    (case k32 => k_is)
    (case a33 => k_is)
    (case l33 => k_is)
    (case c33 => k_is)
    (case k33 => k_is)
    (case a34 => k_is)
    (case l34 => k_is)
    (case c34 => k_is)
    (case k34 => k_is)
    (case a35 => k_is)
    (case l35 => k_is)
    (case c35 => k_is)
    (case k35 => k_is)
    (case a36 => k_is)
    (case l36 => k_is)
    (case c36 => k_is)
    (case k36 => k_is)
    (case a37 => k_is)
    (case l37 => k_is)
    (case c37 => k_is)
    (case k37 => k_is)
    (case a38 => k_is)
    (case l38 => k_is)
    (case c38 => k_is)
    (case k38 => k_is)
    (case a39 => k_is)
    (case l39 => k_is)
    (case c39 => k_is)
    (case k39 => k_is)
    (case a40 => k_is)
    (case l40 => k_is)
    (case c40 => k_is)
    (case k40 => k_is)
    (case a43 => k_is)
    (case l43 => k_is)
    (case c43 => k_is)
    (case k43 => k_is)
    (case a47 => k_is)
    (case l47 => k_is)
    (case c47 => k_is)
    (case k47 => k_is)
    (case a48 => k_is)
    (case l48 => k_is)
    (case c48 => k_is)
    (case k48 => k_is)
    (case a55 => k_is)
    (case l55 => k_is)
    (case c55 => k_is)
    (case k55 => k_is)
    (case a56 => k_is)
    (case l56 => k_is)
    (case c56 => k_is)
    (case k56 => k_is)
    (case a57 => k_is)
    (case l57 => k_is)
    (case c57 => k_is)
    (case k57 => k_is)
    (case a59 => k_is)
    (case l59 => k_is)
    (case c59 => k_is)
    (case k59 => k_is)
    (case a60 => k_is)
    (case l60 => k_is)
    (case c60 => k_is)
    (case k60 => k_is)
    (case a61 => k_is)
    (case l61 => k_is)
    (case c61 => k_is)
    (case k61 => k_is)
    (case a63 => k_is)
    (case l63 => k_is)
    (case c63 => k_is)
    (case k63 => k_is)
    (case a64 => k_is)
    (case l64 => k_is)
    (case c64 => k_is)
    (case k64 => k_is)
    (case a65 => k_is)
    (case l65 => k_is)
    (case c65 => k_is)
    (case k65 => k_is)
    (case a66 => k_is)
    (case l66 => k_is)
    (case c66 => k_is)
    (case k66 => k_is)
    (case a68 => k_is)
    (case l68 => k_is)
    (case c68 => k_is)
    (case k68 => k_is)
    (case a69 => k_is)
    (case l69 => k_is)
    (case c69 => k_is)
    (case k69 => k_is)
    (case a70 => k_is)
    (case l70 => k_is)
    (case c70 => k_is)
    (case k70 => k_is)
    (case a71 => k_is)
    (case l71 => k_is)
    (case c71 => k_is)
    (case k71 => k_is)
    (case a72 => k_is)
    (case l72 => k_is)
    (case c72 => k_is)
    (case k72 => k_is)
    (case a73 => k_is)
    (case l73 => k_is)
    (case c73 => k_is)
    (case k73 => k_is)
    (case z_IndexError => k_is)
    (case z_ValueError => k_is)
    (case z_abs => k_is)
    (case z_all => k_is)
    (case z_bool => k_is)
    (case z_divmod => k_is)
    (case z_enumerate => k_is)
    (case z_int => k_is)
    (case z_isinstance => k_is)
    (case z_len => k_is)
    (case z_list => k_is)
    (case z_max => k_is)
    (case z_min => k_is)
    (case z_range => k_is)
    (case z_str => k_is)
    (case z_tuple => k_is)
    (case e25 => k_is)
    (case e26 => k_is)
    (case e45 => k_is)
    (case e46 => k_is)
    (case e50 => k_is)
    (case e51 => k_is)
    (case e52 => k_is)
    (case a2 => k_is)
    (case a3 => k_is)
    (case a4 => k_is)
    (case a5 => k_is)
    (case a6 => k_is)
    (case a7 => k_is)
    (case a8 => k_is)
    (case a9 => k_is)
    (case a10 => k_is)
    (case a11 => k_is)
    (case a12 => k_is)
    (case a13 => k_is)
    (case a14 => k_is)
    (case a15 => k_is)
    (case a16 => k_is)
    (case a17 => k_is)
    (case a18 => k_is)
    (case a19 => k_is)
    (case a20 => k_is)
    (case a42 => k_is)
    (case a53 => k_is)
    (case a54 => k_is)
    (case xx5 => k_exc)
    (case xk5 => k_is)
    (case xb5 => k_is)
    (case xt5 => k_is)
    (case xh5 => kernel_rfl)
    (case xx19 => k_exc)
    (case xk19 => k_is)
    (case xb19 => k_is)
    (case xt19 => k_is)
    (case xh19 => kernel_rfl)
    (case pg53 => k_is)
    (case hd53 => k_is)
    (case po53 => k_is)
    (case sa53 => k_is)
    (case mk53 => k_is)
    (case kc53 => k_is)
    (case na53_first => k_is)
    (case na53_last => k_is)
    (case na53_many => k_is)
    (case na53_most => k_is)
    (case na53_least => k_is)
    (case na53_coded => k_is)
    (case pg54 => k_is)
    (case hd54 => k_is)
    (case po54 => k_is)
    (case sa54 => k_is)
    (case mk54 => k_is)
    (case kc54 => k_is)
    (case na54_word => k_is)
    (case na54_size => k_is)
    (case na54_cut => k_is)
    (case pg42 => k_is)
    (case hd42 => k_is)
    (case po42 => k_is)
    (case sa42 => k_is)
    (case mk42 => k_is)
    (case kc42 => k_is)
    (case na42_heads => k_is)
    (case na42_decoded => k_is)
    (case na42_standing => k_is)
    (case a74 => k_is)
    (case i74 => k_is)
    (case l74 => k_is)
    (case c74 => k_is)
    (case k74 => k_is)
    (case a75 => k_is)
    (case i75 => k_is)
    (case l75 => k_is)
    (case c75 => k_is)
    (case k75 => k_is)
    (case a76 => k_is)
    (case i76 => k_is)
    (case l76 => k_is)
    (case c76 => k_is)
    (case k76 => k_is)
    (case a77 => k_is)
    (case i77 => k_is)
    (case l77 => k_is)
    (case c77 => k_is)
    (case k77 => k_is)
    (case dk77_0 => k_is)
    (case a78 => k_is)
    (case i78 => k_is)
    (case l78 => k_is)
    (case c78 => k_is)
    (case k78 => k_is)
    (case a79 => k_is)
    (case i79 => k_is)
    (case l79 => k_is)
    (case c79 => k_is)
    (case k79 => k_is)
    (case a80 => k_is)
    (case i80 => k_is)
    (case l80 => k_is)
    (case c80 => k_is)
    (case k80 => k_is)
    (case a81 => k_is)
    (case i81 => k_is)
    (case l81 => k_is)
    (case c81 => k_is)
    (case k81 => k_is)
    (case a82 => k_is)
    (case i82 => k_is)
    (case l82 => k_is)
    (case c82 => k_is)
    (case k82 => k_is)
    (case a83 => k_is)
    (case i83 => k_is)
    (case l83 => k_is)
    (case c83 => k_is)
    (case k83 => k_is)
    (case a84 => k_is)
    (case i84 => k_is)
    (case l84 => k_is)
    (case c84 => k_is)
    (case k84 => k_is)
    (case a85 => k_is)
    (case i85 => k_is)
    (case l85 => k_is)
    (case c85 => k_is)
    (case k85 => k_is)
    (case a86 => k_is)
    (case i86 => k_is)
    (case l86 => k_is)
    (case c86 => k_is)
    (case k86 => k_is)
    (case a87 => k_is)
    (case i87 => k_is)
    (case l87 => k_is)
    (case c87 => k_is)
    (case k87 => k_is)
    (case a88 => k_is)
    (case i88 => k_is)
    (case l88 => k_is)
    (case c88 => k_is)
    (case k88 => k_is)
    (case a89 => k_is)
    (case i89 => k_is)
    (case l89 => k_is)
    (case c89 => k_is)
    (case k89 => k_is)
    (case a90 => k_is)
    (case i90 => k_is)
    (case l90 => k_is)
    (case c90 => k_is)
    (case k90 => k_is)
    (case ff_cs => k_is)
    (case ff_ct => k_is)
    (case ff_ciB => k_is)
    (case ff_moB => k_is)
    (case ff_neB => k_is)
    (case ff_kB => kernel_rfl)
    (case tb72 => exact hT8 _ (by first | exact List.mem_cons_self .. | exact List.mem_cons_of_mem _ (List.mem_cons_self ..)))
    (case tn72 => kernel_rfl)
    (case th72 => kernel_rfl)
