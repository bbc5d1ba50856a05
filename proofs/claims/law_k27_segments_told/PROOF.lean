import PyProof.Rows.All
import Wide.All
import OpenK.AllK
import Wide.FinOn
import HandS.ForMost
import HandS.Defaults
import HandS.IsInst
import HandS.Walk
import HandS.Lambda
import HandS.EndTab
import HandS.Evl
import HandS.More
import HandS.MakeKw
import HandS.MakeKwOnly
import HandS.Text
import HandS.Deep
import HandS.Style
import HandS.Star
import HandS.Zip
import HandS.Conv
import HandS.Sort
import HandS.OwnEq
import HandS.FStr
import KE.KCallOwn
import KE.GoesMore
import PyProof.EnumMake
import HandS.Dict
import HandS.Codes
import PyProof.StrLawsRepr
import HandS.Exc
import HandS.TryOnly
import HandS.ExcOwn
import HandS.WordsExc
import HandS.ExcIs
import HandS.HotCalls
import HandS.DictComp
import KE.KExcIs
import KE.KNestM
import HandS.HeadWalk
import PyProof.ReprRoads
import HandS.HeadWalk
import HandS.SetBool
import HandS.Strs
import HandS.SortKw
import KE.SortUse
import KE.KSortKey
import HandS.SetKeys
import HandS.SetFor
import HandS.HeadEnd
import HandS.Head2
import HandS.HeadHook4
import KE.KStateDown
import PySem.Challenge.RW_blocksearch_k27_segments_told
set_option Elab.async false
set_option linter.all false
set_option maxRecDepth 100000
/-! words of my own: the drawn pool, heaps that grow beside it, small facts -/
namespace My
open PySem PySem.Spec PyProof.Rows L2 Evl

/-- the pool at p: three ints, at most c draws mixed so far -/
def Pl (H : Hp) (p : Addr) (c : Nat) : Prop := ∃ (g b : Int) (k : Nat), H p = some (.lst [.int g, .int b, .int (k : Int)]) ∧ 0 ≤ g ∧ 0 ≤ b ∧ b < 281474976710656 ∧ k ≤ c
/-- all but p stays -/
def Fx (p : Addr) (H H' : Hp) : Prop := ∀ a o, a ≠ p → H a = some o → H' a = some o
theorem Fx.refl (p : Addr) (H : Hp) : Fx p H H := fun _ _ _ h => h
theorem Fx.trans {p : Addr} {H H1 H2 : Hp} (a : Fx p H H1) (b : Fx p H1 H2) : Fx p H H2 := fun x o n h => b x o n (a x o n h)
theorem Fx.ex {p : Addr} {H H' : Hp} (e : Ex H H') : Fx p H H' := fun a o _ h => e a o h
theorem Fx.upd {p : Addr} {H : Hp} {o : HO} : Fx p H (L2.upd H p o) := fun a u n h => by
  rw [upd_ne n]
  exact h
theorem Pl.mono {H : Hp} {p : Addr} {c c' : Nat} (h : Pl H p c) (l : c ≤ c') : Pl H p c' := by
  obtain ⟨g, b, k, h1, h2, h3, h4, h5⟩ := h
  exact ⟨g, b, k, h1, h2, h3, h4, Nat.le_trans h5 l⟩
theorem Pl.ex {H H' : Hp} {p : Addr} {c : Nat} (h : Pl H p c) (e : Ex H H') : Pl H' p c := by
  obtain ⟨g, b, k, h1, h2⟩ := h
  exact ⟨g, b, k, e _ _ h1, h2⟩
theorem Pl.some {H : Hp} {p : Addr} {c : Nat} (h : Pl H p c) : ∃ xs, H p = some (.lst xs) := by
  obtain ⟨g, b, k, h1, _⟩ := h
  exact ⟨_, h1⟩
/-- what is free behind was free ahead -/
theorem fx_free {p a : Addr} {H H' : Hp} {c : Nat} (f : Fx p H H') (h : Pl H' p c) (e : H' a = none) : H a = none := by
  cases q : H a with
  | none => rfl
  | some o =>
    have n : a ≠ p := fun z => by
      obtain ⟨xs, hx⟩ := h.some
      rw [z, hx] at e
      cases e
    rw [f a o n q] at e
    cases e
/-- a tuple is not the pool -/
theorem Fx.tup {p a : Addr} {H H' : Hp} {xs : List V} {c : Nat} (f : Fx p H H') (hp : Pl H p c) (h : H a = some (.tup xs)) : H' a = some (.tup xs) := by
  obtain ⟨ys, hy⟩ := hp.some
  exact f a _ (ne_of h hy (by intro z; cases z)) h
theorem Fx.sqt {K : PySem.W.Frag} {p a : Addr} {H H' : Hp} {xs : List V} {c : Nat} (f : Fx p H H') (hp : Pl H p c) (h : SqT K H a xs) : SqT K H' a xs := by
  obtain ⟨ys, hy⟩ := hp.some
  rcases h with (h | ⟨o, h⟩) | h
  · exact .inl (.inl (f a _ (ne_of h hy (by intro z; cases z)) h))
  · exact .inl (.inr ⟨o, f a _ (ne_of h hy (by intro z; cases z)) h⟩)
  · exact .inr h
theorem Fx.lst {p a : Addr} {H H' : Hp} {xs : List V} (f : Fx p H H') (n : a ≠ p) (h : H a = some (.lst xs)) : H' a = some (.lst xs) := f a _ n h
theorem ex_upd {H : Hp} {p : Addr} {o : HO} (h : H p = none) : Ex H (L2.upd H p o) := Ex.new h
theorem ret_v {v : V} {H : Hp} {Q : VK} (q : RetV v H Q) : Q v H := q H (Ex.refl H)
theorem sz {n : Nat} (h : n ≤ 100000) : n ≤ sizeLine := sz_of h
theorem natAbs_lt {z : Int} {n : Nat} (h0 : 0 ≤ z) (h : z < (n : Int)) : z.natAbs < n := by omega
/-- a * b ≤ A * B -/
theorem mul_le {a b A B : Int} (h0 : 0 ≤ a) (h1 : a ≤ A) (h2 : 0 ≤ b) (h3 : b ≤ B) : a * b ≤ A * B := Int.mul_le_mul h1 h3 h2 (Int.le_trans h0 h1)
theorem mul_nn {a b : Int} (h0 : 0 ≤ a) (h1 : 0 ≤ b) : 0 ≤ a * b := Int.mul_nonneg h0 h1
/-! the rules with the written part said, for blocks of comprehensions -/
section
variable {X : Cx} {K : PySem.W.Frag}
theorem lenK (h : X.K = K) : CallR X (.builtin "len") (rLenS K) := by subst h; exact call_len_seq
theorem listK (h : X.K = K) : CallR X (.type "list") (rListS K) := by subst h; exact call_list_of
def rTupS (K : PySem.W.Frag) : List V → Hp → VK → Prop := fun xs H Q => ∃ p ys, xs = [.ref p] ∧ ((SqL K H p ys ∧ ∀ l, H l = none → Q (.ref l) (L2.upd H l (.tup ys))) ∨ (SqT K H p ys ∧ Q (.ref p) H))
theorem tupK (h : X.K = K) : CallR X (.type "tuple") (rTupS K) := by subst h; exact call_tuple_of
theorem ixLK (h : X.K = K) : IxR X (rIxL K) := by subst h; exact ix_list
theorem ixTK (h : X.K = K) : IxR X (rIxT K) := by subst h; exact ix_tup
theorem slLK (h : X.K = K) : SlR X (rSlL K) := by subst h; exact sl_list
theorem slTK (h : X.K = K) : SlR X (rSlT K) := by subst h; exact sl_tup
theorem catTK (h : X.K = K) : OpR X (binaryOp .Add) (rCatT K) := by subst h; exact op_catT
theorem inK (h : X.K = K) : OpR X (compareOp .In) (rIn K false) := by subst h; exact op_in_seq
theorem notInK (h : X.K = K) : OpR X (compareOp .NotIn) (rIn K true) := by subst h; exact op_notIn_seq
theorem isiK (h : X.K = K) : CallR X (.builtin "isinstance") (rIsi K) := by subst h; exact call_isi
theorem isiTK (h : X.K = K) : CallR X (.builtin "isinstance") (rIsiT K) := by subst h; exact call_isiT
theorem allK (h : X.K = K) (hc : X.calm = true) : CallR X (.builtin "all") (rAll K) := by subst h; exact cr_all hc
theorem anyK (h : X.K = K) (hc : X.calm = true) : CallR X (.builtin "any") (rAny K) := by subst h; exact cr_any hc
theorem sumK (h : X.K = K) (hc : X.calm = true) : CallR X (.builtin "sum") (rSum K) := by subst h; exact cr_sum hc
theorem maxK (h : X.K = K) (hc : X.calm = true) : CallR X (.builtin "max") (rMax K) := by subst h; exact cr_max hc
theorem minK (h : X.K = K) (hc : X.calm = true) : CallR X (.builtin "min") (rMin K) := by subst h; exact cr_min hc
theorem fldK {e : Expr} {f : Str} {pos : Pos} {ta : TE} (h : X.K = K) (he : PE X e ta) (hb : attributeBase e f X.env (eval e X.env) = eval e X.env) : PE X (.Attribute e f pos) (tFld K ta f) := by subst h; exact pe_fld he hb
theorem tupGK {es : List Expr} {k : Nat} {t : TGs} {n : Nat} {pos : Pos} (h : X.K = K) (hc : X.calm = true) (hg : PGs X es t) (hn : (assignEach es X.env).length = n := by rfl) (hst : (assignEach es X.env).findIdx? (·.1) = none := by rfl) : PG X (.Tuple es k pos) (gTup K n t) := by subst h; exact pg_tup hc hg hn hst
theorem eqDK (h : X.K = K) (hu : X.A.units + 64 < cLine) : OpR X (compareOp .Eq) (rEqD K) := by subst h; exact op_eqD hu
theorem neDK (h : X.K = K) (hu : X.A.units + 64 < cLine) : OpR X (compareOp .NotEq) (rNeD K) := by subst h; exact op_neD hu
theorem indexK (h : X.K = K) : MtR X "list.index" (rIndex K) := by subst h; exact mt_index
theorem piOr {tg e : Expr} {w1 w2 : TI} (h1 : PI X tg e w1) (h2 : PI X tg e w2) : PI X tg e (fun σ H R => w1 σ H R ∨ w2 σ H R) := ⟨fun pins s σ H R I h => h.elim (fun h => h1.run pins s σ H R I h) (fun h => h2.run pins s σ H R I h)⟩
theorem piLK {tg l : Expr} {tl : TE} (h : X.K = K) (hl : PE X l tl) : PI X tg l (iList K tl) := by subst h; exact pi_list hl
theorem piTK {tg l : Expr} {tl : TE} (h : X.K = K) (hl : PE X l tl) : PI X tg l (iTup K tl) := by subst h; exact pi_tup hl
end
end My
/-! several except clauses with a name, each over one class or a tuple of them -/
namespace My
open PySem PySem.Spec PyProof.Rows L2 Evl
/-- the matching of an exception with the classes of a tuple -/
theorem loop_all {M : Model} {A : Around} {E : Value → Shared → Prop} {s : Shared} {f : Value → PUnit → Sem (ForInStep PUnit)} : ∀ {cs : List Value}, (∀ c ∈ cs, ∀ Q : ForInStep PUnit → Shared → Prop, Q (.yield ()) s → wpAny M A (f c ()) Q E s) →
    ∀ {Q : PUnit → Shared → Prop}, Q () s → wpAny M A (forIn cs PUnit.unit f) Q E s
  | [], _, Q, q => by
    rw [List.forIn_nil]
    exact wpAny_pure q
  | c :: r, hf, Q, q => by
    rw [List.forIn_cons]
    exact wpAny_bind (hf c (List.mem_cons_self ..) _ (loop_all (fun x hx => hf x (List.mem_cons_of_mem _ hx)) q))
theorem loop_any {M : Model} {A : Around} {E : Value → Shared → Prop} {s : Shared} {K : PySem.W.Frag} {cls : Value} {f : Value → Option Bool × PUnit → Sem (ForInStep (Option Bool × PUnit))} :
    ∀ {cs : List Value} {b : Bool}, PySem.W.exmAny K cls cs = some b →
      (∀ c b1, PySem.W.exmOne K cls c = some b1 → ∀ Q : ForInStep (Option Bool × PUnit) → Shared → Prop, Q (if b1 then .done (some true, ()) else .yield (none, ())) s → wpAny M A (f c (none, ())) Q E s) →
    ∀ {Q : Option Bool × PUnit → Shared → Prop}, Q (if b then some true else none, ()) s → wpAny M A (forIn cs ((none, ()) : Option Bool × PUnit) f) Q E s
  | [], b, hx, _, Q, q => by
    rw [List.forIn_nil]
    cases (show some false = some b from hx)
    exact wpAny_pure q
  | c :: r, b, hx, hf, Q, q => by
    obtain ⟨b1, d1, x1, x2, e⟩ := PySem.W.exmAny_cons hx
    rw [List.forIn_cons]
    refine wpAny_bind (hf c b1 x1 _ ?_)
    cases b1 with
    | true =>
      rw [e] at q
      exact wpAny_pure q
    | false =>
      rw [e] at q
      exact loop_any x2 hf q
theorem exm_in {K : PySem.W.Frag} {cls : Value} : ∀ {cs : List Value} {b : Bool}, PySem.W.exmAny K cls cs = some b → ∀ c ∈ cs, ∃ b1, PySem.W.exmOne K cls c = some b1
  | [], _, _, c, h => absurd h (by simp)
  | x :: r, b, hx, c, h => by
    obtain ⟨b1, d1, x1, x2, e⟩ := PySem.W.exmAny_cons hx
    rcases List.mem_cons.mp h with rfl | h
    · exact ⟨b1, x1⟩
    · exact exm_in x2 c h
theorem exm_many {M : Model} {K : PySem.W.Frag} {cls : Value} {e tp : Addr} {b : Bool} {h : Heap} {cs : List Value} {o : Obj} {n : Nat} (KX : K.In h) (LT : PySem.W.Looks M h (typeOf (.ref e)) cls)
    (ho : h.get? tp = some o) (hc : o.cls = .type "tuple") (hd : o.data = .seq cs.toArray n) (hx : PySem.W.exmAny K cls cs = some b) : PySem.W.Looks M h (excMatches (.ref e) (.ref tp)) b := by
  have ty : PySem.W.Looks M h (isInstance (.ref tp) (.type "tuple")) true := by
    have l0 : PySem.W.Looks M h (typeOf (.ref tp)) (.type "tuple") := fun A Q E s k q => wpAny_typeOf_ref (k _ _ ho) (by rw [hc]; exact q)
    exact l0.andThen (PySem.W.Looks.of_pure isSubtype_tuple_tuple)
  intro A Q E s k q
  unfold excMatches
  refine wpAny_bind ((ty.keeps k).here ?_)
  rw [if_pos rfl]
  refine wpAny_bind (wpAny_seqItems (k _ _ ho) hd ?_)
  refine wpAny_bind (wpAny_pure ?_)
  refine wpAny_bind (loop_all (fun c hm Q' q' => ?_) ?_)
  · obtain ⟨b1, x1⟩ := exm_in hx c (by simpa using hm)
    obtain ⟨l1, _⟩ := PySem.W.exm_cls (M := M) KX x1
    refine wpAny_bind ((l1.keeps k).here ?_)
    exact wpAny_pure q'
  · refine wpAny_bind ((LT.keeps k).here (wpAny_bind (loop_any (cs := cs) hx (fun c b1 x1 Q' q' => ?_) ?_)))
    · obtain ⟨_, l2⟩ := PySem.W.exm_cls (M := M) KX x1
      refine wpAny_bind ((l2.keeps k).here ?_)
      cases b1 with
      | true => exact wpAny_pure q'
      | false => exact wpAny_pure q'
    · cases b with
      | true => exact wpAny_pure q
      | false => exact wpAny_pure q
/-- what a clause's classes are: the test is run in the suite's context, it may lay a tuple -/
def TestR (X : Cx) (t : Expr) (cs : List Value) : Prop := ∀ (a : Addr) (pn : List (Addr × Obj)) (σ : L2.St) (H : Hp) (s : Shared) (cls : Value) (b : Bool) (Q : Bool → Shared → Prop) (E : Value → Shared → Prop),
  Inv (X.suite a pn) [] σ H s → PySem.W.Looks (model X.prog X.w) s.heap (typeOf (.ref a)) cls → PySem.W.exmAny X.K cls cs = some b →
    (∀ h', (∀ x o, s.heap.get? x = some o → h'.get? x = some o) → Q b { s with heap := h' }) →
    wpAny (model X.prog X.w) (X.A.mark (some (.ref a))) (eval t X.env) (fun c s₁ => wpAny (model X.prog X.w) (X.A.mark (some (.ref a))) (excMatches (.ref a) c) Q E s₁) E s
theorem name_runs {X : Cx} {x : Str} {c : Value} {np : Pos} (hc : Names X x c) {a : Addr} {pn : List (Addr × Obj)} {σ : L2.St} {H : Hp} {s : Shared} (I : Inv (X.suite a pn) [] σ H s) {Q : Value → Shared → Prop} {E : Value → Shared → Prop} (q : Q c s) :
    wpAny (model X.prog X.w) (X.A.mark (some (.ref a))) (eval (.Name x np) X.env) Q E s := by
  obtain ⟨g1, g2, g3 | ⟨g3, g4, g5⟩⟩ := hc
  · exact ld_glob (X := X.suite a pn) I g1 g3 q g2
  · exact ld_blt (X := X.suite a pn) I g1 g3 g4 q g5 g2
theorem test_name {X : Cx} {x : Str} {c : Value} {np : Pos} (hc : Names X x c) : TestR X (.Name x np) [c] := by
  intro a pn σ H s cls b Q E I LT hx q
  refine name_runs hc I ?_
  obtain ⟨b1, d1, x1, x2, e⟩ := PySem.W.exmAny_cons hx
  cases (show some false = some d1 from x2)
  rw [Bool.or_false] at e
  rw [e] at q
  exact (PySem.W.exm_one I.kIn LT x1).here (q s.heap fun _ _ h => h)
inductive NamesAll (X : Cx) : List Expr → List Value → Prop
  | nil : NamesAll X [] []
  | cons {x : Str} {c : Value} {np : Pos} {es : List Expr} {cs : List Value} : Names X x c → NamesAll X es cs → NamesAll X (.Name x np :: es) (c :: cs)
theorem names_run {X : Cx} {pos : Pos} {a : Addr} {pn : List (Addr × Obj)} {σ : L2.St} {H : Hp} {s : Shared} (I : Inv (X.suite a pn) [] σ H s) : ∀ {es : List Expr} {cs : List Value}, NamesAll X es cs → ∀ {Q : List Value → Shared → Prop} {E : Value → Shared → Prop}, Q cs s →
    wpAny (model X.prog X.w) (X.A.mark (some (.ref a))) (spliced (backTo pos (starEach es X.env))) Q E s
  | _, _, .nil, Q, E, q => Calls.spliced_nil q
  | _, _, .cons (x := x) (np := np) (es := es) hn hr, Q, E, q => by
    show wpAny _ _ (spliced ((false, eval (.Name x np) X.env) :: backTo pos (starEach es X.env))) _ _ s
    exact Calls.spliced_cons (name_runs hn I (names_run I hr q))
theorem test_tup {X : Cx} {es : List Expr} {cs : List Value} {k : Nat} {pos : Pos} (hn : NamesAll X es cs) (hl : cs.length ≤ sizeLine) : TestR X (.Tuple es k pos) cs := by
  intro a pn σ H s cls b Q E I LT hx q
  refine wpAny_Tuple_spliced (names_run I hn ⟨hl, ?_⟩)
  have kp : ∀ x o, s.heap.get? x = some o → (s.heap.push { cls := .type "tuple", data := .seq cs.toArray }).get? x = some o := fun x o e => Heap.get?_push_of_some _ e
  exact (exm_many (I.kIn.keeps kp) (LT.keeps kp) (Heap.get?_push_size _ rfl) rfl rfl hx).here (q _ kp)
/-- what the clauses wish of an exception of the body; slot i is the name's -/
def wAsMany (K : PySem.W.Frag) (Wout : WX) (i : Nat) (D : Ends) : List (List Value × (Addr → Value → Option Addr → TS)) → WX
  | [] => Wout
  | (cs, ts) :: r => fun cls d σ H => ∃ b, PySem.W.exmAny K cls cs = some b ∧
      (b = true → ∀ a, H a = none → ts a cls d { nx := fun σ' H' => D.nx (σ'.set i none) H', rt := D.rt, bk := fun σ' H' => D.bk (σ'.set i none) H', ct := fun σ' H' => D.ct (σ'.set i none) H' } (σ.set i (some (.ref a))) H) ∧
      (b = false → wAsMany K Wout i D r cls d σ H)
inductive HdsAs (X : Cx) (n : Str) : List ExceptHandler → List (List Value × (Addr → Value → Option Addr → TS)) → Prop
  | nil : HdsAs X n [] []
  | cons {t : Expr} {cs : List Value} {ts : Addr → Value → Option Addr → TS} {b₀ : Stmt} {suite : List Stmt} {pos' : Pos} {hds : List ExceptHandler} {l : List (List Value × (Addr → Value → Option Addr → TS))} (ht : TestR X t cs)
      (hsu : ∀ (a : Addr) (oe : Obj) (cls : Value) (d : Option Addr) (pn : List (Addr × Obj)), Zc cls d oe → (∃ vs, oe.data = .fields vs) → PSs (X.suite a ((a, oe) :: pn)) (b₀ :: suite) (ts a cls d)) (r : HdsAs X n hds l) :
      HdsAs X n (.ExceptHandler (some t) (some n) (b₀ :: suite) pos' :: hds) ((cs, ts) :: l)
theorem fly_kept {B h h' : Heap} {l : List Env} {a : Addr} {Z : Obj → Prop} (f : HandSPX.FlyingZ B l a Z h) (k : ∀ x o, h.get? x = some o → h'.get? x = some o) : HandSPX.FlyingZ B l a Z h' := by
  obtain ⟨f1, f2, f3, oe, vs, T, oT, ts, g1, g2, g3, g4, g5, g6, g7, g8, g9⟩ := f
  exact ⟨fun b o e => k _ _ (f1 b o e), f2, f3.of_keeps fun b o e _ => ⟨o, k b o e, rfl⟩, oe, vs, T, oT, ts, k _ _ g1, g2, g3, g4, g5, g6, k _ _ g7, g8, g9⟩
section
variable {X : Cx} {n : Str} {i : Nat} {body : List Stmt} {h₀ : ExceptHandler} {hds : List ExceptHandler} {l : List (List Value × (Addr → Value → Option Addr → TS))} {pos : Pos} {tb : WX → TS} {Wout : WX}
set_option maxHeartbeats 4000000 in
theorem ps_try_asMany (hs : X.stack = X.env :: X.outer) (hf : X.env.frame = some X.env.locals) (hN : X.N.Nodup) (hi : X.N[i]? = some n) (hln : X.env.kindOf n = some .local) (tk : Takes X Wout)
    (hb : ∀ (W : WX) (pn : List (Addr × Obj)) (xe : Value → Shared → Prop), Takes (X.tr pn xe) W → PassesOwn (model X.prog X.w) X.A X.env xe → PSs (X.tr pn xe) body (tb W))
    (hh : HdsAs X n (h₀ :: hds) l) : PS X (.Try body (h₀ :: hds) [] [] pos) (fun D σ H => tb (fun cls d σ' H' => σ'.length = X.N.length → wAsMany X.K Wout i D l cls d σ' H') D σ H) := by
  refine ⟨fun pins s σ H D I h => wpAny_Try_except ?_⟩
  have ok := I.ok
  have hfr : X.A.frames = some (X.env :: X.outer) := by rw [ok.frames, hs]
  refine wpAny_mono ((hb (fun cls d σ' H' => σ'.length = X.N.length → wAsMany X.K Wout i D l cls d σ' H') (X.pn ++ pins) _ (fun u s' xx => ?_) PassesOwn.looking).run [] s σ H D (I.toTry _) h) (fun f s1 hsp => ?_) (fun e s1 he => he)
  · obtain ⟨a, B, sI, pins', σ', H', cls, d, rfl, J', nb, up, sky, na, os, ag, wish⟩ := xx
    have J : Inv X pins σ' H' sI := J'.ofTry ok
    rw [show (X.tr (X.pn ++ pins) _).stack = X.env :: X.outer from hs] at sky
    refine Sky.land Zc.steady hfr hf sky fun h3 fl up3 => ?_
    have up4 := up.trans up3
    have apart : ∀ {g : Heap}, HandSPX.FlyingZ B (X.env :: X.outer) a (Zc cls d) g → a ∉ frs (X.env :: X.outer) := fun {g} fg hm => by
      obtain ⟨oe, vs, e1, _, e3⟩ := fg.there
      obtain ⟨_, o', e', hnf⟩ := fg.2.2.1.mem hm
      rw [e1] at e'
      cases e'
      exact hnf _ e3
    have nfr := apart fl
    have nL : a ≠ X.env.locals := fun z => nfr (List.mem_filterMap.mpr ⟨X.env, List.mem_cons_self, by rw [hf, z]⟩)
    have nF : a ∉ X.fs := fun hm => by
      obtain ⟨e, he, q⟩ := List.mem_filterMap.mp hm
      exact nfr (List.mem_filterMap.mpr ⟨e, List.mem_cons_of_mem _ he, q⟩)
    have go : ∀ {hds' : List ExceptHandler} {l' : List (List Value × (Addr → Value → Option Addr → TS))}, HdsAs X n hds' l' → ∀ h', HandSPX.FlyingZ B (X.env :: X.outer) a (Zc cls d) h' → sI.heap.UpToSlots h' → wAsMany X.K Wout i D l' cls d σ' H' →
        wpAny (model X.prog X.w) X.A (handleBy (.ref a) X.env hds') (SP X pins D) X.xe { s' with heap := h' } := by
      intro hds' l' hk
      induction hk with
      | nil =>
        intro h' fg ug wi
        refine wpAny_handleBy_nil ?_
        obtain ⟨_, _, _, oe, vs, T, oT, ts', he, hz, hd, h1, _⟩ := id fg
        unfold PySem.passOn
        refine wpAny_bind (wpAny_field he hd h1 ?_)
        rw [if_neg (show ¬ ((Value.ref T == Value.none) = true) by simp)]
        have fin : wpAny (model X.prog X.w) X.A (setFlight (.ref a) X.env.frame) (fun _ s4 => wpAny (model X.prog X.w) X.A (throw (.ref a) : Sem Flow) (SP X pins D) X.xe s4) X.xe { s' with heap := h' } := by
          rw [hf]
          refine HandSPX.setFlight_upZ fg fun h4 hh4 u4 => wpAny_throw (tk _ _ ⟨a, B, sI, pins, σ', H', cls, d, rfl, J, nb, ug.trans u4, .inr (.inr ?_), na, os, ag, wi⟩)
          rw [hs]
          exact hh4
        first
          | exact wpAny_bind (wpAny_pure (wpAny_bind fin))
          | exact wpAny_bind fin
      | @cons t cs ts b₀ suite pos' hds2 l2 ht hsu r ih =>
        intro h' fg ug wi
        obtain ⟨b, hb1, hyes, hno⟩ := wi
        have J3 : Inv X pins σ' H' { s' with heap := h' } := J.landed nb fg.1 ug os ag
        obtain ⟨oe3, vs3, he3, hz3, hd3⟩ := fg.there
        refine wpAny_handleBy_cons (codeAny_handlers_test ?_) (by intro q; cases q)
        refine ht a _ σ' H' _ cls b _ _ (J3.suite he3 hd3 na nL nF) (fun A Q E s k q => wpAny_typeOf_ref (k _ _ he3) (by rw [hz3.1]; exact q)) hb1 fun h5 k5 => ?_
        have f5 := fly_kept fg k5
        have u5 := ug.trans (Heap.UpToSlots.of_keeps k5)
        cases b with
        | false => exact ih h5 f5 u5 (hno rfl)
        | true =>
          refine codeAny_handlers_suite_as ?_
          refine HandSPX.lands_againZ f5 fun h6 f6 u6 => ?_
          have J6 : Inv X pins σ' H' { s' with heap := h6 } := J.landed nb f6.1 (u5.trans u6) os ag
          obtain ⟨oe6, vs6, he6, hz6, hd6⟩ := f6.there
          have S6 := J6.suite he6 hd6 na nL nF
          refine store_ok (X := X.suite a ((a, oe6) :: (X.pn ++ pins))) (v := .ref a) S6 hN hi (.inl hln) rfl (fun s7 S7 => ?_) (.inr hln)
          refine wpAny_mono ((hsu a oe6 cls d (X.pn ++ pins) hz6 ⟨_, hd6⟩).run [] s7 _ H' _ S7 (hyes rfl a na)) (fun f s8 hsp => ?_) (fun _ _ z => False.elim z)
          have gone : ∀ {σ8 : L2.St} {H8 : Hp} {Q : Shared → Prop}, Inv (X.suite a ((a, oe6) :: (X.pn ++ pins))) [] σ8 H8 s8 → (∀ s9, Inv X pins (σ8.set i none) H8 s9 → Q s9) →
              wpAny (model X.prog X.w) X.A (do bindName X.env n .none; unbindBehindTheSuite X.env n pos') (fun _ s9 => Q s9) X.xe s8 := fun {σ8 H8 Q} S8 hq => gone_ok (S8.unsuite ok) hN hi hln hq
          cases f with
          | ret u =>
            obtain ⟨v8, σ8, H8, S8, r8, q8⟩ := hsp
            exact gone S8 fun s9 J9 => ⟨_, _, _, J9, r8, q8⟩
          | next =>
            obtain ⟨σ8, H8, S8, q8⟩ := hsp
            exact gone S8 fun s9 J9 => ⟨_, _, J9, q8⟩
          | brk =>
            obtain ⟨σ8, H8, S8, q8⟩ := hsp
            exact gone S8 fun s9 J9 => ⟨_, _, J9, q8⟩
          | cont =>
            obtain ⟨σ8, H8, S8, q8⟩ := hsp
            exact gone S8 fun s9 J9 => ⟨_, _, J9, q8⟩
    exact go hh h3 fl up4 (wish J.len)
  · cases f with
    | ret u =>
      obtain ⟨v, σ2, H2, J2, r, q⟩ := hsp
      exact ⟨v, σ2, H2, J2.ofTry ok, r, q⟩
    | next =>
      obtain ⟨σ2, H2, J2, q⟩ := hsp
      exact wpAny_execs_nil ⟨σ2, H2, J2.ofTry ok, q⟩
    | brk =>
      obtain ⟨σ2, H2, J2, q⟩ := hsp
      exact ⟨σ2, H2, J2.ofTry ok, q⟩
    | cont =>
      obtain ⟨σ2, H2, J2, q⟩ := hsp
      exact ⟨σ2, H2, J2.ofTry ok, q⟩
end
/-! ### isinstance of an exception that is held, its class D; with a dict of its own or without -/
structure ExcD (K : PySem.W.Frag) (D : Addr) : Prop where
  hc : (PySem.W.clsIn K D).isSome = true
  hg : PySem.W.findIn K (.ref D) "__getattribute__" = some (some (.builtin "BaseException.__getattribute__"))
  hk : PySem.W.findIn K (.ref D) "__getattr__" = some none
  hs : PySem.W.subIn K (.ref D) (.type "BaseException") = some true
  ha : PySem.W.findIn K (.ref D) "__class__" = some (some (.builtin "object.__class__"))
  hn : PySem.W.specialIn K (.builtin "object.__class__") "__get__" = some (some (.builtin "getset_descriptor.__get__"))
  ht : PySem.W.takesIn K (.builtin "object.__class__") = some true
  hm : PySem.W.mroIn K D (.type "object") = some true
/-- the exception at a, held by a pin: an instance of D; its dict d, if it has one, is tracked -/
structure Held (X : Cx) (a D : Addr) (d : Option Addr) (oe : Obj) : Prop where
  pn : (a, oe) ∈ X.pn
  zc : Zc (.ref D) d oe
  fl : ∃ vs, oe.data = .fields vs
def DictOk (d : Option Addr) (H : Hp) : Prop := ∀ dd, d = some dd → ∃ fs, H dd = some (.xd fs)
section
variable {X : Cx} {K : PySem.W.Frag} {a D : Addr} {d : Option Addr} {oe : Obj}
theorem held_at (hh : Held X a D d oe) {pins : List (Addr × Obj)} {σ : L2.St} {H : Hp} {s : Shared} (I : Inv X pins σ H s) (hd : DictOk d H) : ∃ od, PySem.W.InstAt s.heap a oe D od := by
  have hg := (I.pin (a, oe) (List.mem_append_left _ hh.pn)).1
  obtain ⟨vs, hv⟩ := hh.fl
  obtain ⟨c1, c2⟩ := hh.zc
  have no : PySem.W.notCls oe = true := by
    obtain ⟨oc, odd, odt, osl⟩ := oe
    simp only at hv
    subst hv
    rfl
  cases d with
  | none => exact ⟨none, hg, c1, no, by rw [c2]; exact True.intro⟩
  | some dd =>
    obtain ⟨fs, hf⟩ := hd dd rfl
    obtain ⟨mA, ⟨o, es, ep, e1, _⟩, _⟩ := (show ObjOk X.prog X.w H s.heap dd (.xd fs) from I.hok dd _ hf)
    exact ⟨some o, hg, c1, no, by rw [c2]; exact e1⟩
def rIsH (K : PySem.W.Frag) (D a : Addr) (d : Option Addr) : List V → Hp → VK → Prop := fun xs H Q => ∃ (c : V) (cv : Value) (b : Bool), xs = [.ref a, c] ∧ ClsV c cv ∧ DictOk d H ∧ PySem.W.kitOne K (.ref D) cv = some b ∧ Q (.bl b) H
theorem isH (h : X.K = K) (C : ExcD K D) (hh : Held X a D d oe) : CallR X (.builtin "isinstance") (rIsH K D a d) := by
  subst h
  intro pins s σ H xs us Q I r q
  obtain ⟨c, cv, b, rfl, hc, hd, e, q⟩ := q
  obtain ⟨u1, u2, rfl, r1, r2⟩ := vals2 r
  cases (show u1 = Value.ref a from r1)
  have e2 := hc.eq r2
  subst e2
  obtain ⟨od, J⟩ := held_at hh I hd
  exact PySem.W.kia_one (PySem.W.kitx_exc (od := od) C.hc C.hg C.hk C.hs C.ha C.hn C.ht C.hm) I.kIn J e (fun z => nomatch z) fun tk => ⟨.bl b, H, I.tok tk, rfl, q⟩
def rIsHT (K : PySem.W.Frag) (D a : Addr) (d : Option Addr) : List V → Hp → VK → Prop := fun xs H Q => ∃ (tp : Addr) (cs : List V) (ws : List Value) (b : Bool), xs = [.ref a, .ref tp] ∧ H tp = some (.tup cs) ∧ Paired ClsV cs ws ∧ DictOk d H ∧ PySem.W.kitAny K (.ref D) ws = some b ∧ Q (.bl b) H
theorem isHT (h : X.K = K) (C : ExcD K D) (hh : Held X a D d oe) : CallR X (.builtin "isinstance") (rIsHT K D a d) := by
  subst h
  intro pins s σ H xs us Q I r q
  obtain ⟨tp, cs, ws, b, rfl, hT, k, hd, e, q⟩ := q
  obtain ⟨u1, u2, rfl, r1, r2⟩ := vals2 r
  cases (show u1 = Value.ref a from r1)
  cases (show u2 = Value.ref tp from r2)
  obtain ⟨od, J⟩ := held_at hh I hd
  obtain ⟨_, its, rv, o, h1, h2, n, h3⟩ := (show ObjOk X.prog X.w H s.heap tp (.tup cs) from I.hok tp _ hT)
  have e3 := ClsV.all k rv
  subst e3
  obtain ⟨oc, odd, dt, sl⟩ := o
  simp only at h2 h3
  subst h2 h3
  exact PySem.W.kia_tup (PySem.W.kitx_exc (od := od) C.hc C.hg C.hk C.hs C.ha C.hn C.ht C.hm) I.kIn J h1 e (fun z => nomatch z) fun tk => ⟨.bl b, H, I.tok tk, rfl, q⟩
/-! ### xs.count(True), a list of truths -/
def rCntB (K : PySem.W.Frag) : V → List V → Hp → VK → Prop := fun x xs H Q => ∃ (p : Addr) (bs : List Bool), x = .ref p ∧ xs = [.bl true] ∧ SqL K H p (bs.map V.bl) ∧ Q (.int (bs.count true : Nat)) H
def eqT (v : Value) : Bool := match v with
  | .bool b => b
  | _ => false
theorem bools_of : ∀ {bs : List Bool} {us : List Value}, Vals (bs.map V.bl) us → us = bs.map Value.bool
  | [], _, .nil => rfl
  | b :: r, _, .cons h t => by
    cases (show _ = Value.bool b from h)
    rw [bools_of t]
    rfl
theorem countT : ∀ bs : List Bool, (bs.map Value.bool).countP eqT = bs.count true
  | [] => rfl
  | b :: r => by
    rw [List.map_cons, List.countP_cons, countT r, List.count_cons]
    cases b <;> rfl
theorem cntB (h : X.K = K) : MtR X "list.count" (rCntB K) := by
  subst h
  intro pins s σ H x xs v us Q I rx rxs q
  obtain ⟨p, bs, rfl, rfl, hs, q⟩ := q
  cases (show v = Value.ref p from rx)
  obtain ⟨u, rfl, ru⟩ := vals1 rxs
  cases (show u = Value.bool true from ru)
  obtain ⟨its, rv, ⟨⟨cls, dd, data, sl⟩, n, ho, hc, hdn, hd⟩, hlen⟩ := I.list hs
  simp only at hc hd
  subst hc hd
  have eb := bools_of rv
  subst eb
  refine call_meets PySem.F.slot_list_count ⟨_, ho, rfl⟩ PySem.F.entry_list_count (PySem.F.args_list_count_2 _ _)
    (SeqAt.list_countAt p (bs.map Value.bool).toArray n dd sl (.bool true) eqT) ⟨ho, fun y hy => ?_, ?_⟩
  · have hy : y ∈ bs.map Value.bool := by simpa using hy
    obtain ⟨b, _, rfl⟩ := List.mem_map.mp hy
    have z := SeqAt.EqAt.bool_bool (A := X.A.in1) (s := s) b true
    have e : (b == true) = eqT (.bool b) := by cases b <;> rfl
    rw [e] at z
    exact z
  · refine ⟨.int (bs.count true : Nat), H, I.tok _, ⟨s.toks, ?_⟩, q⟩
    show Value.int (((bs.map Value.bool).toArray.toList.countP eqT : Nat) : Int) s.toks = _
    rw [List.toList_toArray, countT]
end
/-! ### a def called with the held exception -/
structure FnP (P : Program) (w : World) (K : PySem.W.Frag) (mg : Str → Option Value) (base : Heap) (CX : CXT) (k : Nat) (f : Addr) (fd : FuncData) (ps : List Str) (sp : Addr → Value → Option Addr → Sp) : Prop where
  len : ∀ a cls d vs H Q E, sp a cls d vs H Q E → vs.length = ps.length
  run : ∀ (A : Around) (outer : List Env) (s : Shared) (H : Hp) (args : Args) (us : List Value) (vs : List V) (Q : VK) (E : XK) (p : Addr × Obj) (cls : Value) (d : Option Addr), L2H.RoomH k A → L2H.PinOk outer H s p → Zc cls d p.2 → (∃ vs, p.2.data = .fields vs) → Env0 P w K mg base A outer s H → BindsTo s fd args (ps.zip us) → Vals vs us → sp p.1 cls d vs H Q E →
    codeAny (model P w) A (.call (.ref f) args) (CR CX outer P w H s Q E) s
theorem fnP_of {CX : CXT} {P : Program} {w : World} {K : PySem.W.Frag} {mg : Str → Option Value} {base : Heap} {k : Nat} {x qual : Str} {st : Stmt} {f : Addr} {fd : FuncData} {N ps : List Str} {sp : Addr → Value → Option Addr → Sp} (F : Fun K x qual st f fd) (S : FnScope N ps (defScope st))
    (len : ∀ a cls d vs H Q E, sp a cls d vs H Q E → vs.length = ps.length)
    (hbody : ∀ (cdv : Value) (A : Around) (outer : List Env) (s : Shared) (H : Hp) (vs : List V) (Q : VK) (E : XK) (p : Addr × Obj) (cls : Value) (d : Option Addr), L2H.RoomH k (A.deeper (envOfC qual (defScope st) s.heap.objs.size f cdv)) → Zc cls d p.2 → (∃ vs, p.2.data = .fields vs) → sp p.1 cls d vs H Q E →
      ∃ t, PSs (L2H.cxH CX P w K mg base N qual (defScope st) f cdv A outer s H E p) (defBody st) t ∧ t { nx := fun _ H' => Q .non H', rt := Q } (L2.start N vs) H) : FnP P w K mg base CX (k + 1) f fd ps sp := by
  obtain ⟨oc, od, kV, doc, pm, an, cdv, ct, osl, rfl, lk, hcd⟩ := F.ex
  refine ⟨len, fun A outer s H args us vs Q E p cls d hr hpin hz hfl e0 hb r hsp => ?_⟩
  have keepB : ∀ b o, base.get? b = some o → s.heap.get? b = some o := fun b o e => (e0.bs b o e).1
  have hkind : ∀ y ∈ ps.zip us, (defScope st).names.lookup y.1 = some .local ∨ ((defScope st).names.lookup y.1 = some .cell ∧ ((cellsFrom (s.heap.objs.size + 1) (defScope st).names []).lookup y.1).isSome = true) := by
    rintro ⟨n, v⟩ hy
    exact (S.par n (List.of_mem_zip hy).1).imp id fun q => ⟨q, PySem.W.cellsFrom_some _ _ _ (.inl q)⟩
  refine codeAny_call_function hr.depth (e0.mod.kin.keeps keepB _ _ lk) rfl S.co S.gen rfl (PySem.W.codeRec_of (e0.mod.kin.keeps keepB) hcd) (hb _ _ _ _ ?_)
  refine wpAny_newFunctionEnv_cells S.kind hkind fun env he s1 z => ?_
  subst he
  refine ⟨(e0.mod.nolimit.keeps keepB).keeps z.toInCall.keep, codeAny_func ?_⟩
  obtain ⟨t, ht, hq⟩ := hbody cdv A outer s H vs Q E p cls d (hr.deeper _) hz hfl hsp
  refine wpAny_mono (ht.run [] s1 (L2.start N vs) H _ (L2H.inv_startH S hpin e0 (len _ _ _ _ _ _ _ hsp) r z) hq) (fun fl s' hs => ?_) fun e s' hs => hs
  cases fl with
  | ret u =>
    obtain ⟨v, σ', H', J, rv, q⟩ := hs
    exact ⟨v, H', J.os, J.bare, J.base, J.hok, rv, q⟩
  | next =>
    obtain ⟨σ', H', J, q⟩ := hs
    exact ⟨.non, H', J.os, J.bare, J.base, J.hok, rfl, q⟩
  | brk =>
    obtain ⟨_, _, _, q⟩ := hs
    exact False.elim q
  | cont =>
    obtain ⟨_, _, _, q⟩ := hs
    exact False.elim q
def tCallP (sp : Addr → Value → Option Addr → Sp) (a : Addr) (cls : Value) (d : Option Addr) (t : TA) : TE := fun σ H Q => t σ H fun vs H1 => sp a cls d vs H1 Q E0
theorem pe_callP {X : Cx} {k : Nat} {f : Addr} {fd : FuncData} {ps : List Str} {sp : Addr → Value → Option Addr → Sp} {x : Str} {q pos : Pos} {e : Expr} {es : List Expr} {t : TA} {p : Addr × Obj} {cls : Value} {d : Option Addr} (F : FnP X.prog X.w X.K X.mg X.base CX0 k f fd ps sp) (hr : L2H.RoomH k X.A) (hp : p ∈ X.pn) (hz : Zc cls d p.2) (hfl : ∃ vs, p.2.data = .fields vs)
    (hg : Gl X x) (hm : X.mg x = some (.ref f)) (hk : PySem.W.keepIn X.K (.ref f) = true) (hb : Binds X.K fd ps []) (ha : PA X (e :: es) t) (hdb : (x == ("__debug__" : Str)) = false := by decide)
    (he : starEach (e :: es) X.env = (false, eval e X.env) :: starEach es X.env := by rfl) (hpl : (backTo pos (starEach es X.env)).any (·.1) = false := by rfl) : PE X (.Call (.Name x q) (e :: es) [] pos) (tCallP sp p.1 cls d t) := by
  refine ⟨fun pins s σ H Q I h => wpAny_Call_Name_kw (ld_glob I hg hm ?_ hdb)⟩
  refine PySem.W.callWith_K (h₀ := X.base) I.ok.mod.kin hk (thn (ha.run pos pins s σ H _ I h) fun us s1 ⟨vs, H1, I1, r, z⟩ => ⟨I1.kIn, ?_⟩) he hpl
  have hl : us.length = ps.length := by rw [← r.length]; exact F.len _ _ _ _ _ _ _ z
  have b := hb s1 us I1.kIn (by rw [List.append_nil]; exact hl)
  rw [List.append_nil] at b
  have P1 := I1.pin p (List.mem_append_left _ hp)
  refine wpAny_call (codeAny_mono (F.run X.A X.stack s1 H1 ⟨us, []⟩ us vs Q E0 p cls d hr ⟨P1.1, P1.2.1, fun hm => (List.mem_cons.mp (I1.stkSub p.1 hm)).elim P1.2.2.1 P1.2.2.2.1, P1.2.2.2.2⟩ hz hfl I1.env0 b r z) fun rr s' hq => ?_)
  cases rr with
  | error e => exact (show False from hq).elim
  | ok fl =>
    cases fl with
    | ret u => exact I1.after hq
    | next => exact False.elim hq
    | brk => exact False.elim hq
    | cont => exact False.elim hq
/-! ### a def whose code object is known by its place -/
structure FunC (K : PySem.W.Frag) (x qual : Str) (st : Stmt) (f : Addr) (fd : FuncData) (c : Addr) : Prop where
  ex : ∃ (oc : Value) (od : Option Addr) (kV doc pm : Value) (an : Option Addr) (ct : Value) (osl : Array (Option Value)),
    fd = PySem.W.fnOf x qual (defArgs st) (defBody st) (defScope st) .none kV doc pm an (.ref c) ct ∧ K.lookup f = some ⟨oc, od, .func fd, osl⟩ ∧ PySem.W.codeIn K (.ref c) qual = true
  kp : PySem.W.keepIn K (.ref f) = true
theorem FunC.fn {K : PySem.W.Frag} {x qual : Str} {st : Stmt} {f : Addr} {fd : FuncData} {c : Addr} (F : FunC K x qual st f fd c) : Fun K x qual st f fd := by
  obtain ⟨oc, od, kV, doc, pm, an, ct, osl, h1, h2, h3⟩ := F.ex
  exact ⟨⟨oc, od, kV, doc, pm, an, .ref c, ct, osl, h1, h2, h3⟩, F.kp⟩
theorem FunC.ok {P : Program} {w : World} {K : PySem.W.Frag} {mg : Str → Option Value} {base : Heap} {x qual : Str} {st : Stmt} {f : Addr} {fd : FuncData} {c : Addr} {N ps : List Str} {k : Nat} {sp : Sp} (F : FunC K x qual st f fd c) (S : FnScope N ps (defScope st))
    (len : ∀ vs H Q E, sp vs H Q E → vs.length = ps.length)
    (hbody : ∀ (A : Around) (outer : List Env) (s : Shared) (H : Hp) (vs : List V) (Q : VK) (E : XK), Room k (A.deeper (envOfC qual (defScope st) s.heap.objs.size f (.ref c))) → sp vs H Q E →
      ∃ t, PSs (cxOf CX0 P w K mg base N qual (defScope st) f (.ref c) A outer s H E).nox (defBody st) t ∧ t { nx := fun _ H' => Q .non H', rt := Q } (start N vs) H) : FnOk P w K mg base CX0 (k + 1) f fd ps sp := by
  obtain ⟨oc, od, kV, doc, pm, an, ct, osl, rfl, lk, hcd⟩ := F.ex
  refine fn_of lk hcd S len fun A outer s H vs Q E hr hsp => ?_
  obtain ⟨t, h, q⟩ := hbody A outer s H vs Q E hr hsp
  exact ⟨t, h.nox, q⟩
/-! ### the classes of refusals -/
def excDB (K : PySem.W.Frag) (D : Addr) : Bool := (PySem.W.clsIn K D).isSome && (decide (PySem.W.findIn K (.ref D) "__getattribute__" = some (some (.builtin "BaseException.__getattribute__"))) && (decide (PySem.W.findIn K (.ref D) "__getattr__" = some none) &&
  (decide (PySem.W.subIn K (.ref D) (.type "BaseException") = some true) && (decide (PySem.W.findIn K (.ref D) "__class__" = some (some (.builtin "object.__class__"))) && (decide (PySem.W.specialIn K (.builtin "object.__class__") "__get__" = some (some (.builtin "getset_descriptor.__get__"))) &&
  (decide (PySem.W.takesIn K (.builtin "object.__class__") = some true) && decide (PySem.W.mroIn K D (.type "object") = some true)))))))
theorem excD_of {K : PySem.W.Frag} {D : Addr} (h : excDB K D = true) : ExcD K D := by
  unfold excDB at h
  simp only [Bool.and_eq_true, decide_eq_true_eq] at h
  obtain ⟨h1, h2, h3, h4, h5, h6, h7, h8⟩ := h
  exact ⟨h1, h2, h3, h4, h5, h6, h7, h8⟩
/-- the classes that the law's helpers name, by their places -/
structure HowC where
  five : List Addr
  wrong : Addr
  two : List Addr
  all : List Addr
/-- C is the i-th class under Wrong, one without a field at -/
def plainB (K : PySem.W.Frag) (hc : HowC) (C : Addr) (i : Nat) : Bool := excDB K C && (decide (PySem.W.exmAny K (.ref C) (hc.five.map Value.ref) = some false) && (decide (PySem.W.exmAny K (.ref C) [.ref hc.wrong] = some true) &&
  (decide ((hc.all.map fun D => PySem.W.kitOne K (.ref C) (.ref D)) = (List.range hc.all.length).map fun j => some (decide (j = i))) && (decide (PySem.W.kitOne K (.ref C) (.type "ValueError") = some true) && decide (PySem.W.kitAny K (.ref C) (hc.two.map Value.ref) = some false)))))
structure Plain (K : PySem.W.Frag) (hc : HowC) (C : Addr) (i : Nat) : Prop where
  ec : ExcD K C
  e5 : PySem.W.exmAny K (.ref C) (hc.five.map Value.ref) = some false
  ew : PySem.W.exmAny K (.ref C) [.ref hc.wrong] = some true
  k : (hc.all.map fun D => PySem.W.kitOne K (.ref C) (.ref D)) = (List.range hc.all.length).map fun j => some (decide (j = i))
  kv : PySem.W.kitOne K (.ref C) (.type "ValueError") = some true
  k2 : PySem.W.kitAny K (.ref C) (hc.two.map Value.ref) = some false
theorem plain_of {K : PySem.W.Frag} {hc : HowC} {C : Addr} {i : Nat} (h : plainB K hc C i = true) : Plain K hc C i := by
  unfold plainB at h
  simp only [Bool.and_eq_true, decide_eq_true_eq] at h
  obtain ⟨h1, h2, h3, h4, h5, h6⟩ := h
  exact ⟨excD_of h1, h2, h3, h4, h5, h6⟩
theorem Plain.at {K : PySem.W.Frag} {hc : HowC} {C : Addr} {i j : Nat} {D : Addr} (h : Plain K hc C i) (hj : hc.all[j]? = some D) : PySem.W.kitOne K (.ref C) (.ref D) = some (decide (j = i)) := by
  have e := congrArg (fun l => l[j]?) h.k
  have hl : j < hc.all.length := (List.getElem?_eq_some_iff.mp hj).1
  simp only [List.getElem?_map, hj, List.getElem?_range hl, Option.map_some] at e
  exact Option.some.inj e
theorem DictOk.ex {d : Option Addr} {H H' : Hp} (h : DictOk d H) (e : Ex H H') : DictOk d H' := fun dd hd => by
  obtain ⟨fs, hf⟩ := h dd hd
  exact ⟨fs, e _ _ hf⟩
def kindNames : List Str := ["code", "deed", "entries", "lengths", "name", "number", "pages", "queries", "query", "text of query", "row", "shelf", "size", "text", "word", "taken"]
def hot16 (i : Nat) : List Bool := [decide (0 = i), decide (1 = i), decide (2 = i), decide (3 = i)] ++ [decide (4 = i), decide (5 = i), decide (6 = i), decide (7 = i)] ++ [decide (8 = i), decide (9 = i), decide (10 = i), decide (11 = i)] ++ [decide (12 = i), decide (13 = i), decide (14 = i), decide (15 = i)]
theorem hot16_count : ∀ i, i < 16 → (hot16 i).count true = 1 := by decide
theorem hot16_at : ∀ i, i < 16 → (hot16 i)[i]? = some true := by decide
theorem hot16_ahead : ∀ i, i < 16 → ∀ m, m < i → (hot16 i)[m]? = some false := by decide
end My
/-! enumerate over a tuple -/
namespace EnT
open PySem PySem.Spec PyProof.Rows L2
open AutoSeq1 (wpAny_loadPart')
abbrev tIt (t : Addr) : Obj := { cls := .type "tuple_iterator", data := .fields #[.ref t, .int 0 0] }
abbrev eIt (it : Addr) : Obj := { cls := .type "enumerate", data := .fields #[.none, .bool false, .ref it, rawInt 0, .none, .none] }
set_option maxHeartbeats 2000000 in
theorem newT (t : Addr) (items : Array Value) (n : Nat) (dct : Option Addr) (sl : Array (Option Value)) :
    Meets (Builtin.«enumerate.__new__» ⟨[.type "enumerate", .ref t], []⟩) (fun _ R s => s.heap.get? t = some { cls := .type "tuple", dict := dct, data := .seq items n, slots := sl } ∧ R (.ok (.ret (.ref (s.heap.push (tIt t)).objs.size))) { s with heap := (s.heap.push (tIt t)).push (eIt s.heap.objs.size) }) :=
  .of_wp fun prog w A R s z => by
    obtain ⟨hp, g, d, tk, os⟩ := s
    obtain ⟨ht, z⟩ := z
    have hS := sub_enumerate
    have hT : Heap.IsTuple (Shared.heap ⟨hp, g, d, tk, os⟩) t items := ⟨_, ht, rfl, n, rfl⟩
    wp_walk using wpAny_loadPart' ht
    refine wpAny_stack_any (fun _ => wpAny_pure ?_)
    split
    · rename_i cc _ _ _ _ _; cases (cc == Value.type "enumerate") <;> (wp_walk using wpAny_loadPart' ht, wpAny_pyIter_tuple hT; exact ⟨_, rfl, z⟩)
    · wp_walk using wpAny_loadPart' ht, wpAny_pyIter_tuple hT; exact ⟨_, rfl, z⟩
theorem callT {prog : Program} {w : World} {A : Around} {E : Value → Shared → Prop} {s : Shared} {t : Addr} {items : Array Value} {Q : Value → Shared → Prop} (hT : s.heap.IsTuple t items)
    (k : ∀ h', IsEnum h' (s.heap.objs.size + 1) s.heap.objs.size 0 .none → h'.IsTupleIter s.heap.objs.size t 0 → h'.objs.size = s.heap.objs.size + 2 → (∀ b o, s.heap.get? b = some o → h'.get? b = some o) → Q (.ref (s.heap.objs.size + 1)) { s with heap := h' }) :
    wpAny (model prog w) A (call (.type "enumerate") [.ref t]) Q E s := by
  obtain ⟨⟨c, dct, dt, sl⟩, ht, c1, n, d1⟩ := hT
  simp only at c1 d1
  subst c1 d1
  refine callType_new F.called_enumerate (by decide) (F.typeCall_enumerate_1 _) (F.newCall_enumerate_1 _) (fun ob => F.args_object_init_2 ob _) F.entry_enumerate_new (newT t items n dct sl) ⟨ht, ?_⟩
  have z : (s.heap.push (tIt t)).objs.size = s.heap.objs.size + 1 := Heap.size_push ..
  show _ ∧ _
  rw [z]
  have e1 : IsEnum ((s.heap.push (tIt t)).push (eIt s.heap.objs.size)) (s.heap.objs.size + 1) s.heap.objs.size 0 .none := by
    have e0 := Heap.get?_push_size (s.heap.push (tIt t)) (o := eIt s.heap.objs.size) rfl
    rw [z] at e0
    exact e0
  exact ⟨⟨_, e1, rfl⟩, k _ e1 ⟨_, Heap.get?_push_of_some _ (Heap.get?_push_size _ rfl), rfl, rfl⟩ (by rw [Heap.size_push, z]) (fun b o x => Heap.get?_push_of_some _ (Heap.get?_push_of_some _ x))⟩
/-- the tuple at a, each item in a new pair -/
def IteT (K : PySem.W.Frag) (a : Addr) : It :=
  ⟨fun i H => ∃ (xs : List V) (x : V), SqT K H a xs ∧ xs[i]? = some x, fun i H v H' => ∃ T x, v = .ref T ∧ H T = none ∧ H' = upd H T (.tup [.int (i : Nat), x]) ∧ ∀ xs, SqT K H a xs → xs[i]? = some x, fun i H => ∃ xs : List V, SqT K H a xs ∧ xs.length ≤ i ∧ i ≤ xs.length⟩
set_option maxHeartbeats 2000000 in
theorem turnT {P : Program} {w : World} {K : PySem.W.Frag} {elts : List Expr} {kk : Nat} {tpos : Pos} (a e it : Addr) (na : a ≠ it) (nea : e ≠ a) :
    Turn P w K (.Tuple elts kk tpos) (IteT K a) [e, it] e (fun i h => (∃ old, IsEnum h e it ((i : Nat) : Int) old) ∧ h.IsTupleIter it a i ∧ e ≠ it) where
  mem := by simp
  obj := fun i h st b hb => by
    obtain ⟨⟨old, he⟩, ⟨o, ho, hc, hd⟩, _⟩ := st
    have z : b = e ∨ b = it := by simpa using hb
    rcases z with rfl | rfl
    · exact ⟨_, he, fun v q => nomatch q⟩
    · exact ⟨o, ho, fun v q => by rw [hd] at q; cases q⟩
  keep := fun i h h' st k => by
    obtain ⟨⟨old, he⟩, hi, ne⟩ := st
    exact ⟨⟨old, k e (by simp) _ he⟩, hi.at (fun o q => k it (by simp) o q), ne⟩
  item := by
    intro X hP hw hK hc i pins s σ H E I hf st hg
    subst hP; subst hw; subst hK
    obtain ⟨⟨old, he⟩, hit, hne⟩ := st
    obtain ⟨xs, x, hq, hx⟩ := hg
    obtain ⟨its, rv, pt, hz⟩ := I.tuple hq
    obtain ⟨u, hu, ru⟩ := rv.get hx
    have l1 : e < s.heap.objs.size := Heap.lt_size he
    have l2 : it < s.heap.objs.size := by obtain ⟨_, q, _⟩ := hit; exact Heap.lt_size q
    have il : i < its.toArray.size := by rw [List.size_toArray]; exact (List.getElem?_eq_some_iff.mp hu).1
    refine wpAny_pyNext_enum_itemD (Draws.tuple (A := X.A.in1) (prog := X.prog) (w := X.w) (show X.A.in1.handled = none from I.ok.hd hc) it a na its.toArray) he ⟨hit, pt⟩ il hne (by simp [hne, nea]) fun v h' tk hv ho hst hT hsz hk => ?_
    have ev : v = u := by
      have : its[i]? = some v := by simpa using hv
      rw [hu] at this
      exact (Option.some.inj this).symm
    subst ev
    refine ⟨_, rfl, wpAny_letOwnedTupleGo_enum (s := { s with heap := h', toks := tk + 1 }) ho fun h2 he2 sb => ?_⟩
    have hT2 : h2.get? s.heap.objs.size = some { cls := .type "tuple", data := .seq #[.int i tk, v] } := (sb.2 _ (Nat.ne_of_gt l1)).trans hT
    have nw : ObjOk X.prog X.w (upd H s.heap.objs.size (.tup [.int (i : Nat), x])) h2 s.heap.objs.size (.tup [.int (i : Nat), x]) := ⟨by show 2 ≤ sizeLine; decide, [.int i tk, v], .cons ⟨_, rfl⟩ (.cons ru .nil), ⟨_, hT2, rfl, _, rfl⟩⟩
    have I1 : Inv X pins σ (upd H s.heap.objs.size (.tup [.int (i : Nat), x])) { s with heap := h2, toks := tk + 1 } := I.turnedNew (ch := [e, it]) (fun b ob hb q => (sb.2 b (fun z => hb (by simp [z]))).trans (hk b ob (fun z => hb (by simp [z])) (fun z => hb (by simp [z])) q)) hf (Nat.le_refl _) nw
    refine ⟨.ref s.heap.objs.size, _, I1, rfl, ⟨_, x, rfl, I.hok.fresh (Nat.le_refl _), rfl, fun ys hy => by rw [I.tuple_inj hy hq]; exact hx⟩, ⟨⟨v, ?_⟩, hst.1.at (fun o q => (sb.2 it (Ne.symm hne)).trans q), hne⟩, fun b hb => ?_⟩
    · rw [show ((i + 1 : Nat) : Int) = (i : Int) + 1 by omega]; exact he2
    · have z : b = e ∨ b = it := by simpa using hb
      have lb : b < s.heap.objs.size := by rcases z with rfl | rfl <;> assumption
      rw [upd_ne (Nat.ne_of_lt lb)]; exact (hf b hb).1
  done := by
    intro X hP hw hK hc i pins s σ H E I hf st hg
    subst hP; subst hw; subst hK
    obtain ⟨⟨old, he⟩, hit, hne⟩ := st
    obtain ⟨xs, hq, h1, h2⟩ := hg
    obtain ⟨its, rv, pt, hz⟩ := I.tuple hq
    obtain ⟨f0, f1, f2, f3, f4, f5⟩ := hf it (by simp)
    have hl := rv.length
    have ei : i = its.toArray.size := by rw [List.size_toArray]; omega
    subst ei
    exact wpAny_pyNext_enum_endD (Draws.tuple (A := X.A.in1) (prog := X.prog) (w := X.w) (show X.A.in1.handled = none from I.ok.hd hc) it a na its.toArray) he ⟨hit, pt⟩ fun h' eb => ⟨rfl, I.turned (t' := s.toks) (fun b o hb q => eb b o hb q) f0 f1 f3 f4 f5⟩
  self := fun A i s Q E st h => wpAny_pyIter_enum st.1.choose_spec h
def iEnumT (K : PySem.W.Frag) (ta : TA) : TI := fun σ H R => ta σ H fun vs H1 => ∃ a xs, vs = [.ref a] ∧ SqT K H1 a xs ∧ R (IteT K a) H1
set_option maxHeartbeats 2000000 in
theorem pi_enumT {X : Cx} {K : PySem.W.Frag} {e : Expr} {ta : TA} {p pos tpos : Pos} {elts : List Expr} {kk : Nat} (hX : X.K = K) (hg : Gl X "enumerate") (hm : X.mg "enumerate" = none) (ha : PA X [e] ta) (hs : starEach [e] X.env = [(false, eval e X.env)] := by rfl) :
    PI X (.Tuple elts kk tpos) (.Call (.Name "enumerate" p) [e] [] pos) (iEnumT K ta) := by
  subst hX
  refine ⟨fun pins s σ H R I h => Call_ (ld_blt I hg hm boot_enumerate (PyProof.Rows.callWith_type1 (thn (ha.run pos pins s σ H _ I h) fun us s1 ⟨vs, H1, I1, r1, q1⟩ => ?_) hs rfl))⟩
  obtain ⟨a, xs, ex, hq, q⟩ := q1
  subst ex
  cases r1 with
  | cons r rr =>
    cases rr
    cases r
    obtain ⟨its, rv, pt, hz⟩ := I1.tuple hq
    have la : a < s1.heap.objs.size := by obtain ⟨o, ho, _⟩ := pt; exact Heap.lt_size ho
    refine callT pt fun h' he hit hsz hk => wpAny_pyIter_enum he ?_
    have I2 : Inv X pins σ H1 { s1 with heap := h' } := I1.kept (t' := s1.toks) hk
    refine ⟨s1.heap.objs.size + 1, [s1.heap.objs.size + 1, s1.heap.objs.size], _, _, H1, rfl, I2, turnT a (s1.heap.objs.size + 1) s1.heap.objs.size (Nat.ne_of_lt la) (Nat.ne_of_gt (Nat.lt_succ_of_lt la)), ⟨⟨.none, he⟩, hit, Nat.succ_ne_self _⟩, fun b hb => ?_, q⟩
    have z : b = s1.heap.objs.size + 1 ∨ b = s1.heap.objs.size := by simpa using hb
    have lb : s1.heap.objs.size ≤ b := by
      rcases z with z | z
      · rw [z]; exact Nat.le_succ _
      · rw [z]; exact Nat.le_refl _
    exact I1.fpOk lb (I1.hok.fresh lb)
theorem walkT {K : PySem.W.Frag} {a : Addr} {xs : List V} : Walk (IteT K a) xs.length (fun H => SqT K H a xs) (YPair (fun i => some (.int (i : Nat))) (fun i => xs[i]?)) := by
  refine ⟨fun i _ hi q => ⟨xs, xs[i], q, by simp [hi]⟩, fun _ q => ⟨xs, q, Nat.le_refl _, Nat.le_refl _⟩, fun i H v H' _ q y => ?_⟩
  obtain ⟨T, x, h1, h2, h3, h4⟩ := y
  exact ⟨T, .int (i : Nat), x, h1, h2, h3, rfl, h4 xs q⟩
end EnT
/-! len(range(n)); xs[:] = ys -/
namespace RgV
open PySem PySem.Spec PyProof.Rows L2
variable {X : Cx}
theorem cr_range1 : CallR X (.type "range") (fun vs H Q => ∃ j, vs = [V.int j] ∧ ∀ p, H p = none → Q (.ref p) (upd H p (.rng 0 j))) := by
  intro pins s σ H vs us Q I r h
  obtain ⟨j, rfl, q⟩ := h
  cases r with
  | cons rj rn =>
    cases rn
    obtain ⟨t, rfl⟩ := rj
    refine call_range_1 ⟨.ref s.heap.objs.size, upd H s.heap.objs.size (.rng 0 j), I.laid (t' := s.toks + 1 + 1) (fun b o z => Heap.get?_push_of_some _ z) (Nat.le_refl _) ?_, rfl, q _ (I.hok.fresh (Nat.le_refl _))⟩
    exact ⟨s.toks, t, s.toks + 1, Heap.get?_push_size _ rfl⟩
theorem cr_lenR : CallR X (.builtin "len") (fun vs H Q => ∃ (a : Addr) (hi : Int), vs = [V.ref a] ∧ H a = some (.rng 0 hi) ∧ 0 ≤ hi ∧ hi < 4611686018427387904 ∧ Q (.int hi) H) := by
  intro pins s σ H vs us Q I r h
  obtain ⟨a, hi, rfl, ha, h0, h1, q⟩ := h
  rw [Vals.ref1 r]
  obtain ⟨t, u, v, ho⟩ := I.hok a _ ha
  obtain ⟨n, rfl⟩ := Int.eq_ofNat_of_zero_le h0
  refine call_len_range (n := n) (show IsRange s.heap a 0 n 1 t u v from ho) ?_ (by omega) ⟨.int n, H, I.tok _, ⟨_, rfl⟩, q⟩
  rw [rangeSize_one]
  split <;> omega
end RgV
namespace SlA
open PySem PySem.Spec PyProof.Rows L2
section
variable {prog : Program} {w : World} {A : Around} {E : Value → Shared → Prop} {s : Shared}
theorem bounds_all (n : Nat) : sliceBounds none none none n = ((0 : Int), (n : Int), 1) := by
  simp [sliceBounds]
set_option maxRecDepth 100000 in
set_option maxHeartbeats 4000000 in
theorem store_all {l b sl : Addr} {old new : Array Value} {n n2 : Nat} {Q : Unit → Shared → Prop}
    (e : s.heap.get? l = some { cls := .type "list", data := .seq old n }) (e2 : s.heap.get? b = some { cls := .type "list", data := .seq new n2 }) (ne : l ≠ b) (hs : s.heap.IsSliceOf sl .none .none .none)
    (sz : old.size + new.size ≤ sizeLine) (h : Q () { s with heap := s.heap.update l (Obj.mapSeq fun xs => xs.extract 0 0 ++ new ++ xs.extract old.size xs.size) }) :
    wpAny (model prog w) A (setItem (.ref l) (.ref sl) (.ref b)) Q E s := by
  have kl : s.heap.IsList l old := PySem.IsL.isList e
  have kb : s.heap.IsList b new := PySem.IsL.isList e2
  obtain ⟨os, g1, g2, g3⟩ := id hs
  have ty : s.TypeIs (.ref sl) "slice" := ⟨os, g1, g2⟩
  have st : ¬ ((rawPart none == rawInt 0) = true) := Bool.false_ne_true
  have nosame : Builtin.List.listSameRef (.ref l) (.ref b) = false := by
    unfold Builtin.List.listSameRef
    exact beq_eq_false_iff_ne.mpr ne
  have mx : (max (0 : Int) (old.size : Int)).toNat = old.size := by omega
  have z2 : ((fun xs : Array Value => xs.extract 0 0 ++ new ++ xs.extract old.size xs.size) old).size ≤ sizeLine + 1 := by
    simp only [Array.size_append, Array.size_extract]
    omega
  unfold setItem
  try with_reducible refine wpAny_holding ?_
  first | refine wpAny_bind (wpAny_pure ?_) | skip
  refine wpAny_bind (wpAny_sequenceKey kl.typeIs (by decide) ?_)
  refine wpAny_bind (wpAny_callSpecial?_slot (name := Str.ofString "__setitem__") kl.typeIs slot_list_setitem (wpAny_call_entry slot_list_setitem kl.typeIs entry_list_setitem ?_ (args_list_setitem _ _ _)))
  show wpAny _ _ (Builtin.List.listSubscript? (.ref sl) >>= _) _ _ s
  refine wpAny_bind ?_
  unfold Builtin.List.listSubscript?
  refine wpAny_bind (wpAny_specialOf ty slice_no_index ?_)
  simp only [Option.isNone_none, if_true]
  refine wpAny_pure ?_
  show wpAny _ _ (typeOf (.ref sl) >>= _) _ _ s
  refine wpAny_bind (wpAny_typeOf ty ?_)
  first
    | rw [if_neg (by decide)]
    | refine PySem.W.KFB.if_not (by decide) ?_
  rw [listSliceParts_eq]
  refine wpAny_bind (wpAny_bind (wpAny_field g1 g3 (x := .none) rfl (wpAny_bind (wpAny_listPart .none ?_))))
  rw [if_neg st]
  refine wpAny_bind (wpAny_field g1 g3 (x := .none) rfl (wpAny_bind (wpAny_listPart .none ?_)))
  refine wpAny_bind (wpAny_field g1 g3 (x := .none) rfl (wpAny_bind (wpAny_listPart .none (wpAny_pure ?_))))
  first
    | simp only [nosame, Bool.false_eq_true, if_false]
    | refine PySem.W.KFB.if_not nosame ?_
    | (dsimp only
       rw [if_neg (by rw [nosame]; exact Bool.false_ne_true)])
  refine wpAny_bind (m := Builtin.List.listAllItems (.ref b) "must assign iterable to extended slice") ?_
  unfold Builtin.List.listAllItems
  refine wpAny_bind (wpAny_typeOf kb.typeIs ?_)
  first
    | refine PySem.W.KFB.if_so (by decide) ?_
    | rw [if_pos (by decide)]
    | simp only [beq_self_eq_true, Bool.true_or, if_true]
  unfold Builtin.List.listItems
  refine wpAny_bind (wpAny_seqItems e2 rfl (wpAny_pure ?_))
  refine wpAny_bind (wpAny_bind (wpAny_seqItems e rfl (wpAny_pure ?_)))
  refine wpAny_bind (wpAny_of_eq ((sliceIndices_raw none none none old.size (by simp)).trans (congrArg (pure : Int × Int × Int → Sem (Int × Int × Int)) (bounds_all old.size))) ?_)
  show wpAny _ _ (if ((1 : Int) == 1) = true then _ else _) _ _ s
  rw [if_pos (by decide)]
  refine wpAny_bind (wpAny_rule ?_)
  first
    | simp only [notLongL sz, Bool.false_eq_true, if_false]
    | refine PySem.W.KFB.if_not (notLongL sz) ?_
  first | refine wpAny_bind (wpAny_pure ?_) | skip
  show wpAny _ _ (updateSeq l (fun xs => xs.extract 0 ((0 : Int)).toNat ++ new ++ xs.extract (max (0 : Int) (old.size : Int)).toNat xs.size) >>= _) _ _ s
  rw [mx]
  refine wpAny_bind (wpAny_updateSeq (hz := Nat.le_trans (Nat.le_add_right _ _) sz) (_hz' := z2) e rfl ?_)
  refine wpAny_bind (wpAny_letGo ?_)
  first
    | exact wpAny_bind (wpAny_pure (wpAny_pure ⟨.none, rfl, wpAny_pure h⟩))
    | exact wpAny_pure ⟨.none, rfl, wpAny_pure h⟩
end
section
variable {X : Cx}
def gAll (to : TE) : TG := fun v σ H Q => to σ H fun x H1 => ∃ (l b : Addr) (xs ys : List V), x = .ref l ∧ v = .ref b ∧ H1 l = some (.lst xs) ∧ H1 b = some (.lst ys) ∧ l ≠ b ∧ xs.length + ys.length ≤ sizeLine ∧ Q σ (upd H1 l (.lst ys))
set_option maxHeartbeats 4000000 in
theorem pg_all {o : Expr} {to : TE} {p2 pos : Pos} (ho : PE X o to)
    (ha : ∀ v, assign (.Subscript o (.Slice none none none p2) pos) X.env v = (do
      let ov ← holding [v] (eval o X.env)
      let iv ← holding [v, ov] (eval (.Slice none none none p2) X.env)
      standAt pos
      holding [v, ov, iv] (setItem ov iv v)
      release [iv, v, ov] []) := by intro _; rfl) : PG X (.Subscript o (.Slice none none none p2) pos) (gAll to) := by
  refine ⟨fun pins s σ H v u Q I r h => ?_⟩
  rw [ha]
  refine wpAny_bind (wpAny_holding (thn (ho.run pins s σ H _ I h) fun ov s1 ⟨x, H1, I1, r1, l, b, xs, ys, e1, e2, hl, hb, ne, sz, q⟩ => ?_))
  subst e1
  subst e2
  obtain rfl : ov = Value.ref l := r1
  obtain rfl : u = Value.ref b := r
  refine wpAny_bind (wpAny_holding (wpAny_Slice ?_))
  rw [evalPart_none]
  refine wpAny_pure (wpAny_pure (wpAny_pure ?_))
  have I4 : Inv X pins σ H1 { s1 with heap := s1.heap.push { cls := .type "slice", data := .fields #[.none, .none, .none] } } := I1.kept (t' := s1.toks) fun b ob z => Heap.get?_push_of_some _ z
  obtain ⟨zl, its, n, rv, kl, el⟩ := I4.lstM hl
  obtain ⟨zb, its2, n2, rv2, kb, eb⟩ := I4.lstM hb
  refine wpAny_bind (wpAny_standAt (wpAny_bind (wpAny_holding ?_)))
  refine store_all el eb ne (Heap.IsSliceOf.new ..) (by rw [List.size_toArray, List.size_toArray]; omega) ?_
  refine wpAny_release ⟨σ, _, ?_, q⟩
  refine I4.lset (its' := its2) (t' := s1.toks) hl el ?_ rv2 (by omega)
  rw [List.size_toArray]
  simp
end
end SlA
/-! ==, !=, len, str, repr of an instance of the program's own class, by its own def -/
namespace Own
open PySem PySem.Spec PyProof.Rows L2
section
variable {X : Cx} {K : PySem.W.Frag} {pins : List (Addr × Obj)} {s : Shared} {σ : L2.St} {H : Hp} {CX : CXT} {C f : Addr} {fd : FuncData} {ps : List Str} {sp : Sp} {E : XK} {n : Nat}
/-- the def at f is run on us, somewhere below the running body -/
theorem run_own {A : Around} {vs : List V} {us : List Value} {Q : VK} (F : FnOk X.prog X.w X.K X.mg X.base CX n f fd ps sp) (hb : Binds X.K fd ps []) (hx : Passes CX X E) (sb : Sub X n A) (I : Inv X pins σ H s) (r : Vals vs us) (h : sp vs H Q E) :
    wpAny (model X.prog X.w) A (call (.ref f) us) (EP X pins σ Q) X.xe s := by
  have e0 : Env0 X.prog X.w X.K X.mg X.base A X.stack s H := by
    have e := I.env0
    exact ⟨by rw [sb.fr]; exact e.frames, e.mod, e.bs, e.bsz, e.funs, e.frf, e.hok, e.bare⟩
  have hl := F.len _ _ _ _ h
  have hl2 := r.length
  refine wpAny_call (codeAny_mono (F.run A X.stack s H ⟨us, []⟩ us vs _ E sb.room e0 (by
    have z := hb s us I.kIn (by simp; omega)
    simpa using z) r h) fun q s' hq => ?_)
  cases q with
  | error e => exact hx pins σ H s e s' I hq
  | ok fl =>
    cases fl with
    | ret w => exact I.after hq
    | next => exact False.elim hq
    | brk => exact False.elim hq
    | cont => exact False.elim hq
/-- len(o) -/
def rLenO (C : Addr) (sp : Sp) (E : XK) : List V → Hp → VK → Prop := fun xs H Q => ∃ a dx fs, xs = [.ref a] ∧ H a = some (.ins C dx fs) ∧ sp [.ref a] H (fun v H' => ∃ i : Int, v = .int i ∧ (0 ≤ i ∧ i < 2 ^ 63) ∧ Q (.int i) H') E
theorem cr_lenO (F : FnOk X.prog X.w X.K X.mg X.base CX n f fd ps sp) (m : Meth X.K C "__len__" f) (hb : Binds X.K fd ps []) (hx : Passes CX X E) (hr : Room (n + 1) X.A) : CallR X (.builtin "len") (rLenO C sp E) := by
  intro pins s σ H xs us Q I r h
  obtain ⟨a, dx, fs, rfl, ha, h⟩ := h
  cases r with
  | cons r1 rr =>
    cases rr
    cases r1
    obtain ⟨mA, J, _⟩ := ins_get I.hok ha
    obtain ⟨od, J, _⟩ := J.look
    obtain ⟨mm, hF⟩ := I.fr
    refine PySem.W.len_K hF I.ok.mod.kin J m.at_ m.fn (wpAny_mono (run_own F hb hx ⟨hr.in1, rfl⟩ I (vs := [.ref a]) (.cons rfl .nil) h) (fun v s' q => ?_) fun _ _ z => z)
    obtain ⟨z, H', I', rz, i, rfl, hi, q⟩ := q
    obtain ⟨t, rfl⟩ := rz
    exact ⟨hi, .int i, H', I'.tok _, ⟨_, rfl⟩, q⟩
/-- repr(o), str(o) -/
def rStrO (C : Addr) (sp : Sp) (E : XK) : List V → Hp → VK → Prop := fun xs H Q => ∃ a dx fs, xs = [.ref a] ∧ H a = some (.ins C dx fs) ∧ sp [.ref a] H (fun v H' => ∃ z : Str, v = .str z ∧ Q (.str z) H') E
theorem cr_reprO (F : FnOk X.prog X.w X.K X.mg X.base CX n f fd ps sp) (m : Meth X.K C "__repr__" f) (hb : Binds X.K fd ps []) (hx : Passes CX X E) (hr : Room (n + 1) X.A) : CallR X (.builtin "repr") (rStrO C sp E) := by
  intro pins s σ H xs us Q I r h
  obtain ⟨a, dx, fs, rfl, ha, h⟩ := h
  cases r with
  | cons r1 rr =>
    cases rr
    cases r1
    obtain ⟨mA, J, _⟩ := ins_get I.hok ha
    obtain ⟨od, J, _⟩ := J.look
    obtain ⟨mm, hF⟩ := I.fr
    refine PySem.W.repr_K hr.in1.units0 hF I.ok.mod.kin J m.at_ m.fn (wpAny_mono (run_own F hb hx ⟨hr.in1, rfl⟩ I (vs := [.ref a]) (.cons rfl .nil) h) (fun v s' q => ?_) fun _ _ z => z)
    obtain ⟨z, H', I', rz, y, rfl, q⟩ := q
    obtain ⟨t, rfl⟩ := rz
    exact ⟨.str y, H', I', ⟨_, rfl⟩, q⟩
theorem cr_strO (F : FnOk X.prog X.w X.K X.mg X.base CX n f fd ps sp) (m : Meth X.K C "__str__" f) (hb : Binds X.K fd ps []) (hx : Passes CX X E) (hr : Room (n + 2) X.A) : CallR X (.type "str") (rStrO C sp E) := by
  intro pins s σ H xs us Q I r h
  obtain ⟨a, dx, fs, rfl, ha, h⟩ := h
  cases r with
  | cons r1 rr =>
    cases rr
    cases r1
    obtain ⟨mA, J, _⟩ := ins_get I.hok ha
    obtain ⟨od, J, _⟩ := J.look
    refine PySem.W.kso_call hr.in1.in1.units0 I.kIn J m.at_ m.fn (wpAny_mono (run_own F hb hx ⟨hr.in1.in1, rfl⟩ I (vs := [.ref a]) (.cons rfl .nil) h) (fun v s' q => ?_) fun _ _ z => z)
    obtain ⟨z, H', I', rz, y, rfl, q⟩ := q
    obtain ⟨t, rfl⟩ := rz
    exact ⟨.str y, H', I', ⟨_, rfl⟩, q⟩
/-- x == y by x's own def: y is an instance of the same class, or of a type that doesn't go first -/
def OthK (K : PySem.W.Frag) (C : Addr) (H : Hp) (y : V) : Prop := (∃ b dy gs, y = .ref b ∧ H b = some (.ins C dy gs)) ∨ ∃ T, TyX K H y (.type T) ∧ PySem.W.notFirst K C (.type T) = true
def rEqO (K : PySem.W.Frag) (C : Addr) (sp : Sp) (E : XK) : R2 := fun x y H Q => ∃ a dx fs, x = .ref a ∧ H a = some (.ins C dx fs) ∧ OthK K C H y ∧ sp [x, y] H (fun v H' => ∃ b : Bool, v = .bl b ∧ Q (.bl b) H') E
theorem oth_looks {y : V} {u : Value} (I : Inv X pins σ H s) (ry : RelV y u) (h : OthK X.K C H y) : ∃ tb, PySem.W.Looks (model X.prog X.w) s.heap (typeOf u) tb ∧ PySem.W.notFirst X.K C tb = true := by
  rcases h with ⟨b, dy, gs, rfl, hb⟩ | ⟨T, ty, nf⟩
  · cases ry
    obtain ⟨mB, J, _⟩ := ins_get I.hok hb
    obtain ⟨od, J, _⟩ := J.look
    exact ⟨_, J.type, by simp [PySem.W.notFirst]⟩
  · obtain ⟨P, Z, p, _⟩ := kit_of I ry ty
    exact ⟨_, Z.ty _ _ I.kIn p, nf⟩
theorem op_eqO (F : FnOk X.prog X.w X.K X.mg X.base CX n f fd ps sp) (m : Meth X.K C "__eq__" f) (hb : Binds X.K fd ps []) (hx : Passes CX X E) (hr : Room n X.A) (hK : X.K = K) : OpR X (compareOp .Eq) (rEqO K C sp E) := by
  subst hK
  intro pins s σ H x y v u Q I rx ry h
  obtain ⟨a, dx, fs, rfl, ha, ho, h⟩ := h
  cases rx
  obtain ⟨mA, J, _⟩ := ins_get I.hok ha
  obtain ⟨od, J, _⟩ := J.look
  obtain ⟨mm, hF⟩ := I.fr
  obtain ⟨tb, ht, hn⟩ := oth_looks I ry ho
  show wpAny (model X.prog X.w) X.A (richCompare .Eq (.ref a) u) (EP X pins σ Q) X.xe s
  refine PySem.W.cmp_K (op := .Eq) hr.units0 hF I.ok.mod.kin J ht hn m.at_ m.fn (wpAny_mono (run_own F hb hx ⟨hr, rfl⟩ I (vs := [.ref a, y]) (.cons rfl (.cons ry .nil)) h) (fun v s' q => ?_) fun _ _ z => z)
  obtain ⟨z, H', I', rz, b, rfl, q⟩ := q
  cases rz
  exact ⟨.bl b, H', I', rfl, q⟩
section
variable {M : Model} {prog : Program} {w : World} {A : Around} {E : Value → Shared → Prop} {s : Shared} {x : Addr} {ox : Obj} {od : Option Obj}
theorem ifBound_ne {args : List Value} {Q : Option Value → Shared → Prop} (Z : K.In s.heap) (I : PySem.W.InstAt s.heap x ox C od) (hs : PySem.W.findIn K (.ref C) "__ne__" = some (some (.builtin "object.__ne__")))
    (h : wpAny M A (call (.builtin "object.__ne__") (.ref x :: args)) (fun v => Q (some v)) E s) : wpAny M A (callSpecialIfBound? (.ref x) "__ne__" args) Q E s := by
  have fin : wpAny M A (call (.builtin "object.__ne__") ([.ref x] ++ args) >>= fun v => pure (some v)) Q E s := wpAny_bind (wpAny_mono h (fun v s' z => wpAny_pure z) fun _ _ z => z)
  simp only [callSpecialIfBound?, bindSpecialIfBound?]
  refine wpAny_holding (wpAny_bind (wpAny_bind (wpAny_bind (I.type.here ((PySem.W.looks_findIn Z hs).here (wpAny_bind (wpAny_askSetting (wpAny_ite ?_))))))))
  split
  · exact wpAny_bind (wpAny_of_eq (F.cmp_object.ne.bind _) (wpAny_pure fin))
  · exact wpAny_tryCatch (wpAny_bind (wpAny_of_eq (F.cmp_object.ne.bind _) (wpAny_pure fin)))
theorem call_ne {u : Value} {f : Addr} {Q : Value → Shared → Prop} (hu : A.in1.units < cLine) (Z : K.In s.heap) (I : PySem.W.InstAt s.heap x ox C od) (hm : PySem.W.mroIn K C (.type "object") = some true) (hs : PySem.W.findIn K (.ref C) "__eq__" = some (some (.ref f))) (hf : PySem.W.isFn K (.ref f) = true)
    (h : wpAny (model prog w) A.in1 (call (.ref f) [.ref x, u]) (fun v s' => ∃ b, v = .bool b ∧ Q (.bool (!b)) s') E s) : wpAny (model prog w) A (call (.builtin "object.__ne__") [.ref x, u]) Q E s := by
  refine wpAny_call (codeAny_call_builtin F.cmp_object.ne.plain F.cmpEntry_ne (PySem.W.check_slot F.cmpKind_ne F.cmpSplit_ne (I.type.andThen (PySem.W.looks_mroIn Z hm)) (F.cmpArgs_ne _ _) ?_))
  unfold Builtin.«object.__ne__»
  refine wpAny_bind (m := slotArgs "__ne__" 1 _) (wpAny_pure ?_)
  refine wpAny_bind (wpAny_cRoomFor hu ?_)
  refine wpAny_bind (m := callSpecialIfBound? (.ref x) (Str.ofString "__eq__") _) (PySem.W.ifBound_K Z I hs hf (wpAny_mono h (fun v s' z => ?_) fun _ _ z => z))
  obtain ⟨b, rfl, q⟩ := z
  exact wpAny_bind (wpAny_truthy_bool (wpAny_pure q))
end
/-- x != y by x's own == -/
def rNeO (K : PySem.W.Frag) (C : Addr) (sp : Sp) (E : XK) : R2 := fun x y H Q => ∃ a dx fs, x = .ref a ∧ H a = some (.ins C dx fs) ∧ OthK K C H y ∧ sp [x, y] H (fun v H' => ∃ b : Bool, v = .bl b ∧ Q (.bl (!b)) H') E
theorem op_neO (F : FnOk X.prog X.w X.K X.mg X.base CX n f fd ps sp) (m : Meth X.K C "__eq__" f) (hb : Binds X.K fd ps []) (hx : Passes CX X E) (hr : Room (n + 1) X.A) (hne : PySem.W.findIn X.K (.ref C) "__ne__" = some (some (.builtin "object.__ne__"))) (hm : PySem.W.mroIn X.K C (.type "object") = some true) (hK : X.K = K) : OpR X (compareOp .NotEq) (rNeO K C sp E) := by
  subst hK
  intro pins s σ H x y v u Q I rx ry h
  obtain ⟨a, dx, fs, rfl, ha, ho, h⟩ := h
  cases rx
  obtain ⟨mA, J, _⟩ := ins_get I.hok ha
  obtain ⟨od, J, _⟩ := J.look
  obtain ⟨tb, ht, hn⟩ := oth_looks I ry ho
  have one : wpAny (model X.prog X.w) X.A (tryCompare (.ref a) "__ne__" u) (fun r s' => ∃ v, r = some v ∧ EP X pins σ Q v s') X.xe s := by
    unfold tryCompare
    refine wpAny_bind (ifBound_ne I.kIn J hne (call_ne hr.in1.units0 I.kIn J hm m.at_ m.fn (wpAny_mono (run_own F hb hx ⟨hr.in1, rfl⟩ I (vs := [.ref a, y]) (.cons rfl (.cons ry .nil)) h) (fun v s' q => ?_) fun _ _ z => z)))
    obtain ⟨z, H', I', rz, b, rfl, q⟩ := q
    cases rz
    exact ⟨b, rfl, wpAny_pure ⟨_, rfl, .bl (!b), H', I', rfl, q⟩⟩
  show wpAny (model X.prog X.w) X.A (richCompare .NotEq (.ref a) u) (EP X pins σ Q) X.xe s
  unfold richCompare
  simp only [oneThing_ref]
  refine wpAny_holding (wpAny_bind (wpAny_cRoomFor hr.units0 (wpAny_bind (J.type.here (wpAny_bind (ht.here ?_))))))
  split
  · rename_i q
    have e : PySem.W.subIn X.K tb (.ref C) = some false := by
      rcases Bool.or_eq_true_iff.mp hn with e | e
      · rw [beq_iff_eq.mp e] at q; simp at q
      · exact beq_iff_eq.mp e
    refine wpAny_bind ((PySem.W.looks_subIn I.kIn e).here ?_)
    simp only [Bool.false_eq_true, if_false]
    refine wpAny_bind (wpAny_mono one (fun r s' z => ?_) fun _ _ e => e)
    obtain ⟨v, rfl, hq⟩ := z
    exact wpAny_pure hq
  · refine wpAny_bind (wpAny_pure ?_)
    simp only [Bool.false_eq_true, if_false]
    refine wpAny_bind (wpAny_mono one (fun r s' z => ?_) fun _ _ e => e)
    obtain ⟨v, rfl, hq⟩ := z
    exact wpAny_pure hq
/-- a built-in type doesn't go first -/
theorem nf {T : String} {ts : List Value} (e : fastBuiltinMro T = some ts) (h : ts.all (fun t => match t with | .type _ => true | _ => false) = true) : PySem.W.notFirst K C (.type T) = true := by
  have z : PySem.W.subIn K (.type T) (.ref C) = some false := by
    show (fastBuiltinMro T).map (·.contains (.ref C)) = some false
    rw [e]
    refine congrArg some (Bool.eq_false_iff.mpr fun q => ?_)
    have := List.all_eq_true.mp h _ (List.contains_iff_mem.mp q)
    exact absurd this (by simp)
  unfold PySem.W.notFirst
  rw [z]
  simp
end
end Own
/-! x in a list, list == list: items with a == of their own, any answer, that keeps all objects -/
namespace OwnS
open PySem PySem.Spec PyProof.Rows L2
open AutoSeq1 (wpAny_loadPart')
open MeetsSeq MeetsSeq2 MeetsSeq3 SeqRoads2
/-- all of e from i on, k of them -/
def al (e : Nat → Bool) : Nat → Nat → Bool
  | _, 0 => true
  | i, k + 1 => e i && al e (i + 1) k
def an (e : Nat → Bool) : Nat → Nat → Bool
  | _, 0 => false
  | i, k + 1 => e i || an e (i + 1) k
section
variable {prog : Program} {w : World} {A : Around} {R : Result → Shared → Prop}
def ListB (prog : Program) (w : World) (A : Around) (E : Value → Shared → Prop) (l b : Addr) (N : Nat) (e : Nat → Bool) (I : Shared → Prop) : Prop :=
  ∀ s, I s → ∃ (items items2 : Array Value) (n n2 : Nat), s.heap.get? l = some { cls := .type "list", data := .seq items n } ∧ s.heap.get? b = some { cls := .type "list", data := .seq items2 n2 } ∧ items.size = N ∧ items2.size = N ∧
    ∀ i (h1 : i < items.size) (h2 : i < items2.size), wpAny (model prog w) A.in1 (eqBool items[i] items2[i]) (fun r s' => r = e i ∧ I s') E s
theorem eq_loopB (l b : Addr) (N : Nat) (e : Nat → Bool) (I : Shared → Prop) (hl : ListB prog w A (fun e s' => R (.error e) s') l b N e I) (k : Nat) :
    ∀ i : Nat, N - i = k → i ≤ N → (∀ s, I s → R (.ok (.ret (.bool (al e i k)))) s) → ∀ s, I s →
      wpAny (model prog w) A.in1 (Builtin.«list.__eq__.loop» ⟨[.ref l, .ref b, rawInt i, rawInt 2], []⟩) (GQ.FinOf prog w A R) (fun e s' => R (.error e) s') s := by
  induction k with
  | zero =>
    intro i hk hi fin s h
    obtain ⟨items, items2, n, n2, hl1, hb1, hs1, hs2, _⟩ := hl _ h
    have hi' : i = N := by omega
    have hR : R (.ok (.ret (.bool true))) s := fin s h
    obtain ⟨hp, g, d, tk, os⟩ := s
    wp_walk using wpAny_loadPart' hl1, wpAny_loadPart' hb1
    have hi1 : items[((i : Nat) : Int).toNat]? = none := by simp; omega
    have hi2 : items2[((i : Nat) : Int).toNat]? = none := by simp; omega
    rw [hi1, hi2]
    wp_walk using wpAny_loadPart' hl1, wpAny_loadPart' hb1
    show R (.ok (.ret (.bool (items.size == items2.size)))) _
    rw [hs1, hs2]
    simpa using hR
  | succ k ih =>
    intro i hk hi fin s h
    obtain ⟨items, items2, n, n2, hl1, hb1, hs1, hs2, turn⟩ := hl _ h
    have hlt : i < items.size := by omega
    have hlt2 : i < items2.size := by omega
    have ht := turn i hlt hlt2
    obtain ⟨hp, g, d, tk, os⟩ := s
    wp_walk using wpAny_loadPart' hl1, wpAny_loadPart' hb1
    have hi1 : items[((i : Nat) : Int).toNat]? = some items[i] := by simp [hlt]
    have hi2 : items2[((i : Nat) : Int).toNat]? = some items2[i] := by simp [hlt2]
    have hc : ((i : Int) + 1) = ((i + 1 : Nat) : Int) := by omega
    rw [hi1, hi2]
    refine wpAny_bind (wpAny_mono ht (fun r s2 h2 => ?_) fun _ _ x => x)
    obtain ⟨hr, h2⟩ := h2
    subst hr
    cases he : e i with
    | true =>
      have hrec := ih (i + 1) (by omega) (by omega) (fun s hs => by have := fin s hs; rwa [al, he, Bool.true_and] at this) s2 h2
      obtain ⟨hp2, g2, d2, tk2, os2⟩ := s2
      wp_walk
      rw [hc]
      exact ⟨plainId_quiet plain_eq_loop _, codeAny_builtin entry_eq_loop (by
        rw [Around.under_plainId plain_eq_loop _]
        exact hrec)⟩
    | false =>
      have hR := fin s2 h2
      rw [al, he, Bool.false_and] at hR
      obtain ⟨itemsB, items2B, nB, n2B, hl1B, hb1B, hs1B, hs2B, _⟩ := hl _ h2
      obtain ⟨hp2, g2, d2, tk2, os2⟩ := s2
      wp_walk using wpAny_loadPart' hl1B, wpAny_loadPart' hb1B
      have hi1B : itemsB[((i : Nat) : Int).toNat]? = some (itemsB[i]'(by omega)) := by simp
      have hi2B : items2B[((i : Nat) : Int).toNat]? = some (items2B[i]'(by omega)) := by simp
      rw [hi1B, hi2B]
      wp_walk
      exact hR
theorem list_eqB (l b : Addr) (N : Nat) (e : Nat → Bool) (I : Shared → Prop) (hl : ListB prog w A (fun e s' => R (.error e) s') l b N e I)
    (fin : ∀ s, I s → R (.ok (.ret (.bool (al e 0 N)))) s) {s : Shared} (h : I s) :
    wpAny (model prog w) A.in1 (Builtin.«list.__eq__» ⟨[.ref l, .ref b], []⟩) (GQ.FinOf prog w A R) (fun e s' => R (.error e) s') s := by
  obtain ⟨items, items2, n, n2, hl1, hb1, hs1, hs2, _⟩ := hl _ h
  have hrec := eq_loopB (A := A) (R := R) l b N e I hl N 0 (by omega) (Nat.zero_le _) fin s h
  obtain ⟨hp, g, d, tk, os⟩ := s
  have f3 := AutoSeq1.sub_list_list
  have hne : ¬ (items.size != items2.size) = true := by simp [hs1, hs2]
  wp_walk using wpAny_loadPart' hl1, wpAny_loadPart' hb1
  exact ⟨plainId_quiet plain_eq_loop _, codeAny_builtin entry_eq_loop (by
    rw [Around.under_plainId plain_eq_loop _]
    exact hrec)⟩
/-- x is sought in the list -/
def SeekB (prog : Program) (w : World) (A : Around) (E : Value → Shared → Prop) (l : Addr) (x : Value) (N : Nat) (e : Nat → Bool) (I : Shared → Prop) : Prop :=
  ∀ s, I s → ∃ (items : Array Value) (n : Nat), s.heap.get? l = some { cls := .type "list", data := .seq items n } ∧ items.size = N ∧
    ∀ i (h1 : i < items.size), wpAny (model prog w) A.in1 (eqBool items[i] x) (fun r s' => r = e i ∧ I s') E s
theorem in_loopB (l : Addr) (x : Value) (N : Nat) (e : Nat → Bool) (I : Shared → Prop) (hl : SeekB prog w A (fun e s' => R (.error e) s') l x N e I) (k : Nat) :
    ∀ i : Nat, N - i = k → i ≤ N → (∀ s, I s → R (.ok (.ret (.bool (an e i k)))) s) → ∀ s, I s →
      wpAny (model prog w) A.in1 (Builtin.«list.__contains__.loop» ⟨[.ref l, x, rawInt i], []⟩) (GQ.FinOf prog w A R) (fun e s' => R (.error e) s') s := by
  induction k with
  | zero =>
    intro i hk hi fin s h
    obtain ⟨items, n, hl1, hs1, _⟩ := hl _ h
    have hR : R (.ok (.ret (.bool false))) s := fin s h
    obtain ⟨hp, g, d, tk, os⟩ := s
    wp_walk using wpAny_loadPart' hl1
    have hi1 : items[((i : Nat) : Int).toNat]? = none := by simp; omega
    rw [hi1]
    wp_walk
    exact hR
  | succ k ih =>
    intro i hk hi fin s h
    obtain ⟨items, n, hl1, hs1, turn⟩ := hl _ h
    have hlt : i < items.size := by omega
    have ht := turn i hlt
    obtain ⟨hp, g, d, tk, os⟩ := s
    wp_walk using wpAny_loadPart' hl1
    have hi1 : items[((i : Nat) : Int).toNat]? = some items[i] := by simp [hlt]
    have hc : ((i : Int) + 1) = ((i + 1 : Nat) : Int) := by omega
    rw [hi1]
    refine wpAny_bind (wpAny_mono ht (fun r s2 h2 => ?_) fun _ _ x => x)
    obtain ⟨hr, h2⟩ := h2
    subst hr
    cases he : e i with
    | false =>
      have hrec := ih (i + 1) (by omega) (by omega) (fun s hs => by have := fin s hs; rwa [an, he, Bool.false_or] at this) s2 h2
      obtain ⟨hp2, g2, d2, tk2, os2⟩ := s2
      wp_walk
      rw [hc]
      exact ⟨plainId_quiet plain_contains_loop _, codeAny_builtin entry_contains_loop (by
        rw [Around.under_plainId plain_contains_loop _]
        exact hrec)⟩
    | true =>
      have hR := fin s2 h2
      rw [an, he, Bool.true_or] at hR
      obtain ⟨hp2, g2, d2, tk2, os2⟩ := s2
      wp_walk
      exact hR
theorem list_inB (l : Addr) (x : Value) (N : Nat) (e : Nat → Bool) (I : Shared → Prop) (hl : SeekB prog w A (fun e s' => R (.error e) s') l x N e I)
    (fin : ∀ s, I s → R (.ok (.ret (.bool (an e 0 N)))) s) {s : Shared} (h : I s) :
    wpAny (model prog w) A.in1 (Builtin.«list.__contains__» ⟨[.ref l, x], []⟩) (GQ.FinOf prog w A R) (fun e s' => R (.error e) s') s := by
  obtain ⟨items, n, hl1, hs1, _⟩ := hl _ h
  have hrec := in_loopB (A := A) (R := R) l x N e I hl N 0 (by omega) (Nat.zero_le _) fin s h
  obtain ⟨hp, g, d, tk, os⟩ := s
  wp_walk using wpAny_loadPart' hl1
  exact ⟨plainId_quiet plain_contains_loop _, codeAny_builtin entry_contains_loop (by
    rw [Around.under_plainId plain_contains_loop _]
    exact hrec)⟩
end
section
variable {prog : Program} {w : World} {A : Around} {E : Value → Shared → Prop} {s : Shared}
theorem rc_listB {l b : Addr} {N : Nat} {e : Nat → Bool} {Q : Value → Shared → Prop} (hu : A.units < cLine) (I : Shared → Prop) (hl : ListB prog w A E l b N e I)
    (fin : ∀ s, I s → Q (.bool (al e 0 N)) s) (h : I s) : wpAny (model prog w) A (richCompare .Eq (.ref l) (.ref b)) Q E s := by
  obtain ⟨items, items2, n, n2, hl1, hb1, _, _, _⟩ := hl _ h
  refine wpAny_richCompare_same_room (op := .Eq) ⟨_, hl1, rfl⟩ ⟨_, hb1, rfl⟩ F.slot_list_eq (GQ.call_here F.slot_list_eq ⟨_, hl1, rfl⟩ F.entry_list_eq (F.args_list_eq_2 _ _) ?_) hu
  exact list_eqB (R := wants (fun v s' => v ≠ .notImplemented ∧ Q v s') E) l b N e I hl (fun s' q => ⟨(fun x => nomatch x), fin s' q⟩) h
theorem in_listB {l : Addr} {x : Value} {N : Nat} {e : Nat → Bool} {Q : Value → Shared → Prop} (I : Shared → Prop) (hl : SeekB prog w A E l x N e I)
    (fin : ∀ s, I s → Q (.bool (an e 0 N)) s) (h : I s) : wpAny (model prog w) A (compareOp .In x (.ref l)) Q E s := by
  obtain ⟨items, n, hl1, _, _⟩ := hl _ h
  show wpAny _ A (do return .bool (← contains (.ref l) x)) Q E s
  refine wpAny_bind (wpAny_contains_slot ⟨_, hl1, rfl⟩ F.slot_list_contains (wpAny_mono (GQ.call_here (Q := fun v s' => ∃ b, v = .bool b ∧ Q (.bool b) s') F.slot_list_contains ⟨_, hl1, rfl⟩ F.entry_list_contains (F.args_list_contains_2 _ _) ?_) (fun v s' hv => ?_) fun _ _ e => e))
  · exact list_inB (R := wants (fun v s' => ∃ b, v = .bool b ∧ Q (.bool b) s') E) l x N e I hl (fun s' q => ⟨_, rfl, fin s' q⟩) h
  · obtain ⟨b, rfl, hq⟩ := hv
    exact wpAny_truthy_bool (wpAny_pure hq)
end
section
variable {X : Cx} {K : PySem.W.Frag} {CX : CXT} {C f : Addr} {fd : FuncData} {ps : List Str} {E : XK} {n : Nat} {R : Addr → Addr → Bool → Hp → Prop}
/-- what the own == promises: the answer that R tells, all objects kept; the same object is equal to itself -/
def spB (R : Addr → Addr → Bool → Hp → Prop) : Sp := fun vs H Q _ => ∃ a b r, vs = [.ref a, .ref b] ∧ R a b r H ∧ Q (.bl r) H
/-- two instances, and the answer -/
def DB (C : Addr) (R : Addr → Addr → Bool → Hp → Prop) (H : Hp) (x y : V) (r : Bool) : Prop := ∃ a b dx dy fs gs, x = .ref a ∧ y = .ref b ∧ H a = some (.ins C dx fs) ∧ H b = some (.ins C dy gs) ∧ R a b r H ∧ (a = b → r = true)
theorem eqB {pins : List (Addr × Obj)} {σ : L2.St} {H : Hp} {s : Shared} {A : Around} {x y : V} {u v : Value} {r : Bool} {sp : Sp} (hsp : ∀ a b r Q E, R a b r H → Q (.bl r) H → sp [.ref a, .ref b] H Q E) (F : FnOk X.prog X.w X.K X.mg X.base CX n f fd ps sp) (m : Meth X.K C "__eq__" f) (hb : Binds X.K fd ps []) (hx : Passes CX X E) (sb : Sub X n A)
    (I : Inv X pins σ H s) (rx : RelV x u) (ry : RelV y v) (d : DB C R H x y r) : wpAny (model X.prog X.w) A (eqBool u v) (fun z s' => z = r ∧ Inv X pins σ H s') X.xe s := by
  obtain ⟨a, b, dx, dy, fs, gs, rfl, rfl, ha, hb', hr, hs⟩ := d
  cases rx
  cases ry
  by_cases hab : a = b
  · subst hab
    exact SeqAt.EqAt.same (A := A) (s := s) (.ref a) X.prog X.w X.xe _ ⟨(hs rfl).symm, I⟩
  · obtain ⟨mA, J, _⟩ := ins_get I.hok ha
    obtain ⟨mB, J', _⟩ := ins_get I.hok hb'
    obtain ⟨od, J, _⟩ := J.look
    obtain ⟨od', J', _⟩ := J'.look
    obtain ⟨mm, hF⟩ := I.fr
    refine GQ.eqBool_refG hab ?_
    refine PySem.W.cmp_K (op := .Eq) (tb := .ref C) sb.room.units0 hF I.ok.mod.kin J J'.type (by simp [PySem.W.notFirst]) m.at_ m.fn (wpAny_mono (Own.run_own (Q := fun z H' => z = .bl r ∧ H' = H) F hb hx sb I (vs := [.ref a, .ref b]) (.cons rfl (.cons rfl .nil)) (hsp a b r _ E hr ⟨rfl, rfl⟩)) (fun v s' q => ?_) fun _ _ z => z)
    obtain ⟨z, H', I', rz, rfl, rfl⟩ := q
    cases rz
    exact ⟨r, rfl, rfl, I'⟩
/-- [x, ..] == [y, ..] -/
def rEqB (C : Addr) (R : Addr → Addr → Bool → Hp → Prop) : R2 := fun x y H Q => ∃ (a b : Addr) (xs ys : List V) (e : Nat → Bool), x = .ref a ∧ y = .ref b ∧ H a = some (.lst xs) ∧ H b = some (.lst ys) ∧ xs.length = ys.length ∧ (∀ (i : Nat) p q, xs[i]? = some p → ys[i]? = some q → DB C R H p q (e i)) ∧ Q (.bl (al e 0 xs.length)) H
def rInB (C : Addr) (R : Addr → Addr → Bool → Hp → Prop) : R2 := fun x y H Q => ∃ (b : Addr) (ys : List V) (e : Nat → Bool), y = .ref b ∧ H b = some (.lst ys) ∧ (∀ (i : Nat) q, ys[i]? = some q → DB C R H q x (e i)) ∧ Q (.bl (an e 0 ys.length)) H
theorem op_eqB {sp : Sp} (hsp : ∀ H a b r Q E, R a b r H → Q (.bl r) H → sp [.ref a, .ref b] H Q E) (F : FnOk X.prog X.w X.K X.mg X.base CX n f fd ps sp) (m : Meth X.K C "__eq__" f) (hb : Binds X.K fd ps []) (hx : Passes CX X E) (hr : Room (n + 1) X.A) : OpR X (compareOp .Eq) (rEqB C R) := by
  intro pins s σ H x y v u Q I rx ry h
  obtain ⟨a, b, xs, ys, e, rfl, rfl, ha, hb', hl, hd, q⟩ := h
  cases rx
  cases ry
  show wpAny (model X.prog X.w) X.A (richCompare .Eq (.ref a) (.ref b)) (EP X pins σ Q) X.xe s
  refine rc_listB (N := xs.length) (e := e) hr.units0 (fun s' => Inv X pins σ H s') (fun s' I' => ?_) (fun s' I' => ⟨.bl _, H, I', rfl, q⟩) I
  obtain ⟨z, its, k, r, h1⟩ := I'.hok a _ ha
  obtain ⟨z2, its2, k2, r2, h2⟩ := I'.hok b _ hb'
  refine ⟨its.toArray, its2.toArray, k, k2, h1, h2, by rw [List.size_toArray, ← r.length], by rw [List.size_toArray, ← r2.length, ← hl], fun i l1 l2 => ?_⟩
  have g1 : its[i]? = some its.toArray[i] := by
    have h1' : i < its.length := by simpa using l1
    rw [List.getElem?_eq_getElem h1'] <;> simp
  have g2 : its2[i]? = some its2.toArray[i] := by
    have h2' : i < its2.length := by simpa using l2
    rw [List.getElem?_eq_getElem h2'] <;> simp
  have k1 : i < xs.length := by rw [r.length]; simpa using l1
  have k2 : i < ys.length := by rw [r2.length]; simpa using l2
  obtain ⟨u, hu, ru⟩ := r.get (List.getElem?_eq_getElem k1)
  obtain ⟨v, hv, rv⟩ := r2.get (List.getElem?_eq_getElem k2)
  rw [g1] at hu
  rw [g2] at hv
  rw [Option.some.inj hu, Option.some.inj hv]
  exact eqB (hsp H) F m hb hx ⟨hr.in1, rfl⟩ I' ru rv (hd i _ _ (List.getElem?_eq_getElem k1) (List.getElem?_eq_getElem k2))
theorem op_inB {sp : Sp} (hsp : ∀ H a b r Q E, R a b r H → Q (.bl r) H → sp [.ref a, .ref b] H Q E) (F : FnOk X.prog X.w X.K X.mg X.base CX n f fd ps sp) (m : Meth X.K C "__eq__" f) (hb : Binds X.K fd ps []) (hx : Passes CX X E) (hr : Room (n + 1) X.A) : OpR X (compareOp .In) (rInB C R) := by
  intro pins s σ H x y v u Q I rx ry h
  obtain ⟨b, ys, e, rfl, hb', hd, q⟩ := h
  cases ry
  refine in_listB (N := ys.length) (e := e) (fun s' => Inv X pins σ H s') (fun s' I' => ?_) (fun s' I' => ⟨.bl _, H, I', rfl, q⟩) I
  obtain ⟨z2, its2, k2, r2, h2⟩ := I'.hok b _ hb'
  refine ⟨its2.toArray, k2, h2, by rw [List.size_toArray, ← r2.length], fun i l2 => ?_⟩
  have g2 : its2[i]? = some its2.toArray[i] := by
    have h2' : i < its2.length := by simpa using l2
    rw [List.getElem?_eq_getElem h2'] <;> simp
  have k2 : i < ys.length := by rw [r2.length]; simpa using l2
  obtain ⟨v, hv, rv⟩ := r2.get (List.getElem?_eq_getElem k2)
  rw [g2] at hv
  rw [Option.some.inj hv]
  exact eqB (hsp H) F m hb hx ⟨hr.in1, rfl⟩ I' rv rx (hd i _ (List.getElem?_eq_getElem k2))
end
end OwnS
/-! tuple == tuple: items with a == of their own, any answer; ==, != with an instance of another class on the right; two rules for one operator -/
namespace OwnT
open PySem PySem.Spec PyProof.Rows L2
open AutoSeq1 (wpAny_loadPart')
open MeetsSeq MeetsSeq2 MeetsSeq3 SeqRoads2
section
variable {prog : Program} {w : World} {A : Around} {R : Result → Shared → Prop}
/-- the answer: all of e, and as many on both sides -/
def ans (e : Nat → Bool) (m n : Nat) : Bool := (List.range (min m n)).all e && m == n
theorem tuple_eqB (l b : Addr) (xs ys : Array Value) (n n2 : Nat) (dd dd2 : Option Addr) (sl sl2 : Array (Option Value)) (e : Nat → Bool) (I : Shared → Prop)
    (he : ∀ s, I s → ∀ j (h1 : j < xs.size) (h2 : j < ys.size), wpAny (model prog w) A.in1 (eqBool xs[j] ys[j]) (fun r s' => r = e j ∧ I s') (fun x s' => R (.error x) s') s)
    (fin : ∀ s, I s → R (.ok (.ret (.bool (ans e xs.size ys.size)))) s) {s : Shared} (hl : s.heap.get? l = some { cls := .type "tuple", dict := dd, data := .seq xs n, slots := sl }) (hb : s.heap.get? b = some { cls := .type "tuple", dict := dd2, data := .seq ys n2, slots := sl2 }) (hI : I s) :
    wpAny (model prog w) A.in1 (Builtin.«tuple.__eq__» ⟨[.ref l, .ref b], []⟩) (GQ.FinOf prog w A R) (fun x s' => R (.error x) s') s := by
  have zl : (xs.toList.zip ys.toList).length = min xs.size ys.size := by simp
  have sub := AutoSeq1.sub_tuple_tuple
  obtain ⟨hp, g, d, tk, os⟩ := s
  wp_walk using wpAny_loadPart' hl, wpAny_loadPart' hb, wpAny_forIn_list _ (fun rest q t => q.1 = none ∧ I t ∧ ∃ i, rest = (xs.toList.zip ys.toList).drop i ∧ ((List.range (min xs.size ys.size)).take i).all e = true) _
  case turn =>
    rintro ⟨u, v⟩ rest q t ⟨hq, hI', i, hz, hR⟩
    have lt : i < (xs.toList.zip ys.toList).length := by
      apply Classical.byContradiction
      intro c
      rw [List.drop_of_length_le (by omega)] at hz
      cases hz
    have lm : i < min xs.size ys.size := by rw [← zl]; exact lt
    have k1 : i < xs.size := by omega
    have k2 : i < ys.size := by omega
    rw [List.drop_eq_getElem_cons lt] at hz
    obtain ⟨huv, hrest⟩ := List.cons.inj hz
    have hu : u = xs[i] := by simpa using congrArg Prod.fst huv
    have hv : v = ys[i] := by simpa using congrArg Prod.snd huv
    subst hu hv
    refine wpAny_bind (wpAny_mono (he t hI' i k1 k2) (fun r t2 h2 => ?_) fun _ _ x => x)
    obtain ⟨hr, hI2⟩ := h2
    subst hr
    have fin2 := fin t2 hI2
    obtain ⟨hp2, g2, d2, tk2, os2⟩ := t2
    cases hei : e i with
    | true =>
      wp_walk
      refine ⟨rfl, hI2, i + 1, hrest, ?_⟩
      have gi : (List.range (min xs.size ys.size))[i]? = some i := by simp [lm]
      rw [List.take_add_one, gi, List.all_append, hR]
      show (true && (e i && true)) = true
      rw [hei]
      rfl
    | false =>
      have no : ans e xs.size ys.size = false := by
        unfold ans
        rw [show (List.range (min xs.size ys.size)).all e = false from List.all_eq_false.mpr ⟨i, List.mem_range.mpr lm, by rw [hei]; decide⟩, Bool.false_and]
      rw [no] at fin2
      wp_walk
      exact fin2
  case fin =>
    rintro ⟨q1, q2⟩ t ⟨hq, hI', i, hz, hR⟩
    simp only at hq
    subst hq
    have ge : min xs.size ys.size ≤ i := by
      apply Classical.byContradiction
      intro c
      have lt : i < (xs.toList.zip ys.toList).length := by rw [zl]; omega
      rw [List.drop_eq_getElem_cons lt] at hz
      cases hz
    have fin2 := fin t hI'
    unfold ans at fin2
    rw [List.take_of_length_le (by rw [List.length_range]; exact ge)] at hR
    rw [hR] at fin2
    obtain ⟨hp2, g2, d2, tk2, os2⟩ := t
    wp_walk
    simpa [Builtin.Tuple.tupleCompareSizes] using fin2
  case h => exact ⟨rfl, hI, 0, rfl, rfl⟩
end
section
variable {prog : Program} {w : World} {A : Around} {E : Value → Shared → Prop} {s : Shared}
theorem rc_tupleB {l b : Addr} {xs ys : Array Value} {e : Nat → Bool} {Q : Value → Shared → Prop} (hu : A.units < cLine) (I : Shared → Prop) (hl : s.heap.IsTuple l xs) (hb : s.heap.IsTuple b ys)
    (he : ∀ s, I s → ∀ j (h1 : j < xs.size) (h2 : j < ys.size), wpAny (model prog w) A.in1 (eqBool xs[j] ys[j]) (fun r s' => r = e j ∧ I s') E s) (fin : ∀ s, I s → Q (.bool (ans e xs.size ys.size)) s) (h : I s) : wpAny (model prog w) A (richCompare .Eq (.ref l) (.ref b)) Q E s := by
  obtain ⟨⟨c1, dd, da, sl⟩, ho, hc, n, hd⟩ := id hl
  obtain ⟨⟨c2, dd2, da2, sl2⟩, ho2, hc2, n2, hd2⟩ := id hb
  simp only at hc hd hc2 hd2
  subst hc hd hc2 hd2
  refine wpAny_richCompare_same_room (op := .Eq) ⟨_, ho, rfl⟩ ⟨_, ho2, rfl⟩ F.slot_tuple_eq (GQ.call_here F.slot_tuple_eq ⟨_, ho, rfl⟩ F.entry_tuple_eq (F.args_tuple_eq_2 _ _) ?_) hu
  exact tuple_eqB (R := wants (fun v s' => v ≠ .notImplemented ∧ Q v s') E) l b xs ys n n2 dd dd2 sl sl2 e I he (fun s' q => ⟨(fun x => nomatch x), fin s' q⟩) ho ho2 h
end
section
variable {X : Cx} {K : PySem.W.Frag} {CX : CXT} {C f : Addr} {fd : FuncData} {ps : List Str} {E : XK} {n : Nat} {R : Addr → Addr → Bool → Hp → Prop}
/-- the own == promises the answer that R tells; it may make objects -/
abbrev Says (R : Addr → Addr → Bool → Hp → Prop) (sp : Sp) : Prop := ∀ H a b r Q E, R a b r H → (∀ H', Evl.Ex H H' → Q (.bl r) H') → sp [.ref a, .ref b] H Q E
abbrev Keeps (R : Addr → Addr → Bool → Hp → Prop) : Prop := ∀ H H' a b r, Evl.Ex H H' → R a b r H → R a b r H'
/-- what is known in between: all objects that were known -/
def Btw (X : Cx) (pins : List (Addr × Obj)) (σ : L2.St) (H : Hp) (s : Shared) : Prop := ∃ H', Evl.Ex H H' ∧ Inv X pins σ H' s
theorem eqX {pins : List (Addr × Obj)} {σ : L2.St} {H : Hp} {s : Shared} {A : Around} {x y : V} {u v : Value} {r : Bool} {sp : Sp} (hsp : Says R sp) (F : FnOk X.prog X.w X.K X.mg X.base CX n f fd ps sp) (m : Meth X.K C "__eq__" f) (hb : Binds X.K fd ps []) (hx : Passes CX X E) (sb : Sub X n A)
    (I : Inv X pins σ H s) (rx : RelV x u) (ry : RelV y v) (d : OwnS.DB C R H x y r) : wpAny (model X.prog X.w) A (eqBool u v) (fun z s' => z = r ∧ Btw X pins σ H s') X.xe s := by
  obtain ⟨a, b, dx, dy, fs, gs, rfl, rfl, ha, hb', hr, hs⟩ := d
  cases rx
  cases ry
  by_cases hab : a = b
  · subst hab
    exact SeqAt.EqAt.same (A := A) (s := s) (.ref a) X.prog X.w X.xe _ ⟨(hs rfl).symm, H, fun _ _ h => h, I⟩
  · obtain ⟨mA, J, _⟩ := ins_get I.hok ha
    obtain ⟨mB, J', _⟩ := ins_get I.hok hb'
    obtain ⟨od, J, _⟩ := J.look
    obtain ⟨od', J', _⟩ := J'.look
    obtain ⟨mm, hF⟩ := I.fr
    refine GQ.eqBool_refG hab ?_
    refine PySem.W.cmp_K (op := .Eq) (tb := .ref C) sb.room.units0 hF I.ok.mod.kin J J'.type (by simp [PySem.W.notFirst]) m.at_ m.fn (wpAny_mono (Own.run_own (Q := fun z H' => z = .bl r ∧ Evl.Ex H H') F hb hx sb I (vs := [.ref a, .ref b]) (.cons rfl (.cons rfl .nil)) (hsp H a b r _ E hr fun H' e => ⟨rfl, e⟩)) (fun v s' q => ?_) fun _ _ z => z)
    obtain ⟨z, H', I', rz, rfl, e⟩ := q
    cases rz
    exact ⟨r, rfl, rfl, H', e, I'⟩
theorem db_up {H H' : Hp} {x y : V} {r : Bool} (hk : Keeps R) (e : Evl.Ex H H') (d : OwnS.DB C R H x y r) : OwnS.DB C R H' x y r := by
  obtain ⟨a, b, dx, dy, fs, gs, h1, h2, ha, hb, hr, hs⟩ := d
  exact ⟨a, b, dx, dy, fs, gs, h1, h2, e _ _ ha, e _ _ hb, hk _ _ _ _ _ e hr, hs⟩
/-- (x, ..) == (y, ..) -/
def rEqT (C : Addr) (R : Addr → Addr → Bool → Hp → Prop) : R2 := fun x y H Q => ∃ (a b : Addr) (xs ys : List V) (e : Nat → Bool), x = .ref a ∧ y = .ref b ∧ H a = some (.tup xs) ∧ H b = some (.tup ys) ∧ (∀ (i : Nat) p q, xs[i]? = some p → ys[i]? = some q → OwnS.DB C R H p q (e i)) ∧ ∀ H', Evl.Ex H H' → Q (.bl (ans e xs.length ys.length)) H'
theorem op_eqT {sp : Sp} (hsp : Says R sp) (hk : Keeps R) (F : FnOk X.prog X.w X.K X.mg X.base CX n f fd ps sp) (m : Meth X.K C "__eq__" f) (hb : Binds X.K fd ps []) (hx : Passes CX X E) (hr : Room (n + 1) X.A) : OpR X (compareOp .Eq) (rEqT C R) := by
  intro pins s σ H x y v u Q I rx ry h
  obtain ⟨a, b, xs, ys, e, rfl, rfl, ha, hb', hd, q⟩ := h
  cases rx
  cases ry
  show wpAny (model X.prog X.w) X.A (richCompare .Eq (.ref a) (.ref b)) (EP X pins σ Q) X.xe s
  obtain ⟨z, its, r, t1⟩ := I.hok a _ ha
  obtain ⟨z2, its2, r2, t2⟩ := I.hok b _ hb'
  have l1 := r.length
  have l2 := r2.length
  refine rc_tupleB (e := e) hr.units0 (Btw X pins σ H) t1 t2 (fun s' hI i h1 h2 => ?_) (fun s' hI => ?_) ⟨H, fun _ _ h => h, I⟩
  · obtain ⟨H', e', I'⟩ := hI
    have h1' : i < its.length := by simpa using h1
    have h2' : i < its2.length := by simpa using h2
    have g1 := List.getElem?_eq_getElem (show i < xs.length by omega)
    have g2 := List.getElem?_eq_getElem (show i < ys.length by omega)
    obtain ⟨u, hu, ru⟩ := r.get g1
    obtain ⟨v, hv, rv⟩ := r2.get g2
    have e1 : its.toArray[i] = u := by
      rw [List.getElem?_eq_getElem h1'] at hu
      simpa using Option.some.inj hu
    have e2 : its2.toArray[i] = v := by
      rw [List.getElem?_eq_getElem h2'] at hv
      simpa using Option.some.inj hv
    rw [e1, e2]
    refine wpAny_mono (eqX hsp F m hb hx ⟨hr.in1, rfl⟩ I' ru rv (db_up hk e' (hd i _ _ g1 g2))) (fun z s2 q => ?_) fun _ _ z => z
    obtain ⟨hz, H2, e2', I2⟩ := q
    exact ⟨hz, H2, fun c o h => e2' _ _ (e' _ _ h), I2⟩
  · obtain ⟨H', e', I'⟩ := hI
    rw [List.size_toArray, List.size_toArray, ← l1, ← l2]
    exact ⟨.bl _, H', I', rfl, q H' e'⟩
/-- [x, ..] == [y, ..] -/
def rEqL (C : Addr) (R : Addr → Addr → Bool → Hp → Prop) : R2 := fun x y H Q => ∃ (a b : Addr) (xs ys : List V) (e : Nat → Bool), x = .ref a ∧ y = .ref b ∧ H a = some (.lst xs) ∧ H b = some (.lst ys) ∧ xs.length = ys.length ∧ (∀ (i : Nat) p q, xs[i]? = some p → ys[i]? = some q → OwnS.DB C R H p q (e i)) ∧ ∀ H', Evl.Ex H H' → Q (.bl (OwnS.al e 0 xs.length)) H'
theorem op_eqL {sp : Sp} (hsp : Says R sp) (hk : Keeps R) (F : FnOk X.prog X.w X.K X.mg X.base CX n f fd ps sp) (m : Meth X.K C "__eq__" f) (hb : Binds X.K fd ps []) (hx : Passes CX X E) (hr : Room (n + 1) X.A) : OpR X (compareOp .Eq) (rEqL C R) := by
  intro pins s σ H x y v u Q I rx ry h
  obtain ⟨a, b, xs, ys, e, rfl, rfl, ha, hb', hl, hd, q⟩ := h
  cases rx
  cases ry
  show wpAny (model X.prog X.w) X.A (richCompare .Eq (.ref a) (.ref b)) (EP X pins σ Q) X.xe s
  refine OwnS.rc_listB (N := xs.length) (e := e) hr.units0 (Btw X pins σ H) (fun s' hI => ?_) (fun s' hI => ?_) ⟨H, fun _ _ h => h, I⟩
  · obtain ⟨H', e', I'⟩ := hI
    obtain ⟨z, its, k, r, h1⟩ := I'.hok a _ (e' _ _ ha)
    obtain ⟨z2, its2, k2, r2, h2⟩ := I'.hok b _ (e' _ _ hb')
    have l1 := r.length
    have l2 := r2.length
    refine ⟨its.toArray, its2.toArray, k, k2, h1, h2, by rw [List.size_toArray, ← l1], by rw [List.size_toArray, ← l2, ← hl], fun i m1 m2 => ?_⟩
    have h1' : i < its.length := by simpa using m1
    have h2' : i < its2.length := by simpa using m2
    have g1 := List.getElem?_eq_getElem (show i < xs.length by omega)
    have g2 := List.getElem?_eq_getElem (show i < ys.length by omega)
    obtain ⟨u, hu, ru⟩ := r.get g1
    obtain ⟨v, hv, rv⟩ := r2.get g2
    have e1 : its.toArray[i] = u := by
      rw [List.getElem?_eq_getElem h1'] at hu
      simpa using Option.some.inj hu
    have e2 : its2.toArray[i] = v := by
      rw [List.getElem?_eq_getElem h2'] at hv
      simpa using Option.some.inj hv
    rw [e1, e2]
    refine wpAny_mono (eqX hsp F m hb hx ⟨hr.in1, rfl⟩ I' ru rv (db_up hk e' (hd i _ _ g1 g2))) (fun z s2 q => ?_) fun _ _ z => z
    obtain ⟨hz, H2, e2', I2⟩ := q
    exact ⟨hz, H2, fun c o h => e2' _ _ (e' _ _ h), I2⟩
  · obtain ⟨H', e', I'⟩ := hI
    exact ⟨.bl _, H', I', rfl, q H' e'⟩
/-- x in [y, ..] -/
def rInL (C : Addr) (R : Addr → Addr → Bool → Hp → Prop) : R2 := fun x y H Q => ∃ (b : Addr) (ys : List V) (e : Nat → Bool), y = .ref b ∧ H b = some (.lst ys) ∧ (∀ (i : Nat) q, ys[i]? = some q → OwnS.DB C R H q x (e i)) ∧ ∀ H', Evl.Ex H H' → Q (.bl (OwnS.an e 0 ys.length)) H'
theorem op_inL {sp : Sp} (hsp : Says R sp) (hk : Keeps R) (F : FnOk X.prog X.w X.K X.mg X.base CX n f fd ps sp) (m : Meth X.K C "__eq__" f) (hb : Binds X.K fd ps []) (hx : Passes CX X E) (hr : Room (n + 1) X.A) : OpR X (compareOp .In) (rInL C R) := by
  intro pins s σ H x y v u Q I rx ry h
  obtain ⟨b, ys, e, rfl, hb', hd, q⟩ := h
  cases ry
  refine OwnS.in_listB (N := ys.length) (e := e) (Btw X pins σ H) (fun s' hI => ?_) (fun s' hI => ?_) ⟨H, fun _ _ h => h, I⟩
  · obtain ⟨H', e', I'⟩ := hI
    obtain ⟨z2, its2, k2, r2, h2⟩ := I'.hok b _ (e' _ _ hb')
    have l2 := r2.length
    refine ⟨its2.toArray, k2, h2, by rw [List.size_toArray, ← l2], fun i m2 => ?_⟩
    have h2' : i < its2.length := by simpa using m2
    have g2 := List.getElem?_eq_getElem (show i < ys.length by omega)
    obtain ⟨w, hw, rw'⟩ := r2.get g2
    have e2 : its2.toArray[i] = w := by
      rw [List.getElem?_eq_getElem h2'] at hw
      simpa using Option.some.inj hw
    rw [e2]
    refine wpAny_mono (eqX hsp F m hb hx ⟨hr.in1, rfl⟩ I' rw' rx (db_up hk e' (hd i _ g2))) (fun z s2 q => ?_) fun _ _ z => z
    obtain ⟨hz, H2, e2', I2⟩ := q
    exact ⟨hz, H2, fun c o h => e2' _ _ (e' _ _ h), I2⟩
  · obtain ⟨H', e', I'⟩ := hI
    exact ⟨.bl _, H', I', rfl, q H' e'⟩
/-- two rules for one operator -/
def rOr (r r' : R2) : R2 := fun x y H Q => r x y H Q ∨ r' x y H Q
theorem op_or {fn : Value → Value → Sem Value} {r r' : R2} (h : OpR X fn r) (h' : OpR X fn r') : OpR X fn (rOr r r') := by
  intro pins s σ H x y v u Q I rx ry q
  rcases q with q | q
  · exact h pins s σ H x y v u Q I rx ry q
  · exact h' pins s σ H x y v u Q I rx ry q
/-- an instance of another class stands on the right -/
def rEqC (K : PySem.W.Frag) (C : Addr) (sp : Sp) (E : XK) : R2 := fun x y H Q => ∃ a dx fs b D dy gs, x = .ref a ∧ y = .ref b ∧ H a = some (.ins C dx fs) ∧ H b = some (.ins D dy gs) ∧ PySem.W.notFirst K C (.ref D) = true ∧ sp [x, y] H (fun v H' => ∃ b : Bool, v = .bl b ∧ Q (.bl b) H') E
theorem op_eqC {sp : Sp} (F : FnOk X.prog X.w X.K X.mg X.base CX n f fd ps sp) (m : Meth X.K C "__eq__" f) (hb : Binds X.K fd ps []) (hx : Passes CX X E) (hr : Room n X.A) (hK : X.K = K) : OpR X (compareOp .Eq) (rEqC K C sp E) := by
  subst hK
  intro pins s σ H x y v u Q I rx ry h
  obtain ⟨a, dx, fs, b, D, dy, gs, rfl, rfl, ha, hd, hn, h⟩ := h
  cases rx
  cases ry
  obtain ⟨mA, J, _⟩ := ins_get I.hok ha
  obtain ⟨od, J, _⟩ := J.look
  obtain ⟨mB, J', _⟩ := ins_get I.hok hd
  obtain ⟨od', J', _⟩ := J'.look
  obtain ⟨mm, hF⟩ := I.fr
  show wpAny (model X.prog X.w) X.A (richCompare .Eq (.ref a) (.ref b)) (EP X pins σ Q) X.xe s
  refine PySem.W.cmp_K (op := .Eq) hr.units0 hF I.ok.mod.kin J J'.type hn m.at_ m.fn (wpAny_mono (Own.run_own F hb hx ⟨hr, rfl⟩ I (vs := [.ref a, .ref b]) (.cons rfl (.cons rfl .nil)) h) (fun v s' q => ?_) fun _ _ z => z)
  obtain ⟨z, H', I', rz, c, rfl, q⟩ := q
  cases rz
  exact ⟨.bl c, H', I', rfl, q⟩
end
end OwnT
/-! ### tuples: a slice of all of it (the tuple itself), and turned about -/
namespace SlT
open PySem PySem.Spec PyProof.Rows L2 Evl
theorem getItem_whole {prog : Program} {w : World} {A : Around} {E : Value → Shared → Prop} {s : Shared} {t sl : Addr} {items : Array Value} {vl vu : Value} {lo hi : Option Int} {Q : Value → Shared → Prop}
    (ht : IsTup s.heap t items) (hs : s.heap.IsSliceOf sl vl vu Value.none) (pl : IsPart vl lo) (pu : IsPart vu hi) (h0 : HT.sIx items.size 0 lo = 0) (h1 : HT.sIx items.size items.size hi = items.size) (h : Q (.ref t) s) : wpAny (model prog w) A (getItem (Value.ref t) (Value.ref sl)) Q E s := by
  obtain ⟨os, hos, hcs, hds⟩ := id hs
  have hTs : s.TypeIs (Value.ref sl) "slice" := ⟨os, hos, hcs⟩
  unfold getItem
  refine wpAny_holding (wpAny_bind (wpAny_sequenceKey ht.typeIs (by decide) (wpAny_bind (wpAny_callSpecial?_slot ht.typeIs slot_tuple_getitem (wpAny_call_entry slot_tuple_getitem ht.typeIs entry_tuple_getitem ?_ (args_tuple_getitem _ _))))))
  show wpAny (model prog w) A.in1 (Bind.bind (Builtin.Tuple.tupleItemsOf (Value.ref t)) _) _ E s
  refine wpAny_bind (tupleItemsOf_ ht (wpAny_bind (wpAny_typeOf hTs ?_)))
  rw [if_pos (by decide)]
  refine wpAny_bind (HT.sliceApplied_gen hs pl pu ?_)
  show wpAny (model prog w) A.in1 (if (((HT.sIx items.size 0 lo : Nat) : Int) == 0 && (1 : Int) == 1 && (HT.sIx items.size items.size hi - HT.sIx items.size 0 lo) == items.size) = true then _ else _) _ E s
  rw [if_pos (by rw [h0, h1, Nat.sub_zero]; simp)]
  refine wpAny_bind (wpAny_bind (wpAny_typeOf ht.typeIs (wpAny_pure ?_)))
  rw [if_pos (by decide)]
  refine wpAny_bind (wpAny_rule (wpAny_pure ?_))
  exact ⟨_, rfl, wpAny_pure h⟩
/-- any slice of a tuple, step 1: all of it is the tuple itself -/
def rSlA (K : PySem.W.Frag) : V → Option Int → Option Int → Hp → VK → Prop := fun x lo hi H Q => ∃ a xs, x = .ref a ∧ SqT K H a xs ∧ ((HT.sIx xs.length 0 lo = 0 ∧ HT.sIx xs.length xs.length hi = xs.length) → Q (.ref a) H) ∧ (¬ (HT.sIx xs.length 0 lo = 0 ∧ HT.sIx xs.length xs.length hi = xs.length) → ∀ p, H p = none → Q (.ref p) (upd H p (.tup (cutV xs lo hi))))
theorem sl_tupA {X : Cx} {K : PySem.W.Frag} (hK : X.K = K) : SlR X (rSlA K) := by
  subst hK
  intro pins s σ H x v vl vu lo hi sl Q I rx hs pl pu h
  obtain ⟨a, xs, ex, hx, q1, q2⟩ := h
  by_cases c : HT.sIx xs.length 0 lo = 0 ∧ HT.sIx xs.length xs.length hi = xs.length
  · subst ex
    obtain rfl : v = Value.ref a := rx
    obtain ⟨its, r, ht, hz⟩ := I.tuple hx
    have hlen : its.toArray.size = xs.length := by rw [List.size_toArray]; exact (Vals.length r).symm
    exact ⟨"tuple", "tuple.__getitem__", slot_tuple_getitem.lookup, ht.typeIs, getItem_whole ht hs pl pu (by rw [hlen]; exact c.1) (by rw [hlen]; exact c.2) ⟨.ref a, H, I, rfl, q1 c⟩⟩
  · exact sl_tup pins s σ H x v vl vu lo hi sl Q I rx hs pl pu ⟨a, xs, ex, hx, c, q2 c⟩
theorem sliceApplied_rev {prog : Program} {w : World} {A : Around} {E : Value → Shared → Prop} {s : Shared} {sl : Addr} {t : Tok} {n : Nat} {Q : Int × Int × Nat → Shared → Prop} (hs : s.heap.IsSliceOf sl Value.none Value.none (.int (-1) t)) (h : Q ((n : Int) - 1, -1, n) s) : wpAny (model prog w) A (Builtin.Slice.sliceApplied (Value.ref sl) (pure (n : Int))) Q E s := by
  obtain ⟨os, hos, hcs, hds⟩ := id hs
  unfold Builtin.Slice.sliceApplied Builtin.Slice.sliceFields
  refine wpAny_bind (wpAny_bind (wpAny_field hos hds rfl (wpAny_bind (wpAny_field hos hds rfl (wpAny_bind (wpAny_field hos hds rfl (wpAny_pure ?_)))))))
  refine wpAny_bind (HT.slicePart_ (.int (-1) t) ?_)
  show wpAny (model prog w) A (if ((-1 : Int) == 0) = true then _ else _) Q E s
  rw [if_neg (by decide)]
  refine wpAny_bind (slicePart_none (wpAny_bind (slicePart_none (wpAny_bind (wpAny_pure ?_)))))
  have e : Builtin.Slice.sliceAdjust none none (-1) (n : Int) = ((n : Int) - 1, -1) := rfl
  have e2 : Builtin.Slice.slicePlaces ((n : Int) - 1) (-1) (-1) = n := by
    unfold Builtin.Slice.slicePlaces
    rw [if_neg (by decide)]
    split
    · rw [show -(-1 : Int) = 1 from rfl, Int.ediv_one]
      omega
    · omega
  show wpAny (model prog w) A (match Builtin.Slice.sliceAdjust none none (-1) (n : Int) with | (lo, hi) => pure (lo, -1, Builtin.Slice.slicePlaces lo hi (-1))) Q E s
  rw [e]
  show wpAny (model prog w) A (pure ((n : Int) - 1, -1, Builtin.Slice.slicePlaces ((n : Int) - 1) (-1) (-1))) Q E s
  rw [e2]
  exact wpAny_pure h
theorem pick_rev (xs : Array Value) : (List.filterMap (fun k => xs[((xs.size : Int) - 1 + (k : Nat) * (-1)).toNat]?) (List.range xs.size)) = xs.toList.reverse := by
  have g : ∀ (l : List Nat), (∀ k ∈ l, k < xs.size) → l.filterMap (fun k => xs[((xs.size : Int) - 1 + (k : Nat) * (-1)).toNat]?) = l.map (fun k => (xs.toList.reverse[k]?).getD Value.none) := by
    intro l
    induction l with
    | nil => intro _; rfl
    | cons k r ih =>
      intro h
      have hk := h k (List.mem_cons_self ..)
      have e1 : ((xs.size : Int) - 1 + (k : Nat) * (-1)).toNat = xs.size - 1 - k := by omega
      have e2 : xs.toList.reverse[k]? = xs[xs.size - 1 - k]? := by
        rw [List.getElem?_reverse (by simpa using hk), Array.length_toList, Array.getElem?_toList]
      have e3 : xs[xs.size - 1 - k]? = some (xs[xs.size - 1 - k]'(by omega)) := Array.getElem?_eq_getElem (by omega)
      rw [List.map_cons, List.filterMap_cons, e1, e2, e3, ih fun m hm => h m (List.mem_cons_of_mem _ hm)]
      rfl
  rw [g _ fun k hk => List.mem_range.mp hk]
  refine List.ext_getElem? fun i => ?_
  rw [List.getElem?_map]
  by_cases h : i < xs.size
  · rw [List.getElem?_range h, List.getElem?_eq_getElem (l := xs.toList.reverse) (by simpa using h)]
    show some ((xs.toList.reverse[i]?).getD Value.none) = _
    rw [List.getElem?_eq_getElem (l := xs.toList.reverse) (by simpa using h)]
    rfl
  · rw [List.getElem?_eq_none_iff.mpr (by simpa using h), List.getElem?_eq_none_iff.mpr (by simpa using h)]
    rfl
theorem getItem_rev {prog : Program} {w : World} {A : Around} {E : Value → Shared → Prop} {s : Shared} {t sl : Addr} {u : Tok} {items : Array Value} {Q : Value → Shared → Prop}
    (ht : IsTup s.heap t items) (hs : s.heap.IsSliceOf sl Value.none Value.none (.int (-1) u)) (hz : items.size ≤ sizeLine) (h : Q (Value.ref s.heap.objs.size) { s with heap := s.heap.push { cls := .type "tuple", data := .seq items.toList.reverse.toArray } }) : wpAny (model prog w) A (getItem (Value.ref t) (Value.ref sl)) Q E s := by
  obtain ⟨os, hos, hcs, hds⟩ := id hs
  have hTs : s.TypeIs (Value.ref sl) "slice" := ⟨os, hos, hcs⟩
  unfold getItem
  refine wpAny_holding (wpAny_bind (wpAny_sequenceKey ht.typeIs (by decide) (wpAny_bind (wpAny_callSpecial?_slot ht.typeIs slot_tuple_getitem (wpAny_call_entry slot_tuple_getitem ht.typeIs entry_tuple_getitem ?_ (args_tuple_getitem _ _))))))
  show wpAny (model prog w) A.in1 (Bind.bind (Builtin.Tuple.tupleItemsOf (Value.ref t)) _) _ E s
  refine wpAny_bind (tupleItemsOf_ ht (wpAny_bind (wpAny_typeOf hTs ?_)))
  rw [if_pos (by decide)]
  refine wpAny_bind (sliceApplied_rev hs ?_)
  show wpAny (model prog w) A.in1 (if (((items.size : Int) - 1) == 0 && (-1 : Int) == 1 && items.size == items.size) = true then _ else _) _ E s
  rw [if_neg (by simp)]
  show wpAny (model prog w) A.in1 (Bind.bind (newObj (Value.type "tuple") (Data.seq (List.filterMap (fun k => items[((items.size : Int) - 1 + (k : Nat) * (-1)).toNat]?) (List.range items.size)).toArray)) _) _ E s
  rw [pick_rev]
  refine wpAny_bind (wpAny_newObj_type ?_ (by show (items.toList.reverse.toArray).size ≤ sizeLine; simpa using hz))
  exact wpAny_pure ⟨_, rfl, wpAny_pure h⟩
def tRevT (K : PySem.W.Frag) (te : TE) : TE := fun σ H Q => te σ H fun x H1 => ∃ a xs, x = .ref a ∧ SqT K H1 a xs ∧ ∀ p, H1 p = none → Q (.ref p) (upd H1 p (.tup xs.reverse))
theorem pe_revT {X : Cx} {e : Expr} {te : TE} {k : Nat} {p1 p2 p3 pos : Pos} (he : PE X e te) : PE X (.Subscript e (.Slice none none (some (.UnaryOp .USub (.Constant (.int 1) k p1) p2)) p3) pos) (tRevT X.K te) := by
  refine ⟨fun pins s σ H Q I h => ?_⟩
  refine Subscript_ (thn (he.run pins s σ H _ I h) fun v s1 ⟨x, H1, I1, r1, q1⟩ => ?_)
  obtain ⟨a, xs, ex, hx, q⟩ := q1
  subst ex
  obtain rfl : v = Value.ref a := r1
  have hst : PO X (some (.UnaryOp .USub (.Constant (.int 1) k p1) p2)) (tPart (tUn (rU fun i => .int (-i)) (tC (.int 1)))) := po_some (pe_un un_neg pe_int)
  refine wpAny_Slice (thn (po_none.run pins s1 σ H1 (fun o H2 => o = none ∧ H2 = H1) I1 ⟨rfl, rfl⟩) fun vl s2 ⟨l, H2, I2, pl, el, e2⟩ => ?_)
  subst el e2
  refine thn (po_none.run pins s2 σ H2 (fun o H3 => o = none ∧ H3 = H2) I2 ⟨rfl, rfl⟩) fun vu s3 ⟨u, H3, I3, pu, eu, e3⟩ => ?_
  subst eu e3
  refine thn (hst.run pins s3 σ H3 (fun o H4 => o = some (-1) ∧ H4 = H3) I3 ⟨1, rfl, -1, rfl, rfl, rfl⟩) fun vs s4 ⟨o, H4, I4, ps, eo, e4⟩ => ?_
  subst eo e4
  cases pl
  cases pu
  cases ps
  rename_i st _
  have I5 : Inv X pins σ H4 { s4 with heap := s4.heap.push { cls := .type "slice", data := .fields #[.none, .none, .int (-1) st] } } := I4.kept (t' := s4.toks) fun b ob q => Heap.get?_push_of_some _ q
  obtain ⟨its, r, ht, hz⟩ := I5.tuple hx
  have hlen : its.toArray.size = xs.length := by rw [List.size_toArray]; exact (Vals.length r).symm
  show wpAny (model X.prog X.w) X.A (subscriptTail e (.Slice none none (some (.UnaryOp .USub (.Constant (.int 1) k p1) p2)) p3) (.ref a) (.ref s4.heap.objs.size)) (EP X pins σ Q) X.xe { s4 with heap := s4.heap.push { cls := .type "slice", data := .fields #[.none, .none, .int (-1) st] } }
  refine tail_any (ops := [.ref a, .ref s4.heap.objs.size]) ht.typeIs (slot_tuple_getitem.lookup) ?_ (by with_unfolding_all rfl)
  refine getItem_rev ht ⟨_, Heap.get?_push_size _ rfl, rfl, rfl⟩ (by rw [hlen]; exact hz) ?_
  refine ⟨.ref _, upd H4 _ (.tup xs.reverse), I5.laid (fun b ob q => Heap.get?_push_of_some _ q) (Nat.le_refl _) ⟨by rw [List.length_reverse]; exact hz, its.reverse, Vals.reverse r, IsTup.new _ _⟩, rfl, q _ (HOk.fresh I5.hok (Nat.le_refl _))⟩
/-- + of tuples, any of them empty -/
def rCatA (K : PySem.W.Frag) : R2 := fun x y H Q => ∃ a b xs ys, x = .ref a ∧ y = .ref b ∧ SqT K H a xs ∧ SqT K H b ys ∧ xs.length + ys.length ≤ sizeLine ∧ (xs = [] → Q (.ref b) H) ∧ (xs ≠ [] → ys = [] → Q (.ref a) H) ∧ (xs ≠ [] → ys ≠ [] → ∀ p, H p = none → Q (.ref p) (upd H p (.tup (xs ++ ys))))
theorem cat_left {prog : Program} {w : World} {A : Around} {E : Value → Shared → Prop} {s : Shared} {t b : Addr} {vs ws : Array Value} {Q : Value → Shared → Prop} (ht : IsTup s.heap t vs) (hb : IsTup s.heap b ws) (hv : vs.isEmpty = true) (h : Q (.ref b) s) : wpAny (model prog w) A (binaryOp Operator.Add (Value.ref t) (Value.ref b)) Q E s := by
  obtain ⟨⟨cls, dd, data, sl⟩, ho, hc, n, hd⟩ := id ht
  obtain ⟨⟨cls2, dd2, data2, sl2⟩, ho2, hc2, n2, hd2⟩ := id hb
  cases hc
  cases hd
  cases hc2
  cases hd2
  exact concat_meets ht.typeIs hb.typeIs noFill_tuple_add seq_tuple_add F.slot_tuple_add F.entry_tuple_add (F.args_tuple_add_2 (Value.ref t) (Value.ref b)) (tuple_addW0 t b vs ws n n2 dd dd2 sl sl2 hv) ⟨ho, ho2, h⟩
theorem op_catTA {X : Cx} {K : PySem.W.Frag} (hK : X.K = K) : OpR X (binaryOp Operator.Add) (rCatA K) := by
  subst hK
  intro pins s σ H x y v u Q I rx ry h
  obtain ⟨a, b, xs, ys, ex, ey, ha, hb, hz, q0, q1, q2⟩ := h
  by_cases c : xs = []
  · subst ex ey
    obtain rfl : v = Value.ref a := rx
    obtain rfl : u = Value.ref b := ry
    obtain ⟨its, r, ht, _⟩ := I.tuple ha
    obtain ⟨its2, r2, ht2, _⟩ := I.tuple hb
    have e : its = [] := (Vals.nil_iff r).mpr c
    exact cat_left ht ht2 (by rw [e]; rfl) ⟨.ref b, H, I, rfl, q0 c⟩
  · exact op_catT pins s σ H x y v u Q I rx ry ⟨a, b, xs, ys, ex, ey, ha, hb, c, hz, q1 c, q2 c⟩
/-- what a slice, a sum of tuples is, at some place -/
theorem slA_use {K : PySem.W.Frag} {H : Hp} {a : Addr} {xs : List V} {lo hi : Option Int} {Q : VK} (h : H a = some (.tup xs)) (q : ∀ p H', Ex H H' → H' p = some (.tup (cutV xs lo hi)) → Q (.ref p) H') : rSlA K (.ref a) lo hi H Q := by
  refine ⟨a, xs, rfl, SqT.of h, fun c => q a H (Ex.refl H) ?_, fun _ p np => q p _ (Ex.new np) upd_same⟩
  rw [h]
  unfold cutV
  rw [c.1, c.2, List.drop_zero, Nat.sub_zero, List.take_length]
theorem catA_use {K : PySem.W.Frag} {H : Hp} {a b : Addr} {xs ys : List V} {Q : VK} (h : H a = some (.tup xs)) (g : H b = some (.tup ys)) (l : xs.length + ys.length ≤ sizeLine) (q : ∀ p H', Ex H H' → H' p = some (.tup (xs ++ ys)) → Q (.ref p) H') : rCatA K (.ref a) (.ref b) H Q := by
  refine ⟨a, b, xs, ys, rfl, rfl, SqT.of h, SqT.of g, l, fun c => q b H (Ex.refl H) ?_, fun _ c => q a H (Ex.refl H) ?_, fun _ _ p np => q p _ (Ex.new np) upd_same⟩
  · rw [g, c, List.nil_append]
  · rw [h, c, List.append_nil]
end SlT
/-! list == list: the same objects in both, of whatever class -/
namespace EqS
open PySem PySem.Spec PyProof.Rows L2
theorem al_true : ∀ (k i : Nat), OwnS.al (fun _ => true) i k = true
  | 0, _ => rfl
  | k + 1, i => by
    rw [OwnS.al, al_true k (i + 1)]
    rfl
def rEqSame : R2 := fun x y H Q => ∃ (a b : Addr) (rs : List Addr), x = .ref a ∧ y = .ref b ∧ H a = some (.lst (rs.map V.ref)) ∧ H b = some (.lst (rs.map V.ref)) ∧ Q (.bl true) H
theorem op_eqSame {X : Cx} (hu : X.A.units < cLine) : OpR X (compareOp .Eq) rEqSame := by
  intro pins s σ H x y v u Q I rx ry h
  obtain ⟨a, b, rs, rfl, rfl, ha, hb, q⟩ := h
  cases rx
  cases ry
  show wpAny (model X.prog X.w) X.A (richCompare .Eq (.ref a) (.ref b)) (EP X pins σ Q) X.xe s
  refine OwnS.rc_listB (N := rs.length) (e := fun _ => true) hu (fun s' => Inv X pins σ H s') (fun s' I' => ?_) (fun s' I' => ?_) I
  · obtain ⟨z, its, k, r, h1⟩ := I'.hok a _ ha
    obtain ⟨z2, its2, k2, r2, h2⟩ := I'.hok b _ hb
    have n1 := r.length
    have n2 := r2.length
    rw [List.length_map] at n1 n2
    refine ⟨its.toArray, its2.toArray, k, k2, h1, h2, by rw [List.size_toArray, ← n1], by rw [List.size_toArray, ← n2], fun i l1 l2 => ?_⟩
    have h1' : i < its.length := by simpa using l1
    have h2' : i < its2.length := by simpa using l2
    have gi : (rs.map V.ref)[i]? = some (V.ref (rs[i]'(by omega))) := by rw [List.getElem?_map, List.getElem?_eq_getElem (by omega)]; rfl
    obtain ⟨u, hu', ru⟩ := r.get gi
    obtain ⟨v, hv', rv⟩ := r2.get gi
    rw [List.getElem?_eq_getElem h1'] at hu'
    rw [List.getElem?_eq_getElem h2'] at hv'
    cases ru
    cases rv
    have e1 : its.toArray[i] = Value.ref (rs[i]'(by omega)) := by simpa using hu'
    have e2 : its2.toArray[i] = Value.ref (rs[i]'(by omega)) := by simpa using hv'
    rw [e1, e2]
    exact SeqAt.EqAt.same (A := X.A.in1) (s := s') _ X.prog X.w X.xe _ ⟨rfl, I'⟩
  · rw [al_true]
    exact ⟨.bl true, H, I', rfl, q⟩
end EqS
/-! ### a set of numbers by two clauses: {y for x in xs if .. for y in f(x) if ..} -/
namespace ScT
open PySem PySem.Spec PyProof.Rows L2 PpSet
section
variable {prog : Program} {w : World} {A : Around} {R : Result → Shared → Prop} {s : Shared} {env : Env} {el ta ia tb ib : Expr} {fa fb : List Expr} {sc : Scope} {ps : Pos} {it acc : Value}
abbrev Two (el ta ia tb ib : Expr) (fa fb : List Expr) (sc : Scope) (ps : Pos) : Expr := .SetComp el [⟨ta, ia, fa, 0⟩, ⟨tb, ib, fb, 0⟩] sc ps
/-- what is raised within the block, as it is told outside -/
abbrev Nb (prog : Program) (w : World) (A : Around) (env : Env) (R : Result → Shared → Prop) : Value → Shared → Prop := notedBy (model prog w) A env fun x t => R (.error x) t
/-- a clause's tests -/
abbrev Tst (fs : List Expr) (env : Env) : Sem Bool := forIn fs true fun f q => if q = true then (do let y ← isTrue f env (eval f env); pure (ForInStep.yield y)) else pure (ForInStep.yield q)
theorem turnA : compTurn (Two el ta ia tb ib fa fb sc ps) 0 it acc env = (do
    standAt ia.pos
    match ← pyNext it with
    | none => pure (.done .next)
    | some u =>
      letOwnedTupleGo ta it u
      assign ta env u
      let mut go := true
      for f in fa do
        if go then go ← isTrue f env (eval f env)
      if go then
        let src ← eval ib env
        standAt ib.pos
        let src ← foldedSetIterable ib env src
        let _ ← runOwn (.compStart (Two el ta ia tb ib fa fb sc ps) 1 (← holding [src] (pyIter src)) acc env) env
      again (.compLoop (Two el ta ia tb ib fa fb sc ps) 0 it acc env)) := by rfl
theorem turnB : compTurn (Two el ta ia tb ib fa fb sc ps) 1 it acc env = (do
    standAt ib.pos
    match ← pyNext it with
    | none => pure (.done .next)
    | some u =>
      letOwnedTupleGo tb it u
      assign tb env u
      let mut go := true
      for f in fb do
        if go then go ← isTrue f env (eval f env)
      if go then
        (do let y ← eval el env; standAt el.pos; let _ ← call (.builtin "set.add") [acc, y])
      again (.compLoop (Two el ta ia tb ib fa fb sc ps) 1 it acc env)) := by rfl
/-- the outer loop -/
theorem loopA (hs : ∀ x, foldedSetIterable ib env x = pure x) (In : Nat → Shared → Prop)
    (turn : ∀ n s, In n s → wpAny (model prog w) A (pyNext it) (fun nx s1 => match nx with
      | none => R (.ok .next) s1
      | some u => wpAny (model prog w) A (letOwnedTupleGo ta it u) (fun _ s2 => wpAny (model prog w) A (assign ta env u) (fun _ s3 => wpAny (model prog w) A (Tst fa env) (fun go s4 =>
          if go = true then wpAny (model prog w) A (eval ib env) (fun x s5 => wpAny (model prog w) A (pyIter x) (fun i1 s6 =>
            codeAny (model prog w) A (.compStart (Two el ta ia tb ib fa fb sc ps) 1 i1 acc env) (fun r t => match r with | .ok _ => ∃ m, m < n ∧ In m t | .error _ => False) s6) (Nb prog w A env R) s5) (Nb prog w A env R) s4
          else ∃ m, m < n ∧ In m s4) (Nb prog w A env R) s3) (Nb prog w A env R) s2) (Nb prog w A env R) s1) (Nb prog w A env R) s)
    (n : Nat) (h : In n s) : codeAny (model prog w) A (.compLoop (Two el ta ia tb ib fa fb sc ps) 0 it acc env) R s := by
  refine codeAny_loop rfl In (fun n s hI => ?_) n h
  show wpAny _ A ((compTurn (Two el ta ia tb ib fa fb sc ps) 0 it acc env).onRaise (fun x => do noteFrame x env; theTreesLotGoes x)) _ _ s
  refine wpAny_noted ?_
  rw [turnA]
  refine wpAny_bind (wpAny_standAt (wpAny_bind (wpAny_mono (turn n s hI) (fun nx s1 h1 => ?_) fun _ _ z => z)))
  cases nx with
  | none => exact wpAny_pure h1
  | some u =>
    refine wpAny_bind (wpAny_mono h1 (fun _ s2 h2 => wpAny_bind (wpAny_mono h2 (fun _ s3 h3 => wpAny_bind (wpAny_mono h3 (fun go s4 h4 => ?_) fun _ _ z => z)) fun _ _ z => z)) fun _ _ z => z)
    cases go with
    | false => exact wpAny_pure ⟨rfl, h4⟩
    | true =>
      refine wpAny_bind (wpAny_mono h4 (fun x s5 h5 => ?_) fun _ _ z => z)
      refine wpAny_bind (wpAny_standAt (wpAny_bind (wpAny_of_eq (hs x) (wpAny_bind (wpAny_holding (wpAny_mono h5 (fun i1 s6 h6 => ?_) fun _ _ z => z))))))
      refine wpAny_bind (wpAny_runOwn ?_)
      rw [Around.mark_none]
      refine codeAny_mono h6 fun r t hr => ?_
      cases r with
      | ok f =>
        first
          | exact wpAny_pure ⟨rfl, hr⟩
          | exact wpAny_bind (wpAny_pure (wpAny_pure ⟨rfl, hr⟩))
      | error x => exact hr.elim
/-- the inner one -/
theorem loopB (In : Nat → Shared → Prop)
    (turn : ∀ n s, In n s → wpAny (model prog w) A (pyNext it) (fun nx s1 => match nx with
      | none => R (.ok .next) s1
      | some u => wpAny (model prog w) A (letOwnedTupleGo tb it u) (fun _ s2 => wpAny (model prog w) A (assign tb env u) (fun _ s3 => wpAny (model prog w) A (Tst fb env) (fun go s4 =>
          if go = true then wpAny (model prog w) A (eval el env) (fun y s5 => wpAny (model prog w) A (call (.builtin "set.add") [acc, y]) (fun _ s6 => ∃ m, m < n ∧ In m s6) (Nb prog w A env R) s5) (Nb prog w A env R) s4
          else ∃ m, m < n ∧ In m s4) (Nb prog w A env R) s3) (Nb prog w A env R) s2) (Nb prog w A env R) s1) (Nb prog w A env R) s)
    (n : Nat) (h : In n s) : codeAny (model prog w) A (.compLoop (Two el ta ia tb ib fa fb sc ps) 1 it acc env) R s := by
  refine codeAny_loop rfl In (fun n s hI => ?_) n h
  show wpAny _ A ((compTurn (Two el ta ia tb ib fa fb sc ps) 1 it acc env).onRaise (fun x => do noteFrame x env; theTreesLotGoes x)) _ _ s
  refine wpAny_noted ?_
  rw [turnB]
  refine wpAny_bind (wpAny_standAt (wpAny_bind (wpAny_mono (turn n s hI) (fun nx s1 h1 => ?_) fun _ _ z => z)))
  cases nx with
  | none => exact wpAny_pure h1
  | some u =>
    refine wpAny_bind (wpAny_mono h1 (fun _ s2 h2 => wpAny_bind (wpAny_mono h2 (fun _ s3 h3 => wpAny_bind (wpAny_mono h3 (fun go s4 h4 => ?_) fun _ _ z => z)) fun _ _ z => z)) fun _ _ z => z)
    cases go with
    | false => exact wpAny_pure ⟨rfl, h4⟩
    | true =>
      exact wpAny_bind (wpAny_bind (wpAny_mono h4 (fun y s5 h5 => wpAny_bind (wpAny_standAt (wpAny_bind (wpAny_mono h5 (fun _ s6 h6 => wpAny_pure (wpAny_pure ⟨rfl, h6⟩)) fun _ _ z => z)))) fun _ _ z => z))
theorem startB (h0 : codeAny (model prog w) A (.compLoop (Two el ta ia tb ib fa fb sc ps) 1 it acc env) R s)
    (h : wpAny (model prog w) A (pyIter it) (fun i2 t => codeAny (model prog w) A (.compLoop (Two el ta ia tb ib fa fb sc ps) 1 i2 acc env) R t) (Nb prog w A env R) s) :
    codeAny (model prog w) A (.compStart (Two el ta ia tb ib fa fb sc ps) 1 it acc env) R s := by
  refine codeAny_of_tree ?_
  show wpAny _ _ ((compStart (Two el ta ia tb ib fa fb sc ps) 1 it acc env).onRaise (fun x => do noteFrame x env; standAt theWindowsPlace)) _ _ s
  refine wpAny_notedAt ?_
  unfold compStart
  show wpAny _ _ (ask >>= _) _ _ s
  refine wpAny_bind (wpAny_askSetting (wpAny_ite ?_))
  split
  · first
      | exact wpAny_bind (wpAny_pure (wpAny_pure (And.intro rfl h0)))
      | exact wpAny_pure (And.intro rfl h0)
  · refine wpAny_bind (wpAny_rule ?_)
    first
      | exact wpAny_bind (wpAny_standAt (wpAny_bind (wpAny_mono h (fun i2 t h2 => wpAny_pure (And.intro rfl h2)) fun _ _ z => z)))
      | (show wpAny _ _ (standAt ib.pos >>= _) _ _ s; exact wpAny_bind (wpAny_standAt (wpAny_bind (wpAny_mono h (fun i2 t h2 => wpAny_pure (And.intro rfl h2)) fun _ _ z => z))))
end

section
variable {X : Cx}
/-- a number laid into a tracked set -/
theorem addI_ok {pins : List (Addr × Obj)} {σ : L2.St} {H : Hp} {s : Shared} {E : Value → Shared → Prop} {D : Addr} {S : Int → Bool} {n : Nat} {k : Int} {tk : Tok} {Q : Value → Shared → Prop} (I : Inv X pins σ H s) (hD : H D = some (SetO X.w D S n)) (room : n + 1 < scanBound)
    (h : ∀ t, Inv X pins σ (upd H D (SetO X.w D (fun j => S j || decide (j = k)) (if S k = true then n else n + 1))) t → Q .none t) : wpAny (model X.prog X.w) X.A (call (.builtin "set.add") [.ref D, .int k tk]) Q E s := by
  refine setR_add (setO_get I hD) room fun h2 sb new => ?_
  have ex : ∃ u, h2.get? D = some u := by
    have ⟨o, _, _, _, ho, _⟩ := new
    exact ⟨o, ho⟩
  exact h _ (I.write (e := D) (t' := s.toks + 1) (by rw [hD]; trivial) (.inl rfl) (fun b u hb hu => (sb.2 b hb).trans hu) ex (setO_new new))
/-- D: the new set; Nx: what holds behind a turn of the outer clause, Ny: of the inner one. vs: the block's names, vb: those of the second target -/
def tSc2 (w : World) (wi : TI) (g : TG) (tt : TT) (wj : TI) (gj : TG) (tj : TT) (te : TE) (vs vb : List Nat) : TE := fun σ H Q => wi σ H fun J H1 => ∀ D, H1 D = none → ∃ W : Nat → Nat → Hp → Prop, (∃ m, W 0 m (upd H1 D (SetO w D (fun _ => false) 0))) ∧ ∀ i m H, W i m H →
  (J.stop i H ∧ Q (.ref D) H) ∨ (J.go i H ∧ ∃ Nx : Hp → Prop, (∀ H2, Nx H2 → ∃ l, l < m ∧ W (i + 1) l H2) ∧ ∀ x H2, J.yld i H x H2 → g x (wipe σ vs) H2 fun σ2 H3 => wipe σ2 vs = wipe σ vs ∧ tt σ2 H3 fun b H4 =>
    if b = true then wj σ2 H4 fun K H5 => ∃ V : Nat → Nat → Hp → Prop, (∃ m, V 0 m H5) ∧ ∀ j k H, V j k H →
      (K.stop j H ∧ Nx H) ∨ (K.go j H ∧ ∃ Ny : Hp → Prop, (∀ H6, Ny H6 → ∃ l, l < k ∧ V (j + 1) l H6) ∧ ∀ x H6, K.yld j H x H6 → gj x (wipe σ2 vb) H6 fun σ3 H7 => wipe σ3 vb = wipe σ2 vb ∧ tj σ3 H7 fun b H8 =>
        if b = true then te σ3 H8 fun y H9 => ∃ (z : Int) (S : Int → Bool) (n : Nat), y = .int z ∧ H9 D = some (SetO w D S n) ∧ n + 1 < scanBound ∧ Ny (upd H9 D (SetO w D (fun j => S j || decide (j = z)) (if S z = true then n else n + 1))) else Ny H8)
    else Nx H4)
set_option maxHeartbeats 4000000 in
theorem pe_sc2 {el ta ia tb ib : Expr} {fa fb : List Expr} {sc : Scope} {own : List (PySem.Str × Nat)} {vb : List Nat} {ps : Pos} {wi wj : TI} {g gj : TG} {tt tj : TT} {te : TE} (hc : X.calm = true) (hN : X.N.Nodup) (hi : PI X ta ia wi) (ok : BlkOk X.N X.env.scope sc own) (hv : ∀ i ∈ vb, i ∈ own.map (·.2))
    (hg : ∀ (s : Shared) (H : Hp) (C : Addr) (cl : List (PySem.Str × Addr)) (fp : List Addr), PG (X.blk s H sc (compEnvC sc cl C X.env) fp) ta g) (ht : ∀ (s : Shared) (H : Hp) (C : Addr) (cl : List (PySem.Str × Addr)) (fp : List Addr), PTs (X.blk s H sc (compEnvC sc cl C X.env) fp) fa tt)
    (hj : ∀ (s : Shared) (H : Hp) (C : Addr) (cl : List (PySem.Str × Addr)) (fp : List Addr), PI (X.blk s H sc (compEnvC sc cl C X.env) fp) tb ib wj)
    (hgj : ∀ (s : Shared) (H : Hp) (C : Addr) (cl : List (PySem.Str × Addr)) (fp : List Addr), PG (X.blk s H sc (compEnvC sc cl C X.env) fp) tb gj) (htj : ∀ (s : Shared) (H : Hp) (C : Addr) (cl : List (PySem.Str × Addr)) (fp : List Addr), PTs (X.blk s H sc (compEnvC sc cl C X.env) fp) fb tj)
    (he : ∀ (s : Shared) (H : Hp) (C : Addr) (cl : List (PySem.Str × Addr)) (fp : List Addr), PE (X.blk s H sc (compEnvC sc cl C X.env) fp) el te) (hs : ∀ x, foldedSetIterable ia X.env x = pure x := by intro _; rfl) (hsj : ∀ env x, foldedSetIterable ib env x = pure x := by intro _ _; rfl) :
    PE X (.SetComp el [⟨ta, ia, fa, 0⟩, ⟨tb, ib, fb, 0⟩] sc ps) (tSc2 X.w wi g tt wj gj tj te (own.map (·.2)) vb) := by
  refine ⟨fun pins s σ H Q I h => ?_⟩
  rw [eval_SetComp]
  have caught : ∀ y ∈ sc.names, y.2 = .free → ∃ c, X.env.cells.lookup y.1 = some c := fun y hy e => (ok.free y hy e).elim (fun k => I.ok.has _ (.inl k)) fun k => I.ok.has _ (.inr k)
  refine wpAny_comprehension_free (use := none) rfl hs (closure_ok caught) ok.kind (fun y hy e => by rw [ok.uniq y hy, e]) (thn (hi.run pins s σ H _ I h) fun _ s1 hx => thn hx fun _ s2 h2 => ?_)
  obtain ⟨it, fp, tn, J, H2, rfl, I2, T, st2, f2, q⟩ := h2
  refine newSet_ok (newEnv_comp ?_)
  obtain ⟨D, hD⟩ : ∃ D, s2.heap.objs.size = D := ⟨_, rfl⟩
  obtain ⟨W, ⟨m0, w0⟩, turn⟩ := q D (I2.hok.fresh (Nat.le_of_eq hD))
  rw [hD]
  -- the new set's state, and the block's
  obtain ⟨s3, hs3⟩ : ∃ t : Shared, ({ s2 with heap := s2.heap.push { cls := .type "set", dict := none, data := .set #[] 0 (.fresh 0 0 (!X.w.params.followText "set-order")) } } : Shared) = t := ⟨_, rfl⟩
  rw [hs3]
  have h3 : ∀ b o, s2.heap.get? b = some o → s3.heap.get? b = some o := fun b o e => by rw [← hs3]; exact Heap.get?_push_of_some _ e
  have z3 : s2.heap.objs.size ≤ s3.heap.objs.size := by
    rw [← hs3]
    show s2.heap.objs.size ≤ (Heap.push s2.heap _).objs.size
    rw [Heap.size_push]
    exact Nat.le_succ _
  have I3 : Inv X pins σ (upd H2 D (SetO X.w D (fun _ => false) 0)) s3 := by
    rw [← hs3]
    refine I2.laid (t' := s2.toks) (fun b o e => Heap.get?_push_of_some _ e) (Nat.le_of_eq hD) ?_
    rw [← hD]
    exact setO_new (setR_fresh X.w)
  have f3 : ∀ b ∈ fp, FpOk X pins (upd H2 D (SetO X.w D (fun _ => false) 0)) b ∧ b < s3.heap.objs.size := fun b hb => by
    obtain ⟨o, e, _⟩ := T.obj _ _ st2 b hb
    have lt := Heap.lt_size e
    refine ⟨⟨?_, (f2 b hb).2⟩, Nat.lt_of_lt_of_le lt z3⟩
    rw [upd_ne (by rw [← hD]; exact Nat.ne_of_lt lt)]
    exact (f2 b hb).1
  have st3 : tn 0 s3.heap := T.keep _ _ _ st2 fun b _ o e => h3 b o e
  have I4 := block_start I3 ok hN f3
  have pg := hg s3 (upd H2 D (SetO X.w D (fun _ => false) 0)) s3.heap.objs.size (cellsFrom (s3.heap.objs.size + 1) sc.names (cloFrom X.env.cells sc.names [])) fp
  have pt := ht s3 (upd H2 D (SetO X.w D (fun _ => false) 0)) s3.heap.objs.size (cellsFrom (s3.heap.objs.size + 1) sc.names (cloFrom X.env.cells sc.names [])) fp
  have pe := he s3 (upd H2 D (SetO X.w D (fun _ => false) 0)) s3.heap.objs.size (cellsFrom (s3.heap.objs.size + 1) sc.names (cloFrom X.env.cells sc.names [])) fp
  have pj := hj s3 (upd H2 D (SetO X.w D (fun _ => false) 0)) s3.heap.objs.size (cellsFrom (s3.heap.objs.size + 1) sc.names (cloFrom X.env.cells sc.names [])) fp
  have pgj := hgj s3 (upd H2 D (SetO X.w D (fun _ => false) 0)) s3.heap.objs.size (cellsFrom (s3.heap.objs.size + 1) sc.names (cloFrom X.env.cells sc.names [])) fp
  have ptj := htj s3 (upd H2 D (SetO X.w D (fun _ => false) 0)) s3.heap.objs.size (cellsFrom (s3.heap.objs.size + 1) sc.names (cloFrom X.env.cells sc.names [])) fp
  show codeAny _ _ (.compStart (Two el ta ia tb ib fa fb sc ps) 0 (.ref it) (.ref D) (compEnvC sc (cellsFrom (s3.heap.objs.size + 1) sc.names (cloFrom X.env.cells sc.names [])) s3.heap.objs.size X.env)) (compPost (model X.prog X.w) X.A X.xe none _ (.ref D) s3.heap.objs.size) { s3 with heap := pushCells (s3.heap.push { cls := .type "dict", data := .dict #[] }) sc.names }
  have none3 : ∀ b ∈ fp, (upd H2 D (SetO X.w D (fun _ => false) 0)) b = none := fun b hb => (f3 b hb).1.1
  generalize hce : compEnvC sc (cellsFrom (s3.heap.objs.size + 1) sc.names (cloFrom X.env.cells sc.names [])) s3.heap.objs.size X.env = ce at I4 pg pt pe pj pgj ptj ⊢
  have cL : ce.locals = s3.heap.objs.size := by subst hce; rfl
  generalize hH3 : upd H2 D (SetO X.w D (fun _ => false) 0) = H3 at I3 I4 pg pt pe pj pgj ptj w0 none3 f3
  generalize hs4 : ({ s3 with heap := pushCells (s3.heap.push { cls := .type "dict", data := .dict #[] }) sc.names } : Shared) = s4 at I4 ⊢
  have st4 : tn 0 s4.heap := T.keep _ _ _ st3 fun b _ o e => by rw [← hs4]; exact pushCells_keeps _ _ _ _ (Heap.get?_push_of_some _ e)
  have foot : ∀ {τ : L2.St} {G : Hp} {t : Shared}, Inv (X.blk s3 H3 sc ce fp) [] τ G t → (∀ b ∈ fp, G b = none) → ∀ b ∈ fp, FpOk (X.blk s3 H3 sc ce fp) [] G b := fun {τ G t} I9 hn b hb =>
    ⟨hn b hb, (I9.ok.exf b hb).1, I9.ok.exfs b hb, .inl hb, fun x c e => (I9.ok.exf b hb).2 x c e, fun p hp => absurd (show p ∈ ([] : List (Addr × Obj)) ++ [] from hp) (by simp)⟩
  have loop : codeAny (model X.prog X.w) X.A (.compLoop (Two el ta ia tb ib fa fb sc ps) 0 (.ref it) (.ref D) ce) (compPost (model X.prog X.w) X.A X.xe none (EP X pins σ Q) (.ref D) s3.heap.objs.size) s4 := by
    refine loopA (hsj ce) (fun n t => ∃ i G, Inv (X.blk s3 H3 sc ce fp) [] (wipe σ (own.map (·.2))) G t ∧ tn i t.heap ∧ (∀ b ∈ fp, G b = none) ∧ W i n G) ?_ m0 ⟨0, H3, I4, st4, none3, w0⟩
    rintro n s5 ⟨i, H5, I5, st5, n5, w5⟩
    rcases turn i n H5 w5 with ⟨stop, qq⟩ | ⟨go, Nx, hNx, step⟩
    · refine thnF (T.done (X.blk s3 H3 sc ce fp) rfl rfl rfl hc i [] s5 _ H5 (fun _ _ => False) I5 (foot I5 n5) st5 stop) fun r s6 ⟨hr, I6⟩ => ?_
      subst hr
      have I7 : Inv X pins σ H5 s6 := I3.call' (ch := fp) I6.os I6.base I6.hok I6.bare fun b hb => ⟨(f3 b hb).1.2.2.2.1, (f3 b hb).1.2.1, (f3 b hb).1.2.2.2.2.1, (f3 b hb).1.2.2.2.2.2⟩
      obtain ⟨l, hn, _⟩ := I6.loc
      have hn : s6.heap.Ns ce.locals l := hn
      rw [cL] at hn
      obtain ⟨f0, f1, f2', f3', f4, f5⟩ := I3.fpOk (H' := H5) (b := s3.heap.objs.size) (Nat.le_refl _) (by rw [← cL]; exact I6.free)
      exact ⟨l, hn, fun h9 sb => ⟨.ref D, H5, I7.turned (t' := s6.toks) (fun b o hb e => (sb.2 b hb).trans e) f0 f1 f3' f4 f5, rfl, qq⟩⟩
    · refine thnF (T.item (X.blk s3 H3 sc ce fp) rfl rfl rfl hc i [] s5 _ H5 (fun _ _ => False) I5 (foot I5 n5) st5 go) fun r s6 ⟨u, hr, h6⟩ => ?_
      subst hr
      refine thnF h6 fun _ s7 ⟨x, H7, I7, r7, y7, st7, n7⟩ => ?_
      refine thnF (pg.run _ s7 _ H7 x u _ (I7.pinned (foot I7 n7) (T.obj _ _ st7)) r7 (step x H7 y7)) fun _ s8 ⟨σ8, H8, I8, hw8, q8⟩ => ?_
      refine thnF (pt.run _ s8 σ8 H8 _ I8 q8) fun b s9 ⟨H9, I9, q9⟩ => ?_
      -- how an outer turn ends
      have fin : ∀ {τ : L2.St} {t : Shared} {G : Hp}, Inv (X.blk s3 H3 sc ce fp) ([] ++ pinsAt fp s7.heap) τ G t → (wipe σ (own.map (·.2))).length = τ.length → (∀ (j : Nat) v, (wipe σ (own.map (·.2)))[j]? = some (some v) → τ[j]? = some (some v)) → Nx G →
          ∃ m, m < n ∧ ∃ i G, Inv (X.blk s3 H3 sc ce fp) [] (wipe σ (own.map (·.2))) G t ∧ tn i t.heap ∧ (∀ b ∈ fp, G b = none) ∧ W i m G := fun {τ t G} I10 hl hk nx => by
        obtain ⟨l, hl2, w10⟩ := hNx G nx
        have pinned : ∀ b ∈ fp, ∀ o, s7.heap.get? b = some o → t.heap.get? b = some o ∧ G b = none := fun b hb o e =>
          let z := I10.pin (b, o) (List.mem_append_right _ (List.mem_append_right _ (mem_pinsAt hb e)))
          ⟨z.1, z.2.1⟩
        refine ⟨l, hl2, i + 1, G, (I10.unpinned (pins := [])).weak hl hk, T.keep _ _ _ st7 fun b hb o e => (pinned b hb o e).1, fun b hb => ?_, w10⟩
        obtain ⟨o, e, _⟩ := T.obj _ _ st7 b hb
        exact (pinned b hb o e).2
      have hl8 : (wipe σ (own.map (·.2))).length = σ8.length := by rw [← hw8, wipe_length]
      cases b with
      | false =>
        simp only [Bool.false_eq_true, if_false] at q9 ⊢
        exact fin I9 hl8 (fun j v e => by rw [← hw8] at e; exact (wipe_some e).1) q9
      | true =>
        simp only [if_true] at q9 ⊢
        refine thnF (pj.run _ s9 σ8 H9 _ I9 q9) fun _ s10 hx => thnF hx fun _ s11 h11 => ?_
        obtain ⟨it1, fp1, tn1, K, H11, rfl, I11, T1, st11, f11, V, ⟨m1, w1⟩, turn1⟩ := h11
        have foot1 : ∀ {G : Hp}, (∀ b ∈ fp1, G b = none) → ∀ b ∈ fp1, FpOk (X.blk s3 H3 sc ce fp) ([] ++ pinsAt fp s7.heap) G b := fun hn b hb => ⟨hn b hb, (f11 b hb).2⟩
        have inner : codeAny (model X.prog X.w) X.A (.compLoop (Two el ta ia tb ib fa fb sc ps) 1 (.ref it1) (.ref D) ce)
            (fun r t => match r with
              | .ok _ => ∃ m, m < n ∧ ∃ i G, Inv (X.blk s3 H3 sc ce fp) [] (wipe σ (own.map (·.2))) G t ∧ tn i t.heap ∧ (∀ b ∈ fp, G b = none) ∧ W i m G
              | .error _ => False) s11 := by
          refine loopB (fun k t => ∃ j G, Inv (X.blk s3 H3 sc ce fp) ([] ++ pinsAt fp s7.heap) (wipe σ8 vb) G t ∧ tn1 j t.heap ∧ (∀ b ∈ fp1, G b = none) ∧ V j k G) ?_ m1 ⟨0, H11, I11.weak (wipe_length _ _) (fun j v e => (wipe_some e).1), st11, fun b hb => (f11 b hb).1, w1⟩
          rintro k s12 ⟨j, H12, I12, st12, n12, w12⟩
          rcases turn1 j k H12 w12 with ⟨stop1, nx1⟩ | ⟨go1, Ny, hNy, step1⟩
          · refine thnF (T1.done (X.blk s3 H3 sc ce fp) rfl rfl rfl hc j _ s12 (wipe σ8 vb) H12 (fun _ _ => False) I12 (foot1 n12) st12 stop1) fun r s13 ⟨hr, I13⟩ => ?_
            subst hr
            refine fin I13 (hl8.trans (wipe_length σ8 vb).symm) (fun j v e => ?_) nx1
            rw [← hw8] at e
            obtain ⟨e1, e2⟩ := wipe_some e
            rw [wipe_out fun z => e2 (hv j z)]
            exact e1
          · refine thnF (T1.item (X.blk s3 H3 sc ce fp) rfl rfl rfl hc j _ s12 (wipe σ8 vb) H12 (fun _ _ => False) I12 (foot1 n12) st12 go1) fun r s13 ⟨u1, hr, h13⟩ => ?_
            subst hr
            refine thnF h13 fun _ s14 ⟨x1, H14, I14, r14, y14, st14, n14⟩ => ?_
            refine thnF (pgj.run _ s14 (wipe σ8 vb) H14 x1 u1 _ (I14.pinned (foot1 n14) (T1.obj _ _ st14)) r14 (step1 x1 H14 y14)) fun _ s15 ⟨σ15, H15, I15, hw15, q15⟩ => ?_
            refine thnF (ptj.run _ s15 σ15 H15 _ I15 q15) fun b1 s16 ⟨H16, I16, q16⟩ => ?_
            -- how an inner turn ends
            have fin1 : ∀ {t : Shared} {G : Hp}, Inv (X.blk s3 H3 sc ce fp) (([] ++ pinsAt fp s7.heap) ++ pinsAt fp1 s14.heap) σ15 G t → Ny G → ∃ m, m < k ∧ ∃ j G, Inv (X.blk s3 H3 sc ce fp) ([] ++ pinsAt fp s7.heap) (wipe σ8 vb) G t ∧ tn1 j t.heap ∧ (∀ b ∈ fp1, G b = none) ∧ V j m G := fun {t G} I17 ny => by
              obtain ⟨l, hl, w17⟩ := hNy G ny
              have pinned : ∀ b ∈ fp1, ∀ o, s14.heap.get? b = some o → t.heap.get? b = some o ∧ G b = none := fun b hb o e =>
                let z := I17.pin (b, o) (List.mem_append_right _ (List.mem_append_right _ (mem_pinsAt hb e)))
                ⟨z.1, z.2.1⟩
              refine ⟨l, hl, j + 1, G, I17.unpinned.weak (by rw [← hw15, wipe_length]) (fun j v e => by rw [← hw15] at e; exact (wipe_some e).1), T1.keep _ _ _ st14 fun b hb o e => (pinned b hb o e).1, fun b hb => ?_, w17⟩
              obtain ⟨o, e, _⟩ := T1.obj _ _ st14 b hb
              exact (pinned b hb o e).2
            cases b1 with
            | false =>
              simp only [Bool.false_eq_true, if_false] at q16 ⊢
              exact fin1 I16 q16
            | true =>
              simp only [if_true] at q16 ⊢
              refine thnF (pe.run _ s16 σ15 H16 _ I16 q16) fun yu s17 ⟨yv, H17, I17, r17, z, S, n2, ey, hD17, hz17, ny⟩ => ?_
              subst ey
              obtain ⟨tz, rfl⟩ := r17
              exact addI_ok (X := X.blk s3 H3 sc ce fp) I17 hD17 hz17 fun s18 I18 => fin1 I18 ny
        exact startB inner (T1.self X.A 0 _ _ _ st11 inner)
  exact codeAny_compStart_set loop (T.self X.A 0 _ _ _ st4 loop)
end
end ScT
/-! ### sorted(xs, key=lambda x: x.f) -/
namespace SrtK
open PySem PySem.Spec PyProof.Rows L2
/-- a lambda of one parameter, no captured names -/
structure LamP (scope : Scope) (a : Str) : Prop where
  kind : scope.kind = .function
  co : scope.isCoroutine = false
  gen : scope.isGenerator = false
  own : ∀ y ∈ scope.names, y.2 ≠ .cell ∧ y.2 ≠ .free
  par : scope.names.lookup a = some .local
def lamPB (scope : Scope) (a : Str) : Bool := decide (scope.kind = .function) && !scope.isCoroutine && !scope.isGenerator && (scope.names.all fun y => !decide (y.2 = .cell) && !decide (y.2 = .free)) && decide (scope.names.lookup a = some .local)
theorem lamP_by {scope : Scope} {a : Str} (h : lamPB scope a = true) : LamP scope a := by
  unfold lamPB at h
  simp only [Bool.and_eq_true, Bool.not_eq_true', decide_eq_true_eq, decide_eq_false_iff_not, List.all_eq_true] at h
  obtain ⟨⟨⟨⟨h1, h2⟩, h3⟩, h4⟩, h5⟩ := h
  exact ⟨h1, h2, h3, h4, h5⟩
theorem key_call {prog : Program} {w : World} {K : PySem.W.Frag} {A : Around} {q a fld : Str} {params : Arguments} {scope : Scope} {p1 p2 : Pos} {cl : List (Str × Addr)} {pm ctv : Value} {c' f x dx C : Addr} {mA : Str → Option Value} {n : Int} {t : Tok} {st : Shared}
    (hroom : A.depth < recursionLimit) (hf : st.heap.get? f = some (PySem.W.kla_obj "<lambda>" q params (.Attribute (.Name a p1) fld p2) scope cl pm c' ctv)) (L : LamP scope a)
    (hco : ∃ (oc : Obj) (vs : Array Value) (t : Tok), st.heap.get? c' = some oc ∧ oc.data = .fields vs ∧ vs[1]? = some (.str q t))
    (lim : st.heap.NoLimit) (KX : K.In st.heap) (ob : ObjM st.heap x dx C mA) (hc : Cls K C) (hn : NoAttr K C fld) (hv : mA fld = some (.int n t))
    (hbind : ∀ v, bindArgs (PySem.W.kla_fn "<lambda>" q params (.Attribute (.Name a p1) fld p2) scope cl pm (.ref c') ctv) ⟨[v], []⟩ = pure [(a, v)]) (hd : (a == ("__debug__" : Str)) = false) :
    wpAny (model prog w) A (call (.ref f) [.ref x]) (PySem.W.KeyPure (.int n) st) (fun _ _ => False) st := by
  obtain ⟨oc, vs, tq, hoc, hdc, hvc⟩ := hco
  have rc : codeAny (model prog w) A (.call (.ref f) ⟨[.ref x], []⟩) (fun r s' => ∃ u, r = .ok (.ret u) ∧ PySem.W.KeyPure (.int n) st u s') st := by
    refine PySem.W.kla_callFunE hroom hf rfl L.co L.gen rfl ⟨c', oc, vs, tq, rfl, hoc, hdc, hvc⟩ ?_
    rw [hbind]
    refine wpAny_pure (wpAny_newFunctionEnv (fun y hy => (L.own y hy).1) (fun y hy => ?_) (fun h₁ hns hsb => ?_) L.kind)
    · rw [List.mem_singleton.mp hy]
      exact L.par
    have kp : ∀ b o, st.heap.get? b = some o → h₁.get? b = some o := fun b o e => hsb.extBut b o (Nat.ne_of_lt (Heap.lt_size e)) (Heap.get?_push_of_some _ e)
    refine ⟨lim.keeps kp, ?_⟩
    refine PySem.W.kla_codeExpr ?_
    refine attr_of (by rfl) (wpAny_Name (wpAny_loadName_local (m := fun y => ([(a, Value.ref x)] : List (Str × Value)).reverse.lookup y) (v := .ref x) L.kind L.par hns (by simp [List.lookup]) ?_) hd)
    refine get_map (KX.keeps kp) ⟨kp _ _ ob.obj, ob.ns.keeps kp, ob.ne⟩ (hc.get fld) hc.hd hn hv rfl ?_
    exact ⟨_, rfl, _, _, rfl, kp, Reads.int n t⟩
  refine wpAny_call (codeAny_mono rc fun r s' hq => ?_)
  obtain ⟨u, rfl, hq⟩ := hq
  exact hq
end SrtK
namespace SrtK
open PySem PySem.Spec PyProof.Rows L2
theorem each_of {vs : List V} {us : List Value} (h : Vals vs us) : PySem.W.EachIs (fun u v => RelV v u) us vs := by
  induction h with
  | nil => exact .nil
  | cons r _ ih => exact .cons r ih
theorem of_each {vs : List V} {us : List Value} (h : PySem.W.EachIs (fun u v => RelV v u) us vs) : Vals vs us := by
  induction h with
  | nil => exact .nil
  | cons r _ ih => exact .cons r ih
def byKey (k : V → Int) (xs : List V) : List V := xs.mergeSort fun x y => decide (k x ≤ k y)
def tSortK (K : PySem.W.Frag) (T : List (Addr × Str)) (fld : Str) (t : TE) : TE := fun σ H Q => t σ H fun x H1 => ∃ (a : Addr) (xs : List V) (k : V → Int), x = .ref a ∧ SqL K H1 a xs ∧
  (∀ y ∈ xs, ∃ (o C dx : Addr) (fs : List (Str × V)), y = .ref o ∧ H1 o = some (.ins C dx fs) ∧ Cls K C ∧ NoAttr K C fld ∧ fs.lookup fld = some (.int (k y))) ∧ LamX.Tabs T H1 ∧
  ∀ H2, LamX.ExtN H1 H2 → LamX.Tabs T H2 → ∀ p, H2 p = none → Q (.ref p) (upd H2 p (.lst (byKey k xs)))
theorem pe_sortK {X : Cx} {T : List (Addr × Str)} {a fld : Str} {c P : Addr} {k : Nat} {e : Expr} {t : TE} {params : Arguments} {scope : Scope} {p p1 p2 lpos kpos pos : Pos} (hg : Gl X "sorted") (hm : X.mg "sorted" = none)
    (he : PE X e t) (TB : LamX.TabB X.base X.mg c P) (hcode : X.env.code = .ref c) (hmT : (P, X.env.qual ++ "<lambda>") ∈ T) (hu : ∀ p ∈ T, p.1 = P → p.2 = X.env.qual ++ "<lambda>") (hr : Room k X.A) (L : LamP scope a)
    (hdef : defaultsOf params X.env = ([], []) := by rfl)
    (hbind : ∀ (q : Str) (cl : List (Str × Addr)) (pm cv ctv v : Value), bindArgs (PySem.W.kla_fn "<lambda>" q params (.Attribute (.Name a p1) fld p2) scope cl pm cv ctv) ⟨[v], []⟩ = pure [(a, v)] := by intros; rfl)
    (hd : (a == ("__debug__" : Str)) = false := by decide)
    (hse : starEach [e] X.env = [(false, eval e X.env)] := by rfl) (hpl : (backTo pos (starEach [e] X.env)).any (·.1) = false := by rfl)  :
    PE X (.Call (.Name "sorted" p) [e] [⟨some "key", .Lambda params (.Attribute (.Name a p1) fld p2) scope lpos, kpos⟩] pos) (tSortK X.K T fld t) := by
  refine ⟨fun pins s σ H Q I h => ?_⟩
  refine wpAny_Call_Name_kw (ld_blt I hg hm (by rfl) ?_ (by decide) (by decide))
  refine PyProof.Rows.callWith_kw (thn ((pa_cons he pa_nil hse).run pos pins s σ H (fun vs H1 => match vs with
      | [x] => ∃ (a : Addr) (xs : List V) (k : V → Int), x = .ref a ∧ SqL X.K H1 a xs ∧
      (∀ y ∈ xs, ∃ (o C dx : Addr) (fs : List (Str × V)), y = .ref o ∧ H1 o = some (.ins C dx fs) ∧ Cls X.K C ∧ NoAttr X.K C fld ∧ fs.lookup fld = some (.int (k y))) ∧ LamX.Tabs T H1 ∧
      ∀ H2, LamX.ExtN H1 H2 → LamX.Tabs T H2 → ∀ p, H2 p = none → Q (.ref p) (upd H2 p (.lst (byKey k xs)))
      | _ => False) I ?_) fun us s1 ⟨vs, H1, I1, r1, q1⟩ => ?_) (by rw [hse]; rfl) hpl (by rfl) (by rfl)
  · exact h
  match vs, r1, q1 with
  | [x], r1, q1 => ?_
  obtain ⟨l, xs, ky, rfl, hs, hx, hT, q⟩ := q1
  obtain rfl := Vals.ref1 r1
  show wpAny _ _ (evalAll [do let v ← eval (.Lambda params (.Attribute (.Name a p1) fld p2) scope lpos) X.env; standAt pos; pure v]) _ _ s1
  refine wpAny_evalAll_cons (wpAny_bind (LamX.lam_make2 I1 TB hcode hmT hu hT hdef (fun y hy z => absurd z (L.own y hy).2) fun f c' pm ctv H2 s2 I2 eN T2 hf hfn hfr hco => wpAny_bind (wpAny_standAt (wpAny_pure (wpAny_evalAll_nil ?_)))))
  show wpAny (model X.prog X.w) X.A (call (.builtin "sorted") [.ref l] [(Str.ofString "key", .ref f)]) _ _ s2
  have hs2 : SqL X.K H2 l xs := by
    rcases hs with (h | ⟨o, h⟩) | h
    · exact .inl (.inl (eN _ _ h (by intro ps z; cases z)))
    · exact .inl (.inr ⟨o, eN _ _ h (by intro ps z; cases z)⟩)
    · exact .inr h
  obtain ⟨its, rv, hl, hz⟩ := I2.list hs2
  obtain ⟨⟨oc, vs', tq, hoc, hdc, hvc⟩, _, _⟩ := I2.hok c' _ hco
  refine PySem.W.sorted_key_data (b := false) (R := fun u v => RelV v u) (fun v : V => PyData.int (ky v)) hl.isList (each_of rv) (PySem.W.AllAlike.of fun _ _ => by simp [PySem.W.alike]) (.inr fun d hd => ?_) hz (fun y _ => ?_) (PyProof.Rows.ksk_s1 _ _) (fun _ => PyProof.Rows.ksk_l1 _ _) (fun _ => PyProof.Rows.ksk_t1 _ _) (fun u y r hy h tk kp => ?_) fun out c2 h' tk kp hnone hD hlen eo => ?_
  · obtain ⟨y, _, rfl⟩ := List.mem_map.mp hd
    exact ⟨by simp, by simp⟩
  · have := hr.un
    show X.A.units + 2 + 0 < _
    omega
  · obtain ⟨o, C, dx, fs, rfl, ho, hc, hn, hlk⟩ := hx y hy
    obtain rfl : u = .ref o := r
    obtain ⟨mA, ob, rr, _⟩ := ins_get I2.hok (eN _ _ ho (by intro ps z; cases z))
    obtain ⟨v0, hv0, rv0⟩ := RelO.some_of (v := .int (ky (.ref o))) (o := mA fld) (by rw [← hlk]; exact rr fld)
    obtain ⟨t0, rfl⟩ := rv0
    exact key_call (by have := hr.dp; show X.A.depth < _; omega) (kp _ _ hf) L ⟨oc, vs', tq, kp _ _ hoc, hdc, hvc⟩ (I2.nolimit.keeps kp) (I2.kIn.keeps kp) ⟨kp _ _ ob.obj, ob.ns.keeps kp, ob.ne⟩ hc hn hv0 (hbind _ _ _ _ _) hd
  · rw [PySem.W.dataLe_int] at eo
    have vv := of_each eo
    exact ⟨.ref _, upd H2 (s2.heap.objs.size + 1) (.lst (byKey ky xs)), I2.laid (t' := tk) kp (Nat.le_succ _) ⟨by rw [show (byKey ky xs).length = xs.length from List.length_mergeSort _]; exact hz, out, c2, vv, hD⟩, rfl, q _ eN T2 _ (I2.hok.fresh (Nat.le_succ _))⟩
end SrtK
/-! ### sorted(xs), tuples of an unlike whole number and a list of texts -/
namespace SrtK
open PySem PySem.Spec PyProof.Rows L2
theorem alike_strs : ∀ xs ys : List Str, PySem.W.alikeAll (xs.map .str) (ys.map .str) = true
  | [], _ => by simp [PySem.W.alikeAll]
  | _ :: _, [] => by simp [PySem.W.alikeAll]
  | x :: xs, y :: ys => by
    rw [List.map_cons, List.map_cons, PySem.W.alikeAll, alike_strs xs ys]
    simp [PySem.W.alike]
theorem depth_strs : ∀ xs : List Str, PyData.depthAll (xs.map .str) = 0
  | [] => by simp [PyData.depthAll]
  | x :: xs => by
    rw [List.map_cons, PyData.depthAll, depth_strs xs]
    simp [PyData.depth]
def encNW (n : V → Int) (ws : V → List Str) : V → PyData := fun y => .tuple [.int (n y), .list ((ws y).map .str)]
def rSortNW (K : PySem.W.Frag) : List V → Hp → VK → Prop := fun vs H Q => ∃ (a : Addr) (xs : List V) (n : V → Int) (ws : V → List Str), vs = [.ref a] ∧ SqL K H a xs ∧ (∀ y ∈ xs, Dp K H y (encNW n ws y)) ∧ (∀ x ∈ xs, ∀ y ∈ xs, n x = n y → x = y) ∧
  ∀ p, H p = none → Q (.ref p) (upd H p (.lst (byKey n xs)))
theorem dataLt_first {x y : Int} {a b : PyData} (h : x ≠ y) : PySem.W.dataLt (.tuple [.int x, a]) (.tuple [.int y, b]) = decide (x < y) := by
  rw [PySem.W.dataLt_tuple, PySem.W.dataLt_cons (by simp [PySem.W.alike])]
  have e : PyData.eqv (.int x) (.int y) = false := by simp [PyData.eqv, h]
  rw [e, if_neg Bool.false_ne_true, PySem.W.dataLt_int]
theorem dataLt_irrefl (d : PyData) : PySem.W.dataLt d d = false := PyProof.Rows.lex_irrefl _
theorem sort_same {n : V → Int} {ws : V → List Str} {xs : List V} (hu : ∀ x ∈ xs, ∀ y ∈ xs, n x = n y → x = y) : xs.mergeSort (PySem.W.dataLe false (encNW n ws)) = byKey n xs := by
  have := List.map_mergeSort (f := id) (r := PySem.W.dataLe false (encNW n ws)) (s := fun x y => decide (n x ≤ n y)) (l := xs) fun x hx y hy => by
    rw [PySem.W.dataLe_eq]
    show (!PySem.W.dataLt (encNW n ws y) (encNW n ws x)) = decide (n x ≤ n y)
    by_cases e : n x = n y
    · obtain rfl := hu x hx y hy e
      rw [dataLt_irrefl]
      simp
    · rw [encNW, encNW, dataLt_first (fun h => e h.symm), PySem.W.not_lt_int]
  simpa [byKey] using this
theorem cr_sortNW {X : Cx} (hr : X.A.units + 64 < cLine) : CallR X (.builtin "sorted") (rSortNW X.K) := by
  intro pins s σ H vs us Q I r h
  obtain ⟨a, xs, n, ws, rfl, hs, hd, hu, q⟩ := h
  obtain ⟨its, rv, hl, hz⟩ := I.list hs
  rw [Vals.ref1 r]
  have er : PySem.W.EachIs (fun v b => ∃ as, Reads s.heap v (encNW n ws b) as) its xs := by
    have go : ∀ {ys : List V} {us : List Value}, Vals ys us → (∀ y ∈ ys, Dp X.K H y (encNW n ws y)) → PySem.W.EachIs (fun v b => ∃ as, Reads s.heap v (encNW n ws b) as) us ys := by
      intro ys us h
      induction h with
      | nil => exact fun _ => .nil
      | cons r1 _ ih => exact fun g => .cons (Dp.reads I _ _ _ (g _ (List.mem_cons_self ..)) r1) (ih fun y hy => g y (List.mem_cons_of_mem _ hy))
    exact go rv hd
  refine PySem.W.sorted_data (R := fun u v => RelV v u) hl.isList (each_of rv) er (PySem.W.AllAlike.of fun b b' => by simp [encNW, PySem.W.alike, PySem.W.alikeAll, alike_strs]) (PySem.W.Sortable.tuples fun b => ⟨_, _, rfl⟩) hz (fun b _ => ?_) fun out hlen eo => ?_
  · have : (encNW n ws b).depth ≤ 2 := by simp [encNW, PyData.depth, PyData.depthAll, depth_strs]
    omega
  · rw [sort_same hu] at eo
    obtain ⟨ep, he'⟩ := PyProof.Rows.sortedAll_at s.heap its out.toArray
    exact ⟨.ref _, upd H (s.heap.objs.size + 1) (.lst (byKey n xs)), I.laid (t' := s.toks) (fun _ _ => PyProof.Rows.sortedAll_old) (Nat.le_succ _) ⟨by rw [show (byKey n xs).length = xs.length from List.length_mergeSort _]; exact hz, out, ep, of_each eo, he'⟩, rfl, q _ (I.hok.fresh (Nat.le_succ _))⟩
end SrtK
/-! ### t.index(n), a tuple of whole numbers -/
namespace TupIx
open PySem PySem.Spec PyProof.Rows L2
theorem flat_is : ∀ ys : List Int, (ys.map V.int).all flatV = true
  | [] => rfl
  | _ :: r => flat_is r
theorem mt_indexI {X : Cx} : MtR X "tuple.index" (fun x xs H Q => ∃ p, ∃ ys : List Int, ∃ z j, x = .ref p ∧ xs = [.int z] ∧ SqT X.K H p (ys.map V.int) ∧ ys[j]? = some z ∧ (∀ m, m < j → ys[m]? ≠ some z) ∧ Q (.int (j : Nat)) H) := by
  intro pins s σ H x xs v us Q I rx rs h
  obtain ⟨p, ys, z, j, rfl, rfl, hq, hy, hno, q⟩ := h
  cases rx
  obtain ⟨u, rfl, t, rfl⟩ := vals1 rs
  obtain ⟨its, r, pl, hz⟩ := I.tuple hq
  obtain ⟨⟨cls, dd, dt, sl⟩, ho, hc, n, hd⟩ := pl
  simp only at hc hd
  subst hc
  subst hd
  have hl : its.toArray.size = ys.length := by rw [List.size_toArray, ← r.length, List.length_map]
  have hj : j < its.toArray.size := by rw [hl]; exact (List.getElem?_eq_some_iff.mp hy).1
  have at' : ∀ (m : Nat) (hm : m < its.toArray.size), ∃ y t', ys[m]? = some y ∧ its.toArray[m] = Value.int y t' := fun m hm => by
    have hm' : m < ys.length := by rw [← hl]; exact hm
    obtain ⟨w, hw, t', hw'⟩ := r.get (i := m) (x := .int ys[m]) (by simp [hm'])
    refine ⟨ys[m], t', List.getElem?_eq_getElem hm', ?_⟩
    have e := (List.getElem?_eq_some_iff.mp hw).2
    rw [← hw', ← e]
    simp
  refine call_meets PySem.F.slot_tuple_index ⟨_, ho, rfl⟩ PySem.F.entry_tuple_index (PySem.F.args_tuple_index_2 _ _) (TI.tuple_indexAt p its.toArray n dd sl (.int z t) (eqU (.int z)) j hj ?_ ?_)
    ⟨ho, fun w hw => mem_eqAt (x := .int z) ⟨t, rfl⟩ rfl r (flat_is ys) w (by simpa using hw), ⟨.int (j : Nat), H, I.tok _, ⟨_, rfl⟩, q⟩⟩
  · obtain ⟨y, t', h1, h2⟩ := at' j hj
    rw [hy] at h1
    cases h1
    rw [h2]
    simp [eqU, eqV]
  · intro m hm hmj
    obtain ⟨y, t', h1, h2⟩ := at' m hm
    rw [h2]
    have ne : y ≠ z := fun e => hno m hmj (e ▸ h1)
    simp [eqU, eqV, ne, Ne.symm ne]
end TupIx
/-! a tuple made by tuple(..), its object known: t.m(..) -/
namespace TupIx
open PySem PySem.Spec PyProof.Rows L2
/-- a tuple whose object has no dictionary -/
def TpF (H : Hp) (t : Addr) (xs : List V) : Prop := ∃ o : Obj, o.dict = none ∧ H t = some (.frz o (.tup xs))
theorem TpF.sq {K : PySem.W.Frag} {H : Hp} {t : Addr} {xs : List V} (h : TpF H t xs) : SqT K H t xs := let ⟨o, _, h⟩ := h; .inl (.inr ⟨o, h⟩)
theorem TpF.ex {H H' : Hp} {t : Addr} {xs : List V} (h : TpF H t xs) (e : ∀ b o, H b = some o → H' b = some o) : TpF H' t xs := let ⟨o, d, h⟩ := h; ⟨o, d, e _ _ h⟩
/-- all that keeps what is a tuple kept keeps it -/
theorem TpF.of {H H' : Hp} {t : Addr} {xs : List V} (h : TpF H t xs) (e : ∀ o : Obj, H t = some (.frz o (.tup xs)) → H' t = some (.frz o (.tup xs))) : TpF H' t xs := let ⟨o, d, h⟩ := h; ⟨o, d, e o h⟩
theorem TpF.ne {H : Hp} {t a : Addr} {xs : List V} {u : HO} (h : TpF H t xs) (g : H a = some u) (n : ∀ o xs, u ≠ .frz o (.tup xs)) : t ≠ a := fun z => by
  obtain ⟨o, _, h⟩ := h
  rw [z, g] at h
  exact n o xs (Option.some.inj h)
theorem TpF.some {H : Hp} {t : Addr} {xs : List V} (h : TpF H t xs) : H t ≠ none := fun z => by
  obtain ⟨o, _, h⟩ := h
  rw [z] at h
  cases h
theorem tupFK {X : Cx} {K : PySem.W.Frag} (hK : X.K = K) : CallR X (.type "tuple") (fun xs H Q => ∃ p ys, xs = [V.ref p] ∧ SqL K H p ys ∧ ∀ (l : Addr) (o : Obj), H l = none → o.dict = none → Q (.ref l) (upd H l (.frz o (.tup ys)))) := by
  subst hK
  intro pins s σ H xs us Q I r h
  obtain ⟨p, ys, rfl, hq, q⟩ := h
  obtain ⟨u, rfl, rx⟩ := vals1 r
  cases rx
  obtain ⟨its, r', pl, hz⟩ := I.list hq
  have hlen := r'.length
  refine call_tuple_list pl.isList (fun h' kp => ?_) (by simp only [List.size_toArray] <;> omega)
  have I1 : Inv X pins σ H { s with heap := h' } := I.kept (t' := s.toks) kp
  have I2 : Inv X pins σ (upd H h'.objs.size (.frz { cls := .type "tuple", data := .seq its.toArray } (.tup ys))) { s with heap := h'.push { cls := .type "tuple", data := .seq its.toArray } } :=
    I1.laid (t' := s.toks) (fun b o e => Heap.get?_push_of_some _ e) (Nat.le_refl _) (show ObjOk X.prog X.w _ _ _ (.frz _ (.tup ys)) from ⟨Heap.get?_push_size _ rfl, hz, its, r', IsTup.new _ _⟩)
  exact ⟨.ref h'.objs.size, _, I2, rfl, q _ _ (I1.hok.fresh (Nat.le_refl _)) rfl⟩
def tBMT (r : V → List V → Hp → VK → Prop) (to : TE) (t : TA) : TE := fun σ H Q => to σ H fun x H1 => (∃ p xs, x = .ref p ∧ TpF H1 p xs) ∧ t σ H1 fun xs H2 => r x xs H2 Q
theorem pe_bmT {X : Cx} {o e : Expr} {es : List Expr} {to : TE} {t : TA} {name : Str} {apos cpos : Pos} {id : String} {r : V → List V → Hp → VK → Prop} (pa : PlainAttrs "tuple") (slot : Slot "tuple" name id) (hty : typeOf (.builtin id) = pure (.type "method_descriptor")) (hm : MtR X id r) (ho : L2.PE X o to) (ha : L2.PA X (e :: es) t)
    (hbase : attributeBase o name X.env (eval o X.env) = eval o X.env := by rfl)
    (hfew : ((backTo cpos (starEach (e :: es) X.env)).all (fun x => !x.1) && (backToKw cpos (keywordEach [] X.env)).all (fun x => x.1.isSome)
      && decide ((e :: es).length + ([] : List Keyword).length + (if ([] : List Keyword).isEmpty then 0 else 1) < 30)) = true := by rfl)
    (hline : (apos.endLine == cpos.line) = true := by rfl) (hs : starEach (e :: es) X.env = (false, eval e X.env) :: starEach es X.env := by rfl) (hplain : (backTo cpos (starEach es X.env)).any (·.1) = false := by rfl) :
    L2.PE X (.Call (.Attribute o name apos) (e :: es) [] cpos) (tBMT r to t) := by
  refine ⟨fun pins s σ H Q I h => ?_⟩
  refine wpAny_Call_method_late hbase hfew hline rfl (thn (ho.run pins s σ H _ I h) fun v s1 ⟨x, H1, I1, r1, ty, q1⟩ => ?_)
  obtain ⟨p, xs, rfl, ob, hd, hq⟩ := ty
  cases r1
  obtain ⟨hg, _, its, _, ⟨o2, ho2, hc, _⟩⟩ := (show ObjOk X.prog X.w H1 s1.heap p (.frz ob (.tup xs)) from I1.hok p _ hq)
  rw [hg] at ho2
  cases ho2
  have h1 : s1.TypeIs (.ref p) "tuple" := ⟨ob, hg, hc⟩
  refine ⟨"tuple", id, pa, slot, hty, h1, fun a e => ?_, ?_⟩
  · cases e
    exact ⟨ob, hg, hd⟩
  have hA := ha.run cpos pins s1 σ H1 _ I1 q1
  rw [hs] at hA ⊢
  refine Calls.callWith_builtin (by show (false || (backTo cpos (starEach es X.env)).any (·.1)) = false; rw [hplain] <;> rfl) (Calls.evalArgs_plain ?_)
  exact thn hA fun us s2 ⟨vs, H2, I2, r2, q2⟩ => hm pins s2 σ H2 (.ref p) vs (.ref p) us Q I2 rfl r2 q2
end TupIx
/-! ### a method with keyword-only parameters that makes a lambda -/
namespace L2
open PySem PySem.Spec PyProof.Rows
structure FunDC (K : PySem.W.Frag) (x qual : Str) (params : Arguments) (body : List Stmt) (scope : Scope) (f : Addr) (fd : FuncData) (c : Addr) : Prop where
  ex : ∃ (oc : Value) (od : Option Addr) (dV kV doc pm : Value) (an : Option Addr) (ct : Value) (osl : Array (Option Value)),
    fd = PySem.W.fnOf x qual params body scope dV kV doc pm an (.ref c) ct ∧ K.lookup f = some ⟨oc, od, .func fd, osl⟩ ∧ PySem.W.codeIn K (.ref c) qual = true
  kp : PySem.W.keepIn K (.ref f) = true
theorem FunDC.ok {P : Program} {w : World} {K : PySem.W.Frag} {mg : Str → Option Value} {base : Heap} {x qual : Str} {params : Arguments} {body : List Stmt} {scope : Scope} {f : Addr} {fd : FuncData} {c : Addr} {CX : CXT} {N ps : List Str} {k : Nat} {sp : Sp} (F : FunDC K x qual params body scope f fd c) (S : FnScope N ps scope) (len : ∀ vs H Q E, sp vs H Q E → vs.length = ps.length)
    (hbody : ∀ (A : Around) (outer : List Env) (s : Shared) (H : Hp) (vs : List V) (Q : VK) (E : XK), Room k (A.deeper (envOfC qual scope s.heap.objs.size f (.ref c))) → sp vs H Q E →
      ∃ t, PSs (cxOf CX P w K mg base N qual scope f (.ref c) A outer s H E) body t ∧ t { nx := fun _ H' => Q .non H', rt := Q } (start N vs) H) : FnOk P w K mg base CX (k + 1) f fd ps sp := by
  obtain ⟨oc, od, dV, kV, doc, pm, an, ct, osl, rfl, lk, hcd⟩ := F.ex
  exact fn_of lk hcd S len fun A outer s H vs Q E hr hsp => hbody A outer s H vs Q E hr hsp
end L2
/-! sorted(set(texts)): a set of texts that can be walked. Own work after the pattern of the sets of ints. -/
namespace SxT
open PySem PySem.Spec PyProof.Rows L2
section
variable {P : Program} {w : World} {h h' : Heap} {a : Addr} {xs : List Str}
/-- an entry's text -/
def tx (e : Int × Value) : Str := match e.2 with | .str x _ => x | _ => Str.empty
/-- an entry is a text beside its hash -/
def Te (P : Program) (w : World) (e : Int × Value) : Prop := ∃ x t, e = ((PySem.strKind P w).hash x, Value.str x t)
structure Tab (P : Program) (w : World) (es : Array (Int × Value)) (t : SetTable) (xs : List Str) : Prop where
  te : ∀ e ∈ es.toList, Te P w e
  nd : (es.toList.map tx).Nodup
  pm : (es.toList.map tx).Perm xs
  few : es.size < scanBound
  fits : t.fits es.size = true
  ris : L2.Ris t.place.toList
  led : w.params.followText "set-order" = true ∨ t.led = true
def SetX (P : Program) (w : World) (h : Heap) (a : Addr) (xs : List Str) : Prop := ∃ o es ep t, h.get? a = some o ∧ o.ExactSet ∧ o.data = .set es ep t ∧ Tab P w es t xs
theorem SetX.at (r : SetX P w h a xs) (k : ∀ o, h.get? a = some o → h'.get? a = some o) : SetX P w h' a xs := let ⟨o, es, ep, t, ho, z⟩ := r; ⟨o, es, ep, t, k o ho, z⟩
theorem Te.is {e : Int × Value} (z : Te P w e) (k : Str) : (PySem.strKind P w).is k e.2 = true ↔ tx e = k := by
  obtain ⟨x, t, rfl⟩ := z
  refine ⟨fun q => ?_, fun q => ?_⟩
  · exact (PySem.strKind P w).inj _ _ _ (strKind_is P w x t) q
  · have : x = k := q
    rw [← this]
    exact strKind_is P w x t
theorem Tab.el {es : Array (Int × Value)} {t : SetTable} (z : Tab P w es t xs) : ElemsOf (PySem.strKind P w) es.toList := fun e he => by
  obtain ⟨x, tk, rfl⟩ := z.te e he
  exact ⟨⟨x, strKind_is P w x tk, rfl⟩, rfl⟩
theorem Tab.swap {es es' : Array (Int × Value)} {t t' : SetTable} (z : Tab P w es t xs) (p : es'.toList.Perm es.toList) (f : t'.fits es'.size = true) (r : L2.Ris t'.place.toList) (l : t'.led = t.led) : Tab P w es' t' xs := by
  have n : es'.size = es.size := by rw [← Array.length_toList, p.length_eq, Array.length_toList]
  exact ⟨fun e he => z.te e (p.mem_iff.mp he), (p.map tx).nodup_iff.mpr z.nd, (p.map tx).trans z.pm, by rw [n]; exact z.few, f, r, z.led.imp id fun q => by rw [l]; exact q⟩
theorem Tab.put {es es' : Array (Int × Value)} {t t' : SetTable} {k : Str} {tk : Tok} (z : Tab P w es t xs) (p : es'.toList.Perm (((PySem.strKind P w).hash k, Value.str k tk) :: es.toList)) (nk : k ∉ xs) (room : xs.length + 1 < scanBound)
    (f : t'.fits es'.size = true) (r : L2.Ris t'.place.toList) (l : t'.led = t.led) : Tab P w es' t' (k :: xs) := by
  have n : es'.size = xs.length + 1 := by rw [← Array.length_toList, p.length_eq, List.length_cons, ← z.pm.length_eq, List.length_map]
  refine ⟨fun e he => (List.mem_cons.mp (p.mem_iff.mp he)).elim (fun q => ⟨k, tk, q⟩) (z.te e), (p.map tx).nodup_iff.mpr (List.nodup_cons.mpr ⟨fun q => nk (z.pm.mem_iff.mp q), z.nd⟩), (p.map tx).trans (z.pm.cons k), by rw [n]; exact room, f, r, z.led.imp id fun q => by rw [l]; exact q⟩
theorem Tab.size {es : Array (Int × Value)} {t : SetTable} (z : Tab P w es t xs) : es.size = xs.length := by rw [← z.pm.length_eq, List.length_map, Array.length_toList]
theorem ite2 {c : Prop} [Decidable c] {α : Type} {M : Model} {A : Around} {x y : Sem α} {Q : α → Shared → Prop} {E : Value → Shared → Prop} {s : Shared} (h : c → wpAny M A x Q E s) (k : ¬ c → wpAny M A y Q E s) : wpAny M A (if c then x else y) Q E s := by
  by_cases z : c
  · rw [if_pos z]
    exact h z
  · rw [if_neg z]
    exact k z
/-- the members after k is added -/
def put (k : Str) (xs : List Str) : List Str := if k ∈ xs then xs else k :: xs
end
section
variable {P : Program} {w : World} {A : Around} {E : Value → Shared → Prop} {s : Shared} {a : Addr} {xs : List Str}
theorem told {b : Bool} {x : String} {s₁ : Shared} {R : Unit → Shared → Prop} (q : R () s₁) : wpAny (model P w) A (match b with | true => rule x | false => pure ()) R E s₁ := by
  cases b
  · exact wpAny_pure q
  · exact wpAny_rule q
theorem kept {o : Obj} {es es' : Array (Int × Value)} {ep : Nat} {t t' : SetTable} {h : Heap} (ho : h.get? a = some o) (hx : o.ExactSet) (hd : o.data = .set es ep t) : ∃ o', (h.update a (Obj.putSet es' t')).get? a = some o' ∧ o'.ExactSet ∧ o'.data = .set es' (ep + 1) t' := ⟨_, L2.store_at ho hd, hx, rfl⟩
theorem tail {g : Bool → Sem Unit} {f : Bool} {o : Obj} {es es1 : Array (Int × Value)} {ep : Nat} {t t1 : SetTable} {R : Option Bool → Shared → Prop} (hg : ∀ (b : Bool) (s₁ : Shared) (R' : Unit → Shared → Prop), R' () s₁ → wpAny (model P w) A (g b) R' E s₁)
    (ho : s.heap.get? a = some o) (hx : o.ExactSet) (hd : o.data = .set es ep t) (z : Tab P w es1 t1 xs) (q : ∀ h', Heap.SameBut a s.heap h' → SetX P w h' a xs → R (some true) { s with heap := h' }) :
    wpAny (model P w) A (storeSet a es1 t1 >>= fun _ => if (!f && t1.tooFull) = true then g (relayAll t1 es1 (SetTable.grown es1.size)).2.2 >>= fun _ => storeSet a (relayAll t1 es1 (SetTable.grown es1.size)).1 (relayAll t1 es1 (SetTable.grown es1.size)).2.1 >>= fun _ => pure (some true) else pure (some true)) R E s := by
  refine wpAny_bind (wpAny_storeSet_of ho hd ?_ (fits_of_scanBound z.few))
  obtain ⟨o1, h1, x1, d1⟩ := kept (es' := es1) (t' := t1) ho hx hd
  have b1 := Heap.SameBut.update s.heap a (Obj.putSet es1 t1)
  by_cases c : (!f && t1.tooFull) = true
  · rw [if_pos c]
    have z2 := z.swap (relayAll_perm t1 es1 (SetTable.grown es1.size)) (relayAll_fits t1 es1 _) (L2.relayAll_ris t1 es1 _) (L2.relayAll_led t1 es1 _)
    generalize relayAll t1 es1 (SetTable.grown es1.size) = Z at z2 ⊢
    obtain ⟨es2, t2, gave⟩ := Z
    refine wpAny_bind (hg _ _ _ (wpAny_bind (wpAny_storeSet_of h1 d1 ?_ (fits_of_scanBound z2.few))))
    obtain ⟨o2, h2, x2, d2⟩ := kept (es' := es2) (t' := t2) h1 x1 d1
    exact wpAny_pure (q _ (b1.trans (Heap.SameBut.update _ a _)) ⟨o2, es2, _, t2, h2, x2, d2, z2⟩)
  · rw [if_neg c]
    exact wpAny_pure (q _ b1 ⟨o1, es1, _, t1, h1, x1, d1, z⟩)
set_option maxHeartbeats 4000000 in
theorem add_hashed {k : Str} {tk : Tok} {Q : Bool → Shared → Prop} (r : SetX P w s.heap a xs) (room : xs.length + 1 < scanBound)
    (q : ∀ h' b, Heap.SameBut a s.heap h' → SetX P w h' a (put k xs) → Q b { s with heap := h' }) : wpAny (model P w) A (setAddHashed a (.str k tk) ((PySem.strKind P w).hash k)) Q E s := by
  obtain ⟨o, es, ep, t, ho, hx, hd, z⟩ := r
  have hkey := strKind_is P w k tk
  have seen : (Value.str k tk).scannable = true := rfl
  unfold setAddHashed setAddHashedIn
  refine wpAny_holding (wpAny_bind (wpAny_setState_of ho hd z.fits ?_))
  dsimp only
  rw [byScan_of seen z.few z.el, if_pos rfl]
  unfold setAddByScan
  refine wpAny_bind (wpAny_bind (wpAny_rule (wpAny_bind (wpAny_setScan_of hkey ho hd z.fits z.el ?_))))
  cases fi : List.findIdx? (fun e => (PySem.strKind P w).is k e.2) es.toList with
  | some j =>
    obtain ⟨jl, pj, _⟩ := List.findIdx?_eq_some_iff_getElem.mp fi
    have m : k ∈ xs := z.pm.mem_iff.mp (List.mem_map.mpr ⟨_, List.getElem_mem jl, ((z.te _ (List.getElem_mem jl)).is k).mp pj⟩)
    have e : put k xs = xs := if_pos m
    exact wpAny_pure (wpAny_pure (q s.heap _ (Heap.SameBut.refl a s.heap) ⟨o, es, ep, t, ho, hx, hd, by rw [e]; exact z⟩))
  | none =>
    have nk : k ∉ xs := fun m => by
      obtain ⟨e, he, q2⟩ := List.mem_map.mp (z.pm.mem_iff.mpr m)
      have c := List.findIdx?_eq_none_iff.mp fi e he
      rw [((z.te e he).is k).mpr q2] at c
      cases c
    have e : put k xs = k :: xs := if_neg nk
    rw [e] at q
    have l1 := layNew_perm t es ((PySem.strKind P w).hash k) (.str k tk)
    have l2 := layNew_fits t es ((PySem.strKind P w).hash k) (.str k tk)
    have l3 := L2.layNew_ris t es ((PySem.strKind P w).hash k) (.str k tk) z.ris
    have l4 := L2.layNew_led t es ((PySem.strKind P w).hash k) (.str k tk)
    dsimp only
    generalize layNew t es ((PySem.strKind P w).hash k) (.str k tk) = Z at l1 l2 l3 l4 ⊢
    obtain ⟨es1, t1, old, gave⟩ := Z
    dsimp only at l1 l2 l3 l4 ⊢
    rw [Array.toList_push] at l1
    have l1 := l1.trans (List.perm_append_singleton _ _)
    refine wpAny_bind (told ?_)
    refine ite2 (fun _ => ?_) (fun _ => ?_)
    · refine wpAny_bind ?_
      rw [hashByValue_scannable 8 seen]
      refine wpAny_pure (tail (fun b s₁ R q => told q) ho hx hd (z.put l1 nk room l2 l3 l4) fun h' sb r => wpAny_pure (q h' _ sb r))
    · refine wpAny_bind (wpAny_pure (tail (fun b s₁ R q => told q) ho hx hd (z.put l1 nk room l2 l3 l4) fun h' sb r => wpAny_pure (q h' _ sb r)))
end
/-- the members after all these are added -/
def adds (ws : List Str) : List Str := ws.foldl (fun xs k => put k xs) []
theorem adds_up {ws : List Str} {i : Nat} (h : i < ws.length) : adds (ws.take (i + 1)) = put (ws.getD i Str.empty) (adds (ws.take i)) := by
  have g : ws[i]? = some (ws.getD i Str.empty) := by rw [List.getD_eq_getElem?_getD, List.getElem?_eq_getElem h]; rfl
  unfold adds
  rw [List.take_add_one, g, List.foldl_append]
  rfl
theorem put_len (k : Str) (xs : List Str) : (put k xs).length ≤ xs.length + 1 := by
  unfold put
  split
  · omega
  · exact Nat.le_refl (xs.length + 1)
theorem put_mem {k x : Str} {xs : List Str} : x ∈ put k xs ↔ x = k ∨ x ∈ xs := by
  unfold put
  split
  · rename_i m
    exact ⟨.inr, fun z => z.elim (fun e => by rw [e]; exact m) id⟩
  · exact List.mem_cons
theorem put_nd {k : Str} {xs : List Str} (h : xs.Nodup) : (put k xs).Nodup := by
  unfold put
  split
  · exact h
  · rename_i m
    exact List.nodup_cons.mpr ⟨m, h⟩
theorem fold_of : ∀ (ws xs : List Str), xs.Nodup → (ws.foldl (fun xs k => put k xs) xs).Nodup ∧ (ws.foldl (fun xs k => put k xs) xs).length ≤ xs.length + ws.length ∧ ∀ x, x ∈ ws.foldl (fun xs k => put k xs) xs ↔ x ∈ ws ∨ x ∈ xs
  | [], xs, h => ⟨h, Nat.le_refl _, fun x => by simp⟩
  | k :: ws, xs, h => by
    obtain ⟨a1, a2, a3⟩ := fold_of ws (put k xs) (put_nd h)
    have l := put_len k xs
    refine ⟨a1, by rw [List.foldl_cons, List.length_cons]; omega, fun x => ?_⟩
    rw [List.foldl_cons, a3 x, put_mem, List.mem_cons]
    constructor
    · rintro (h | h | h)
      · exact .inl (.inr h)
      · exact .inl (.inl h)
      · exact .inr h
    · rintro ((h | h) | h)
      · exact .inr (.inl h)
      · exact .inl h
      · exact .inr (.inr h)
theorem adds_mem {ws : List Str} {x : Str} : x ∈ adds ws ↔ x ∈ ws := ((fold_of ws [] List.nodup_nil).2.2 x).trans (by simp)
theorem adds_len (ws : List Str) : (adds ws).length ≤ ws.length := by
  have := (fold_of ws [] List.nodup_nil).2.1
  rw [List.length_nil] at this
  show (ws.foldl _ []).length ≤ _
  omega
theorem adds_nd (ws : List Str) : (adds ws).Nodup := (fold_of ws [] List.nodup_nil).1
section
variable {P : Program} {w : World} {A : Around} {R : Result → Shared → Prop} {I : Addr} {fp wr : List Addr} {G : Array GenState → Array GenState → Prop} {Pv : Nat → Value → Prop} {St : Nat → Shared → Prop}
set_option maxHeartbeats 4000000 in
theorem walk {ws : List Str} (W : WalksS P w A.in1 I fp wr G ws.length Pv St) (S : Addr) (nS : S ∉ fp) (room : ws.length + 1 < scanBound) (hv : ∀ i v, Pv i v → ∃ t, v = .str (ws.getD i Str.empty) t) (m : Nat) :
    ∀ (i : Nat) (s : Shared), i + m = ws.length → St i s → SetX P w s.heap S (adds (ws.take i)) → (∀ s', Moved (S :: wr) G s s' → SetX P w s'.heap S (adds ws) → R (.ok (.ret .none)) s') → codeAny (model P w) A (.builtin "set.update.loop" ⟨[.ref S, .ref I], []⟩) R s := by
  have nW : S ∉ wr := fun h => nS (W.sub _ h)
  induction m with
  | zero =>
    intro i s e st hS q
    have e : i = ws.length := by omega
    rw [e] at st hS
    rw [List.take_length] at hS
    refine codeAny_builtin PyProof.Rows.F.entry_set_update_loop ?_
    rw [Around.under_plainId PyProof.Rows.F.plain_set_update_loop _]
    refine wpAny_bind (W.done s _ _ st fun s' hm => ?_)
    exact wpAny_pure (q s' (hm.mono fun b hb => List.mem_cons_of_mem _ hb) (hS.at fun o => hm.heap S o nW))
  | succ m ih =>
    intro i s e st hS q
    have lt : i < ws.length := by omega
    refine codeAny_builtin PyProof.Rows.F.entry_set_update_loop ?_
    rw [Around.under_plainId PyProof.Rows.F.plain_set_update_loop _]
    refine wpAny_bind (W.item i s _ _ lt st fun v s' hP st' hm => ?_)
    obtain ⟨t, rfl⟩ := hv i v hP
    have hS' := hS.at fun o => hm.heap S o nW
    have la := adds_len (ws.take i)
    rw [List.length_take] at la
    refine wpAny_bind (wpAny_holding ?_)
    unfold setAdd
    refine wpAny_holding (wpAny_bind ((PySem.strKind P w).pyHash (strKind_is P w _ t) (add_hashed (s := { s' with toks := s'.toks + 1 }) hS' (by omega) fun h' b sb hX => ?_)))
    rw [← adds_up lt] at hX
    refine wpAny_pure ⟨plainId_quiet PyProof.Rows.F.plain_set_update_loop _, ih (i + 1) _ (by omega) (W.frame _ s' _ _ st' (Nat.le_succ _) fun b hb o g => ?_) hX fun s'' hm2 hX2 => ?_⟩
    · exact (sb.2 b fun z => nS (z ▸ hb)).trans g
    · exact q s'' (Moved.trans W.gtrans ((hm.mono fun b hb => List.mem_cons_of_mem _ hb).then_heap (Nat.le_succ _) fun b o hb g => (sb.2 b fun z => hb (by rw [z]; exact List.mem_cons_self)).trans g) hm2) hX2
end
section
variable {P : Program} {w : World} {A : Around} {E : Value → Shared → Prop} {s : Shared}
/-- a new set without members -/
abbrev raw0 (w : World) : Obj := { cls := .type "set", dict := none, data := .set #[] 0 (.fresh 0 0 (!w.params.followText "set-order")) }
theorem none_yet {h : Heap} {a : Addr} (g : h.get? a = some (raw0 w)) : SetX P w h a [] := ⟨_, #[], 0, _, g, ⟨rfl, rfl, rfl⟩, rfl, fun e he => by simp at he, by simp, by simp, by decide, by rfl, List.Pairwise.nil, by
  show _ ∨ (!w.params.followText "set-order") = true
  cases w.params.followText "set-order"
  · exact .inr rfl
  · exact .inl rfl⟩
set_option maxHeartbeats 6400000 in
set_option maxRecDepth 100000 in
theorem set_list {l : Addr} {items : Array Value} {ws : List Str} {Q : Value → Shared → Prop} (hh : A.handled = none) (hl : s.heap.IsList l items) (hi : PyProof.Rows.StrsAre items.toList ws) (room : ws.length + 1 < scanBound)
    (q : ∀ (h' : Heap) (tk : Nat), SetX P w h' s.heap.objs.size (adds ws) → (∀ b o, b < s.heap.objs.size → s.heap.get? b = some o → h'.get? b = some o) → Q (.ref s.heap.objs.size) { s with heap := h', toks := tk }) : wpAny (model P w) A (call (.type "set") [.ref l]) Q E s := by
  obtain ⟨c, tl, hmro⟩ := PySem.F.called_set.mro
  have hmade := PySem.F.called_set.made
  have hsub := PySem.F.called_set.sub
  refine wpAny_call (codeAny_of_tree ?_)
  refine wpAny_pure ⟨Code.quiet_builtin _ (by decide +kernel), codeAny_builtin PySem.F.entry_type_call ?_⟩
  rw [Around.under_plain (weight_type_call_type "set" [.ref l] []) rfl]
  have h1 := PySem.F.called_set.notType
  have h2 := PySem.F.called_set.canCreate
  have hct := PySem.F.typeCall_set_1 (.ref l)
  repeat (any_goals (first | assumption | wp_step))
  refine codeAny_mono (code_set_led1 (.ref l) (E := E) (Q₁ := fun v s₁ => v = .ref s.heap.objs.size ∧ s₁ = { s with heap := s.heap.push (raw0 w) }) ⟨rfl, rfl⟩) fun r s₁ hr => ?_
  cases r with
  | error e => exact hr
  | ok fl =>
    cases fl
    case ret v =>
      obtain ⟨rfl, rfl⟩ := hr
      have n0 : (s.heap.push (raw0 w)).get? s.heap.objs.size = some (raw0 w) := Heap.get?_push_size _ rfl
      have ty : Shared.TypeIs { s with heap := s.heap.push (raw0 w) } (.ref s.heap.objs.size) "set" := ⟨_, n0, rfl⟩
      have hli := PySem.F.called_set.init.lookup
      have hbi := PySem.F.called_set.init.bind (.ref s.heap.objs.size)
      repeat (any_goals (first | assumption | wp_step))
      refine codeAny_mono (codeAny_call_builtin (R := wants (fun v s₂ => v = .none ∧ ∃ h' tk, s₂ = { s with heap := h', toks := tk } ∧ SetX P w h' s.heap.objs.size (adds ws) ∧ ∀ b o, b < s.heap.objs.size → s.heap.get? b = some o → h'.get? b = some o) E) PySem.F.called_set.init.plain PySem.F.entry_set_init (check_set_init_1 ty ?_)) fun r₂ s₂ z => ?_
      · obtain ⟨⟨_, od, _, os⟩, ho, hc, nl, hd⟩ := hl
        cases hc
        cases hd
        have ho' : (s.heap.push (raw0 w)).get? l = some { cls := .type "list", dict := od, data := .seq items nl, slots := os } := Heap.get?_push_of_some _ ho
        have s1 := PySem.F.sub_list_set
        have s2 := PySem.F.sub_list_frozenset
        have ne : (Value.type "list" == Value.type "dict") = false := by decide
        have hl1 : (s.heap.push (raw0 w)).IsList l items := ⟨_, ho', rfl, nl, rfl⟩
        unfold Builtin.«set.__init__» noKeywords Builtin.Frozenset.updateFrom
        generalize hI : pyIter = PI
        wp_walk
        subst hI
        refine wpAny_pyIter_list hl1 (wpAny_bind (wpAny_runValue ?_))
        have lt : l < s.heap.objs.size := Heap.lt_size ho
        have sz : (s.heap.push (raw0 w)).objs.size = s.heap.objs.size + 1 := Heap.size_push ..
        have len : ws.length = items.size := by rw [← StrsAre.len_eq hi, Array.length_toList]
        have h3 : A.in1.in1.in1.handled = none := by simp [hh]
        have nI : l ≠ (s.heap.push (raw0 w)).objs.size := by rw [sz]; exact Nat.ne_of_lt (Nat.lt_succ_of_lt lt)
        have nS : s.heap.objs.size ∉ [(s.heap.push (raw0 w)).objs.size, l] := by
          rw [sz]
          intro z
          rcases List.mem_cons.mp z with z | z
          · exact absurd z (Nat.ne_of_lt (Nat.lt_succ_self _))
          · exact absurd (List.mem_singleton.mp z) (Nat.ne_of_gt lt)
        have W := (Walks.list (prog := P) (w := w) h3 _ l nI items).toS
        rw [← len] at W
        refine walk W s.heap.objs.size nS room (fun i v g => SS.strs_at hi i v (by rw [Array.getElem?_toList]; exact g)) ws.length 0 _ (by omega) ⟨⟨_, Heap.get?_push_size _ rfl, rfl, rfl⟩, hl1.push _⟩ (none_yet (Heap.get?_push_of_some _ n0)) fun s' hm hX => ?_
        obtain ⟨h', g', d', tk', os'⟩ := s'
        obtain rfl : g' = s.gens := hm.gens
        obtain rfl : d' = s.drawn := hm.drawn
        obtain rfl : os' = s.os := hm.os
        refine wpAny_pure (wpAny_pure ⟨rfl, h', tk', rfl, hX, fun b o hb g => hm.heap b o (fun z => ?_) (Heap.get?_push_of_some _ (Heap.get?_push_of_some _ g))⟩)
        rcases List.mem_cons.mp z with z | z
        · exact absurd z (Nat.ne_of_lt hb)
        · rw [List.mem_singleton.mp z, sz] at hb
          exact absurd hb (Nat.not_lt.mpr (Nat.le_succ _))
      · cases r₂ with
        | error e => exact z
        | ok fl₂ =>
          cases fl₂
          case ret v =>
            obtain ⟨rfl, h', tk, rfl, hX, hk⟩ := z
            repeat (any_goals (first | assumption | wp_step))
            exact q _ _ hX hk
          all_goals exact z.elim
    all_goals exact hr.elim
end
end SxT
/-! sorted(set(texts)), the rules -/
namespace SxT
open PySem PySem.Spec PyProof.Rows L2
section
variable {P : Program} {w : World} {A : Around} {E : Value → Shared → Prop} {s : Shared} {a : Addr} {xs : List Str}
theorem strs_all : ∀ (l : List (Int × Value)), (∀ e ∈ l, Te P w e) → StrsAre (l.map (·.2)) (l.map tx)
  | [], _ => .nil
  | e :: l, h => by
    obtain ⟨x, t, rfl⟩ := h e List.mem_cons_self
    exact .cons x t (strs_all l fun u hu => h u (List.mem_cons_of_mem _ hu))
theorem strs_perm {vs us : List Value} (p : vs.Perm us) : ∀ {xs : List Str}, StrsAre us xs → ∃ ys, StrsAre vs ys ∧ ys.Perm xs := by
  induction p with
  | nil => exact fun h => ⟨_, h, .refl _⟩
  | cons v _ ih =>
    intro xs h
    cases h with
    | cons x t h =>
      obtain ⟨ys, h1, h2⟩ := ih h
      exact ⟨x :: ys, .cons x t h1, h2.cons x⟩
  | swap u v l =>
    intro xs h
    cases h with
    | cons x t h =>
      cases h with
      | cons y t2 h => exact ⟨y :: x :: _, .cons y t2 (.cons x t h), .swap x y _⟩
  | trans _ _ i1 i2 =>
    intro xs h
    obtain ⟨ys, h1, h2⟩ := i2 h
    obtain ⟨zs, h3, h4⟩ := i1 h1
    exact ⟨zs, h3, h4.trans h2⟩
set_option maxHeartbeats 4000000 in
theorem sorted_texts {Q : Value → Shared → Prop} (r : SetX P w s.heap a xs) (hh : A.handled = none) (few : xs.length < 64)
    (q : ∀ (s' : Shared) (p : Addr) (out : Array Value) (c : Nat) (ys : List Str), (∀ b o, s.heap.get? b = some o → s'.heap.get? b = some o) → s'.gens = s.gens → s'.os = s.os → s.heap.objs.size ≤ p → s'.heap.get? p = some (seqObj "list" out c) → StrsAre out.toList ys → sortedS ys = true → ys.Perm xs → Q (.ref p) s') :
    wpAny (model P w) A (call (.builtin "sorted") [.ref a]) Q E s := by
  obtain ⟨o, es, ep, t, ho, hx, hd, z⟩ := r
  refine Calls.call_function_entry kind_sorted plain_sorted entry_sorted (args_sorted1 _) ?_
  unfold Builtin.«sorted»
  refine wpAny_bind (m := checkCount "sorted" 1 1 _) (wpAny_pure (wpAny_bind (collect_set (A := A.in1) hh ⟨o, ho, hx.1, hd⟩ z.fits z.few z.ris z.led fun s1 vs k1 hz g1 o1 pm => ?_)))
  obtain ⟨us, hu, pu⟩ := strs_perm pm (strs_all es.toList z.te)
  have ux := pu.trans z.pm
  have vl : vs.length = xs.length := by rw [pm.length_eq, List.length_map, ← z.pm.length_eq, List.length_map]
  refine wpAny_bind (wpAny_newList ?_ (by rw [vl, sizeLine_eq]; omega))
  have hL : (s1.heap.push (seqObj "list" vs.toArray 0)).get? s1.heap.objs.size = some (seqObj "list" vs.toArray 0) := Heap.get?_push_size _ rfl
  refine wpAny_bind (wpAny_holding (wpAny_call_entry slot_list_sort ⟨_, hL, rfl⟩ entry_list_sort (list_sort_treeK strKind_oneLt hL hu.keysOf (fun v₁ v₂ rest e => keyKind_strs (by rw [← e]; exact hu)) (by rw [vl]; exact few) fun st hp hs => ⟨_, rfl, ?_⟩) (args_list_sort _)))
  obtain ⟨ys, h1, h2, h3⟩ := sorted_out_str hu hp hs
  obtain ⟨c, hc⟩ := sortedHeap_at (vs := vs) (out := (arrOf st).map (·.2)) hL
  refine wpAny_pure ⟨_, rfl, q _ s1.heap.objs.size _ c ys (fun b u g => ?_) g1 o1 hz hc h1 h3 (h2.trans ux)⟩
  have lt := Heap.lt_size (k1 b u g)
  show (sortedHeap (s1.heap.push (seqObj "list" vs.toArray 0)) s1.heap.objs.size vs _).get? b = some u
  rw [sortedHeap_old (Nat.ne_of_lt lt) (by rw [size_push']; exact Nat.lt_succ_of_lt lt)]
  exact Heap.get?_push_of_some _ (k1 b u g)
end
section
variable {X : Cx}
/-- the texts xs in a set at a -/
def SetT (P : Program) (w : World) (a : Addr) (xs : List Str) : HO := .ext fun h => SetX P w h a xs
theorem setT_ok {P : Program} {w : World} {H : Hp} {h : Heap} {a : Addr} {xs : List Str} (r : SetX P w h a xs) : ObjOk P w H h a (SetT P w a xs) := by
  have ⟨o, _, _, _, ho, _⟩ := r
  exact ⟨r, ⟨o, ho⟩, fun _ _ z k => SetX.at z k⟩
/-- set(list of texts) -/
def rSetL (K : PySem.W.Frag) (P : Program) (w : World) : List V → Hp → VK → Prop := fun vs H Q => ∃ (l : Addr) (ws : List Str), vs = [V.ref l] ∧ SqL K H l (ws.map V.str) ∧ ws.length + 1 < scanBound ∧
  ∀ (p : Addr) (xs : List Str), xs.Nodup → (∀ x, x ∈ xs ↔ x ∈ ws) → xs.length ≤ ws.length → H p = none → Q (.ref p) (upd H p (SetT P w p xs))
theorem cr_setL (hc : X.calm = true) : CallR X (.type "set") (rSetL X.K X.prog X.w) := by
  intro pins s σ H vs us Q I r h
  obtain ⟨l, ws, rfl, hs, few, q⟩ := h
  obtain ⟨its, rv, pl, _⟩ := I.list hs
  rw [Vals.ref1 r]
  exact set_list (I.ok.hd hc) pl.isList (by simpa using rv.strs) few fun h' tk hX hk => ⟨.ref _, upd H s.heap.objs.size (SetT X.prog X.w s.heap.objs.size (adds ws)), I.laid (t' := tk) (fun b o g => hk b o (Heap.lt_size g) g) (Nat.le_refl _) (setT_ok hX), rfl, q _ _ (adds_nd ws) (fun x => adds_mem) (adds_len ws) (I.hok.fresh (Nat.le_refl _))⟩
/-- sorted(set of texts) -/
def rSortX (P : Program) (w : World) : List V → Hp → VK → Prop := fun vs H Q => ∃ (a : Addr) (xs : List Str), vs = [V.ref a] ∧ H a = some (SetT P w a xs) ∧ xs.length < 64 ∧
  ∀ (ys : List Str) (p : Addr), ys.Perm xs → sortedS ys = true → H p = none → Q (.ref p) (upd H p (.lst (ys.map V.str)))
theorem cr_sortX (hc : X.calm = true) : CallR X (.builtin "sorted") (rSortX X.prog X.w) := by
  intro pins s σ H vs us Q I r h
  obtain ⟨a, xs, rfl, ha, few, q⟩ := h
  have hX : SetX X.prog X.w s.heap a xs := (I.hok a _ ha).1
  rw [Vals.ref1 r]
  refine sorted_texts hX (I.ok.hd hc) few fun s' p out c ys k g o hp hg hi hs pm => ?_
  have room : (ys.map V.str).length ≤ sizeLine := by rw [List.length_map, pm.length_eq, sizeLine_eq]; omega
  have np : H p = none := I.hok.fresh hp
  have J : Inv X pins σ (upd H p (.lst (ys.map V.str))) { s with heap := s'.heap, gens := s'.gens, drawn := s'.drawn, toks := s'.toks } := I.call (ch := []) (Un.laid k hp np) (I.hok.laid k hp ⟨room, out.toList, c, vals_of_strs hi, hg⟩) (by rw [g]; exact I.bare) (fun _ z => nomatch z)
  obtain ⟨_, _, _, _, _⟩ := s'
  cases o
  exact ⟨.ref p, _, J, rfl, q ys p pm hs np⟩
theorem setLK {K : PySem.W.Frag} (h : X.K = K) (hc : X.calm = true) : CallR X (.type "set") (rSetL K X.prog X.w) := by
  subst h
  exact cr_setL hc
end
end SxT
/-! the head by one kernel run: what the top has left is read off the tree, at places that are said as numbers -/
namespace HX
open PySem PySem.Spec PyProof.Rows L2
abbrev FnZ : Type := Option (Str × Str × Arguments × FuncBody × Scope × Addr × List (Str × Addr) × Addr)
def rv : Option Addr → Value
  | none => .none
  | some a => .ref a
def vB : Option Addr → Value → Bool
  | none, .none => true
  | some a, .ref b => Nat.beq a b
  | _, _ => false
theorem vB_ok {o : Option Addr} {v : Value} (h : vB o v = true) : v = rv o := by
  cases o with
  | none => cases v <;> first | rfl | cases h
  | some a =>
    cases v with
    | ref b =>
      have e : a = b := Nat.eq_of_beq_eq_true h
      rw [e]
      rfl
    | _ => cases h
/-- one def: its place, name, qualified name, parameters, body, scope, cells, the places of its defaults and its code -/
structure FD where
  a : Addr
  name : Str
  qual : Str
  params : Arguments
  body : List Stmt
  scope : Scope
  cl : List (Str × Addr)
  dV : Option Addr
  kV : Option Addr
  cd : Option Addr
def fnY (K : PySem.W.Frag) (a : Addr) : FnZ := match K.lookup a with
  | some ⟨_, _, .func fd, _⟩ => some (fd.name, fd.qualname, fd.params, fd.body, fd.scope, fd.globals, fd.closure, fd.builtins)
  | _ => none
def FD.val (d : FD) : FnZ := some (d.name, d.qual, d.params, .stmts d.body, d.scope, mainGlobals, d.cl, builtinsNs)
def FD.ok (K : PySem.W.Frag) (d : FD) : Bool := (match K.lookup d.a with
  | some ⟨_, _, .func fd, _⟩ => vB d.dV fd.defaults && (vB d.kV fd.kwdefaults && vB d.cd fd.code)
  | _ => false) && PySem.W.codeIn K (rv d.cd) d.qual
theorem FD.told {K : PySem.W.Frag} {d : FD} (e : fnY K d.a = d.val) (c : d.ok K = true) :
    ∃ (oc : Value) (od : Option Addr) (doc pm : Value) (an : Option Addr) (ct : Value) (sl : Array (Option Value)), K.lookup d.a = some ⟨oc, od, .func { name := d.name, qualname := d.qual, params := d.params, body := .stmts d.body, scope := d.scope, globals := mainGlobals, closure := d.cl, defaults := rv d.dV, kwdefaults := rv d.kV, doc, pyModule := pm, annotations := an, code := rv d.cd, closureTuple := ct, builtins := builtinsNs }, sl⟩ ∧ PySem.W.codeIn K (rv d.cd) d.qual = true := by
  obtain ⟨c1, c2⟩ := He.ba c
  unfold fnY at e
  cases q : K.lookup d.a with
  | none =>
    rw [q] at e
    cases e
  | some o =>
    obtain ⟨oc, od, dt, osl⟩ := o
    rw [q] at e c1
    cases dt with
    | func fd =>
      obtain ⟨n1, n2, n3, n4, n5, n6, n7, n8, n9, n10, n11, n12, n13, n14, n15⟩ := fd
      have e2 : (some (n1, n2, n3, n4, n5, n6, n7, n15) : FnZ) = some (d.name, d.qual, d.params, .stmts d.body, d.scope, mainGlobals, d.cl, builtinsNs) := e
      simp only [Option.some.injEq, Prod.mk.injEq] at e2
      obtain ⟨h1, h2, h3, h4, h5, h6, h7, h8⟩ := e2
      have c3 : (vB d.dV n8 && (vB d.kV n9 && vB d.cd n13)) = true := c1
      obtain ⟨k1, k2⟩ := He.ba c3
      obtain ⟨k3, k4⟩ := He.ba k2
      have g1 := vB_ok k1
      have g2 := vB_ok k3
      have g3 := vB_ok k4
      subst h1 h2 h3 h4 h5 h6 h7 h8 g1 g2 g3
      exact ⟨oc, od, n10, n11, n12, n14, osl, rfl, c2⟩
    | _ => cases e
/-! facts -/
def refB (v : Option (Option Value)) (a : Addr) : Bool := match v with
  | some (some (.ref b)) => Nat.beq b a
  | _ => false
theorem refB_ok {v : Option (Option Value)} {a : Addr} (h : refB v a = true) : v = some (some (.ref a)) := by
  unfold refB at h
  split at h
  · rename_i b
    have e : b = a := Nat.eq_of_beq_eq_true h
    rw [e]
  · cases h
def noB (v : Option (Option Value)) : Bool := match v with
  | some none => true
  | _ => false
theorem noB_ok {v : Option (Option Value)} (h : noB v = true) : v = some none := by
  unfold noB at h
  split at h
  · rfl
  · cases h
def litB (v : Option (Option Value)) (u : V) : Bool := match v with
  | some (some x) => He.relB u x
  | _ => false
theorem litB_ok {v : Option (Option Value)} {u : V} (h : litB v u = true) : ∃ x, v = some (some x) ∧ RelV u x := by
  unfold litB at h
  split at h
  · exact ⟨_, rfl, He.relB_ok h⟩
  · cases h
theorem litInt {v : Option (Option Value)} {i : Int} (h : litB v (.int i) = true) : ∃ t, v = some (some (.int i t)) := by
  obtain ⟨x, e, t, rfl⟩ := litB_ok h
  exact ⟨t, e⟩
theorem litStr {v : Option (Option Value)} {z : Str} (h : litB v (.str z) = true) : ∃ t, v = some (some (.str z t)) := by
  obtain ⟨x, e, t, rfl⟩ := litB_ok h
  exact ⟨t, e⟩
theorem litBl {v : Option (Option Value)} {b : Bool} (h : litB v (.bl b) = true) : v = some (some (.bool b)) := by
  obtain ⟨x, e, rfl⟩ := litB_ok h
  exact e
theorem litNon {v : Option (Option Value)} (h : litB v .non = true) : v = some (some .none) := by
  obtain ⟨x, e, rfl⟩ := litB_ok h
  exact e
def cellB (K : PySem.W.Frag) (cc C : Addr) : Bool := match K.lookup cc with
  | some ⟨_, _, .cell (some (.ref b)), _⟩ => Nat.beq b C
  | _ => false
theorem cellB_ok {K : PySem.W.Frag} {cc C : Addr} (h : cellB K cc C = true) : ∃ cl cld csl, K.lookup cc = some ⟨cl, cld, .cell (some (.ref C)), csl⟩ := by
  unfold cellB at h
  split at h
  · rename_i b _ q
    have e : b = C := Nat.eq_of_beq_eq_true h
    rw [e] at q
    exact ⟨_, _, _, q⟩
  · cases h
def fileB (K : PySem.W.Frag) (cda : Addr) (file : Str) : Bool := match K.lookup cda with
  | some ⟨_, _, .fields vs, _⟩ => (match (vs[2]? : Option Value) with
    | some (.str f _) => file == f
    | _ => false)
  | _ => false
theorem fileB_ok {K : PySem.W.Frag} {cda : Addr} {file : Str} (h : fileB K cda file = true) : ∃ (ccl : Value) (cdd : Option Addr) (cvs : Array Value) (ccs : Array (Option Value)) (fil : Str) (tf : Tok), K.lookup cda = some ⟨ccl, cdd, .fields cvs, ccs⟩ ∧ cvs[2]? = some (.str fil tf) ∧ (file == fil) = true := by
  unfold fileB at h
  split at h
  · rename_i vs _ q
    split at h
    · rename_i f t q2
      exact ⟨_, _, vs, _, f, t, q, q2, h⟩
    · cases h
  · cases h
def seqB (K : PySem.W.Frag) (a : Addr) (vs : List V) : Bool := match K.lookup a with
  | some ⟨_, _, .seq its _, _⟩ => He.relAll vs its.toList
  | _ => false
theorem seqB_ok {K : PySem.W.Frag} {a : Addr} {vs : List V} (h : seqB K a vs = true) : ∃ (oc : Value) (od : Option Addr) (us : List Value) (n : Nat) (sl : Array (Option Value)), K.lookup a = some ⟨oc, od, .seq us.toArray n, sl⟩ ∧ Vals vs us := by
  unfold seqB at h
  split at h
  · rename_i its n _ q
    obtain ⟨us⟩ := its
    exact ⟨_, _, us, n, _, q, He.relAll_ok h⟩
  · cases h
def tupB (K : PySem.W.Frag) (a : Addr) (vs : List V) : Bool := match K.lookup a with
  | some ⟨.type c, _, .seq its _, _⟩ => decide (c = "tuple") && He.relAll vs its.toList
  | _ => false
theorem tupB_ok {K : PySem.W.Frag} {a : Addr} {vs : List V} (h : tupB K a vs = true) : ∃ (od : Option Addr) (us : List Value) (n : Nat) (sl : Array (Option Value)), K.lookup a = some ⟨.type "tuple", od, .seq us.toArray n, sl⟩ ∧ Vals vs us := by
  unfold tupB at h
  split at h
  · rename_i c _ its n _ q
    obtain ⟨us⟩ := its
    obtain ⟨h1, h2⟩ := He.ba h
    have e := of_decide_eq_true h1
    subst e
    exact ⟨_, us, n, _, q, He.relAll_ok h2⟩
  · cases h
/-! a part of the heap, at places that are said -/
theorem frG_none {g : Addr → Option Obj} {t : Addr} : ∀ {as : List Addr}, (as.all fun b => !(Nat.beq t b)) = true → (He.frG g as).lookup t = none
  | [], _ => rfl
  | b :: r, h => by
    obtain ⟨h1, h2⟩ := He.ba (show ((!(Nat.beq t b)) && r.all fun b => !(Nat.beq t b)) = true from h)
    have ih := frG_none (g := g) h2
    have ne : (t == b) = false := by
      cases q : (t == b) with
      | false => rfl
      | true =>
        have e : t = b := beq_iff_eq.mp q
        subst e
        have z : Nat.beq t t = true := Nat.beq_refl t
        rw [z] at h1
        cases h1
    unfold He.frG at ih ⊢
    rw [List.filterMap_cons]
    cases hb : g b with
    | none => exact ih
    | some o =>
      show List.lookup t ((b, o) :: _) = none
      rw [List.lookup_cons, ne]
      exact ih
def tabsB (g : Addr → Option Obj) (as ts : List Addr) : Bool := ts.all fun t => (as.all fun b => !(Nat.beq t b)) && (match g t with
  | some o => He.emptyTab o
  | none => false)
abbrev AlY : Type := List FnZ × Bool
def obsY (as ts : List Addr) (fn : List FD) (fs : List (List (PySem.W.Frag → Bool))) (g : Addr → Option Obj) : AlY :=
  (fn.map fun d => fnY (He.frG g as) d.a, (fn.all fun d => d.ok (He.frG g as)) && ((fs.all fun l => l.all fun f => f (He.frG g as)) && tabsB g as ts))
def valY (fn : List FD) : AlY := (fn.map FD.val, true)
structure SaysY (ts : List Addr) (fn : List FD) (fs : List (List (PySem.W.Frag → Bool))) (h : Heap) (K : PySem.W.Frag) : Prop where
  fns : fn.map (fun d => fnY K d.a) = fn.map FD.val
  oks : ∀ d ∈ fn, d.ok K = true
  fcs : ∀ l ∈ fs, ∀ f ∈ l, f K = true
  out : ∀ t ∈ ts, K.lookup t = none
  empty : ∀ t ∈ ts, h.get? t = some (PySem.W.tabObj #[])
theorem saysY_of {as ts : List Addr} {fn : List FD} {fs : List (List (PySem.W.Frag → Bool))} {h : Heap} (e : obsY as ts fn fs h.get? = valY fn) : SaysY ts fn fs h (He.frG h.get? as) := by
  have e1 : fn.map (fun d => fnY (He.frG h.get? as) d.a) = fn.map FD.val := congrArg (fun z : AlY => z.1) e
  have e2 : ((fn.all fun d => d.ok (He.frG h.get? as)) && ((fs.all fun l => l.all fun f => f (He.frG h.get? as)) && tabsB h.get? as ts)) = true := congrArg (fun z : AlY => z.2) e
  obtain ⟨h1, h2⟩ := He.ba e2
  obtain ⟨h3, h4⟩ := He.ba h2
  have key : ∀ t ∈ ts, (as.all fun b => !(Nat.beq t b)) = true ∧ ∃ o, h.get? t = some o ∧ He.emptyTab o = true := fun t ht => by
    obtain ⟨h5, h6⟩ := He.ba (List.all_eq_true.mp h4 t ht)
    refine ⟨h5, ?_⟩
    cases q : h.get? t with
    | none =>
      rw [q] at h6
      cases h6
    | some o =>
      rw [q] at h6
      exact ⟨o, rfl, h6⟩
  exact ⟨e1, fun d hd => List.all_eq_true.mp h1 d hd, fun l hl f hf => List.all_eq_true.mp (List.all_eq_true.mp h3 l hl) f hf, fun t ht => frG_none (key t ht).1, fun t ht => by
    obtain ⟨_, o, q, z⟩ := key t ht
    rw [q, He.emptyTab_eq z]⟩
def hookY (as ts : List Addr) (fn : List FD) (fs : List (List (PySem.W.Frag → Bool))) : PySem.W.Hook where
  α := AlY
  obs := fun s => obsY as ts fn fs s.heap.get?
  val := fun _ => valY fn
  says := fun _ h => ∃ K : PySem.W.Frag, K.In h ∧ SaysY ts fn fs h K
  of := fun _ _ e => ⟨_, He.frG_in, saysY_of e⟩
  keeps := fun _ _ _ ⟨K, hK, c⟩ k => ⟨K, PySem.W.Frag.In.keeps hK k, ⟨c.fns, c.oks, c.fcs, c.out, fun t ht => k _ _ (c.empty t ht)⟩⟩
theorem obsY_eq {as ts : List Addr} {fn : List FD} {fs : List (List (PySem.W.Frag → Bool))} {g : Addr → Option Obj} {s : Shared} (h : ∀ a, g a = s.heap.get? a) : obsY as ts fn fs g = (hookY as ts fn fs).obs s := by
  have e : g = s.heap.get? := funext h
  rw [e] <;> rfl
section
variable {ts : List Addr} {fn : List FD} {fs : List (List (PySem.W.Frag → Bool))} {h : Heap} {K : PySem.W.Frag}
theorem SaysY.fact (c : SaysY ts fn fs h K) (i j : Nat) {l : List (PySem.W.Frag → Bool)} {f : PySem.W.Frag → Bool} (hi : fs[i]? = some l := by rfl) (hj : l[j]? = some f := by rfl) : f K = true := c.fcs l (List.mem_of_getElem? hi) f (List.mem_of_getElem? hj)
theorem SaysY.def_ (c : SaysY ts fn fs h K) (i : Nat) {d : FD} (hi : fn[i]? = some d := by rfl) :
    ∃ (oc : Value) (od : Option Addr) (doc pm : Value) (an : Option Addr) (ct : Value) (sl : Array (Option Value)), K.lookup d.a = some ⟨oc, od, .func { name := d.name, qualname := d.qual, params := d.params, body := .stmts d.body, scope := d.scope, globals := mainGlobals, closure := d.cl, defaults := rv d.dV, kwdefaults := rv d.kV, doc, pyModule := pm, annotations := an, code := rv d.cd, closureTuple := ct, builtins := builtinsNs }, sl⟩ ∧ PySem.W.codeIn K (rv d.cd) d.qual = true := by
  have e2 : (fn.map fun d => fnY K d.a)[i]? = (fn.map FD.val)[i]? := by rw [c.fns]
  rw [List.getElem?_map, List.getElem?_map, hi] at e2
  exact FD.told (Option.some.inj e2) (c.oks d (List.mem_of_getElem? hi))
end
/-! .. and dicts of the module with text keys -/
abbrev DT : Type := Addr × List Str
abbrev AlZ : Type := AlY × List (Option (List (Option (Str × Int))))
def obsZ (as ts : List Addr) (fn : List FD) (fs : List (List (PySem.W.Frag → Bool))) (ds : List DT) (g : Addr → Option Obj) : AlZ := (obsY as ts fn fs g, ds.map fun d => He.dicW (He.frG g as) d.1)
def valZ (fn : List FD) (ds : List DT) (w : World) : AlZ := (valY fn, ds.map fun d => some (He.keysIn w.params d.2))
structure SaysZ (ts : List Addr) (fn : List FD) (fs : List (List (PySem.W.Frag → Bool))) (ds : List DT) (w : World) (h : Heap) (K : PySem.W.Frag) : Prop where
  y : SaysY ts fn fs h K
  t : (ds.map fun d => He.dicW K d.1) = ds.map fun d => some (He.keysIn w.params d.2)
def hookZ (as ts : List Addr) (fn : List FD) (fs : List (List (PySem.W.Frag → Bool))) (ds : List DT) : PySem.W.Hook where
  α := AlZ
  obs := fun s => obsZ as ts fn fs ds s.heap.get?
  val := fun w => valZ fn ds w
  says := fun w h => ∃ K : PySem.W.Frag, K.In h ∧ SaysZ ts fn fs ds w h K
  of := fun _ _ e => ⟨_, He.frG_in, saysY_of (congrArg (fun z : AlZ => z.1) e), congrArg (fun z : AlZ => z.2) e⟩
  keeps := fun _ _ _ ⟨K, hK, c⟩ k => ⟨K, PySem.W.Frag.In.keeps hK k, ⟨c.y.fns, c.y.oks, c.y.fcs, c.y.out, fun t ht => k _ _ (c.y.empty t ht)⟩, c.t⟩
theorem obsZ_eq {as ts : List Addr} {fn : List FD} {fs : List (List (PySem.W.Frag → Bool))} {ds : List DT} {g : Addr → Option Obj} {s : Shared} (h : ∀ a, g a = s.heap.get? a) : obsZ as ts fn fs ds g = (hookZ as ts fn fs ds).obs s := by
  have e : g = s.heap.get? := funext h
  rw [e] <;> rfl
theorem SaysZ.tab {ts : List Addr} {fn : List FD} {fs : List (List (PySem.W.Frag → Bool))} {ds : List DT} {w : World} {h : Heap} {K : PySem.W.Frag} (c : SaysZ ts fn fs ds w h K) (i : Nat) {d : DT} (hd : ds[i]? = some d := by rfl) : ∃ es n, L2.KDict K w d.1 es n := by
  have e2 : (ds.map fun t => He.dicW K t.1)[i]? = (ds.map fun t => some (He.keysIn w.params t.2))[i]? := by rw [c.t]
  rw [List.getElem?_map, List.getElem?_map, hd] at e2
  exact He.dicW_ok (Option.some.inj e2)
/-! a run in two: the facts of the second part are read in a run of their own -/
theorem obsY_app {as ts : List Addr} {fn : List FD} {A B : List (List (PySem.W.Frag → Bool))} {g : Addr → Option Obj} (h1 : obsY as ts fn A g = valY fn) (h2 : (B.all fun l => l.all fun f => f (He.frG g as)) = true) : obsY as ts fn (A ++ B) g = valY fn := by
  have e1 : fn.map (fun d => fnY (He.frG g as) d.a) = fn.map FD.val := congrArg (fun z : AlY => z.1) h1
  have e2 : ((fn.all fun d => d.ok (He.frG g as)) && ((A.all fun l => l.all fun f => f (He.frG g as)) && tabsB g as ts)) = true := congrArg (fun z : AlY => z.2) h1
  obtain ⟨h3, h4⟩ := He.ba e2
  obtain ⟨h5, h6⟩ := He.ba h4
  unfold obsY valY
  rw [e1, h3, List.all_append, h5, h2, h6]
  rfl
theorem run_two {r : PySem.W.OpenRow} {q : Program} {as ts : List Addr} {fn : List FD} {A B : List (List (PySem.W.Frag → Bool))} {M : Nat} {loose : List PySem.Str} {w : World}
    (h1 : HandSHeadRun.RunEq r q (hookY as ts fn A) (fun s => obsY as ts fn A (HandSHeadRun.getT s)) M loose w)
    (h2 : ∀ os : OsState, (HandSHeadRun.endF (HandSHeadRun.stepQ (HandSHeadRun.denQ HandSHeadRun.tabQ) r.prog w) M r.prog w os).map (fun s => B.all fun l => l.all fun f => f (He.frG (HandSHeadRun.getT s) as)) = some true) :
    HandSHeadRun.RunEq r q (hookY as ts fn (A ++ B)) (fun s => obsY as ts fn (A ++ B) (HandSHeadRun.getT s)) M loose w := fun os => by
  have z1 := h1 os
  have z2 := h2 os
  cases e : HandSHeadRun.endF (HandSHeadRun.stepQ (HandSHeadRun.denQ HandSHeadRun.tabQ) r.prog w) M r.prog w os with
  | none =>
    rw [e] at z1
    cases z1
  | some s =>
    rw [e] at z1 z2
    have y1 := Option.some.inj z1
    have y2 := Option.some.inj z2
    have p1 := congrArg (fun z => z.1) y1
    have p2 := congrArg (fun z => z.2.1) y1
    have p3 : obsY as ts fn A (HandSHeadRun.getT s) = valY fn := congrArg (fun z => z.2.2) y1
    have p4 := obsY_app p3 y2
    refine congrArg some (Prod.ext p1 (Prod.ext p2 p4))
theorem run_three {r : PySem.W.OpenRow} {q : Program} {as ts : List Addr} {fn : List FD} {A : List (List (PySem.W.Frag → Bool))} {M : Nat} {loose : List PySem.Str} {w : World}
    (h1 : ∀ os : OsState, (HandSHeadRun.endF (HandSHeadRun.stepQ (HandSHeadRun.denQ HandSHeadRun.tabQ) r.prog w) M r.prog w os).map (fun s => (HandSHeadRun.looksF r.prog (PySem.W.boot_heap w.params) s.abs, HandSHeadRun.seenQ q loose (importedModules r.prog.main.body) (fun s => PySem.W.xlAt q [] s && PySem.W.recOk r.toRowW.records s) s.abs)) = some (true, PySem.W.openGood q loose))
    (h2 : ∀ os : OsState, (HandSHeadRun.endF (HandSHeadRun.stepQ (HandSHeadRun.denQ HandSHeadRun.tabQ) r.prog w) M r.prog w os).map (fun s => obsY as ts fn A (HandSHeadRun.getT s)) = some (valY fn)) :
    HandSHeadRun.RunEq r q (hookY as ts fn A) (fun s => obsY as ts fn A (HandSHeadRun.getT s)) M loose w := fun os => by
  have z1 := h1 os
  have z2 := h2 os
  cases e : HandSHeadRun.endF (HandSHeadRun.stepQ (HandSHeadRun.denQ HandSHeadRun.tabQ) r.prog w) M r.prog w os with
  | none =>
    rw [e] at z1
    cases z1
  | some s =>
    rw [e] at z1 z2
    have y1 := Option.some.inj z1
    have y2 := Option.some.inj z2
    exact congrArg some (Prod.ext (congrArg (fun z => z.1) y1) (Prod.ext (congrArg (fun z => z.2) y1) y2))
end HX
namespace K27
open PySem PySem.Spec PyProof.Rows L2 Evl My TL
def topS (i : Nat) : Stmt := PySem.Challenge.pw_blocksearch_k27_segments_told.main.body.getD i (.Pass ⟨0, 0, 0, 0⟩)
abbrev N_is_whole : List Str := ["thing"]
theorem sc_is_whole : FnScope N_is_whole ["thing"] (defScope (topS 22)) := ⟨rfl, rfl, rfl, by decide +kernel, rfl, by decide +kernel, by decide +kernel⟩
abbrev N_is_within : List Str := ["thing", "least", "most"]
theorem sc_is_within : FnScope N_is_within ["thing", "least", "most"] (defScope (topS 23)) := ⟨rfl, rfl, rfl, by decide +kernel, rfl, by decide +kernel, by decide +kernel⟩
abbrev N_is_word : List Str := ["thing", "sign"]
theorem sc_is_word : FnScope N_is_word ["thing"] (defScope (topS 27)) := ⟨rfl, rfl, rfl, by decide +kernel, rfl, by decide +kernel, by decide +kernel⟩
abbrev N_are_words : List Str := ["things", "thing"]
theorem sc_are_words : FnScope N_are_words ["things"] (defScope (topS 28)) := ⟨rfl, rfl, rfl, by decide +kernel, rfl, by decide +kernel, by decide +kernel⟩
abbrev N_check_word : List Str := ["word"]
theorem sc_check_word : FnScope N_check_word ["word"] (defScope (topS 29)) := ⟨rfl, rfl, rfl, by decide +kernel, rfl, by decide +kernel, by decide +kernel⟩
abbrev N_words_of : List Str := ["text", "words"]
theorem sc_words_of : FnScope N_words_of ["text"] (defScope (topS 30)) := ⟨rfl, rfl, rfl, by decide +kernel, rfl, by decide +kernel, by decide +kernel⟩
abbrev N_check_words : List Str := ["words"]
theorem sc_check_words : FnScope N_check_words ["words"] (defScope (topS 31)) := ⟨rfl, rfl, rfl, by decide +kernel, rfl, by decide +kernel, by decide +kernel⟩
abbrev N_check_page_number : List Str := ["number"]
theorem sc_check_page_number : FnScope N_check_page_number ["number"] (defScope (topS 35)) := ⟨rfl, rfl, rfl, by decide +kernel, rfl, by decide +kernel, by decide +kernel⟩
abbrev N_check_pages : List Str := ["pages", "least", "most", "ahead", "at", "page"]
theorem sc_check_pages : FnScope N_check_pages ["pages", "least", "most"] (defScope (topS 36)) := ⟨rfl, rfl, rfl, by decide +kernel, rfl, by decide +kernel, by decide +kernel⟩
abbrev N_is_count : List Str := ["thing"]
theorem sc_is_count : FnScope N_is_count ["thing"] (defScope (topS 40)) := ⟨rfl, rfl, rfl, by decide +kernel, rfl, by decide +kernel, by decide +kernel⟩
abbrev N_code : List Str := ["number", "signs", "digit"]
theorem sc_code : FnScope N_code ["number"] (defScope (topS 41)) := ⟨rfl, rfl, rfl, by decide +kernel, rfl, by decide +kernel, by decide +kernel⟩
abbrev N_code_all : List Str := ["numbers", "at", "number"]
theorem sc_code_all : FnScope N_code_all ["numbers"] (defScope (topS 42)) := ⟨rfl, rfl, rfl, by decide +kernel, rfl, by decide +kernel, by decide +kernel⟩
abbrev N_code_entries : List Str := ["entries", "texts", "slot", "places"]
theorem sc_code_entries : FnScope N_code_entries ["entries"] (defScope (topS 43)) := ⟨rfl, rfl, rfl, by decide +kernel, rfl, by decide +kernel, by decide +kernel⟩
abbrev N_decode_entries : List Str := ["text", "many", "at", "slot_gaps", "entries", "slot", "further", "place_gaps"]
theorem sc_decode_entries : FnScope N_decode_entries ["text"] (defScope (topS 44)) := ⟨rfl, rfl, rfl, by decide +kernel, rfl, by decide +kernel, by decide +kernel⟩
abbrev N_check_entries : List Str := ["entries", "ahead", "at", "entry"]
theorem sc_check_entries : FnScope N_check_entries ["entries"] (defScope (topS 45)) := ⟨rfl, rfl, rfl, by decide +kernel, rfl, by decide +kernel, by decide +kernel⟩
abbrev N_is_entry : List Str := ["thing"]
theorem sc_is_entry : FnScope N_is_entry ["thing"] (defScope (topS 46)) := ⟨rfl, rfl, rfl, by decide +kernel, rfl, by decide +kernel, by decide +kernel⟩
abbrev N_are_places : List Str := ["thing"]
theorem sc_are_places : FnScope N_are_places ["thing"] (defScope (topS 47)) := ⟨rfl, rfl, rfl, by decide +kernel, rfl, by decide +kernel, by decide +kernel⟩
abbrev N_first_fall : List Str := ["things", "ahead", "at", "thing"]
theorem sc_first_fall : FnScope N_first_fall ["things"] (defScope (topS 48)) := ⟨rfl, rfl, rfl, by decide +kernel, rfl, by decide +kernel, by decide +kernel⟩
abbrev N_gaps_of : List Str := ["numbers", "gaps", "ahead", "number"]
theorem sc_gaps_of : FnScope N_gaps_of ["numbers"] (defScope (topS 49)) := ⟨rfl, rfl, rfl, by decide +kernel, rfl, by decide +kernel, by decide +kernel⟩
abbrev N_risen : List Str := ["gaps", "numbers", "ahead", "gap"]
theorem sc_risen : FnScope N_risen ["gaps"] (defScope (topS 50)) := ⟨rfl, rfl, rfl, by decide +kernel, rfl, by decide +kernel, by decide +kernel⟩
abbrev N_check_text : List Str := ["text"]
theorem sc_check_text : FnScope N_check_text ["text"] (defScope (topS 51)) := ⟨rfl, rfl, rfl, by decide +kernel, rfl, by decide +kernel, by decide +kernel⟩
abbrev N_read_number : List Str := ["text", "start", "number", "worth", "at", "last", "digit"]
theorem sc_read_number : FnScope N_read_number ["text", "start"] (defScope (topS 52)) := ⟨rfl, rfl, rfl, by decide +kernel, rfl, by decide +kernel, by decide +kernel⟩
abbrev N_read_numbers : List Str := ["text", "at", "many", "numbers", "number"]
theorem sc_read_numbers : FnScope N_read_numbers ["text", "at", "many"] (defScope (topS 53)) := ⟨rfl, rfl, rfl, by decide +kernel, rfl, by decide +kernel, by decide +kernel⟩
abbrev N_check_lengths : List Str := ["lengths", "length"]
theorem sc_check_lengths : FnScope N_check_lengths ["lengths"] (defScope (topS 60)) := ⟨rfl, rfl, rfl, by decide +kernel, rfl, by decide +kernel, by decide +kernel⟩
abbrev N_check_size : List Str := ["size"]
theorem sc_check_size : FnScope N_check_size ["size"] (defScope (topS 61)) := ⟨rfl, rfl, rfl, by decide +kernel, rfl, by decide +kernel, by decide +kernel⟩
abbrev N_check_fit : List Str := ["entries", "lengths", "at", "slot", "places"]
theorem sc_check_fit : FnScope N_check_fit ["entries", "lengths"] (defScope (topS 62)) := ⟨rfl, rfl, rfl, by decide +kernel, rfl, by decide +kernel, by decide +kernel⟩
abbrev N_rows_of : List Str := ["pages", "size", "lengths", "entries", "slot", "page", "places", "word"]
theorem sc_rows_of : FnScope N_rows_of ["pages", "size"] (defScope (topS 70)) := ⟨rfl, rfl, rfl, by decide +kernel, rfl, by decide +kernel, by decide +kernel⟩
abbrev N_places_by_word : List Str := ["page", "places", "at", "word"]
theorem sc_places_by_word : FnScope N_places_by_word ["page"] (defScope (topS 71)) := ⟨rfl, rfl, rfl, by decide +kernel, rfl, by decide +kernel, by decide +kernel⟩
abbrev N_l_pool : List Str := ["_law_script", "_law_at", "_law_cell", "_law_far"]
theorem sc_l_pool : FnScope N_l_pool ["_law_script", "_law_at"] (defScope (topS 73)) := ⟨rfl, rfl, rfl, by decide +kernel, rfl, by decide +kernel, by decide +kernel⟩
abbrev N_l_take : List Str := ["_law_pool_here", "_law_many", "_law_digit", "_law_turn", "_law_one", "_law_other"]
theorem sc_l_take : FnScope N_l_take ["_law_pool_here", "_law_many"] (defScope (topS 74)) := ⟨rfl, rfl, rfl, by decide +kernel, rfl, by decide +kernel, by decide +kernel⟩
abbrev N_l_kinds : List Str := ["_law_pool_here", "_law_some", "_law_start"]
theorem sc_l_kinds : FnScope N_l_kinds ["_law_pool_here"] (defScope (topS 75)) := ⟨rfl, rfl, rfl, by decide +kernel, rfl, by decide +kernel, by decide +kernel⟩
abbrev N_l_words : List Str := ["_law_pool_here", "_law_kinds_here", "_law_most", "_law_k"]
theorem sc_l_words : FnScope N_l_words ["_law_pool_here", "_law_kinds_here", "_law_most"] (defScope (topS 76)) := ⟨rfl, rfl, rfl, by decide +kernel, rfl, by decide +kernel, by decide +kernel⟩
abbrev N_l_spots : List Str := ["_law_held", "_law_word", "_law_at"]
theorem sc_l_spots : FnScope N_l_spots ["_law_held", "_law_word"] (defScope (topS 77)) := ⟨rfl, rfl, rfl, by decide +kernel, rfl, by decide +kernel, by decide +kernel⟩
abbrev N_l_numbers : List Str := ["_law_pool_here", "_law_many", "_law_some", "_law_last", "_law_k"]
theorem sc_l_numbers : FnScope N_l_numbers ["_law_pool_here", "_law_many"] (defScope (topS 78)) := ⟨rfl, rfl, rfl, by decide +kernel, rfl, by decide +kernel, by decide +kernel⟩
abbrev N_l_whole : List Str := ["_law_thing"]
theorem sc_l_whole : FnScope N_l_whole ["_law_thing"] (defScope (topS 79)) := ⟨rfl, rfl, rfl, by decide +kernel, rfl, by decide +kernel, by decide +kernel⟩
abbrev N_l_kind : List Str := ["_law_e", "_law_names", "_law_some"]
theorem sc_l_kind : FnScope N_l_kind ["_law_e"] (defScope (topS 80)) := ⟨rfl, rfl, rfl, by decide +kernel, rfl, by decide +kernel, by decide +kernel⟩
abbrev N_l_how : List Str := ["_law_deed", "_law_e"]
theorem sc_l_how : FnScope N_l_how ["_law_deed"] (defScope (topS 81)) := ⟨rfl, rfl, rfl, by decide +kernel, rfl, by decide +kernel, by decide +kernel⟩
abbrev N_l_due_row : List Str := ["_law_word", "_law_some", "_law_wide", "_law_lengths", "_law_entries", "_law_number", "_law_held", "_law_slot"]
theorem sc_l_due_row : FnScope N_l_due_row ["_law_word", "_law_some", "_law_wide"] (defScope (topS 82)) := ⟨rfl, rfl, rfl, by decide +kernel, rfl, by decide +kernel, by decide +kernel⟩
abbrev N_l_right : List Str := ["_law_segment", "_law_some", "_law_wide", "_law_numbers_here", "_law_due", "_law_number", "_law_held", "_law_ahead", "_law_turn", "_law_told", "_law_one", "_law_word", "_law_row", "_law_mine", "_law_odd", "_law_slot"]
theorem sc_l_right : FnScope N_l_right ["_law_segment", "_law_some", "_law_wide"] (defScope (topS 83)) := ⟨rfl, rfl, rfl, by decide +kernel, rfl, by decide +kernel, by decide +kernel⟩
abbrev N_law : List Str := ["_law_script", "_law_k", "_law_pool_here", "_law_sort", "_law_kinds_here", "_law_many", "_law_some", "_law_wide", "_law_handed", "_law_segments", "_law_number", "_law_held"]
theorem sc_law : FnScope N_law ["_law_script"] (defScope (topS 84)) := ⟨rfl, rfl, rfl, by decide +kernel, rfl, by decide +kernel, by decide +kernel⟩
abbrev N_Page_init : List Str := ["self", "number", "text"]
theorem sc_Page_init : FnScope N_Page_init ["self", "number", "text"] (defScope (inClass (topS 34) 0)) := ⟨rfl, rfl, rfl, by decide +kernel, rfl, by decide +kernel, by decide +kernel⟩
abbrev N_Page_len : List Str := ["self"]
theorem sc_Page_len : FnScope N_Page_len ["self"] (defScope (inClass (topS 34) 2)) := ⟨rfl, rfl, rfl, by decide +kernel, rfl, by decide +kernel, by decide +kernel⟩
abbrev N_Page_words : List Str := ["self"]
theorem sc_Page_words : FnScope N_Page_words ["self"] (defScope (inClass (topS 34) 5)) := ⟨rfl, rfl, rfl, by decide +kernel, rfl, by decide +kernel, by decide +kernel⟩
abbrev N_Block_init : List Str := ["self", "entries", "lengths", "slot", "places"]
theorem sc_Block_init : FnScope N_Block_init ["self", "entries", "lengths"] (defScope (inClass (topS 58) 0)) := ⟨rfl, rfl, rfl, by decide +kernel, rfl, by decide +kernel, by decide +kernel⟩
abbrev N_Block_eq : List Str := ["self", "other"]
theorem sc_Block_eq : FnScope N_Block_eq ["self", "other"] (defScope (inClass (topS 58) 1)) := ⟨rfl, rfl, rfl, by decide +kernel, rfl, by decide +kernel, by decide +kernel⟩
abbrev N_Block_head : List Str := ["self"]
theorem sc_Block_head : FnScope N_Block_head ["self"] (defScope (inClass (topS 58) 3)) := ⟨rfl, rfl, rfl, by decide +kernel, rfl, by decide +kernel, by decide +kernel⟩
abbrev N_Row_init : List Str := ["self", "word", "entries", "lengths", "size", "at"]
theorem sc_Row_init : FnScope N_Row_init ["self", "word", "entries", "lengths", "size"] (defScope (inClass (topS 59) 0)) := ⟨rfl, rfl, rfl, by decide +kernel, rfl, by decide +kernel, by decide +kernel⟩
abbrev N_Row_eq : List Str := ["self", "other"]
theorem sc_Row_eq : FnScope N_Row_eq ["self", "other"] (defScope (inClass (topS 59) 1)) := ⟨rfl, rfl, rfl, by decide +kernel, rfl, by decide +kernel, by decide +kernel⟩
abbrev N_Row_len : List Str := ["self", "block"]
theorem sc_Row_len : FnScope N_Row_len ["self"] (defScope (inClass (topS 59) 2)) := ⟨rfl, rfl, rfl, by decide +kernel, rfl, by decide +kernel, by decide +kernel⟩
abbrev N_Row_entries : List Str := ["self", "block", "entry"]
theorem sc_Row_entries : FnScope N_Row_entries ["self"] (defScope (inClass (topS 59) 4)) := ⟨rfl, rfl, rfl, by decide +kernel, rfl, by decide +kernel, by decide +kernel⟩
abbrev N_Segment_init : List Str := ["self", "pages", "size", "by_slots", "page"]
theorem sc_Segment_init : FnScope N_Segment_init ["self", "pages", "size"] (defScope (inClass (topS 68) 0)) := ⟨rfl, rfl, rfl, by decide +kernel, rfl, by decide +kernel, by decide +kernel⟩
abbrev N_Segment_len : List Str := ["self"]
theorem sc_Segment_len : FnScope N_Segment_len ["self"] (defScope (inClass (topS 68) 2)) := ⟨rfl, rfl, rfl, by decide +kernel, rfl, by decide +kernel, by decide +kernel⟩
abbrev N_Segment_numbers : List Str := ["self"]
theorem sc_Segment_numbers : FnScope N_Segment_numbers ["self"] (defScope (inClass (topS 68) 3)) := ⟨rfl, rfl, rfl, by decide +kernel, rfl, by decide +kernel, by decide +kernel⟩
abbrev N_Segment_lengths : List Str := ["self"]
theorem sc_Segment_lengths : FnScope N_Segment_lengths ["self"] (defScope (inClass (topS 68) 4)) := ⟨rfl, rfl, rfl, by decide +kernel, rfl, by decide +kernel, by decide +kernel⟩
abbrev N_Segment_words : List Str := ["self"]
theorem sc_Segment_words : FnScope N_Segment_words ["self"] (defScope (inClass (topS 68) 5)) := ⟨rfl, rfl, rfl, by decide +kernel, rfl, by decide +kernel, by decide +kernel⟩
abbrev N_Segment_row : List Str := ["self", "word"]
theorem sc_Segment_row : FnScope N_Segment_row ["self", "word"] (defScope (inClass (topS 68) 6)) := ⟨rfl, rfl, rfl, by decide +kernel, rfl, by decide +kernel, by decide +kernel⟩
abbrev N_Segment_slot_of : List Str := ["self", "number"]
theorem sc_Segment_slot_of : FnScope N_Segment_slot_of ["self", "number"] (defScope (inClass (topS 68) 7)) := ⟨rfl, rfl, rfl, by decide +kernel, rfl, by decide +kernel, by decide +kernel⟩
def howC (A : Nat → Addr) : HowC := ⟨[A 10, A 12, A 14, A 13, A 11], A 2, [A 19, A 20], [A 10, A 17, A 12, A 7, A 9, A 5, A 14, A 15, A 8, A 13, A 11, A 16, A 6, A 4, A 3, A 18]⟩
/-- what the top has left: A the defs' places, FD their data, TK the constants' tokens -/
structure TX (K : PySem.W.Frag) (mg : Str → Option Value) (A : Nat → Addr) (FD : Nat → FuncData) (TK : Nat → Tok) (CC : Nat → Addr) : Prop where
  f_is_whole : Fun K "is_whole" "is_whole" (topS 22) (A 22) (FD 22)
  b_is_whole : Binds K (FD 22) ["thing"] []
  g_is_whole : mg "is_whole" = some (.ref (A 22))
  f_is_within : Fun K "is_within" "is_within" (topS 23) (A 23) (FD 23)
  b_is_within : Binds K (FD 23) ["thing", "least", "most"] []
  g_is_within : mg "is_within" = some (.ref (A 23))
  f_is_word : Fun K "is_word" "is_word" (topS 27) (A 27) (FD 27)
  b_is_word : Binds K (FD 27) ["thing"] []
  g_is_word : mg "is_word" = some (.ref (A 27))
  f_are_words : Fun K "are_words" "are_words" (topS 28) (A 28) (FD 28)
  b_are_words : Binds K (FD 28) ["things"] []
  g_are_words : mg "are_words" = some (.ref (A 28))
  f_check_word : Fun K "check_word" "check_word" (topS 29) (A 29) (FD 29)
  b_check_word : Binds K (FD 29) ["word"] []
  g_check_word : mg "check_word" = some (.ref (A 29))
  f_words_of : Fun K "words_of" "words_of" (topS 30) (A 30) (FD 30)
  b_words_of : Binds K (FD 30) ["text"] []
  g_words_of : mg "words_of" = some (.ref (A 30))
  f_check_words : Fun K "check_words" "check_words" (topS 31) (A 31) (FD 31)
  b_check_words : Binds K (FD 31) ["words"] []
  g_check_words : mg "check_words" = some (.ref (A 31))
  f_check_page_number : Fun K "check_page_number" "check_page_number" (topS 35) (A 35) (FD 35)
  b_check_page_number : Binds K (FD 35) ["number"] []
  g_check_page_number : mg "check_page_number" = some (.ref (A 35))
  f_check_pages : Fun K "check_pages" "check_pages" (topS 36) (A 36) (FD 36)
  g_check_pages : mg "check_pages" = some (.ref (A 36))
  f_is_count : Fun K "is_count" "is_count" (topS 40) (A 40) (FD 40)
  b_is_count : Binds K (FD 40) ["thing"] []
  g_is_count : mg "is_count" = some (.ref (A 40))
  f_code : Fun K "code" "code" (topS 41) (A 41) (FD 41)
  b_code : Binds K (FD 41) ["number"] []
  g_code : mg "code" = some (.ref (A 41))
  f_code_all : Fun K "code_all" "code_all" (topS 42) (A 42) (FD 42)
  b_code_all : Binds K (FD 42) ["numbers"] []
  g_code_all : mg "code_all" = some (.ref (A 42))
  f_code_entries : Fun K "code_entries" "code_entries" (topS 43) (A 43) (FD 43)
  b_code_entries : Binds K (FD 43) ["entries"] []
  g_code_entries : mg "code_entries" = some (.ref (A 43))
  f_decode_entries : Fun K "decode_entries" "decode_entries" (topS 44) (A 44) (FD 44)
  b_decode_entries : Binds K (FD 44) ["text"] []
  g_decode_entries : mg "decode_entries" = some (.ref (A 44))
  f_check_entries : Fun K "check_entries" "check_entries" (topS 45) (A 45) (FD 45)
  b_check_entries : Binds K (FD 45) ["entries"] []
  g_check_entries : mg "check_entries" = some (.ref (A 45))
  f_is_entry : Fun K "is_entry" "is_entry" (topS 46) (A 46) (FD 46)
  b_is_entry : Binds K (FD 46) ["thing"] []
  g_is_entry : mg "is_entry" = some (.ref (A 46))
  f_are_places : Fun K "are_places" "are_places" (topS 47) (A 47) (FD 47)
  b_are_places : Binds K (FD 47) ["thing"] []
  g_are_places : mg "are_places" = some (.ref (A 47))
  f_first_fall : Fun K "first_fall" "first_fall" (topS 48) (A 48) (FD 48)
  b_first_fall : Binds K (FD 48) ["things"] []
  g_first_fall : mg "first_fall" = some (.ref (A 48))
  f_gaps_of : Fun K "gaps_of" "gaps_of" (topS 49) (A 49) (FD 49)
  b_gaps_of : Binds K (FD 49) ["numbers"] []
  g_gaps_of : mg "gaps_of" = some (.ref (A 49))
  f_risen : Fun K "risen" "risen" (topS 50) (A 50) (FD 50)
  b_risen : Binds K (FD 50) ["gaps"] []
  g_risen : mg "risen" = some (.ref (A 50))
  f_check_text : Fun K "check_text" "check_text" (topS 51) (A 51) (FD 51)
  b_check_text : Binds K (FD 51) ["text"] []
  g_check_text : mg "check_text" = some (.ref (A 51))
  f_read_number : Fun K "read_number" "read_number" (topS 52) (A 52) (FD 52)
  b_read_number : Binds K (FD 52) ["text", "start"] []
  g_read_number : mg "read_number" = some (.ref (A 52))
  f_read_numbers : Fun K "read_numbers" "read_numbers" (topS 53) (A 53) (FD 53)
  b_read_numbers : Binds K (FD 53) ["text", "at", "many"] []
  g_read_numbers : mg "read_numbers" = some (.ref (A 53))
  f_check_lengths : Fun K "check_lengths" "check_lengths" (topS 60) (A 60) (FD 60)
  b_check_lengths : Binds K (FD 60) ["lengths"] []
  g_check_lengths : mg "check_lengths" = some (.ref (A 60))
  f_check_size : Fun K "check_size" "check_size" (topS 61) (A 61) (FD 61)
  b_check_size : Binds K (FD 61) ["size"] []
  g_check_size : mg "check_size" = some (.ref (A 61))
  f_check_fit : Fun K "check_fit" "check_fit" (topS 62) (A 62) (FD 62)
  b_check_fit : Binds K (FD 62) ["entries", "lengths"] []
  g_check_fit : mg "check_fit" = some (.ref (A 62))
  f_rows_of : Fun K "rows_of" "rows_of" (topS 70) (A 70) (FD 70)
  b_rows_of : Binds K (FD 70) ["pages", "size"] []
  g_rows_of : mg "rows_of" = some (.ref (A 70))
  f_places_by_word : Fun K "places_by_word" "places_by_word" (topS 71) (A 71) (FD 71)
  b_places_by_word : Binds K (FD 71) ["page"] []
  g_places_by_word : mg "places_by_word" = some (.ref (A 71))
  f_l_pool : Fun K "_law_pool" "_law_pool" (topS 73) (A 73) (FD 73)
  b_l_pool : Binds K (FD 73) ["_law_script", "_law_at"] []
  g_l_pool : mg "_law_pool" = some (.ref (A 73))
  f_l_take : Fun K "_law_take" "_law_take" (topS 74) (A 74) (FD 74)
  b_l_take : Binds K (FD 74) ["_law_pool_here", "_law_many"] []
  g_l_take : mg "_law_take" = some (.ref (A 74))
  f_l_kinds : Fun K "_law_kinds" "_law_kinds" (topS 75) (A 75) (FD 75)
  b_l_kinds : Binds K (FD 75) ["_law_pool_here"] []
  g_l_kinds : mg "_law_kinds" = some (.ref (A 75))
  f_l_words : Fun K "_law_words" "_law_words" (topS 76) (A 76) (FD 76)
  b_l_words : Binds K (FD 76) ["_law_pool_here", "_law_kinds_here", "_law_most"] []
  g_l_words : mg "_law_words" = some (.ref (A 76))
  f_l_spots : Fun K "_law_spots" "_law_spots" (topS 77) (A 77) (FD 77)
  b_l_spots : Binds K (FD 77) ["_law_held", "_law_word"] []
  g_l_spots : mg "_law_spots" = some (.ref (A 77))
  f_l_numbers : Fun K "_law_numbers" "_law_numbers" (topS 78) (A 78) (FD 78)
  b_l_numbers : Binds K (FD 78) ["_law_pool_here", "_law_many"] []
  g_l_numbers : mg "_law_numbers" = some (.ref (A 78))
  f_l_whole : Fun K "_law_whole" "_law_whole" (topS 79) (A 79) (FD 79)
  b_l_whole : Binds K (FD 79) ["_law_thing"] []
  g_l_whole : mg "_law_whole" = some (.ref (A 79))
  f_l_kind : Fun K "_law_kind" "_law_kind" (topS 80) (A 80) (FD 80)
  b_l_kind : Binds K (FD 80) ["_law_e"] []
  g_l_kind : mg "_law_kind" = some (.ref (A 80))
  f_l_how : Fun K "_law_how" "_law_how" (topS 81) (A 81) (FD 81)
  b_l_how : Binds K (FD 81) ["_law_deed"] []
  g_l_how : mg "_law_how" = some (.ref (A 81))
  f_l_due_row : Fun K "_law_due_row" "_law_due_row" (topS 82) (A 82) (FD 82)
  b_l_due_row : Binds K (FD 82) ["_law_word", "_law_some", "_law_wide"] []
  g_l_due_row : mg "_law_due_row" = some (.ref (A 82))
  F_l_right : FunC K "_law_right" "_law_right" (topS 83) (A 83) (FD 83) (CC 83)
  f_l_right : Fun K "_law_right" "_law_right" (topS 83) (A 83) (FD 83)
  b_l_right : Binds K (FD 83) ["_law_segment", "_law_some", "_law_wide"] []
  g_l_right : mg "_law_right" = some (.ref (A 83))
  f_law : Fun K "law" "law" (topS 84) (A 84) (FD 84)
  b_law : Binds K (FD 84) ["_law_script"] []
  g_law : mg "law" = some (.ref (A 84))
  m_ValueError : mg "ValueError" = none
  m_abs : mg "abs" = none
  m_all : mg "all" = none
  m_bool : mg "bool" = none
  m_divmod : mg "divmod" = none
  m_enumerate : mg "enumerate" = none
  m_int : mg "int" = none
  m_isinstance : mg "isinstance" = none
  m_len : mg "len" = none
  m_list : mg "list" = none
  m_max : mg "max" = none
  m_min : mg "min" = none
  m_range : mg "range" = none
  m_set : mg "set" = none
  m_sorted : mg "sorted" = none
  m_str : mg "str" = none
  m_sum : mg "sum" = none
  m_tuple : mg "tuple" = none
  c_MOST_LETTERS : mg "MOST_LETTERS" = some (.int 12 (TK 25))
  c_MOST_WORDS : mg "MOST_WORDS" = some (.int 120 (TK 26))
  c_MOST_NUMBER : mg "MOST_NUMBER" = some (.int 9999 (TK 33))
  c_DIGITS_AHEAD : mg "DIGITS_AHEAD" = some (.str "ABCDEFGHIJKLMNOP" (TK 38))
  c_LAST_DIGITS : mg "LAST_DIGITS" = some (.str "abcdefghijklmnop" (TK 39))
  c_SIZE : mg "SIZE" = some (.int 4 (TK 55))
  c_MOST_SIZE : mg "MOST_SIZE" = some (.int 8 (TK 56))
  c_MOST_LENGTHS : mg "MOST_LENGTHS" = some (.int 60 (TK 57))
  k_Wrong : mg "Wrong" = some (.ref (A 2))
  k_NoWord : mg "NoWord" = some (.ref (A 3))
  k_NoText : mg "NoText" = some (.ref (A 4))
  k_NoNumber : mg "NoNumber" = some (.ref (A 5))
  k_NoSize : mg "NoSize" = some (.ref (A 6))
  k_NoLengths : mg "NoLengths" = some (.ref (A 7))
  k_NoQuery : mg "NoQuery" = some (.ref (A 8))
  k_NoName : mg "NoName" = some (.ref (A 9))
  k_NoCode : mg "NoCode" = some (.ref (A 10))
  k_NoRow : mg "NoRow" = some (.ref (A 11))
  k_NoEntries : mg "NoEntries" = some (.ref (A 12))
  k_NoQueryText : mg "NoQueryText" = some (.ref (A 13))
  k_NoPages : mg "NoPages" = some (.ref (A 14))
  k_NoQueries : mg "NoQueries" = some (.ref (A 15))
  k_NoShelf : mg "NoShelf" = some (.ref (A 16))
  k_NoDeed : mg "NoDeed" = some (.ref (A 17))
  k_Taken : mg "Taken" = some (.ref (A 18))
  k_NoPlace : mg "NoPlace" = some (.ref (A 19))
  k_NoSlot : mg "NoSlot" = some (.ref (A 20))
  k_Page : mg "Page" = some (.ref (A 34))
  k_Block : mg "Block" = some (.ref (A 58))
  k_Row : mg "Row" = some (.ref (A 59))
  k_Walker : mg "Walker" = some (.ref (A 64))
  k_Segment : mg "Segment" = some (.ref (A 68))
  cl_Page : Cls K (A 34)
  n_Page_number : NoAttr K (A 34) "number"
  n_Page_in_turn : NoAttr K (A 34) "in_turn"
  cl_Block : Cls K (A 58)
  n_Block_first : NoAttr K (A 58) "first"
  n_Block_last : NoAttr K (A 58) "last"
  n_Block_many : NoAttr K (A 58) "many"
  n_Block_most : NoAttr K (A 58) "most"
  n_Block_least : NoAttr K (A 58) "least"
  n_Block_coded : NoAttr K (A 58) "coded"
  cl_Row : Cls K (A 59)
  n_Row_word : NoAttr K (A 59) "word"
  n_Row_size : NoAttr K (A 59) "size"
  n_Row_cut : NoAttr K (A 59) "cut"
  cl_Segment : Cls K (A 68)
  n_Segment_size : NoAttr K (A 68) "size"
  n_Segment_slot_numbers : NoAttr K (A 68) "slot_numbers"
  n_Segment_slot_lengths : NoAttr K (A 68) "slot_lengths"
  n_Segment_rows : NoAttr K (A 68) "rows"
  f_Page_init : FunD K "__init__" "Page.__init__" (defArgs (inClass (topS 34) 0)) (defBody (inClass (topS 34) 0)) (defScope (inClass (topS 34) 0)) [.str ""] [] (A 85) (FD 85)
  M_Page : Mk K (A 34) (A 85)
  f_Page_len : Fun K "__len__" "Page.__len__" (inClass (topS 34) 2) (A 86) (FD 86)
  b_Page_len : Binds K (FD 86) ["self"] []
  M_Page_len : Meth K (A 34) "__len__" (A 86)
  f_Page_words : Fun K "words" "Page.words" (inClass (topS 34) 5) (A 87) (FD 87)
  b_Page_words : Binds K (FD 87) ["self"] []
  M_Page_words : Meth K (A 34) "words" (A 87)
  f_Block_init : Fun K "__init__" "Block.__init__" (inClass (topS 58) 0) (A 88) (FD 88)
  b_Block_init : Binds K (FD 88) ["self", "entries", "lengths"] []
  M_Block : Mk K (A 58) (A 88)
  f_Block_eq : Fun K "__eq__" "Block.__eq__" (inClass (topS 58) 1) (A 89) (FD 89)
  b_Block_eq : Binds K (FD 89) ["self", "other"] []
  M_Block_eq : Meth K (A 58) "__eq__" (A 89)
  f_Block_head : Fun K "head" "Block.head" (inClass (topS 58) 3) (A 90) (FD 90)
  b_Block_head : Binds K (FD 90) ["self"] []
  M_Block_head : Meth K (A 58) "head" (A 90)
  f_Row_init : FunD K "__init__" "Row.__init__" (defArgs (inClass (topS 59) 0)) (defBody (inClass (topS 59) 0)) (defScope (inClass (topS 59) 0)) [] [("size", .int 4)] (A 91) (FD 91)
  M_Row : Mk K (A 59) (A 91)
  f_Row_eq : Fun K "__eq__" "Row.__eq__" (inClass (topS 59) 1) (A 92) (FD 92)
  b_Row_eq : Binds K (FD 92) ["self", "other"] []
  M_Row_eq : Meth K (A 59) "__eq__" (A 92)
  f_Row_len : Fun K "__len__" "Row.__len__" (inClass (topS 59) 2) (A 93) (FD 93)
  b_Row_len : Binds K (FD 93) ["self"] []
  M_Row_len : Meth K (A 59) "__len__" (A 93)
  f_Row_entries : Fun K "entries" "Row.entries" (inClass (topS 59) 4) (A 94) (FD 94)
  b_Row_entries : Binds K (FD 94) ["self"] []
  M_Row_entries : Meth K (A 59) "entries" (A 94)
  f_Segment_init : FunD K "__init__" "Segment.__init__" (defArgs (inClass (topS 68) 0)) (defBody (inClass (topS 68) 0)) (defScope (inClass (topS 68) 0)) [] [("size", .int 4)] (A 95) (FD 95)
  F_Segment_init : FunDC K "__init__" "Segment.__init__" (defArgs (inClass (topS 68) 0)) (defBody (inClass (topS 68) 0)) (defScope (inClass (topS 68) 0)) (A 95) (FD 95) (CC 95)
  M_Segment : Mk K (A 68) (A 95)
  f_Segment_len : Fun K "__len__" "Segment.__len__" (inClass (topS 68) 2) (A 96) (FD 96)
  b_Segment_len : Binds K (FD 96) ["self"] []
  M_Segment_len : Meth K (A 68) "__len__" (A 96)
  f_Segment_numbers : Fun K "numbers" "Segment.numbers" (inClass (topS 68) 3) (A 97) (FD 97)
  b_Segment_numbers : Binds K (FD 97) ["self"] []
  M_Segment_numbers : Meth K (A 68) "numbers" (A 97)
  f_Segment_lengths : Fun K "lengths" "Segment.lengths" (inClass (topS 68) 4) (A 98) (FD 98)
  b_Segment_lengths : Binds K (FD 98) ["self"] []
  M_Segment_lengths : Meth K (A 68) "lengths" (A 98)
  f_Segment_words : Fun K "words" "Segment.words" (inClass (topS 68) 5) (A 99) (FD 99)
  b_Segment_words : Binds K (FD 99) ["self"] []
  M_Segment_words : Meth K (A 68) "words" (A 99)
  f_Segment_row : Fun K "row" "Segment.row" (inClass (topS 68) 6) (A 100) (FD 100)
  b_Segment_row : Binds K (FD 100) ["self", "word"] []
  M_Segment_row : Meth K (A 68) "row" (A 100)
  f_Segment_slot_of : Fun K "slot_of" "Segment.slot_of" (inClass (topS 68) 7) (A 101) (FD 101)
  b_Segment_slot_of : Binds K (FD 101) ["self", "number"] []
  M_Segment_slot_of : Meth K (A 68) "slot_of" (A 101)
  x_NoWord : PySem.W.excIn K (A 3) [.type "ValueError", .type "Exception", .type "BaseException", .type "object"] "ValueError.__new__" = true
  kc_NoWord : PySem.W.keepIn K (.ref (A 3)) = true
  br_NoWord : PySem.W.subIn K (.ref (A 3)) (.type "BaseException") = some true
  ty_NoWord : PySem.W.typeIn K (.ref (A 3)) = some (.type "type")
  h_NoWord : Plain K (howC A) (A 3) 14
  cs : PySem.W.specialIn K (.builtin "object.__class__") "__get__" = some (some (.builtin "getset_descriptor.__get__"))
  ct : PySem.W.takesIn K (.builtin "object.__class__") = some true
  ciB : PySem.W.findIn K (.ref (A 58)) "__class__" = some (some (.builtin "object.__class__"))
  moB : PySem.W.mroIn K (A 58) (.type "object") = some true
  neB : PySem.W.findIn K (.ref (A 58)) "__ne__" = some (some (.builtin "object.__ne__"))
  kB : PySem.W.kitOne K (.ref (A 58)) (.ref (A 58)) = some true
  ciR : PySem.W.findIn K (.ref (A 59)) "__class__" = some (some (.builtin "object.__class__"))
  moR : PySem.W.mroIn K (A 59) (.type "object") = some true
  neR : PySem.W.findIn K (.ref (A 59)) "__ne__" = some (some (.builtin "object.__ne__"))
  kR : PySem.W.kitOne K (.ref (A 59)) (.ref (A 59)) = some true
  kRB : PySem.W.kitOne K (.ref (A 59)) (.ref (A 58)) = some false
  ktB : PySem.W.kitOne K (.type "tuple") (.ref (A 58)) = some false
  nfRB : PySem.W.notFirst K (A 58) (.ref (A 59)) = true
  kNoneType : PySem.W.kitOne K (.type "NoneType") (.ref (A 59)) = some false
  kint : PySem.W.kitOne K (.type "int") (.ref (A 59)) = some false
  kstr : PySem.W.kitOne K (.type "str") (.ref (A 59)) = some false
  ktuple : PySem.W.kitOne K (.type "tuple") (.ref (A 59)) = some false
  klist : PySem.W.kitOne K (.type "list") (.ref (A 59)) = some false
  kbool : PySem.W.kitOne K (.type "bool") (.ref (A 59)) = some false
  ciP : PySem.W.findIn K (.ref (A 34)) "__class__" = some (some (.builtin "object.__class__"))
  moP : PySem.W.mroIn K (A 34) (.type "object") = some true
  kp : PySem.W.kitOne K (.ref (A 34)) (.ref (A 34)) = some true
end K27
namespace K27
open PySem PySem.Spec PyProof.Rows L2 My
def hd22 : HX.FD := ⟨349, "is_whole", "is_whole", defArgs (topS 22), defBody (topS 22), defScope (topS 22), [], none, none, (some 348)⟩
def hd23 : HX.FD := ⟨356, "is_within", "is_within", defArgs (topS 23), defBody (topS 23), defScope (topS 23), [], none, none, (some 355)⟩
def hd27 : HX.FD := ⟨361, "is_word", "is_word", defArgs (topS 27), defBody (topS 27), defScope (topS 27), [], none, none, (some 360)⟩
def hd28 : HX.FD := ⟨366, "are_words", "are_words", defArgs (topS 28), defBody (topS 28), defScope (topS 28), [], none, none, (some 365)⟩
def hd29 : HX.FD := ⟨373, "check_word", "check_word", defArgs (topS 29), defBody (topS 29), defScope (topS 29), [], none, none, (some 372)⟩
def hd30 : HX.FD := ⟨380, "words_of", "words_of", defArgs (topS 30), defBody (topS 30), defScope (topS 30), [], none, none, (some 379)⟩
def hd31 : HX.FD := ⟨387, "check_words", "check_words", defArgs (topS 31), defBody (topS 31), defScope (topS 31), [], none, none, (some 386)⟩
def hd35 : HX.FD := ⟨463, "check_page_number", "check_page_number", defArgs (topS 35), defBody (topS 35), defScope (topS 35), [], none, none, (some 462)⟩
def hd36 : HX.FD := ⟨470, "check_pages", "check_pages", defArgs (topS 36), defBody (topS 36), defScope (topS 36), [], none, none, (some 469)⟩
def hd40 : HX.FD := ⟨477, "is_count", "is_count", defArgs (topS 40), defBody (topS 40), defScope (topS 40), [], none, none, (some 476)⟩
def hd41 : HX.FD := ⟨484, "code", "code", defArgs (topS 41), defBody (topS 41), defScope (topS 41), [], none, none, (some 483)⟩
def hd42 : HX.FD := ⟨489, "code_all", "code_all", defArgs (topS 42), defBody (topS 42), defScope (topS 42), [], none, none, (some 488)⟩
def hd43 : HX.FD := ⟨494, "code_entries", "code_entries", defArgs (topS 43), defBody (topS 43), defScope (topS 43), [], none, none, (some 493)⟩
def hd44 : HX.FD := ⟨501, "decode_entries", "decode_entries", defArgs (topS 44), defBody (topS 44), defScope (topS 44), [], none, none, (some 500)⟩
def hd45 : HX.FD := ⟨508, "check_entries", "check_entries", defArgs (topS 45), defBody (topS 45), defScope (topS 45), [], none, none, (some 507)⟩
def hd46 : HX.FD := ⟨515, "is_entry", "is_entry", defArgs (topS 46), defBody (topS 46), defScope (topS 46), [], none, none, (some 514)⟩
def hd47 : HX.FD := ⟨522, "are_places", "are_places", defArgs (topS 47), defBody (topS 47), defScope (topS 47), [], none, none, (some 521)⟩
def hd48 : HX.FD := ⟨529, "first_fall", "first_fall", defArgs (topS 48), defBody (topS 48), defScope (topS 48), [], none, none, (some 528)⟩
def hd49 : HX.FD := ⟨536, "gaps_of", "gaps_of", defArgs (topS 49), defBody (topS 49), defScope (topS 49), [], none, none, (some 535)⟩
def hd50 : HX.FD := ⟨543, "risen", "risen", defArgs (topS 50), defBody (topS 50), defScope (topS 50), [], none, none, (some 542)⟩
def hd51 : HX.FD := ⟨550, "check_text", "check_text", defArgs (topS 51), defBody (topS 51), defScope (topS 51), [], none, none, (some 549)⟩
def hd52 : HX.FD := ⟨557, "read_number", "read_number", defArgs (topS 52), defBody (topS 52), defScope (topS 52), [], none, none, (some 556)⟩
def hd53 : HX.FD := ⟨564, "read_numbers", "read_numbers", defArgs (topS 53), defBody (topS 53), defScope (topS 53), [], none, none, (some 563)⟩
def hd60 : HX.FD := ⟨653, "check_lengths", "check_lengths", defArgs (topS 60), defBody (topS 60), defScope (topS 60), [], none, none, (some 652)⟩
def hd61 : HX.FD := ⟨660, "check_size", "check_size", defArgs (topS 61), defBody (topS 61), defScope (topS 61), [], none, none, (some 659)⟩
def hd62 : HX.FD := ⟨667, "check_fit", "check_fit", defArgs (topS 62), defBody (topS 62), defScope (topS 62), [], none, none, (some 666)⟩
def hd70 : HX.FD := ⟨886, "rows_of", "rows_of", defArgs (topS 70), defBody (topS 70), defScope (topS 70), [], none, none, (some 885)⟩
def hd71 : HX.FD := ⟨893, "places_by_word", "places_by_word", defArgs (topS 71), defBody (topS 71), defScope (topS 71), [], none, none, (some 892)⟩
def hd73 : HX.FD := ⟨900, "_law_pool", "_law_pool", defArgs (topS 73), defBody (topS 73), defScope (topS 73), [], none, none, (some 899)⟩
def hd74 : HX.FD := ⟨907, "_law_take", "_law_take", defArgs (topS 74), defBody (topS 74), defScope (topS 74), [], none, none, (some 906)⟩
def hd75 : HX.FD := ⟨914, "_law_kinds", "_law_kinds", defArgs (topS 75), defBody (topS 75), defScope (topS 75), [], none, none, (some 913)⟩
def hd76 : HX.FD := ⟨919, "_law_words", "_law_words", defArgs (topS 76), defBody (topS 76), defScope (topS 76), [], none, none, (some 918)⟩
def hd77 : HX.FD := ⟨924, "_law_spots", "_law_spots", defArgs (topS 77), defBody (topS 77), defScope (topS 77), [], none, none, (some 923)⟩
def hd78 : HX.FD := ⟨931, "_law_numbers", "_law_numbers", defArgs (topS 78), defBody (topS 78), defScope (topS 78), [], none, none, (some 930)⟩
def hd79 : HX.FD := ⟨938, "_law_whole", "_law_whole", defArgs (topS 79), defBody (topS 79), defScope (topS 79), [], none, none, (some 937)⟩
def hd80 : HX.FD := ⟨945, "_law_kind", "_law_kind", defArgs (topS 80), defBody (topS 80), defScope (topS 80), [], none, none, (some 944)⟩
def hd81 : HX.FD := ⟨952, "_law_how", "_law_how", defArgs (topS 81), defBody (topS 81), defScope (topS 81), [], none, none, (some 951)⟩
def hd82 : HX.FD := ⟨957, "_law_due_row", "_law_due_row", defArgs (topS 82), defBody (topS 82), defScope (topS 82), [], none, none, (some 956)⟩
def hd83 : HX.FD := ⟨962, "_law_right", "_law_right", defArgs (topS 83), defBody (topS 83), defScope (topS 83), [], none, none, (some 961)⟩
def hd84 : HX.FD := ⟨967, "law", "law", defArgs (topS 84), defBody (topS 84), defScope (topS 84), [], none, none, (some 966)⟩
def hd85 : HX.FD := ⟨402, "__init__", "Page.__init__", defArgs (inClass (topS 34) 0), defBody (inClass (topS 34) 0), defScope (inClass (topS 34) 0), [], (some 395), none, (some 401)⟩
def hd86 : HX.FD := ⟨416, "__len__", "Page.__len__", defArgs (inClass (topS 34) 2), defBody (inClass (topS 34) 2), defScope (inClass (topS 34) 2), [], none, none, (some 415)⟩
def hd87 : HX.FD := ⟨437, "words", "Page.words", defArgs (inClass (topS 34) 5), defBody (inClass (topS 34) 5), defScope (inClass (topS 34) 5), [], none, none, (some 436)⟩
def hd88 : HX.FD := ⟨576, "__init__", "Block.__init__", defArgs (inClass (topS 58) 0), defBody (inClass (topS 58) 0), defScope (inClass (topS 58) 0), [], none, none, (some 575)⟩
def hd89 : HX.FD := ⟨583, "__eq__", "Block.__eq__", defArgs (inClass (topS 58) 1), defBody (inClass (topS 58) 1), defScope (inClass (topS 58) 1), [], none, none, (some 582)⟩
def hd90 : HX.FD := ⟨597, "head", "Block.head", defArgs (inClass (topS 58) 3), defBody (inClass (topS 58) 3), defScope (inClass (topS 58) 3), [], none, none, (some 596)⟩
def hd91 : HX.FD := ⟨617, "__init__", "Row.__init__", defArgs (inClass (topS 59) 0), defBody (inClass (topS 59) 0), defScope (inClass (topS 59) 0), [], none, (some 612), (some 616)⟩
def hd92 : HX.FD := ⟨624, "__eq__", "Row.__eq__", defArgs (inClass (topS 59) 1), defBody (inClass (topS 59) 1), defScope (inClass (topS 59) 1), [], none, none, (some 623)⟩
def hd93 : HX.FD := ⟨629, "__len__", "Row.__len__", defArgs (inClass (topS 59) 2), defBody (inClass (topS 59) 2), defScope (inClass (topS 59) 2), [], none, none, (some 628)⟩
def hd94 : HX.FD := ⟨641, "entries", "Row.entries", defArgs (inClass (topS 59) 4), defBody (inClass (topS 59) 4), defScope (inClass (topS 59) 4), [], none, none, (some 640)⟩
def hd95 : HX.FD := ⟨804, "__init__", "Segment.__init__", defArgs (inClass (topS 68) 0), defBody (inClass (topS 68) 0), defScope (inClass (topS 68) 0), [], none, (some 799), (some 803)⟩
def hd96 : HX.FD := ⟨818, "__len__", "Segment.__len__", defArgs (inClass (topS 68) 2), defBody (inClass (topS 68) 2), defScope (inClass (topS 68) 2), [], none, none, (some 817)⟩
def hd97 : HX.FD := ⟨825, "numbers", "Segment.numbers", defArgs (inClass (topS 68) 3), defBody (inClass (topS 68) 3), defScope (inClass (topS 68) 3), [], none, none, (some 824)⟩
def hd98 : HX.FD := ⟨832, "lengths", "Segment.lengths", defArgs (inClass (topS 68) 4), defBody (inClass (topS 68) 4), defScope (inClass (topS 68) 4), [], none, none, (some 831)⟩
def hd99 : HX.FD := ⟨839, "words", "Segment.words", defArgs (inClass (topS 68) 5), defBody (inClass (topS 68) 5), defScope (inClass (topS 68) 5), [], none, none, (some 838)⟩
def hd100 : HX.FD := ⟨846, "row", "Segment.row", defArgs (inClass (topS 68) 6), defBody (inClass (topS 68) 6), defScope (inClass (topS 68) 6), [], none, none, (some 845)⟩
def hd101 : HX.FD := ⟨853, "slot_of", "Segment.slot_of", defArgs (inClass (topS 68) 7), defBody (inClass (topS 68) 7), defScope (inClass (topS 68) 7), [], none, none, (some 852)⟩
def hfn0 : List HX.FD := [hd22, hd23, hd27, hd28, hd29, hd30, hd31, hd35, hd36, hd40, hd41, hd42, hd43, hd44, hd45, hd46, hd47, hd48, hd49, hd50, hd51, hd52, hd53, hd60, hd61, hd62, hd70, hd71, hd73, hd74]
def hfn1 : List HX.FD := [hd75, hd76, hd77, hd78, hd79, hd80, hd81, hd82, hd83, hd84, hd85, hd86, hd87, hd88, hd89, hd90, hd91, hd92, hd93, hd94, hd95, hd96, hd97, hd98, hd99, hd100, hd101]
def hfn : List HX.FD := hfn0 ++ hfn1
def hfs0 : List (PySem.W.Frag → Bool) := [
  fun K => HX.refB (PySem.W.nsIn K mainGlobals "is_whole") 349,
  fun K => PySem.W.keepIn K (.ref 349),
  fun K => HX.refB (PySem.W.nsIn K mainGlobals "is_within") 356,
  fun K => PySem.W.keepIn K (.ref 356),
  fun K => HX.refB (PySem.W.nsIn K mainGlobals "is_word") 361,
  fun K => PySem.W.keepIn K (.ref 361),
  fun K => HX.refB (PySem.W.nsIn K mainGlobals "are_words") 366,
  fun K => PySem.W.keepIn K (.ref 366),
  fun K => HX.refB (PySem.W.nsIn K mainGlobals "check_word") 373,
  fun K => PySem.W.keepIn K (.ref 373),
  fun K => HX.refB (PySem.W.nsIn K mainGlobals "words_of") 380,
  fun K => PySem.W.keepIn K (.ref 380),
  fun K => HX.refB (PySem.W.nsIn K mainGlobals "check_words") 387,
  fun K => PySem.W.keepIn K (.ref 387),
  fun K => HX.refB (PySem.W.nsIn K mainGlobals "check_page_number") 463,
  fun K => PySem.W.keepIn K (.ref 463),
  fun K => HX.refB (PySem.W.nsIn K mainGlobals "check_pages") 470,
  fun K => PySem.W.keepIn K (.ref 470),
  fun K => HX.refB (PySem.W.nsIn K mainGlobals "is_count") 477,
  fun K => PySem.W.keepIn K (.ref 477),
  fun K => HX.refB (PySem.W.nsIn K mainGlobals "code") 484,
  fun K => PySem.W.keepIn K (.ref 484),
  fun K => HX.refB (PySem.W.nsIn K mainGlobals "code_all") 489,
  fun K => PySem.W.keepIn K (.ref 489),
  fun K => HX.refB (PySem.W.nsIn K mainGlobals "code_entries") 494,
  fun K => PySem.W.keepIn K (.ref 494),
  fun K => HX.refB (PySem.W.nsIn K mainGlobals "decode_entries") 501,
  fun K => PySem.W.keepIn K (.ref 501),
  fun K => HX.refB (PySem.W.nsIn K mainGlobals "check_entries") 508,
  fun K => PySem.W.keepIn K (.ref 508)]
def hfs1 : List (PySem.W.Frag → Bool) := [
  fun K => HX.refB (PySem.W.nsIn K mainGlobals "is_entry") 515,
  fun K => PySem.W.keepIn K (.ref 515),
  fun K => HX.refB (PySem.W.nsIn K mainGlobals "are_places") 522,
  fun K => PySem.W.keepIn K (.ref 522),
  fun K => HX.refB (PySem.W.nsIn K mainGlobals "first_fall") 529,
  fun K => PySem.W.keepIn K (.ref 529),
  fun K => HX.refB (PySem.W.nsIn K mainGlobals "gaps_of") 536,
  fun K => PySem.W.keepIn K (.ref 536),
  fun K => HX.refB (PySem.W.nsIn K mainGlobals "risen") 543,
  fun K => PySem.W.keepIn K (.ref 543),
  fun K => HX.refB (PySem.W.nsIn K mainGlobals "check_text") 550,
  fun K => PySem.W.keepIn K (.ref 550),
  fun K => HX.refB (PySem.W.nsIn K mainGlobals "read_number") 557,
  fun K => PySem.W.keepIn K (.ref 557),
  fun K => HX.refB (PySem.W.nsIn K mainGlobals "read_numbers") 564,
  fun K => PySem.W.keepIn K (.ref 564),
  fun K => HX.refB (PySem.W.nsIn K mainGlobals "check_lengths") 653,
  fun K => PySem.W.keepIn K (.ref 653),
  fun K => HX.refB (PySem.W.nsIn K mainGlobals "check_size") 660,
  fun K => PySem.W.keepIn K (.ref 660),
  fun K => HX.refB (PySem.W.nsIn K mainGlobals "check_fit") 667,
  fun K => PySem.W.keepIn K (.ref 667),
  fun K => HX.refB (PySem.W.nsIn K mainGlobals "rows_of") 886,
  fun K => PySem.W.keepIn K (.ref 886),
  fun K => HX.refB (PySem.W.nsIn K mainGlobals "places_by_word") 893,
  fun K => PySem.W.keepIn K (.ref 893),
  fun K => HX.refB (PySem.W.nsIn K mainGlobals "_law_pool") 900,
  fun K => PySem.W.keepIn K (.ref 900),
  fun K => HX.refB (PySem.W.nsIn K mainGlobals "_law_take") 907,
  fun K => PySem.W.keepIn K (.ref 907)]
def hfs2 : List (PySem.W.Frag → Bool) := [
  fun K => HX.refB (PySem.W.nsIn K mainGlobals "_law_kinds") 914,
  fun K => PySem.W.keepIn K (.ref 914),
  fun K => HX.refB (PySem.W.nsIn K mainGlobals "_law_words") 919,
  fun K => PySem.W.keepIn K (.ref 919),
  fun K => HX.refB (PySem.W.nsIn K mainGlobals "_law_spots") 924,
  fun K => PySem.W.keepIn K (.ref 924),
  fun K => HX.refB (PySem.W.nsIn K mainGlobals "_law_numbers") 931,
  fun K => PySem.W.keepIn K (.ref 931),
  fun K => HX.refB (PySem.W.nsIn K mainGlobals "_law_whole") 938,
  fun K => PySem.W.keepIn K (.ref 938),
  fun K => HX.refB (PySem.W.nsIn K mainGlobals "_law_kind") 945,
  fun K => PySem.W.keepIn K (.ref 945),
  fun K => HX.refB (PySem.W.nsIn K mainGlobals "_law_how") 952,
  fun K => PySem.W.keepIn K (.ref 952),
  fun K => HX.refB (PySem.W.nsIn K mainGlobals "_law_due_row") 957,
  fun K => PySem.W.keepIn K (.ref 957),
  fun K => HX.refB (PySem.W.nsIn K mainGlobals "_law_right") 962,
  fun K => PySem.W.keepIn K (.ref 962),
  fun K => HX.refB (PySem.W.nsIn K mainGlobals "law") 967,
  fun K => PySem.W.keepIn K (.ref 967),
  fun K => HX.noB (PySem.W.nsIn K mainGlobals "ValueError"),
  fun K => HX.noB (PySem.W.nsIn K mainGlobals "abs"),
  fun K => HX.noB (PySem.W.nsIn K mainGlobals "all"),
  fun K => HX.noB (PySem.W.nsIn K mainGlobals "bool"),
  fun K => HX.noB (PySem.W.nsIn K mainGlobals "divmod"),
  fun K => HX.noB (PySem.W.nsIn K mainGlobals "enumerate"),
  fun K => HX.noB (PySem.W.nsIn K mainGlobals "int"),
  fun K => HX.noB (PySem.W.nsIn K mainGlobals "isinstance"),
  fun K => HX.noB (PySem.W.nsIn K mainGlobals "len"),
  fun K => HX.noB (PySem.W.nsIn K mainGlobals "list")]
def hfs3 : List (PySem.W.Frag → Bool) := [
  fun K => HX.noB (PySem.W.nsIn K mainGlobals "max"),
  fun K => HX.noB (PySem.W.nsIn K mainGlobals "min"),
  fun K => HX.noB (PySem.W.nsIn K mainGlobals "range"),
  fun K => HX.noB (PySem.W.nsIn K mainGlobals "set"),
  fun K => HX.noB (PySem.W.nsIn K mainGlobals "sorted"),
  fun K => HX.noB (PySem.W.nsIn K mainGlobals "str"),
  fun K => HX.noB (PySem.W.nsIn K mainGlobals "sum"),
  fun K => HX.noB (PySem.W.nsIn K mainGlobals "tuple"),
  fun K => HX.litB (PySem.W.nsIn K mainGlobals "MOST_LETTERS") (.int 12),
  fun K => HX.litB (PySem.W.nsIn K mainGlobals "MOST_WORDS") (.int 120),
  fun K => HX.litB (PySem.W.nsIn K mainGlobals "MOST_NUMBER") (.int 9999),
  fun K => HX.litB (PySem.W.nsIn K mainGlobals "DIGITS_AHEAD") (.str "ABCDEFGHIJKLMNOP"),
  fun K => HX.litB (PySem.W.nsIn K mainGlobals "LAST_DIGITS") (.str "abcdefghijklmnop"),
  fun K => HX.litB (PySem.W.nsIn K mainGlobals "SIZE") (.int 4),
  fun K => HX.litB (PySem.W.nsIn K mainGlobals "MOST_SIZE") (.int 8),
  fun K => HX.litB (PySem.W.nsIn K mainGlobals "MOST_LENGTHS") (.int 60),
  fun K => HX.refB (PySem.W.nsIn K mainGlobals "Wrong") 31,
  fun K => HX.refB (PySem.W.nsIn K mainGlobals "NoWord") 44,
  fun K => HX.refB (PySem.W.nsIn K mainGlobals "NoText") 56,
  fun K => HX.refB (PySem.W.nsIn K mainGlobals "NoNumber") 68,
  fun K => HX.refB (PySem.W.nsIn K mainGlobals "NoSize") 80,
  fun K => HX.refB (PySem.W.nsIn K mainGlobals "NoLengths") 92,
  fun K => HX.refB (PySem.W.nsIn K mainGlobals "NoQuery") 104,
  fun K => HX.refB (PySem.W.nsIn K mainGlobals "NoName") 116,
  fun K => HX.refB (PySem.W.nsIn K mainGlobals "NoCode") 138,
  fun K => HX.refB (PySem.W.nsIn K mainGlobals "NoRow") 160,
  fun K => HX.refB (PySem.W.nsIn K mainGlobals "NoEntries") 182,
  fun K => HX.refB (PySem.W.nsIn K mainGlobals "NoQueryText") 204,
  fun K => HX.refB (PySem.W.nsIn K mainGlobals "NoPages") 226,
  fun K => HX.refB (PySem.W.nsIn K mainGlobals "NoQueries") 248]
def hfs4 : List (PySem.W.Frag → Bool) := [
  fun K => HX.refB (PySem.W.nsIn K mainGlobals "NoShelf") 270,
  fun K => HX.refB (PySem.W.nsIn K mainGlobals "NoDeed") 292,
  fun K => HX.refB (PySem.W.nsIn K mainGlobals "Taken") 314,
  fun K => HX.refB (PySem.W.nsIn K mainGlobals "NoPlace") 326,
  fun K => HX.refB (PySem.W.nsIn K mainGlobals "NoSlot") 339,
  fun K => HX.refB (PySem.W.nsIn K mainGlobals "Page") 452,
  fun K => HX.refB (PySem.W.nsIn K mainGlobals "Block") 600,
  fun K => HX.refB (PySem.W.nsIn K mainGlobals "Row") 644,
  fun K => HX.refB (PySem.W.nsIn K mainGlobals "Walker") 773,
  fun K => HX.refB (PySem.W.nsIn K mainGlobals "Segment") 870,
  fun K => PySem.W.excIn K 44 [.type "ValueError", .type "Exception", .type "BaseException", .type "object"] "ValueError.__new__",
  fun K => PySem.W.keepIn K (.ref 44),
  fun K => decide (PySem.W.subIn K (.ref 44) (.type "BaseException") = some true),
  fun K => decide (PySem.W.typeIn K (.ref 44) = some (.type "type")),
  fun K => plainB K ⟨[138, 182, 226, 204, 160], 31, [326, 339], [138, 292, 182, 92, 116, 68, 226, 248, 104, 204, 160, 270, 80, 56, 44, 314]⟩ 44 14,
  fun K => PySem.W.plainGet K 452 Str.empty,
  fun K => PySem.W.hasDictIn K 452,
  fun K => PySem.W.plainOver K 452,
  fun K => He.eqO (PySem.W.findIn K (.ref 452) "__setattr__") (some (some (.builtin "object.__setattr__"))),
  fun K => PySem.W.makesIn K 452,
  fun K => PySem.W.keepIn K (.ref 452),
  fun K => HX.noB (PySem.W.findIn K (.ref 452) "number"),
  fun K => HX.noB (PySem.W.findIn K (.ref 452) "in_turn"),
  fun K => PySem.W.plainGet K 600 Str.empty,
  fun K => PySem.W.hasDictIn K 600,
  fun K => PySem.W.plainOver K 600,
  fun K => He.eqO (PySem.W.findIn K (.ref 600) "__setattr__") (some (some (.builtin "object.__setattr__"))),
  fun K => PySem.W.makesIn K 600,
  fun K => PySem.W.keepIn K (.ref 600),
  fun K => HX.noB (PySem.W.findIn K (.ref 600) "first")]
def hfs5 : List (PySem.W.Frag → Bool) := [
  fun K => HX.noB (PySem.W.findIn K (.ref 600) "last"),
  fun K => HX.noB (PySem.W.findIn K (.ref 600) "many"),
  fun K => HX.noB (PySem.W.findIn K (.ref 600) "most"),
  fun K => HX.noB (PySem.W.findIn K (.ref 600) "least"),
  fun K => HX.noB (PySem.W.findIn K (.ref 600) "coded"),
  fun K => PySem.W.plainGet K 644 Str.empty,
  fun K => PySem.W.hasDictIn K 644,
  fun K => PySem.W.plainOver K 644,
  fun K => He.eqO (PySem.W.findIn K (.ref 644) "__setattr__") (some (some (.builtin "object.__setattr__"))),
  fun K => PySem.W.makesIn K 644,
  fun K => PySem.W.keepIn K (.ref 644),
  fun K => HX.noB (PySem.W.findIn K (.ref 644) "word"),
  fun K => HX.noB (PySem.W.findIn K (.ref 644) "size"),
  fun K => HX.noB (PySem.W.findIn K (.ref 644) "cut"),
  fun K => PySem.W.plainGet K 870 Str.empty,
  fun K => PySem.W.hasDictIn K 870,
  fun K => PySem.W.plainOver K 870,
  fun K => He.eqO (PySem.W.findIn K (.ref 870) "__setattr__") (some (some (.builtin "object.__setattr__"))),
  fun K => PySem.W.makesIn K 870,
  fun K => PySem.W.keepIn K (.ref 870),
  fun K => HX.noB (PySem.W.findIn K (.ref 870) "size"),
  fun K => HX.noB (PySem.W.findIn K (.ref 870) "slot_numbers"),
  fun K => HX.noB (PySem.W.findIn K (.ref 870) "slot_lengths"),
  fun K => HX.noB (PySem.W.findIn K (.ref 870) "rows"),
  fun K => HX.refB (PySem.W.findIn K (.ref 452) "__init__") 402,
  fun K => PySem.W.isFn K (.ref 402),
  fun K => PySem.W.keepIn K (.ref 402),
  fun K => HX.seqB K 395 [.str ""],
  fun K => HX.refB (PySem.W.findIn K (.ref 452) "__len__") 416,
  fun K => PySem.W.isFn K (.ref 416)]
def hfs6 : List (PySem.W.Frag → Bool) := [
  fun K => PySem.W.keepIn K (.ref 416),
  fun K => HX.refB (PySem.W.findIn K (.ref 452) "words") 437,
  fun K => PySem.W.isFn K (.ref 437),
  fun K => PySem.W.keepIn K (.ref 437),
  fun K => HX.refB (PySem.W.findIn K (.ref 600) "__init__") 576,
  fun K => PySem.W.isFn K (.ref 576),
  fun K => PySem.W.keepIn K (.ref 576),
  fun K => HX.refB (PySem.W.findIn K (.ref 600) "__eq__") 583,
  fun K => PySem.W.isFn K (.ref 583),
  fun K => PySem.W.keepIn K (.ref 583),
  fun K => HX.refB (PySem.W.findIn K (.ref 600) "head") 597,
  fun K => PySem.W.isFn K (.ref 597),
  fun K => PySem.W.keepIn K (.ref 597),
  fun K => HX.refB (PySem.W.findIn K (.ref 644) "__init__") 617,
  fun K => PySem.W.isFn K (.ref 617),
  fun K => PySem.W.keepIn K (.ref 617),
  fun K => HX.litB (PySem.W.nsIn K 612 "size") (.int 4),
  fun K => HX.refB (PySem.W.findIn K (.ref 644) "__eq__") 624,
  fun K => PySem.W.isFn K (.ref 624),
  fun K => PySem.W.keepIn K (.ref 624),
  fun K => HX.refB (PySem.W.findIn K (.ref 644) "__len__") 629,
  fun K => PySem.W.isFn K (.ref 629),
  fun K => PySem.W.keepIn K (.ref 629),
  fun K => HX.refB (PySem.W.findIn K (.ref 644) "entries") 641,
  fun K => PySem.W.isFn K (.ref 641),
  fun K => PySem.W.keepIn K (.ref 641),
  fun K => HX.refB (PySem.W.findIn K (.ref 870) "__init__") 804,
  fun K => PySem.W.isFn K (.ref 804),
  fun K => PySem.W.keepIn K (.ref 804),
  fun K => HX.litB (PySem.W.nsIn K 799 "size") (.int 4)]
def hfs7 : List (PySem.W.Frag → Bool) := [
  fun K => HX.refB (PySem.W.findIn K (.ref 870) "__len__") 818,
  fun K => PySem.W.isFn K (.ref 818),
  fun K => PySem.W.keepIn K (.ref 818),
  fun K => HX.refB (PySem.W.findIn K (.ref 870) "numbers") 825,
  fun K => PySem.W.isFn K (.ref 825),
  fun K => PySem.W.keepIn K (.ref 825),
  fun K => HX.refB (PySem.W.findIn K (.ref 870) "lengths") 832,
  fun K => PySem.W.isFn K (.ref 832),
  fun K => PySem.W.keepIn K (.ref 832),
  fun K => HX.refB (PySem.W.findIn K (.ref 870) "words") 839,
  fun K => PySem.W.isFn K (.ref 839),
  fun K => PySem.W.keepIn K (.ref 839),
  fun K => HX.refB (PySem.W.findIn K (.ref 870) "row") 846,
  fun K => PySem.W.isFn K (.ref 846),
  fun K => PySem.W.keepIn K (.ref 846),
  fun K => HX.refB (PySem.W.findIn K (.ref 870) "slot_of") 853,
  fun K => PySem.W.isFn K (.ref 853),
  fun K => PySem.W.keepIn K (.ref 853),
  fun K => decide (PySem.W.specialIn K (.builtin "object.__class__") "__get__" = some (some (.builtin "getset_descriptor.__get__"))),
  fun K => decide (PySem.W.takesIn K (.builtin "object.__class__") = some true),
  fun K => decide (PySem.W.findIn K (.ref 600) "__class__" = some (some (.builtin "object.__class__"))),
  fun K => decide (PySem.W.mroIn K 600 (.type "object") = some true),
  fun K => decide (PySem.W.findIn K (.ref 600) "__ne__" = some (some (.builtin "object.__ne__"))),
  fun K => decide (PySem.W.kitOne K (.ref 600) (.ref 600) = some true),
  fun K => decide (PySem.W.findIn K (.ref 644) "__class__" = some (some (.builtin "object.__class__"))),
  fun K => decide (PySem.W.mroIn K 644 (.type "object") = some true),
  fun K => decide (PySem.W.findIn K (.ref 644) "__ne__" = some (some (.builtin "object.__ne__"))),
  fun K => decide (PySem.W.kitOne K (.ref 644) (.ref 644) = some true),
  fun K => decide (PySem.W.kitOne K (.ref 644) (.ref 600) = some false),
  fun K => decide (PySem.W.kitOne K (.type "tuple") (.ref 600) = some false)]
def hfs8 : List (PySem.W.Frag → Bool) := [
  fun K => PySem.W.notFirst K 600 (.ref 644),
  fun K => decide (PySem.W.kitOne K (.type "NoneType") (.ref 644) = some false),
  fun K => decide (PySem.W.kitOne K (.type "int") (.ref 644) = some false),
  fun K => decide (PySem.W.kitOne K (.type "str") (.ref 644) = some false),
  fun K => decide (PySem.W.kitOne K (.type "tuple") (.ref 644) = some false),
  fun K => decide (PySem.W.kitOne K (.type "list") (.ref 644) = some false),
  fun K => decide (PySem.W.kitOne K (.type "bool") (.ref 644) = some false),
  fun K => decide (PySem.W.findIn K (.ref 452) "__class__" = some (some (.builtin "object.__class__"))),
  fun K => decide (PySem.W.mroIn K 452 (.type "object") = some true),
  fun K => decide (PySem.W.kitOne K (.ref 452) (.ref 452) = some true),
  fun K => PySem.W.codeHdIn K 803 801,
  fun K => PySem.W.codeHdIn K 961 959]
def hfs : List (List (PySem.W.Frag → Bool)) := [hfs0, hfs1, hfs2, hfs3, hfs4, hfs5, hfs6, hfs7, hfs8]
def has0 : List Addr := [2, 3, 349, 348, 356, 355, 361, 360, 366, 365, 373, 372, 380, 379, 387, 386, 463, 462, 470, 469, 477, 476, 484, 483, 489, 488, 494, 493, 501, 500]
def has1 : List Addr := [508, 507, 515, 514, 522, 521, 529, 528, 536, 535, 543, 542, 550, 549, 557, 556, 564, 563, 653, 652, 660, 659, 667, 666, 886, 885, 893, 892, 900, 899]
def has2 : List Addr := [907, 906, 914, 913, 919, 918, 924, 923, 931, 930, 938, 937, 945, 944, 952, 951, 957, 956, 962, 961, 967, 966, 31, 30, 44, 43, 56, 55, 68, 67]
def has3 : List Addr := [80, 79, 92, 91, 104, 103, 116, 115, 138, 137, 160, 159, 182, 181, 204, 203, 226, 225, 248, 247, 270, 269, 292, 291, 314, 313, 326, 325, 339, 338]
def has4 : List Addr := [452, 451, 600, 599, 644, 643, 773, 772, 870, 869, 402, 401, 395, 416, 415, 437, 436, 576, 575, 583, 582, 597, 596, 617, 616, 612, 624, 623, 629, 628]
def has5 : List Addr := [641, 640, 804, 803, 799, 818, 817, 825, 824, 832, 831, 839, 838, 846, 845, 853, 852]
def has : List Addr := has0 ++ has1 ++ has2 ++ has3 ++ has4 ++ has5
def hts : List Addr := [801, 959]
def hloose0 : List PySem.Str := [PySem.Str.ofString "_wall", PySem.Str.ofString "Wrong", PySem.Str.ofString "NoWord", PySem.Str.ofString "NoText", PySem.Str.ofString "NoNumber", PySem.Str.ofString "NoSize", PySem.Str.ofString "NoLengths", PySem.Str.ofString "NoQuery", PySem.Str.ofString "NoName", PySem.Str.ofString "NoCode", PySem.Str.ofString "NoRow", PySem.Str.ofString "NoEntries", PySem.Str.ofString "NoQueryText", PySem.Str.ofString "NoPages", PySem.Str.ofString "NoQueries", PySem.Str.ofString "NoShelf", PySem.Str.ofString "NoDeed", PySem.Str.ofString "Taken", PySem.Str.ofString "NoPlace", PySem.Str.ofString "NoSlot", PySem.Str.ofString "is_whole", PySem.Str.ofString "is_within", PySem.Str.ofString "MOST_LETTERS", PySem.Str.ofString "MOST_WORDS", PySem.Str.ofString "is_word", PySem.Str.ofString "are_words", PySem.Str.ofString "check_word", PySem.Str.ofString "words_of", PySem.Str.ofString "check_words", PySem.Str.ofString "MOST_NUMBER"]
def hloose1 : List PySem.Str := [PySem.Str.ofString "Page", PySem.Str.ofString "check_page_number", PySem.Str.ofString "check_pages", PySem.Str.ofString "DIGITS_AHEAD", PySem.Str.ofString "LAST_DIGITS", PySem.Str.ofString "is_count", PySem.Str.ofString "code", PySem.Str.ofString "code_all", PySem.Str.ofString "code_entries", PySem.Str.ofString "decode_entries", PySem.Str.ofString "check_entries", PySem.Str.ofString "is_entry", PySem.Str.ofString "are_places", PySem.Str.ofString "first_fall", PySem.Str.ofString "gaps_of", PySem.Str.ofString "risen", PySem.Str.ofString "check_text", PySem.Str.ofString "read_number", PySem.Str.ofString "read_numbers", PySem.Str.ofString "SIZE", PySem.Str.ofString "MOST_SIZE", PySem.Str.ofString "MOST_LENGTHS", PySem.Str.ofString "Block", PySem.Str.ofString "Row", PySem.Str.ofString "check_lengths", PySem.Str.ofString "check_size", PySem.Str.ofString "check_fit", PySem.Str.ofString "Walker", PySem.Str.ofString "check_number", PySem.Str.ofString "places_at"]
def hloose2 : List PySem.Str := [PySem.Str.ofString "Segment", PySem.Str.ofString "check_slot", PySem.Str.ofString "rows_of", PySem.Str.ofString "places_by_word", PySem.Str.ofString "_law_pool", PySem.Str.ofString "_law_take", PySem.Str.ofString "_law_kinds", PySem.Str.ofString "_law_words", PySem.Str.ofString "_law_spots", PySem.Str.ofString "_law_numbers", PySem.Str.ofString "_law_whole", PySem.Str.ofString "_law_kind", PySem.Str.ofString "_law_how", PySem.Str.ofString "_law_due_row", PySem.Str.ofString "_law_right"]
def hloose : List PySem.Str := hloose0 ++ hloose1 ++ hloose2
abbrev hR : PySem.W.OpenRow := PySem.W.OpenLaw.row PySem.Challenge.rw_blocksearch_k27_segments_told
abbrev hk : PySem.W.Hook := HX.hookY has hts hfn hfs
def hob (s : PySem.W.SharedT) : HX.AlY := HX.obsY has hts hfn hfs (HandSHeadRun.getT s)
theorem hob_eq (s : PySem.W.SharedT) : hob s = hk.obs s.abs := HX.obsY_eq (HandSHeadRun.getT_eq s)
set_option maxHeartbeats 0 in
theorem hrun (w : World) : HandSHeadRun.RunEq hR (PySem.W.view hR.prog [84]) hk hob 17168 hloose w := by
  intro os
  kernel_rfl
end K27
namespace K27
open PySem PySem.Spec PyProof.Rows L2 Evl My TL
section
variable {P : Program} {w : World} {K : PySem.W.Frag} {mg : Str → Option Value} {base : Heap} {A : Nat → Addr} {FD : Nat → FuncData} {TK : Nat → Tok} {CC : Nat → Addr}
/-! ### _law_take -/
def spTake : Sp := fun vs H Q _ => ∃ (p : Addr) (m : Int) (c : Nat), vs = [.ref p, .int m] ∧ Pl H p c ∧ 0 < m ∧ m < 1073741824 ∧ c < 1000000 ∧
  ∀ (d : Int) (H' : Hp), 0 ≤ d → d < m → Pl H' p (c + 1) → Fx p H H' → Q (.int d) H'
set_option maxHeartbeats 4000000 in
theorem ok_l_take (T : TX K mg A FD TK CC) : FnOk P w K mg base CX0 1 (A 74) (FD 74) ["_law_pool_here", "_law_many"] spTake := by
  refine T.f_l_take.ok sc_l_take (fun vs H Q E h => ?_) (fun cdv A' outer s H vs Q E hr h => ?_)
  · obtain ⟨p, m, c, rfl, _⟩ := h
    rfl
  · obtain ⟨p, m, c, rfl, ⟨g, b, k, hp, hg, hb, hb2, hk⟩, hm, hm2, hc, q⟩ := h
    refine ⟨_, (pss_cons (ps_if (pt_cmpR op_gt (pe_ix (ixLK (K := K) rfl) (pv 0) pe_int (fun _ _ => rfl)) pe_int (nomark _))
      (pss_cons (ps_set (i := 2) sc_l_take.nd rfl (.inl rfl) (pe_op op_mod (pe_ix (ixLK (K := K) rfl) (pv 0) pe_int (fun _ _ => rfl)) (pv 1)))
      (pss_cons (ps_asg (pe_op op_fdiv (pe_ix (ixLK (K := K) rfl) (pv 0) pe_int (fun _ _ => rfl)) (pv 1)) (pg_sub (pv 0) pe_int set_list))
      (pss_one (ps_ret (pv 2)))))
      pss_nil)
      (pss_cons (ps_asg (pe_op op_add (pe_ix (ixLK (K := K) rfl) (pv 0) pe_int (fun _ _ => rfl)) pe_int) (pg_sub (pv 0) pe_int set_list))
      (pss_cons (ps_set (i := 3) sc_l_take.nd rfl (.inl rfl) (pe_ix (ixLK (K := K) rfl) (pv 0) pe_int (fun _ _ => rfl)))
      (pss_cons (ps_set (i := 4) sc_l_take.nd rfl (.inl rfl) (pe_op op_mod (pe_op op_pow (pe_op op_add (pe_op op_add (pe_ix (ixLK (K := K) rfl) (pv 0) pe_int (fun _ _ => rfl)) (pe_op op_mul (pe_op op_mul pe_int (pv 3)) (pv 3))) pe_int) pe_int) pe_int))
      (pss_cons (ps_set (i := 5) sc_l_take.nd rfl (.inl rfl) (pe_op op_mod (pe_op op_add (pe_op op_pow (pv 4) pe_int) (pe_op op_mul pe_int (pv 3))) pe_int))
      (pss_one (ps_ret (pe_op op_mod (pe_op op_fdiv (pe_op op_add (pe_op op_mul (pv 4) pe_int) (pe_op op_mul (pv 5) (pv 5))) pe_int) (pv 1))))))))), ?_⟩
    refine ⟨.ref p, rfl, p, _, 0, .int g, rfl, rfl, SqL.of hp, atI_nat (j := 0) rfl, g, 0, rfl, rfl, _, rfl, ite2 (fun e => ?_) (fun e => ?_)⟩
    · refine ⟨.ref p, rfl, p, _, 0, .int g, rfl, rfl, SqL.of hp, atI_nat (j := 0) rfl, .int m, rfl, g, m, rfl, rfl, hm, ?_⟩
      refine ⟨.ref p, rfl, p, _, 0, .int g, rfl, rfl, SqL.of hp, atI_nat (j := 0) rfl, .int m, rfl, g, m, rfl, rfl, ⟨hm, hm2⟩, .ref p, rfl, p, _, 0, 0, rfl, rfl, hp, rfl, ?_⟩
      refine ⟨.int (g % m), rfl, ?_⟩
      exact q _ _ (Int.emod_nonneg _ (by omega)) (Int.emod_lt_of_pos _ hm) ⟨g / m, b, k, upd_same, Int.ediv_nonneg hg (by omega), hb, hb2, by omega⟩ Fx.upd
    · have hp1 : (upd H p (.lst [.int g, .int b, .int ((k : Int) + 1)])) p = some (.lst [.int g, .int b, .int ((k : Int) + 1)]) := upd_same
      refine ⟨.ref p, rfl, p, _, 2, .int k, rfl, rfl, SqL.of hp, atI_nat (j := 2) rfl, k, 1, rfl, rfl, .ref p, rfl, p, _, 2, 2, rfl, rfl, hp, rfl, ?_⟩
      refine ⟨.ref p, rfl, p, _, 2, .int ((k : Int) + 1), rfl, rfl, SqL.of hp1, atI_nat (j := 2) rfl, ?_⟩
      have t0 : (0 : Int) ≤ (k : Int) + 1 := by omega
      have t1 : (k : Int) + 1 ≤ 1000000 := by omega
      have s1 : 0 ≤ 69621 * ((k : Int) + 1) ∧ 69621 * ((k : Int) + 1) ≤ 69621000000 := by omega
      have s2 : 0 ≤ 69621 * ((k : Int) + 1) * ((k : Int) + 1) := mul_nn s1.1 t0
      have s3 : 69621 * ((k : Int) + 1) * ((k : Int) + 1) ≤ 69621000000 * 1000000 := mul_le s1.1 s1.2 t0 t1
      refine ⟨.ref p, rfl, p, _, 1, .int b, rfl, rfl, SqL.of hp1, atI_nat (j := 1) rfl, .int ((k : Int) + 1), rfl, 69621, (k : Int) + 1, rfl, rfl, .inl ⟨by decide, by decide⟩, .int ((k : Int) + 1), rfl, 69621 * ((k : Int) + 1), (k : Int) + 1, rfl, rfl, .inl ⟨by omega, by omega⟩,
        b, 69621 * ((k : Int) + 1) * ((k : Int) + 1), rfl, rfl, b + 69621 * ((k : Int) + 1) * ((k : Int) + 1), 3, rfl, rfl, b + 69621 * ((k : Int) + 1) * ((k : Int) + 1) + 3, 3, rfl, rfl, ⟨by decide, by decide, natAbs_lt (by omega) (by omega)⟩,
        _, 2147483629, rfl, rfl, (show (0 : Int) < 2147483629 by decide), ?_⟩
      have o0 : 0 ≤ (b + 69621 * ((k : Int) + 1) * ((k : Int) + 1) + 3) ^ Int.toNat 3 % 2147483629 := Int.emod_nonneg _ (by decide)
      have o1 : (b + 69621 * ((k : Int) + 1) * ((k : Int) + 1) + 3) ^ Int.toNat 3 % 2147483629 < 2147483629 := Int.emod_lt_of_pos _ (by decide)
      dsimp only
      generalize (b + 69621 * ((k : Int) + 1) * ((k : Int) + 1) + 3) ^ Int.toNat 3 % 2147483629 = one at o0 o1 ⊢
      refine ⟨.int one, rfl, one, 3, rfl, rfl, ⟨by decide, by decide, natAbs_lt o0 (by omega)⟩, .int ((k : Int) + 1), rfl, 30011, (k : Int) + 1, rfl, rfl, .inl ⟨by decide, by decide⟩, _, _, rfl, rfl, _, 998244353, rfl, rfl, (show (0 : Int) < 998244353 by decide), ?_⟩
      have r0 : 0 ≤ (one ^ Int.toNat 3 + 30011 * ((k : Int) + 1)) % 998244353 := Int.emod_nonneg _ (by decide)
      have r1 : (one ^ Int.toNat 3 + 30011 * ((k : Int) + 1)) % 998244353 < 998244353 := Int.emod_lt_of_pos _ (by decide)
      dsimp only
      generalize (one ^ Int.toNat 3 + 30011 * ((k : Int) + 1)) % 998244353 = other at r0 r1 ⊢
      refine ⟨.int one, rfl, one, 998244353, rfl, rfl, .inl ⟨by omega, by omega⟩, .int other, rfl, .int other, rfl, other, other, rfl, rfl, .inl ⟨by omega, by omega⟩, _, _, rfl, rfl, _, 1013, rfl, rfl, (show (0 : Int) < 1013 ∧ (1013 : Int) < 1073741824 by decide), .int m, rfl, _, m, rfl, rfl, hm, ?_⟩
      exact q _ _ (Int.emod_nonneg _ (by omega)) (Int.emod_lt_of_pos _ hm) ⟨g, b, k + 1, upd_same, hg, hb, hb2, by omega⟩ Fx.upd

/-! ### _law_pool -/
def spPool (K : PySem.W.Frag) : Sp := fun vs H Q _ => ∃ (a : Addr) (ns : List Int) (j : Nat), vs = [.ref a, .int (j : Int)] ∧ SqL K H a (ns.map V.int) ∧ ns.length ≤ 63 ∧ j ≤ 1000 ∧
  ∀ (p : Addr) (H' : Hp), H p = none → Ex H H' → Pl H' p 0 → Q (.ref p) H'
set_option maxHeartbeats 4000000 in
theorem ok_l_pool (T : TX K mg A FD TK CC) : FnOk P w K mg base CX0 1 (A 73) (FD 73) ["_law_script", "_law_at"] (spPool K) := by
  refine T.f_l_pool.ok sc_l_pool (fun vs H Q E h => ?_) (fun cdv A' outer s H vs Q E hr h => ?_)
  · obtain ⟨a, ns, j, rfl, _⟩ := h
    rfl
  · obtain ⟨a, ns, j, rfl, hS, hn, hj, q⟩ := h
    refine ⟨_, (pss_cons (ps_set (i := 2) sc_l_pool.nd rfl (.inl rfl) pe_int)
      (pss_cut (ps_if (pt_cmpR op_lt (pv 1) (pe_callB (lenK (K := K) rfl) (by rfl) T.m_len (by decide +kernel) (pa_cons (pv 0) pa_nil)) (nomark _))
      (pss_one (ps_set (i := 2) sc_l_pool.nd rfl (.inl rfl) (pe_ix (ixLK (K := K) rfl) (pv 0) (pv 1) (fun _ _ => rfl))))
      pss_nil)
      (pss_cons (ps_set (i := 3) sc_l_pool.nd rfl (.inl rfl) (pe_callB call_abs (by rfl) T.m_abs (by decide +kernel) (pa_cons (pv 2) pa_nil)))
      (pss_one (ps_ret (pe_lst (pa_cons (pe_op op_mul (pv 3) (pe_callTy call_int1 (by rfl) T.m_int (by decide +kernel) (pa_cons (pe_cmpR op_ge (pv 3) (pe_op op_pow pe_int pe_int) (nomark _)) pa_nil))) (pa_cons (pe_op op_add (pe_op op_add (pe_op op_mul (pe_op op_mod (pv 2) pe_int) pe_int) (pe_op op_mul pe_int (pv 1))) pe_int) (pa_cons pe_int pa_nil))))))))), ?_⟩
    refine ⟨fun σ' H' => H' = H ∧ ∃ z : Int, σ' = [some (.ref a), some (.int (j : Int)), some (.int z), none], ?_, ?_⟩
    · refine ⟨.int (j : Int), rfl, .ref a, rfl, a, _, rfl, .inl hS, _, _, rfl, rfl, _, rfl, ite2 (fun e => ?_) (fun e => ?_)⟩
      · have e0 : (j : Int) < ((ns.map V.int).length : Int) := of_decide_eq_true e
        have e1 : j < ns.length := by
          rw [List.length_map] at e0
          omega
        refine ⟨.ref a, rfl, .int (j : Int), rfl, a, _, _, .int ns[j], rfl, rfl, hS, atI_nat (j := j) ?_, rfl, ns[j], rfl⟩
        rw [List.getElem?_map, List.getElem?_eq_getElem e1]
        rfl
      · exact ⟨rfl, 0, rfl⟩
    · rintro σ' H' ⟨rfl, z, rfl⟩
      refine ⟨.int z, rfl, z, rfl, ?_⟩
      have f0 : 0 ≤ (if z < 0 then -z else z) := by split <;> omega
      generalize (if z < 0 then -z else z) = far at f0 ⊢
      refine ⟨.int far, rfl, .int far, rfl, 10, 18, rfl, rfl, ⟨by decide, by decide, by decide⟩, far, _, rfl, rfl, .inr ⟨_, rfl, ?_⟩⟩
      generalize hd : decide ((10 : Int) ^ Int.toNat 18 ≤ far) = big
      have m0 : 0 ≤ z % 2147483647 := Int.emod_nonneg _ (by decide)
      have m1 : z % 2147483647 < 2147483647 := Int.emod_lt_of_pos _ (by decide)
      refine ⟨far, _, rfl, rfl, .inr ⟨?_, ?_⟩, ?_⟩
      · cases big <;> decide
      · cases big <;> decide
      refine ⟨.int z, rfl, z, 2147483647, rfl, rfl, (show (0 : Int) < 2147483647 by decide), ?_⟩
      dsimp only
      generalize z % 2147483647 = y at m0 m1 ⊢
      refine ⟨y, 48271, rfl, rfl, .inl ⟨by omega, by omega⟩, .int (j : Int), rfl, 7919, (j : Int), rfl, rfl, .inl ⟨by decide, by decide⟩, _, _, rfl, rfl, _, 31, rfl, rfl, (by show 3 ≤ sizeLine; decide), fun p np => ?_⟩
      refine q p _ np (ex_upd np) ⟨_, _, 0, upd_same, ?_, ?_, ?_, Nat.le_refl _⟩
      · cases big
        · show (0 : Int) ≤ far * 0
          omega
        · show (0 : Int) ≤ far * 1
          omega
      · omega
      · omega

/-! ### texts: words, pieces between blanks -/
/-- a word: one to twelve letters a to z -/
def isW (z : Str) : Bool := decide (1 ≤ z.cps.size) && decide (z.cps.size ≤ 12) && z.cps.toList.all fun c => decide (97 ≤ c) && decide (c ≤ 122)
def wordV : V → Bool
  | .str z => isW z
  | _ => false
/-- the things that are asked of -/
inductive Th (H : Hp) : V → Prop
  | str (z : Str) (h : z.length ≤ 100000) : Th H (.str z)
  | non : Th H .non
  | bl (b : Bool) : Th H (.bl b)
  | int (i : Int) : Th H (.int i)
  | lst {a : Addr} {xs : List V} (h : H a = some (.lst xs)) : Th H (.ref a)
  | tup {a : Addr} {xs : List V} (h : H a = some (.tup xs)) : Th H (.ref a)
theorem Th.ex {H H' : Hp} {v : V} (t : Th H v) (e : Ex H H') : Th H' v := by
  cases t with
  | str z h => exact .str z h
  | non => exact .non
  | bl b => exact .bl b
  | int i => exact .int i
  | lst h => exact .lst (e _ _ h)
  | tup h => exact .tup (e _ _ h)
theorem Th.exN {H H' : Hp} {v : V} (t : Th H v) (e : LamX.ExtN H H') : Th H' v := by
  cases t with
  | str z h => exact .str z h
  | non => exact .non
  | bl b => exact .bl b
  | int i => exact .int i
  | lst h => exact .lst (e _ _ h (by intro ps z; cases z))
  | tup h => exact .tup (e _ _ h (by intro ps z; cases z))
/-- a text, or a thing of another kind -/
theorem Th.kinds (K : PySem.W.Frag) {H : Hp} {v : V} (t : Th H v) : (∃ z, v = .str z ∧ z.length ≤ 100000) ∨ (∃ ty, TyX K H v (.type ty) ∧ kitB ty "str" = some false ∧ wordV v = false ∧ ∀ z, v ≠ .str z) := by
  cases t with
  | str z h => exact .inl ⟨z, rfl, h⟩
  | non => exact .inr ⟨_, .base .non, by decide +kernel, rfl, fun z e => by cases e⟩
  | bl b => exact .inr ⟨_, .base (.bl b), by decide +kernel, rfl, fun z e => by cases e⟩
  | int i => exact .inr ⟨_, .base (.int i), by decide +kernel, rfl, fun z e => by cases e⟩
  | lst h => exact .inr ⟨_, .base (.lst h), by decide +kernel, rfl, fun z e => by cases e⟩
  | tup h => exact .inr ⟨_, .base (.tup h), by decide +kernel, rfl, fun z e => by cases e⟩
theorem lt_one (a b : Nat) : decide (([a] : List Nat) < [b]) = decide (a < b) := by
  by_cases h : a < b
  · rw [decide_eq_true h]
    exact decide_eq_true (List.Lex.rel h)
  · rw [decide_eq_false h]
    refine decide_eq_false fun z => ?_
    cases z with
    | rel h' => exact h h'
    | cons h' => cases h'
theorem isW_len {z : Str} (h : isW z = true) : z.length ≤ 12 := by
  unfold isW at h
  rw [Bool.and_eq_true, Bool.and_eq_true, decide_eq_true_eq, decide_eq_true_eq] at h
  exact h.1.2
/-! ### split by a blank, joined again -/
theorem spl_len : ∀ (xs acc : List Nat), (spl [32] 0 acc xs).length ≤ xs.length + 1
  | [], acc => Nat.le_refl _
  | c :: r, acc => by
    rw [spl]
    split
    · have := spl_len r []
      show (spl [32] 0 [] r).length + 1 ≤ (c :: r).length + 1
      rw [List.length_cons]
      omega
    · have := spl_len r (acc ++ [c])
      rw [List.length_cons]
      omega
theorem spl_short : ∀ (xs acc : List Nat), ∀ p ∈ spl [32] 0 acc xs, p.length ≤ acc.length + xs.length
  | [], acc, p, h => by
    rw [spl, List.mem_singleton] at h
    rw [h]
    exact Nat.le_refl _
  | c :: r, acc, p, h => by
    rw [spl] at h
    split at h
    · rcases List.mem_cons.mp h with rfl | h
      · omega
      · have := spl_short r [] p h
        rw [List.length_nil] at this
        rw [List.length_cons]
        omega
    · have := spl_short r (acc ++ [c]) p h
      rw [List.length_append, List.length_cons, List.length_nil] at this
      rw [List.length_cons]
      omega
theorem spl_ne (xs acc : List Nat) : spl [32] 0 acc xs ≠ [] := by
  cases xs with
  | nil => rw [spl]; simp
  | cons c r =>
    rw [spl]
    split
    · simp
    · exact spl_ne r (acc ++ [c])
theorem joinL_cons {S p : List Nat} {q : List (List Nat)} (h : q ≠ []) : joinL S (p :: q) = p ++ (S ++ joinL S q) := by
  cases q with
  | nil => exact absurd rfl h
  | cons x r => rw [joinL]
theorem join_spl : ∀ (xs acc : List Nat), joinL [32] (spl [32] 0 acc xs) = acc ++ xs
  | [], acc => by
    rw [spl, joinL, List.append_nil]
  | c :: r, acc => by
    rw [spl]
    split
    · rename_i h
      have hc : c = 32 := by simpa [pre] using h
      show joinL [32] (acc :: spl [32] 0 [] r) = _
      rw [joinL_cons (spl_ne r []), join_spl r [], hc]
      simp
    · rw [join_spl r (acc ++ [c])]
      simp
theorem split_tl (z : Str) : (Txt.split z " ").map tl = spl [32] 0 [] (tl z) := split_spl z " " (by decide) (kind_ok (by decide +kernel))
theorem join_split (z : Str) : Txt.join " " (Txt.split z " ") = z := by
  refine ext_tl ?_
  rw [join_eq, tl_join, split_tl]
  exact (join_spl (tl z) []).trans (List.nil_append _)
theorem tl_len (z : Str) : (tl z).length = z.length := by
  show z.cps.toList.length = z.cps.size
  simp
theorem split_len (z : Str) : (Txt.split z " ").length ≤ z.length + 1 := by
  have h := spl_len (tl z) []
  rw [← split_tl, List.length_map, tl_len] at h
  exact h
theorem split_short {z p : Str} (h : p ∈ Txt.split z " ") : p.length ≤ z.length := by
  have h2 : tl p ∈ spl [32] 0 [] (tl z) := by
    rw [← split_tl]
    exact List.mem_map_of_mem h
  have h3 := spl_short _ _ _ h2
  rw [tl_len, tl_len, List.length_nil] at h3
  omega
/-- the words of a text, if it were one -/
def piecesOf (z : Str) : List Str := if z.length = 0 then [] else Txt.split z " "
def okP (ps : List Str) : Bool := decide (ps.length ≤ 120) && ps.all isW
theorem pieces_len (z : Str) : (piecesOf z).length ≤ z.length + 1 := by
  unfold piecesOf
  split
  · exact Nat.zero_le _
  · exact split_len z
theorem pieces_short {z p : Str} (h : p ∈ piecesOf z) : p.length ≤ z.length := by
  unfold piecesOf at h
  split at h
  · cases h
  · exact split_short h
theorem join_pieces (z : Str) : Txt.join " " (piecesOf z) = z := by
  unfold piecesOf
  split
  · rename_i h
    refine ext_tl ?_
    rw [join_eq, tl_join]
    have : tl z = [] := List.length_eq_zero_iff.mp (by rw [tl_len]; exact h)
    rw [this]
    rfl
  · exact join_split z
/-! ### lists of texts, compared -/
theorem isW_ok {z : Str} (h : isW z = true) : PyData.canLay0 (.str z) = true := by
  unfold isW at h
  rw [Bool.and_eq_true, List.all_eq_true] at h
  show z.cps.all (fun c => decide (c < 0x110000)) = true
  rw [← Array.all_toList, List.all_eq_true]
  intro c hc
  have := h.2 c hc
  rw [Bool.and_eq_true, decide_eq_true_eq, decide_eq_true_eq] at this
  exact decide_eq_true (by omega)
theorem dpS {K : PySem.W.Frag} {H : Hp} : ∀ zs : List Str, DpAll K H (zs.map V.str) (zs.map PyData.str)
  | [] => .nil
  | z :: r => .cons (.str z) (dpS r)
theorem shapeS {zs : List Str} (h : zs.all isW = true) : SeqAt.shaped (.list (zs.map PyData.str)) = true := by
  have h1 : ∀ zs : List Str, zs.all isW = true → PyData.canLayAll0 (zs.map PyData.str) = true := by
    intro zs
    induction zs with
    | nil => intro _; rfl
    | cons z r ih =>
      intro h
      rw [List.all_cons, Bool.and_eq_true] at h
      rw [List.map_cons, PyData.canLayAll0, isW_ok h.1, ih h.2]
      rfl
  have h2 : ∀ zs : List Str, PyData.depthAll (zs.map PyData.str) = 0 := by
    intro zs
    induction zs with
    | nil => rfl
    | cons z r ih =>
      rw [List.map_cons, PyData.depthAll, ih, PyData.depth]
      rfl
  unfold SeqAt.shaped
  rw [PyData.canLay0, PyData.depth, h1 zs h, h2 zs]
  rfl
theorem eqvS {zs : List Str} (h : zs.all isW = true) : PyData.eqv (.list (zs.map PyData.str)) (.list (zs.map PyData.str)) = true := by
  refine SeqAt.eqv_refl _ ?_
  have := shapeS h
  unfold SeqAt.shaped at this
  rw [Bool.and_eq_true] at this
  exact this.1
theorem no_str {x y : Str} {A B : Prop} (h : x ≠ y) (b : B) : if decide (V.str x = V.str y) = true then A else B := by
  rw [decide_eq_false fun z => h (V.str.inj z)]
  exact b
theorem yes_str {x : Str} {A B : Prop} (a : A) : if decide (V.str x = V.str x) = true then A else B := by
  rw [decide_eq_true rfl]
  exact a
theorem yes_le {c A B : Prop} [Decidable c] (h : c) (a : A) : if decide c = true then A else B := by
  rw [decide_eq_true h]
  exact a
theorem no_le {c A B : Prop} [Decidable c] (h : ¬ c) (b : B) : if decide c = true then A else B := by
  rw [decide_eq_false h]
  exact b
theorem joinL_len (S : List Nat) : ∀ ps : List (List Nat), (joinL S ps).length ≤ (ps.map List.length).sum + ps.length * S.length
  | [] => Nat.zero_le _
  | [p] => by
    rw [joinL, List.map_cons, List.sum_cons, List.map_nil, List.sum_nil]
    omega
  | p :: q :: r => by
    have ih := joinL_len S (q :: r)
    rw [joinL, List.length_append, List.length_append, List.map_cons, List.sum_cons, List.length_cons, Nat.add_mul, Nat.one_mul]
    omega
theorem join_len (y : Str) (ps : List Str) : (Txt.join y ps).length ≤ (ps.map (·.length)).sum + ps.length * y.length := by
  have h := joinL_len (tl y) (ps.map tl)
  rw [← tl_join, ← join_eq, tl_len, tl_len, List.length_map, List.map_map] at h
  rw [show (ps.map (·.length)) = ps.map (List.length ∘ tl) from List.map_congr_left fun p _ => (tl_len p).symm]
  exact h
theorem sum_le {ps : List Str} {n : Nat} (h : ∀ p ∈ ps, p.length ≤ n) : (ps.map (·.length)).sum ≤ ps.length * n := by
  induction ps with
  | nil => simp
  | cons p r ih =>
    have h1 := h p (List.mem_cons_self ..)
    have h2 := ih fun x hx => h x (List.mem_cons_of_mem _ hx)
    rw [List.map_cons, List.sum_cons, List.length_cons, Nat.add_mul, Nat.one_mul]
    omega

/-! ### is_whole, is_within, is_word, are_words -/
/-- a word: one to twelve letters a to z -/
def spWholeI : Sp := fun vs H Q _ => ∃ i : Int, vs = [.int i] ∧ RetV (.bl true) H Q
theorem ok_is_whole (T : TX K mg A FD TK CC) : FnOk P w K mg base CX0 1 (A 22) (FD 22) ["thing"] spWholeI := by
  refine T.f_is_whole.ok sc_is_whole (fun vs H Q E h => ?_) (fun cdv A' outer s H vs Q E hr h => ?_)
  · obtain ⟨i, rfl, _⟩ := h
    rfl
  · obtain ⟨i, rfl, q⟩ := h
    refine ⟨_, (pss_one (ps_ret (pe_and (pe_callB (isiK (K := K) rfl) (by rfl) T.m_isinstance (by decide +kernel) (pa_cons (pv 0) (pa_cons (pe_bltn (v := .ty "int") (by rfl) T.m_int (by decide +kernel) rfl) pa_nil))) (pe_one (pe_not (pe_callB (isiK (K := K) rfl) (by rfl) T.m_isinstance (by decide +kernel) (pa_cons (pv 0) (pa_cons (pe_bltn (v := .ty "bool") (by rfl) T.m_bool (by decide +kernel) rfl) pa_nil)))))))), ?_⟩
    refine ⟨.int i, rfl, .int i, .ty "int", .type "int", .type "int", true, rfl, .ty _, .base (.int i), kit_ty (by decide +kernel), true, rfl, iteT ?_⟩
    exact ⟨.int i, rfl, .int i, .ty "bool", .type "int", .type "bool", false, rfl, .ty _, .base (.int i), kit_ty (by decide +kernel), false, rfl, ret_v q⟩
def spWithinI : Sp := fun vs H Q _ => ∃ i lo hi : Int, vs = [.int i, .int lo, .int hi] ∧ RetV (.bl (decide (lo ≤ i) && decide (i ≤ hi))) H Q
theorem ok_is_within (T : TX K mg A FD TK CC) : FnOk P w K mg base CX0 2 (A 23) (FD 23) ["thing", "least", "most"] spWithinI := by
  have G_is_whole := ok_is_whole (P := P) (w := w) (base := base) T
  refine T.f_is_within.ok sc_is_within (fun vs H Q E h => ?_) (fun cdv A' outer s H vs Q E hr h => ?_)
  · obtain ⟨i, lo, hi, rfl, _⟩ := h
    rfl
  · obtain ⟨i, lo, hi, rfl, q⟩ := h
    refine ⟨_, (pss_one (ps_ret (pe_and (pe_call G_is_whole hr (by rfl) T.g_is_whole T.f_is_whole.kp T.b_is_whole .nil pass0 (pa_cons (pv 0) pa_nil)) (pe_one (pe_chain op_le op_le (pv 1) (pv 0) (pv 2)))))), ?_⟩
    refine ⟨.int i, rfl, i, rfl, fun H1 e1 => ⟨true, rfl, iteT ?_⟩⟩
    refine ⟨.int lo, rfl, .int i, rfl, lo, i, rfl, rfl, _, rfl, ite2 (fun c => ?_) (fun c => ?_)⟩
    · refine ⟨.int hi, rfl, i, hi, rfl, rfl, ?_⟩
      have z := q.go e1
      rw [c, Bool.true_and] at z
      exact z
    · have z := q.go e1
      rw [Bool.eq_false_iff.mpr c, Bool.false_and] at z
      exact z
def spWordS : Sp := fun vs H Q _ => ∃ z : Str, vs = [.str z] ∧ z.length ≤ 100000 ∧ RetV (.bl (isW z)) H Q
set_option maxHeartbeats 4000000 in
theorem ok_is_word (T : TX K mg A FD TK CC) : FnOk P w K mg base CX0 1 (A 27) (FD 27) ["thing"] spWordS := by
  refine T.f_is_word.ok sc_is_word (fun vs H Q E h => ?_) (fun cdv A' outer s H vs Q E hr h => ?_)
  · obtain ⟨z, rfl, _⟩ := h
    rfl
  · obtain ⟨z, rfl, hz, q⟩ := h
    refine ⟨_, (pss_cons (ps_if (PW.pt (pw_or (pt_not (pt_val (pe_callB (isiK (K := K) rfl) (by rfl) T.m_isinstance (by decide +kernel) (pa_cons (pv 0) (pa_cons (pe_bltn (v := .ty "str") (by rfl) T.m_str (by decide +kernel) rfl) pa_nil))))) (pw_or1 (pt_not (pt_chain op_le op_le pe_int (pe_callB call_len_str (by rfl) T.m_len (by decide +kernel) (pa_cons (pv 0) pa_nil)) (pe_glob (v := .int 12) (by rfl) T.c_MOST_LETTERS ⟨_, rfl⟩))))))
      (pss_one (ps_ret pe_bl))
      pss_nil)
      (pss_one (ps_ret (pe_callB (allK (K := K) rfl rfl) (by rfl) T.m_all (by decide +kernel) (pa_cons (pe_lc (own := [("sign", 1)])  rfl sc_is_word.nd (pi_str (pv 0)) (blkOk_by (own := [("sign", 1)]) (N := N_is_word) (sc := defScope (topS 27)) (by decide +kernel)) (fun _ _ _ _ _ => (pg_name (i := 1) sc_is_word.nd rfl (Or.inl rfl))) (fun _ _ _ _ _ => pts_nil) (fun _ _ _ _ _ => (pe_chain op_le_str op_le_str pe_str (pv 1) pe_str))) pa_nil))))), ?_⟩
    refine ⟨.str z, rfl, .str z, .ty "str", .type "str", .type "str", true, rfl, .ty _, .base (.str z), kit_ty (by decide +kernel), true, rfl, iteF ?_⟩
    have no : ¬ (decide ((1 : Int) ≤ (z.length : Int)) = true ∧ decide ((z.length : Int) ≤ 12) = true) → isW z = false := fun h => by
      unfold isW
      have e : z.length = z.cps.size := rfl
      by_cases h1 : 1 ≤ z.cps.size
      · by_cases h2 : z.cps.size ≤ 12
        · exact absurd ⟨decide_eq_true (by omega), decide_eq_true (by omega)⟩ h
        · rw [decide_eq_false h2, Bool.and_false, Bool.false_and]
      · rw [decide_eq_false h1, Bool.false_and, Bool.false_and]
    refine ⟨.str z, rfl, z, rfl, sz hz, 1, (z.length : Int), rfl, rfl, _, rfl, ite2 (fun c1 => ?_) (fun c1 => ?_)⟩
    · refine ⟨(z.length : Int), 12, rfl, rfl, _, rfl, ?_⟩
      by_cases c2 : (z.length : Int) ≤ 12
      · rw [decide_eq_true c2]
        refine iteF ?_
        have e : z.length = z.cps.size := rfl
        have c1' : (1 : Int) ≤ (z.length : Int) := of_decide_eq_true c1
        refine ⟨.str z, rfl, z, rfl, fun D hD => ?_⟩
        refine lc_it (walk_str (z := z)) (fun i H' => Ex H H' ∧ H' D = some (.lst ((z.cps.toList.take i).map fun c => .bl (decide (97 ≤ c) && decide (c ≤ 122))))) ⟨Ex.new hD, upd_same⟩ (fun _ _ _ _ => True.intro) (fun i x H1 H2 hi p y => ?_) (fun H1 p => ?_)
        · obtain ⟨p1, p2⟩ := p
          obtain ⟨rfl, c, hc, rfl⟩ := y
          have g : z.cps.toList[i]? = some c := by
            rw [Array.getElem?_toList]
            exact hc
          have stepE : (z.cps.toList.take (i + 1)).map (fun c => V.bl (decide (97 ≤ c) && decide (c ≤ 122))) = (z.cps.toList.take i).map (fun c => V.bl (decide (97 ≤ c) && decide (c ≤ 122))) ++ [V.bl (decide (97 ≤ c) && decide (c ≤ 122))] := by
            rw [List.take_add_one, g, List.map_append]
            rfl
          have lenE : ((z.cps.toList.take i).map (fun c => V.bl (decide (97 ≤ c) && decide (c ≤ 122)))).length < sizeLine := by
            rw [List.length_map, List.length_take]
            refine sz_lt ?_
            have : z.cps.toList.length = z.cps.size := by simp
            omega
          refine ⟨rfl, .str ⟨#[c]⟩, rfl, _, _, rfl, rfl, _, rfl, ?_⟩
          have e1 : (!decide (((⟨#[c]⟩ : Str).cps.toList) < (Str.ofString "a").cps.toList)) = decide (97 ≤ c) := by
            show (!decide ([c] < [97])) = _
            rw [lt_one]
            by_cases h : 97 ≤ c
            · rw [decide_eq_true h, decide_eq_false (by omega)]
              rfl
            · rw [decide_eq_false h, decide_eq_true (by omega)]
              rfl
          have e2 : (!decide ((Str.ofString "z").cps.toList < (⟨#[c]⟩ : Str).cps.toList)) = decide (c ≤ 122) := by
            show (!decide ([122] < [c])) = _
            rw [lt_one]
            by_cases h : c ≤ 122
            · rw [decide_eq_true h, decide_eq_false (by omega)]
              rfl
            · rw [decide_eq_false h, decide_eq_true (by omega)]
              rfl
          refine ite2 (fun b1 => ?_) (fun b1 => ?_)
          · refine ⟨_, _, rfl, rfl, _, p2, lenE, Ex.mut p1 hD, ?_⟩
            rw [upd_same, stepE, ← e1, ← e2, b1, Bool.true_and]
          · refine ⟨_, p2, lenE, Ex.mut p1 hD, ?_⟩
            rw [upd_same, stepE, ← e1, Bool.eq_false_iff.mpr b1, Bool.false_and]
        · obtain ⟨p1, p2⟩ := p
          refine ⟨D, (z.cps.toList.map fun c => (decide (97 ≤ c) && decide (c ≤ 122))), rfl, SqL.of ?_, ?_⟩
          · rw [p2, List.take_of_length_le (by simp), List.map_map]
            rfl
          · have v := q.go p1
            have ev : isW z = ((z.cps.toList.map fun c => (decide (97 ≤ c) && decide (c ≤ 122))).all id) := by
              unfold isW
              rw [decide_eq_true (by omega), decide_eq_true (by omega), List.all_map]
              rfl
            rw [ev] at v
            exact v
      · rw [decide_eq_false c2]
        refine iteT ?_
        have v := ret_v q
        rw [no (fun h => c2 (of_decide_eq_true h.2))] at v
        exact v
    · have v := ret_v q
      rw [no (fun h => c1 h.1)] at v
      exact ⟨false, rfl, v⟩
/-- a list or a tuple of texts -/
def spWordsT (K : PySem.W.Frag) : Sp := fun vs H Q _ => ∃ (a : Addr) (zs : List Str), vs = [.ref a] ∧ (SqL K H a (zs.map V.str) ∨ SqT K H a (zs.map V.str)) ∧ zs.length ≤ 1000 ∧ (∀ z ∈ zs, z.length ≤ 100000) ∧ RetV (.bl (zs.all isW)) H Q
set_option maxHeartbeats 4000000 in
theorem ok_are_words (T : TX K mg A FD TK CC) : FnOk P w K mg base CX0 2 (A 28) (FD 28) ["things"] (spWordsT K) := by
  have G_is_word := ok_is_word (P := P) (w := w) (base := base) T
  refine T.f_are_words.ok sc_are_words (fun vs H Q E h => ?_) (fun cdv A' outer s H vs Q E hr h => ?_)
  · obtain ⟨a, zs, rfl, _⟩ := h
    rfl
  · obtain ⟨a, zs, rfl, hS, hl, hz, q⟩ := h
    refine ⟨_, (pss_one (ps_ret (pe_callB (allK (K := K) rfl rfl) (by rfl) T.m_all (by decide +kernel) (pa_cons (pe_lc (own := [("thing", 1)])  rfl sc_are_words.nd (piOr (piLK (K := K) rfl (pv 0)) (piTK (K := K) rfl (pv 0))) (blkOk_by (own := [("thing", 1)]) (N := N_are_words) (sc := defScope (topS 28)) (by decide +kernel)) (fun _ _ _ _ _ => (pg_name (i := 1) sc_are_words.nd rfl (Or.inl rfl))) (fun _ _ _ _ _ => pts_nil) (fun _ _ _ _ _ => (pe_call G_is_word hr (by rfl) T.g_is_word T.f_is_word.kp T.b_is_word .nil pass0 (pa_cons (pv 1) pa_nil)))) pa_nil)))), ?_⟩
    have fin : ∀ D H1, Ex H H1 → H1 D = some (.lst ((zs.take zs.length).map fun z => .bl (isW z))) → ∃ (p : Addr) (bs : List Bool), [V.ref D] = [V.ref p] ∧ SqL K H1 p (bs.map V.bl) ∧ Q (.bl (bs.all id)) H1 := fun D H1 p1 p2 => by
      refine ⟨D, zs.map isW, rfl, SqL.of ?_, ?_⟩
      · rw [p2, List.take_of_length_le (Nat.le_refl _), List.map_map]
        rfl
      · have v := q.go p1
        rw [show ((zs.map isW).all id) = zs.all isW by rw [List.all_map]; rfl]
        exact v
    have step : ∀ (D : Addr) (i : Nat) (x : V) (H1 : Hp), H D = none → (zs.map V.str)[i]? = some x → Ex H H1 ∧ H1 D = some (.lst ((zs.take i).map fun z => .bl (isW z))) → ∃ z, x = .str z ∧ z.length ≤ 100000 ∧ ∀ H2, Ex H1 H2 → ∃ acc, H2 D = some (.lst acc) ∧ acc.length < sizeLine ∧ Ex H (upd H2 D (.lst (acc ++ [.bl (isW z)]))) ∧ (upd H2 D (.lst (acc ++ [.bl (isW z)]))) D = some (.lst ((zs.take (i + 1)).map fun z => .bl (isW z))) := fun D i x H1 hD hx p => by
      obtain ⟨p1, p2⟩ := p
      rw [List.getElem?_map] at hx
      obtain ⟨z, g, rfl⟩ := Option.map_eq_some_iff.mp hx
      refine ⟨z, rfl, hz z (List.mem_of_getElem? g), fun H2 e2 => ⟨_, e2 _ _ p2, ?_, Ex.mut (p1.trans e2) hD, ?_⟩⟩
      · rw [List.length_map, List.length_take]
        exact sz_lt (by omega)
      · rw [upd_same, List.take_add_one, g, List.map_append]
        rfl
    rcases hS with hS | hS
    · refine .inl ⟨.ref a, rfl, a, rfl, ⟨_, hS⟩, fun D hD => ?_⟩
      refine lc_list (xs := zs.map V.str) (fun i H' => Ex H H' ∧ H' D = some (.lst ((zs.take i).map fun z => .bl (isW z)))) ⟨Ex.new hD, upd_same⟩ (fun i H' _ p => ex_l p.1 hS) (fun i x H1 hx p => ?_) (fun H1 p => ?_)
      · obtain ⟨z, rfl, hz', k⟩ := step D i x H1 hD hx p
        exact ⟨rfl, .str z, rfl, z, rfl, hz', fun H2 e2 => k H2 e2⟩
      · rw [List.length_map] at p
        exact fin D H1 p.1 p.2
    · refine .inr ⟨.ref a, rfl, a, rfl, ⟨_, hS⟩, fun D hD => ?_⟩
      refine lc_tup (xs := zs.map V.str) (fun i H' => Ex H H' ∧ H' D = some (.lst ((zs.take i).map fun z => .bl (isW z)))) ⟨Ex.new hD, upd_same⟩ (fun i H' _ p => ex_t p.1 hS) (fun i x H1 hx p => ?_) (fun H1 p => ?_)
      · obtain ⟨z, rfl, hz', k⟩ := step D i x H1 hD hx p
        exact ⟨rfl, .str z, rfl, z, rfl, hz', fun H2 e2 => k H2 e2⟩
      · rw [List.length_map] at p
        exact fin D H1 p.1 p.2

/-! ### words joined by blanks -/
theorem no32 {z : Str} (h : isW z = true) : 32 ∉ tl z := fun m => by
  unfold isW at h
  rw [Bool.and_eq_true, List.all_eq_true] at h
  have := h.2 32 m
  revert this
  decide
theorem isW_one {z : Str} (h : isW z = true) : 1 ≤ z.length := by
  unfold isW at h
  rw [Bool.and_eq_true, Bool.and_eq_true, decide_eq_true_eq, decide_eq_true_eq] at h
  exact h.1.1
theorem pieces_join {zs : List Str} (h : zs.all isW = true) : piecesOf (Txt.join " " zs) = zs := by
  cases zs with
  | nil => decide +kernel
  | cons z r =>
    have h1 : isW z = true := by
      rw [List.all_cons, Bool.and_eq_true] at h
      exact h.1
    have h2 : ¬ (Txt.join " " (z :: r)).length = 0 := by
      have e : (tl (Txt.join " " (z :: r))).length = (Txt.join " " (z :: r)).length := tl_len _
      rw [join_eq, tl_join] at e
      have l1 := isW_one h1
      rw [← tl_len] at l1
      intro e0
      rw [join_eq] at e0
      rw [e0, List.map_cons] at e
      cases r with
      | nil =>
        have e : (tl z).length = 0 := e
        omega
      | cons y t =>
        rw [List.map_cons, joinL, List.length_append] at e
        omega
    unfold piecesOf
    rw [if_neg h2]
    exact split_join (y := " ") (s := 32) (S := []) (by decide +kernel) (by decide +kernel) (by simp) fun p hp => no32 (List.all_eq_true.mp h p hp)
theorem len_sum (zs : List Str) (h : zs.all isW = true) : (zs.map (·.length)).sum ≤ 12 * zs.length := by
  induction zs with
  | nil => exact Nat.le_refl _
  | cons z r ih =>
    rw [List.all_cons, Bool.and_eq_true] at h
    have := ih h.2
    have := isW_len h.1
    rw [List.map_cons, List.sum_cons, List.length_cons]
    omega
theorem eqvAllS : ∀ zs ys : List Str, PyData.eqvAll (zs.map PyData.str) (ys.map PyData.str) = decide (zs = ys)
  | [], [] => by simp [PyData.eqvAll]
  | [], y :: ys => by simp [PyData.eqvAll]
  | z :: zs, [] => by simp [PyData.eqvAll]
  | z :: zs, y :: ys => by
    rw [List.map_cons, List.map_cons, PyData.eqvAll, eqvAllS zs ys, PyData.eqv]
    by_cases h1 : z = y
    · subst h1
      by_cases h2 : zs = ys
      · simp [h2]
      · simp [h2]
    · rw [show (z == y) = false from beq_eq_false_iff_ne.mpr h1, Bool.false_and]
      simp [h1]
theorem eqvL2 (zs ys : List Str) : PyData.eqv (.list (zs.map PyData.str)) (.list (ys.map PyData.str)) = decide (zs = ys) := by
  rw [PyData.eqv]
  exact eqvAllS zs ys
theorem eqvT2 (zs ys : List Str) : PyData.eqv (.tuple (zs.map PyData.str)) (.tuple (ys.map PyData.str)) = decide (zs = ys) := by
  rw [PyData.eqv]
  exact eqvAllS zs ys
theorem shapeT {zs : List Str} (h : zs.all isW = true) : SeqAt.shaped (.tuple (zs.map PyData.str)) = true := by
  have := shapeS h
  unfold SeqAt.shaped at this ⊢
  rw [show PyData.canLay0 (.tuple (zs.map PyData.str)) = PyData.canLay0 (.list (zs.map PyData.str)) by simp only [PyData.canLay0], show PyData.depth (.tuple (zs.map PyData.str)) = PyData.depth (.list (zs.map PyData.str)) by simp only [PyData.depth]]
  exact this
/-- signs that stand for themselves -/
theorem plain_sign : ∀ c, c < 123 → (c = 32 ∨ 97 ≤ c) → Builtin.Str.reprChar 39 c = [c] := by decide +kernel
theorem foldl_plain : ∀ (l : List Nat) (acc : Array Nat), (∀ c ∈ l, c = 32 ∨ (97 ≤ c ∧ c ≤ 122)) → l.foldl (fun out c => out ++ (Builtin.Str.reprChar 39 c).toArray) acc = acc ++ l.toArray
  | [], acc, _ => by simp
  | c :: r, acc, h => by
    have hc := h c (List.mem_cons_self ..)
    rw [List.foldl_cons, plain_sign c (by omega) (by omega), foldl_plain r _ fun d hd => h d (List.mem_cons_of_mem _ hd)]
    simp
theorem mem_joinL {c s : Nat} : ∀ {ps : List (List Nat)}, c ∈ joinL [s] ps → c = s ∨ ∃ p ∈ ps, c ∈ p
  | [], h => by cases h
  | [p], h => .inr ⟨p, List.mem_cons_self .., h⟩
  | p :: q :: r, h => by
    rw [joinL] at h
    rcases List.mem_append.mp h with h | h
    · exact .inr ⟨p, List.mem_cons_self .., h⟩
    · rcases List.mem_append.mp h with h | h
      · exact .inl (List.mem_singleton.mp h)
      · rcases mem_joinL h with h | ⟨x, hx, h⟩
        · exact .inl h
        · exact .inr ⟨x, List.mem_cons_of_mem _ hx, h⟩
theorem join_plain {zs : List Str} (h : zs.all isW = true) : ∀ c ∈ tl (Txt.join " " zs), c = 32 ∨ (97 ≤ c ∧ c ≤ 122) := by
  intro c hc
  rw [join_eq, tl_join] at hc
  rcases mem_joinL (s := 32) hc with h2 | ⟨p, hp, h2⟩
  · exact .inl h2
  · obtain ⟨z, hz, rfl⟩ := List.mem_map.mp hp
    have w := List.all_eq_true.mp h z hz
    unfold isW at w
    rw [Bool.and_eq_true, List.all_eq_true] at w
    have := w.2 c h2
    rw [Bool.and_eq_true, decide_eq_true_eq, decide_eq_true_eq] at this
    exact .inr this
theorem repr_join {zs : List Str} (h : zs.all isW = true) : reprText (Txt.join " " zs) = Str.ofString "'" ++ Txt.join " " zs ++ Str.ofString "'" := by
  have hp := join_plain h
  generalize Txt.join " " zs = z at hp ⊢
  have hq : reprQuote z = 39 := by
    unfold reprQuote
    have : z.cps.contains 39 = false := by
      rw [Bool.eq_false_iff]
      intro hc
      have := hp 39 (by
        show 39 ∈ z.cps.toList
        simpa using hc)
      omega
    rw [this, Bool.false_and]
    rfl
  refine ext_tl ?_
  unfold reprText
  rw [hq]
  show ((z.cps.foldl (fun out c => out ++ (Builtin.Str.reprChar 39 c).toArray) #[39]).push 39).toList = _
  rw [← Array.foldl_toList, foldl_plain _ _ hp]
  show _ = (Str.ofString "'" ++ z ++ Str.ofString "'").cps.toList
  show _ = ((Str.ofString "'").cps ++ z.cps ++ (Str.ofString "'").cps).toList
  rw [show (Str.ofString "'").cps = #[39] by decide +kernel]
  simp
theorem join_le {zs : List Str} (h : zs.all isW = true) (hl : zs.length ≤ 120) : (Txt.join " " zs).length ≤ 1560 := by
  have h1 := join_len " " zs
  have h2 := len_sum zs h
  rw [show (Str.ofString " ").length = 1 by decide +kernel] at h1
  omega

/-! ### _law_kinds -/
def nine : List Str := ["a", "b", "ab", "ba", "aa", "bab", "abcdefghijkl", "z", "aab"]
theorem nineW : (nine ++ nine).all isW = true := by decide +kernel
theorem nine_cut (j k : Nat) (hj : j < 9) (hk : k < 5) : ∃ zs : List Str, cutV (nine.map V.str ++ nine.map V.str) (some (j : Int)) (some ((j : Int) + 1 + (k : Int))) = zs.map V.str ∧ 1 ≤ zs.length ∧ zs.length ≤ 5 ∧ zs.all isW = true := by
  refine ⟨((nine ++ nine).drop j).take (1 + k), ?_, ?_, ?_, ?_⟩
  · unfold cutV
    rw [show ((j : Int) + 1 + (k : Int)) = ((j + 1 + k : Nat) : Int) by omega, HT.sIx_nat, HT.sIx_nat, ← List.map_append, List.length_map]
    rw [show (nine ++ nine).length = 18 from rfl, show min j 18 = j by omega, show min (j + 1 + k) 18 - j = 1 + k by omega, List.map_take, List.map_drop]
  · rw [List.length_take, List.length_drop, show (nine ++ nine).length = 18 from rfl]
    omega
  · rw [List.length_take, List.length_drop, show (nine ++ nine).length = 18 from rfl]
    omega
  · rw [List.all_eq_true]
    intro x hx
    exact List.all_eq_true.mp nineW x (List.mem_of_mem_drop (List.mem_of_mem_take hx))
/-- a list of one to five words at a -/
def Kn (H : Hp) (a : Addr) (zs : List Str) : Prop := H a = some (.lst (zs.map V.str)) ∧ 1 ≤ zs.length ∧ zs.length ≤ 5 ∧ zs.all isW = true
theorem Kn.ne {H : Hp} {a p : Addr} {zs : List Str} {c : Nat} (h : Kn H a zs) (hp : Pl H p c) : a ≠ p := by
  obtain ⟨g, b, k, h1, _⟩ := hp
  obtain ⟨h2, h3, _⟩ := h
  refine ne_of h2 h1 fun z => ?_
  cases zs with
  | nil => simp at h3
  | cons x r =>
    injection z with z
    rw [List.map_cons] at z
    injection z with z _
    cases z
theorem Kn.fx {H H' : Hp} {a p : Addr} {zs : List Str} {c : Nat} (h : Kn H a zs) (hp : Pl H p c) (f : Fx p H H') : Kn H' a zs := ⟨f a _ (h.ne hp) h.1, h.2⟩
theorem Kn.ex {H H' : Hp} {a : Addr} {zs : List Str} (h : Kn H a zs) (e : Ex H H') : Kn H' a zs := ⟨e _ _ h.1, h.2⟩
def spKinds : Sp := fun vs H Q _ => ∃ (p : Addr) (c : Nat), vs = [.ref p] ∧ Pl H p c ∧ c < 900000 ∧ ∀ (l : Addr) (zs : List Str) (H' : Hp), H l = none → Kn H' l zs → Pl H' p (c + 2) → Fx p H H' → Q (.ref l) H'
set_option maxHeartbeats 8000000 in
theorem ok_l_kinds (T : TX K mg A FD TK CC) : FnOk P w K mg base CX0 2 (A 75) (FD 75) ["_law_pool_here"] spKinds := by
  have G_l_take := ok_l_take (P := P) (w := w) (base := base) T
  refine T.f_l_kinds.ok (k := 1) sc_l_kinds (fun vs H Q E h => ?_) (fun cdv A' outer s H vs Q E hr h => ?_)
  · obtain ⟨p, c, rfl, _⟩ := h
    rfl
  · obtain ⟨p, c, rfl, hp, hc, q⟩ := h
    refine ⟨_, (pss_cons (ps_set (i := 1) sc_l_kinds.nd rfl (.inl rfl) (pe_lst (pa_cons pe_str (pa_cons pe_str (pa_cons pe_str (pa_cons pe_str (pa_cons pe_str (pa_cons pe_str (pa_cons pe_str (pa_cons pe_str (pa_cons pe_str pa_nil)))))))))))
      (pss_cons (ps_set (i := 2) sc_l_kinds.nd rfl (.inl rfl) (pe_call G_l_take hr (by rfl) T.g_l_take T.f_l_take.kp T.b_l_take .nil pass0 (pa_cons (pv 0) (pa_cons pe_int pa_nil))))
      (pss_one (ps_ret (pe_slice (slLK (K := K) rfl) (pe_op op_cat (pv 1) (pv 1)) (po_some (pv 2)) (po_some (pe_op op_add (pe_op op_add (pv 2) pe_int) (pe_call G_l_take hr (by rfl) T.g_l_take T.f_l_take.kp T.b_l_take .nil pass0 (pa_cons (pv 0) (pa_cons pe_int pa_nil)))))))))), ?_⟩
    refine ⟨by show 9 ≤ sizeLine; decide, fun s0 n0 => ?_⟩
    have e1 : Ex H (upd H s0 (.lst (nine.map V.str))) := Ex.new n0
    have hs1 : (upd H s0 (.lst (nine.map V.str))) s0 = some (.lst (nine.map V.str)) := upd_same
    have nsp : s0 ≠ p := by
      obtain ⟨xs, hx⟩ := hp.some
      exact (ne_of_none hx n0).symm
    refine ⟨.ref p, rfl, p, 9, c, rfl, hp.ex e1, by decide, by decide, by omega, fun d H2 d0 d1 hp2 f2 => ?_⟩
    have hs2 : H2 s0 = some (.lst (nine.map V.str)) := f2 _ _ nsp hs1
    refine ⟨.ref s0, rfl, .ref s0, rfl, s0, s0, _, _, rfl, rfl, hs2, hs2, by show 18 ≤ sizeLine; decide, fun r nr => ?_⟩
    have e3 : Ex H2 (upd H2 r (.lst (nine.map V.str ++ nine.map V.str))) := Ex.new nr
    have hr3 : (upd H2 r (.lst (nine.map V.str ++ nine.map V.str))) r = some (.lst (nine.map V.str ++ nine.map V.str)) := upd_same
    have nrp : r ≠ p := by
      obtain ⟨xs, hx⟩ := hp2.some
      exact (ne_of_none hx nr).symm
    refine ⟨.int d, rfl, d, rfl, .int d, rfl, d, 1, rfl, rfl, .ref p, rfl, p, 5, c + 1, rfl, hp2.ex e3, by decide, by decide, by omega, fun k H4 k0 k1 hp4 f4 => ?_⟩
    refine ⟨d + 1, k, rfl, rfl, d + 1 + k, rfl, r, _, rfl, SqL.of (f4 _ _ nrp hr3), fun l nl => ?_⟩
    obtain ⟨j, rfl⟩ := Int.eq_ofNat_of_zero_le d0
    obtain ⟨i, rfl⟩ := Int.eq_ofNat_of_zero_le k0
    obtain ⟨zs, ez, l1, l5, hw⟩ := nine_cut j i (by omega) (by omega)
    have fr : Fx p H H4 := ((Fx.ex e1).trans f2).trans ((Fx.ex e3).trans f4)
    refine q l zs _ (fx_free fr hp4 nl) ⟨?_, l1, l5, hw⟩ (hp4.ex (Ex.new nl)) (fr.trans (Fx.ex (Ex.new nl)))
    rw [upd_same, ez]

/-! ### _law_words, of any most -/
theorem pool_ne {H : Hp} {p a : Addr} {c : Nat} (h : Pl H p c) (n : H a = none) : a ≠ p := by
  obtain ⟨xs, hx⟩ := h.some
  exact (ne_of_none hx n).symm
theorem pl_upd {H : Hp} {p a : Addr} {c : Nat} {o : HO} (h : Pl H p c) (n : a ≠ p) : Pl (upd H a o) p c := by
  obtain ⟨g, b, k, x1, x2⟩ := h
  exact ⟨g, b, k, by rw [upd_ne n.symm]; exact x1, x2⟩
theorem at_word {zs : List Str} {d : Int} (h0 : 0 ≤ d) (h1 : d < (zs.length : Int)) (hw : zs.all isW = true) : ∃ z : Str, atI (zs.map V.str) d = some (.str z) ∧ isW z = true := by
  obtain ⟨j, rfl⟩ := Int.eq_ofNat_of_zero_le h0
  have hj : j < zs.length := by omega
  refine ⟨zs[j], atI_nat ?_, List.all_eq_true.mp hw _ (List.getElem_mem hj)⟩
  rw [List.getElem?_map, List.getElem?_eq_getElem hj]
  rfl
def spWordsK : Sp := fun vs H Q _ => ∃ (p kk : Addr) (zs : List Str) (c m : Nat), vs = [.ref p, .ref kk, .int (m : Int)] ∧ m ≤ 100 ∧ Pl H p c ∧ Kn H kk zs ∧ c < 900000 ∧ ∀ (l : Addr) (ys : List Str) (H' : Hp), l ≠ p → H l = none → H' l = some (.lst (ys.map V.str)) → ys.length ≤ m → ys.all isW = true → Pl H' p (c + 1 + m) → Fx p H H' → Q (.ref l) H'
set_option maxHeartbeats 8000000 in
theorem ok_l_words (T : TX K mg A FD TK CC) : FnOk P w K mg base CX0 2 (A 76) (FD 76) ["_law_pool_here", "_law_kinds_here", "_law_most"] spWordsK := by
  have G_l_take := ok_l_take (P := P) (w := w) (base := base) T
  refine T.f_l_words.ok (k := 1) sc_l_words (fun vs H Q E h => ?_) (fun cdv A' outer s H vs Q E hr h => ?_)
  · obtain ⟨p, kk, zs, c, m, rfl, _⟩ := h
    rfl
  · obtain ⟨p, kk, zs, c, m, rfl, hm, hp, hk, hc, q⟩ := h
    refine ⟨_, (pss_one (ps_ret (pe_lc (own := [("_law_k", 3)])  rfl sc_l_words.nd (pi_range1 (by rfl) T.m_range (pa_cons (pe_call G_l_take hr (by rfl) T.g_l_take T.f_l_take.kp T.b_l_take .nil pass0 (pa_cons (pv 0) (pa_cons (pe_op op_add (pv 2) pe_int) pa_nil))) pa_nil)) (blkOk_by (own := [("_law_k", 3)]) (N := N_l_words) (sc := defScope (topS 76)) (by decide +kernel)) (fun _ _ _ _ _ => (pg_name (i := 3) sc_l_words.nd rfl (Or.inl rfl))) (fun _ _ _ _ _ => pts_nil) (fun _ _ _ _ _ => (pe_ix (ixLK (K := K) rfl) (pv 1) (pe_call G_l_take hr (by rfl) T.g_l_take T.f_l_take.kp T.b_l_take .nil pass0 (pa_cons (pv 0) (pa_cons (pe_callB (lenK (K := K) rfl) (by rfl) T.m_len (by decide +kernel) (pa_cons (pv 1) pa_nil)) pa_nil))) (fun _ _ => rfl)))))), ?_⟩
    refine ⟨.ref p, rfl, .int (m : Int), rfl, (m : Int), 1, rfl, rfl, p, (m : Int) + 1, c, rfl, hp, by omega, by omega, by omega, fun n H2 n0 n1 hp2 f2 => ?_⟩
    refine ⟨n, rfl, by omega, by omega, fun D nD => ?_⟩
    have nDp := pool_ne hp2 nD
    have hk2 := hk.fx hp f2
    have nDk : D ≠ kk := (ne_of_none hk2.1 nD).symm
    refine lc_range (lo := 0) (n := n.toNat) (fun i H' => ∃ ys : List Str, ys.length = i ∧ ys.all isW = true ∧ H' D = some (.lst (ys.map V.str)) ∧ Pl H' p (c + 1 + i) ∧ Fx p H2 H') ⟨[], rfl, rfl, upd_same, hp2.ex (Ex.new nD), Fx.ex (Ex.new nD)⟩ (fun i H3 hi pv => ?_) (fun H3 pv => ?_)
    · obtain ⟨ys, yl, y1, hD, hp3, f3⟩ := pv
      have hk3 := hk2.fx hp2 f3
      refine ⟨rfl, .ref kk, rfl, .ref p, rfl, .ref kk, rfl, kk, _, rfl, .inl (SqL.of hk3.1), p, ((zs.map V.str).length : Int), c + 1 + i, rfl, hp3, ?_, ?_, by omega, fun e H4 e0 e1 hp4 f4 => ?_⟩
      · rw [List.length_map]
        have := hk3.2.1
        omega
      · rw [List.length_map]
        have := hk3.2.2.1
        omega
      rw [List.length_map] at e1
      have hk4 := hk3.fx hp3 f4
      obtain ⟨z, az, wz⟩ := at_word e0 e1 hk3.2.2.2
      refine ⟨kk, _, e, .str z, rfl, rfl, SqL.of hk4.1, az, _, f4 _ _ nDp hD, ?_, ys ++ [z], ?_, ?_, ?_, ?_, ?_⟩
      · rw [List.length_map]
        exact sz_lt (by omega)
      · rw [List.length_append, yl]
        rfl
      · rw [List.all_append, y1, List.all_cons, wz]
        rfl
      · rw [upd_same, List.map_append]
        rfl
      · exact pl_upd hp4 nDp
      · intro x o nx hx
        rw [upd_ne (ne_of_none hx nD)]
        exact f4 _ _ nx (f3 _ _ nx hx)
    · obtain ⟨ys, yl, y1, hD, hp3, f3⟩ := pv
      exact q D ys H3 nDp (fx_free f2 hp2 nD) hD (by omega) y1 (hp3.mono (by omega)) (f2.trans f3)

/-! ### _law_kind, _law_how -/
def spKind (K : PySem.W.Frag) (A : Nat → Addr) : Addr → Value → Option Addr → Sp := fun a cls d vs H Q _ => ∃ (C : Addr) (i : Nat) (nm : Str), vs = [.ref a] ∧ cls = .ref C ∧ Plain K (howC A) C i ∧ kindNames[i]? = some nm ∧ DictOk d H ∧ RetV (.str nm) H Q
theorem no_if {b : Bool} {X Y : Prop} (h : b = false) (y : Y) : if b = true then X else Y := by
  rw [h]
  exact y
set_option maxHeartbeats 16000000 in
theorem ok_l_kind (T : TX K mg A FD TK CC) : FnP P w K mg base CX0 1 (A 80) (FD 80) ["_law_e"] (spKind K A) := by
  refine fnP_of (k := 0) T.f_l_kind sc_l_kind (fun a cls d vs H Q E h => ?_) (fun cdv A' outer s H vs Q E p cls d hr hz hfl h => ?_)
  · obtain ⟨C, i, nm, rfl, _⟩ := h
    rfl
  · obtain ⟨C, i, nm, rfl, rfl, hp, hn, hd, q⟩ := h
    have EC := hp.ec
    have HH : Held (L2H.cxH CX0 P w K mg base N_l_kind "_law_kind" (defScope (topS 80)) (A 80) cdv A' outer s H E p) p.1 C d p.2 := ⟨List.mem_singleton.mpr rfl, hz, hfl⟩
    have hi : i < 16 := (List.getElem?_eq_some_iff.mp hn).1
    refine ⟨_, (pss_cons (ps_set (i := 1) sc_l_kind.nd rfl (.inl rfl) (pe_lst (pa_cons pe_str (pa_cons pe_str (pa_cons pe_str (pa_cons pe_str (pa_cons pe_str (pa_cons pe_str (pa_cons pe_str (pa_cons pe_str (pa_cons pe_str pa_nil)))))))))))
      (pss_cons (ps_set (i := 1) sc_l_kind.nd rfl (.inl rfl) (pe_op op_cat (pv 1) (pe_lst (pa_cons pe_str (pa_cons pe_str (pa_cons pe_str (pa_cons pe_str (pa_cons pe_str (pa_cons pe_str (pa_cons pe_str pa_nil))))))))))
      (pss_cons (ps_set (i := 2) sc_l_kind.nd rfl (.inl rfl) (pe_lst (pa_cons (pe_callB (isH (K := K) rfl EC HH) (by rfl) T.m_isinstance (by decide +kernel) (pa_cons (pv 0) (pa_cons (pe_glob (v := .ref (A 10)) (by rfl) T.k_NoCode rfl) pa_nil))) (pa_cons (pe_callB (isH (K := K) rfl EC HH) (by rfl) T.m_isinstance (by decide +kernel) (pa_cons (pv 0) (pa_cons (pe_glob (v := .ref (A 17)) (by rfl) T.k_NoDeed rfl) pa_nil))) (pa_cons (pe_callB (isH (K := K) rfl EC HH) (by rfl) T.m_isinstance (by decide +kernel) (pa_cons (pv 0) (pa_cons (pe_glob (v := .ref (A 12)) (by rfl) T.k_NoEntries rfl) pa_nil))) (pa_cons (pe_callB (isH (K := K) rfl EC HH) (by rfl) T.m_isinstance (by decide +kernel) (pa_cons (pv 0) (pa_cons (pe_glob (v := .ref (A 7)) (by rfl) T.k_NoLengths rfl) pa_nil))) pa_nil))))))
      (pss_cons (ps_set (i := 2) sc_l_kind.nd rfl (.inl rfl) (pe_op op_cat (pv 2) (pe_lst (pa_cons (pe_callB (isH (K := K) rfl EC HH) (by rfl) T.m_isinstance (by decide +kernel) (pa_cons (pv 0) (pa_cons (pe_glob (v := .ref (A 9)) (by rfl) T.k_NoName rfl) pa_nil))) (pa_cons (pe_callB (isH (K := K) rfl EC HH) (by rfl) T.m_isinstance (by decide +kernel) (pa_cons (pv 0) (pa_cons (pe_glob (v := .ref (A 5)) (by rfl) T.k_NoNumber rfl) pa_nil))) (pa_cons (pe_callB (isH (K := K) rfl EC HH) (by rfl) T.m_isinstance (by decide +kernel) (pa_cons (pv 0) (pa_cons (pe_glob (v := .ref (A 14)) (by rfl) T.k_NoPages rfl) pa_nil))) (pa_cons (pe_callB (isH (K := K) rfl EC HH) (by rfl) T.m_isinstance (by decide +kernel) (pa_cons (pv 0) (pa_cons (pe_glob (v := .ref (A 15)) (by rfl) T.k_NoQueries rfl) pa_nil))) pa_nil)))))))
      (pss_cons (ps_set (i := 2) sc_l_kind.nd rfl (.inl rfl) (pe_op op_cat (pv 2) (pe_lst (pa_cons (pe_callB (isH (K := K) rfl EC HH) (by rfl) T.m_isinstance (by decide +kernel) (pa_cons (pv 0) (pa_cons (pe_glob (v := .ref (A 8)) (by rfl) T.k_NoQuery rfl) pa_nil))) (pa_cons (pe_callB (isH (K := K) rfl EC HH) (by rfl) T.m_isinstance (by decide +kernel) (pa_cons (pv 0) (pa_cons (pe_glob (v := .ref (A 13)) (by rfl) T.k_NoQueryText rfl) pa_nil))) (pa_cons (pe_callB (isH (K := K) rfl EC HH) (by rfl) T.m_isinstance (by decide +kernel) (pa_cons (pv 0) (pa_cons (pe_glob (v := .ref (A 11)) (by rfl) T.k_NoRow rfl) pa_nil))) (pa_cons (pe_callB (isH (K := K) rfl EC HH) (by rfl) T.m_isinstance (by decide +kernel) (pa_cons (pv 0) (pa_cons (pe_glob (v := .ref (A 16)) (by rfl) T.k_NoShelf rfl) pa_nil))) pa_nil)))))))
      (pss_cons (ps_set (i := 2) sc_l_kind.nd rfl (.inl rfl) (pe_op op_cat (pv 2) (pe_lst (pa_cons (pe_callB (isH (K := K) rfl EC HH) (by rfl) T.m_isinstance (by decide +kernel) (pa_cons (pv 0) (pa_cons (pe_glob (v := .ref (A 6)) (by rfl) T.k_NoSize rfl) pa_nil))) (pa_cons (pe_callB (isH (K := K) rfl EC HH) (by rfl) T.m_isinstance (by decide +kernel) (pa_cons (pv 0) (pa_cons (pe_glob (v := .ref (A 4)) (by rfl) T.k_NoText rfl) pa_nil))) (pa_cons (pe_callB (isH (K := K) rfl EC HH) (by rfl) T.m_isinstance (by decide +kernel) (pa_cons (pv 0) (pa_cons (pe_glob (v := .ref (A 3)) (by rfl) T.k_NoWord rfl) pa_nil))) (pa_cons (pe_callB (isH (K := K) rfl EC HH) (by rfl) T.m_isinstance (by decide +kernel) (pa_cons (pv 0) (pa_cons (pe_glob (v := .ref (A 18)) (by rfl) T.k_Taken rfl) pa_nil))) pa_nil)))))))
      (pss_cons (ps_if (PW.pt (pw_or (pt_cmpR op_ne (pe_bm PySem.F.plainAttrs_list PySem.F.slot_list_count PySem.F.type_list_count (cntB (K := K) rfl) (pv 2) (pa_cons pe_bl pa_nil)) pe_int (nomark _)) (pw_or (pt_not (pt_val (pe_callB (isH (K := K) rfl EC HH) (by rfl) T.m_isinstance (by decide +kernel) (pa_cons (pv 0) (pa_cons (pe_bltn (v := .ty "ValueError") (by rfl) T.m_ValueError (by decide +kernel) rfl) pa_nil))))) (pw_or1 (pt_val (pe_callB (isHT (K := K) rfl EC HH) (by rfl) T.m_isinstance (by decide +kernel) (pa_cons (pv 0) (pa_cons (pe_tup (pa_cons (pe_glob (v := .ref (A 19)) (by rfl) T.k_NoPlace rfl) (pa_cons (pe_glob (v := .ref (A 20)) (by rfl) T.k_NoSlot rfl) pa_nil))) pa_nil))))))))
      (pss_one (ps_ret pe_str))
      pss_nil)
      (pss_one (ps_ret (pe_ix (ixLK (K := K) rfl) (pv 1) (pe_bm PySem.F.plainAttrs_list PySem.F.slot_list_index PySem.F.type_list_index (indexK (K := K) rfl) (pv 2) (pa_cons pe_bl pa_nil)) (fun _ _ => rfl))))))))))), ?_⟩
    refine ⟨by show 9 ≤ sizeLine; decide, fun l0 n0 => ?_⟩
    have e0 := Ex.new (o := .lst [V.str "code", .str "deed", .str "entries", .str "lengths", .str "name", .str "number", .str "pages", .str "queries", .str "query"]) n0
    refine ⟨.ref l0, rfl, by show 7 ≤ sizeLine; decide, fun l1 n1 => ?_⟩
    have e1 := e0.trans (Ex.new (o := .lst [V.str "text of query", .str "row", .str "shelf", .str "size", .str "text", .str "word", .str "taken"]) n1)
    refine ⟨l0, l1, _, _, rfl, rfl, Ex.new n1 _ _ upd_same, upd_same, by show 16 ≤ sizeLine; decide, fun l2 n2 => ?_⟩
    have e2 := e1.trans (Ex.new (o := .lst (kindNames.map V.str)) n2)
    have hN : (upd (upd (upd H l0 (.lst [V.str "code", .str "deed", .str "entries", .str "lengths", .str "name", .str "number", .str "pages", .str "queries", .str "query"])) l1 (.lst [V.str "text of query", .str "row", .str "shelf", .str "size", .str "text", .str "word", .str "taken"])) l2 (.lst (kindNames.map V.str))) l2 = some (.lst (kindNames.map V.str)) := upd_same
    show tSeq _ _ _ _ (upd (upd (upd H l0 (.lst [V.str "code", .str "deed", .str "entries", .str "lengths", .str "name", .str "number", .str "pages", .str "queries", .str "query"])) l1 (.lst [V.str "text of query", .str "row", .str "shelf", .str "size", .str "text", .str "word", .str "taken"])) l2 (.lst (kindNames.map V.str)))
    generalize (upd (upd (upd H l0 (.lst [V.str "code", .str "deed", .str "entries", .str "lengths", .str "name", .str "number", .str "pages", .str "queries", .str "query"])) l1 (.lst [V.str "text of query", .str "row", .str "shelf", .str "size", .str "text", .str "word", .str "taken"])) l2 (.lst (kindNames.map V.str))) = H2 at e2 hN ⊢
    have d2 := hd.ex e2
    refine ⟨.ref p.1, rfl, .ref (A 10), .ref (A 10), _, rfl, .own _, d2, hp.at (j := 0) rfl, .ref p.1, rfl, .ref (A 17), .ref (A 17), _, rfl, .own _, d2, hp.at (j := 1) rfl, .ref p.1, rfl, .ref (A 12), .ref (A 12), _, rfl, .own _, d2, hp.at (j := 2) rfl, .ref p.1, rfl, .ref (A 7), .ref (A 7), _, rfl, .own _, d2, hp.at (j := 3) rfl, by show 4 ≤ sizeLine; decide, fun m0 k0 => ?_⟩
    have x0 : Ex H2 _ := Ex.new (o := .lst [V.bl (decide (0 = i)), V.bl (decide (1 = i)), V.bl (decide (2 = i)), V.bl (decide (3 = i))]) k0
    have h0 : (upd H2 m0 (.lst [V.bl (decide (0 = i)), V.bl (decide (1 = i)), V.bl (decide (2 = i)), V.bl (decide (3 = i))])) m0 = some (.lst [V.bl (decide (0 = i)), V.bl (decide (1 = i)), V.bl (decide (2 = i)), V.bl (decide (3 = i))]) := upd_same
    generalize (upd H2 m0 (.lst [V.bl (decide (0 = i)), V.bl (decide (1 = i)), V.bl (decide (2 = i)), V.bl (decide (3 = i))])) = G0 at x0 h0 ⊢
    have c0 := d2.ex x0
    refine ⟨.ref m0, rfl, .ref p.1, rfl, .ref (A 9), .ref (A 9), _, rfl, .own _, c0, hp.at (j := 4) rfl, .ref p.1, rfl, .ref (A 5), .ref (A 5), _, rfl, .own _, c0, hp.at (j := 5) rfl, .ref p.1, rfl, .ref (A 14), .ref (A 14), _, rfl, .own _, c0, hp.at (j := 6) rfl, .ref p.1, rfl, .ref (A 15), .ref (A 15), _, rfl, .own _, c0, hp.at (j := 7) rfl, by show 4 ≤ sizeLine; decide, fun n1' j1 => ?_⟩
    have y1 : Ex G0 (upd G0 n1' (.lst [V.bl (decide (4 = i)), V.bl (decide (5 = i)), V.bl (decide (6 = i)), V.bl (decide (7 = i))])) := Ex.new j1
    refine ⟨m0, n1', _, _, rfl, rfl, y1 _ _ h0, upd_same, by show 8 ≤ sizeLine; decide, fun m1 k1 => ?_⟩
    have x1 : Ex G0 (upd (upd G0 n1' (.lst [V.bl (decide (4 = i)), V.bl (decide (5 = i)), V.bl (decide (6 = i)), V.bl (decide (7 = i))])) m1 (.lst ([V.bl (decide (0 = i)), V.bl (decide (1 = i)), V.bl (decide (2 = i)), V.bl (decide (3 = i))] ++ [V.bl (decide (4 = i)), V.bl (decide (5 = i)), V.bl (decide (6 = i)), V.bl (decide (7 = i))]))) := y1.trans (Ex.new k1)
    have h1 : (upd (upd G0 n1' (.lst [V.bl (decide (4 = i)), V.bl (decide (5 = i)), V.bl (decide (6 = i)), V.bl (decide (7 = i))])) m1 (.lst ([V.bl (decide (0 = i)), V.bl (decide (1 = i)), V.bl (decide (2 = i)), V.bl (decide (3 = i))] ++ [V.bl (decide (4 = i)), V.bl (decide (5 = i)), V.bl (decide (6 = i)), V.bl (decide (7 = i))]))) m1 = some (.lst ([V.bl (decide (0 = i)), V.bl (decide (1 = i)), V.bl (decide (2 = i)), V.bl (decide (3 = i))] ++ [V.bl (decide (4 = i)), V.bl (decide (5 = i)), V.bl (decide (6 = i)), V.bl (decide (7 = i))])) := upd_same
    generalize (upd (upd G0 n1' (.lst [V.bl (decide (4 = i)), V.bl (decide (5 = i)), V.bl (decide (6 = i)), V.bl (decide (7 = i))])) m1 (.lst ([V.bl (decide (0 = i)), V.bl (decide (1 = i)), V.bl (decide (2 = i)), V.bl (decide (3 = i))] ++ [V.bl (decide (4 = i)), V.bl (decide (5 = i)), V.bl (decide (6 = i)), V.bl (decide (7 = i))]))) = G1 at x1 h1 ⊢
    have c1 := c0.ex x1
    refine ⟨.ref m1, rfl, .ref p.1, rfl, .ref (A 8), .ref (A 8), _, rfl, .own _, c1, hp.at (j := 8) rfl, .ref p.1, rfl, .ref (A 13), .ref (A 13), _, rfl, .own _, c1, hp.at (j := 9) rfl, .ref p.1, rfl, .ref (A 11), .ref (A 11), _, rfl, .own _, c1, hp.at (j := 10) rfl, .ref p.1, rfl, .ref (A 16), .ref (A 16), _, rfl, .own _, c1, hp.at (j := 11) rfl, by show 4 ≤ sizeLine; decide, fun n2' j2 => ?_⟩
    have y2 : Ex G1 (upd G1 n2' (.lst [V.bl (decide (8 = i)), V.bl (decide (9 = i)), V.bl (decide (10 = i)), V.bl (decide (11 = i))])) := Ex.new j2
    refine ⟨m1, n2', _, _, rfl, rfl, y2 _ _ h1, upd_same, by show 12 ≤ sizeLine; decide, fun m2 k2 => ?_⟩
    have x2 : Ex G1 (upd (upd G1 n2' (.lst [V.bl (decide (8 = i)), V.bl (decide (9 = i)), V.bl (decide (10 = i)), V.bl (decide (11 = i))])) m2 (.lst (([V.bl (decide (0 = i)), V.bl (decide (1 = i)), V.bl (decide (2 = i)), V.bl (decide (3 = i))] ++ [V.bl (decide (4 = i)), V.bl (decide (5 = i)), V.bl (decide (6 = i)), V.bl (decide (7 = i))]) ++ [V.bl (decide (8 = i)), V.bl (decide (9 = i)), V.bl (decide (10 = i)), V.bl (decide (11 = i))]))) := y2.trans (Ex.new k2)
    have h2 : (upd (upd G1 n2' (.lst [V.bl (decide (8 = i)), V.bl (decide (9 = i)), V.bl (decide (10 = i)), V.bl (decide (11 = i))])) m2 (.lst (([V.bl (decide (0 = i)), V.bl (decide (1 = i)), V.bl (decide (2 = i)), V.bl (decide (3 = i))] ++ [V.bl (decide (4 = i)), V.bl (decide (5 = i)), V.bl (decide (6 = i)), V.bl (decide (7 = i))]) ++ [V.bl (decide (8 = i)), V.bl (decide (9 = i)), V.bl (decide (10 = i)), V.bl (decide (11 = i))]))) m2 = some (.lst (([V.bl (decide (0 = i)), V.bl (decide (1 = i)), V.bl (decide (2 = i)), V.bl (decide (3 = i))] ++ [V.bl (decide (4 = i)), V.bl (decide (5 = i)), V.bl (decide (6 = i)), V.bl (decide (7 = i))]) ++ [V.bl (decide (8 = i)), V.bl (decide (9 = i)), V.bl (decide (10 = i)), V.bl (decide (11 = i))])) := upd_same
    generalize (upd (upd G1 n2' (.lst [V.bl (decide (8 = i)), V.bl (decide (9 = i)), V.bl (decide (10 = i)), V.bl (decide (11 = i))])) m2 (.lst (([V.bl (decide (0 = i)), V.bl (decide (1 = i)), V.bl (decide (2 = i)), V.bl (decide (3 = i))] ++ [V.bl (decide (4 = i)), V.bl (decide (5 = i)), V.bl (decide (6 = i)), V.bl (decide (7 = i))]) ++ [V.bl (decide (8 = i)), V.bl (decide (9 = i)), V.bl (decide (10 = i)), V.bl (decide (11 = i))]))) = G2 at x2 h2 ⊢
    have c2 := c1.ex x2
    refine ⟨.ref m2, rfl, .ref p.1, rfl, .ref (A 6), .ref (A 6), _, rfl, .own _, c2, hp.at (j := 12) rfl, .ref p.1, rfl, .ref (A 4), .ref (A 4), _, rfl, .own _, c2, hp.at (j := 13) rfl, .ref p.1, rfl, .ref (A 3), .ref (A 3), _, rfl, .own _, c2, hp.at (j := 14) rfl, .ref p.1, rfl, .ref (A 18), .ref (A 18), _, rfl, .own _, c2, hp.at (j := 15) rfl, by show 4 ≤ sizeLine; decide, fun n3' j3 => ?_⟩
    have y3 : Ex G2 (upd G2 n3' (.lst [V.bl (decide (12 = i)), V.bl (decide (13 = i)), V.bl (decide (14 = i)), V.bl (decide (15 = i))])) := Ex.new j3
    refine ⟨m2, n3', _, _, rfl, rfl, y3 _ _ h2, upd_same, by show 16 ≤ sizeLine; decide, fun m3 k3 => ?_⟩
    have x3 : Ex G2 (upd (upd G2 n3' (.lst [V.bl (decide (12 = i)), V.bl (decide (13 = i)), V.bl (decide (14 = i)), V.bl (decide (15 = i))])) m3 (.lst ((([V.bl (decide (0 = i)), V.bl (decide (1 = i)), V.bl (decide (2 = i)), V.bl (decide (3 = i))] ++ [V.bl (decide (4 = i)), V.bl (decide (5 = i)), V.bl (decide (6 = i)), V.bl (decide (7 = i))]) ++ [V.bl (decide (8 = i)), V.bl (decide (9 = i)), V.bl (decide (10 = i)), V.bl (decide (11 = i))]) ++ [V.bl (decide (12 = i)), V.bl (decide (13 = i)), V.bl (decide (14 = i)), V.bl (decide (15 = i))]))) := y3.trans (Ex.new k3)
    have h3 : (upd (upd G2 n3' (.lst [V.bl (decide (12 = i)), V.bl (decide (13 = i)), V.bl (decide (14 = i)), V.bl (decide (15 = i))])) m3 (.lst ((([V.bl (decide (0 = i)), V.bl (decide (1 = i)), V.bl (decide (2 = i)), V.bl (decide (3 = i))] ++ [V.bl (decide (4 = i)), V.bl (decide (5 = i)), V.bl (decide (6 = i)), V.bl (decide (7 = i))]) ++ [V.bl (decide (8 = i)), V.bl (decide (9 = i)), V.bl (decide (10 = i)), V.bl (decide (11 = i))]) ++ [V.bl (decide (12 = i)), V.bl (decide (13 = i)), V.bl (decide (14 = i)), V.bl (decide (15 = i))]))) m3 = some (.lst ((([V.bl (decide (0 = i)), V.bl (decide (1 = i)), V.bl (decide (2 = i)), V.bl (decide (3 = i))] ++ [V.bl (decide (4 = i)), V.bl (decide (5 = i)), V.bl (decide (6 = i)), V.bl (decide (7 = i))]) ++ [V.bl (decide (8 = i)), V.bl (decide (9 = i)), V.bl (decide (10 = i)), V.bl (decide (11 = i))]) ++ [V.bl (decide (12 = i)), V.bl (decide (13 = i)), V.bl (decide (14 = i)), V.bl (decide (15 = i))])) := upd_same
    generalize (upd (upd G2 n3' (.lst [V.bl (decide (12 = i)), V.bl (decide (13 = i)), V.bl (decide (14 = i)), V.bl (decide (15 = i))])) m3 (.lst ((([V.bl (decide (0 = i)), V.bl (decide (1 = i)), V.bl (decide (2 = i)), V.bl (decide (3 = i))] ++ [V.bl (decide (4 = i)), V.bl (decide (5 = i)), V.bl (decide (6 = i)), V.bl (decide (7 = i))]) ++ [V.bl (decide (8 = i)), V.bl (decide (9 = i)), V.bl (decide (10 = i)), V.bl (decide (11 = i))]) ++ [V.bl (decide (12 = i)), V.bl (decide (13 = i)), V.bl (decide (14 = i)), V.bl (decide (15 = i))]))) = G3 at x3 h3 ⊢
    have c3 := c2.ex x3
    have xN : Ex H2 G3 := ((x0.trans x1).trans x2).trans x3
    have hm : G3 m3 = some (.lst ((hot16 i).map V.bl)) := h3
    refine ⟨.ref m3, rfl, .inl ⟨rfl, _, SqL.of hm⟩, m3, hot16 i, rfl, rfl, SqL.of hm, rfl, _, rfl, no_if (by rw [hot16_count i hi]; decide) ?_⟩
    refine ⟨.ref p.1, rfl, .ty "ValueError", .type "ValueError", true, rfl, .ty _, c3, hp.kv, true, rfl, ?_⟩
    refine ⟨.ref p.1, rfl, by show 2 ≤ sizeLine; decide, fun tp ntp => ?_⟩
    have xT : Ex G3 (upd G3 tp (.tup [.ref (A 19), .ref (A 20)])) := Ex.new ntp
    refine ⟨tp, _, _, false, rfl, upd_same, .cons (.own _) (.cons (.own _) .nil), c3.ex xT, hp.k2, false, rfl, ?_⟩
    refine ⟨.ref l2, rfl, .ref m3, rfl, .inl ⟨rfl, _, SqL.of (xT _ _ hm)⟩, m3, (hot16 i).map V.bl, .bl true, i, .bl true, rfl, rfl, SqL.of (xT _ _ hm), rfl, ?_, ?_, rfl, ?_, ?_⟩
    · rw [List.all_eq_true]
      intro x hx
      obtain ⟨b, _, rfl⟩ := List.mem_map.mp hx
      rfl
    · rw [List.getElem?_map, hot16_at i hi]
      rfl
    · intro m z hm' hz
      rw [List.getElem?_map, hot16_ahead i hi m hm'] at hz
      cases hz
      rfl
    · refine ⟨l2, _, i, .str nm, rfl, rfl, SqL.of ((xN.trans xT) _ _ hN), atI_nat ?_, q.go ((e2.trans xN).trans xT)⟩
      rw [List.getElem?_map, hn]
      rfl
/-- what the law's _law_how makes of a deed: its refusal's kind, or told -/
def TTHow (K : PySem.W.Frag) (A : Nat → Addr) : (XK → Hp → VK → Prop) → Hp → VK → Prop := fun tl H Q =>
  tl (fun cls d H' => ∃ (C : Addr) (i : Nat) (nm : Str), cls = .ref C ∧ Plain K (howC A) C i ∧ kindNames[i]? = some nm ∧ DictOk d H' ∧ RetV (.str nm) H' Q) H (fun _ H' => Q (.str "told") H')
set_option maxHeartbeats 16000000 in
theorem how_gives {X : Cx} (T : TX X.K X.mg A FD TK CC) {k : Nat} (hr : Room (k + 2) X.A) (cdg : Value) (qn : Str) :
    LamX.GivesTo X N_l_how "_law_how" (defScope (topS 81)) (A 81) cdg (defBody (topS 81)) "_law_deed" qn (TTHow X.K A) := by
  intro f c' s H Q tl act hc h
  have GK := ok_l_kind (P := X.prog) (w := X.w) (base := X.base) T
  have rm : ∀ a : Addr, L2H.RoomH 1 ((X.A.deeper (envOfC "_law_how" (defScope (topS 81)) s.heap.objs.size (A 81) cdg)).mark (some (.ref a))) := fun a =>
    let r := L2H.roomH_of ((hr.deeper (envOfC "_law_how" (defScope (topS 81)) s.heap.objs.size (A 81) cdg)).mono (show 1 ≤ k + 1 by omega))
    ⟨r.dp, r.un⟩
  refine ⟨_, pss_cons (ps_try_asMany (X := (cxOf C8.CX0 X.prog X.w X.K X.mg X.base N_l_how "_law_how" (defScope (topS 81)) (A 81) cdg X.A X.stack s H C8.E0).nox) (n := "_law_e") (i := 1)
      (tb := fun W D σ H => ∃ Ech : XK, (∀ cls d σ' H', Ech cls d H' → W cls d σ' H') ∧ σ[0]? = some (some (.ref f)) ∧ H c' = some (LamX.CodeO c' qn) ∧ tl Ech H (fun _ H' => D.nx σ H')) rfl rfl sc_l_how.nd rfl rfl takes0 (fun W pn xe tk _ => ?_)
      (HdsAs.cons (test_tup (.cons ⟨rfl, by decide, .inl T.k_NoCode⟩ (.cons ⟨rfl, by decide, .inl T.k_NoEntries⟩ (.cons ⟨rfl, by decide, .inl T.k_NoPages⟩ (.cons ⟨rfl, by decide, .inl T.k_NoQueryText⟩ (.cons ⟨rfl, by decide, .inl T.k_NoRow⟩ .nil))))) (by show 5 ≤ sizeLine; decide)) (fun _ _ _ _ _ _ _ => pss_never)
      (HdsAs.cons (ts := fun a cls d => tRet (tCallP (spKind X.K A) a cls d (tCons (tVar 1) tNil))) (test_name ⟨rfl, by decide, .inl T.k_Wrong⟩) (fun a oe cls d pn hz hf => pss_one (ps_ret (pe_callP (X := ((cxOf C8.CX0 X.prog X.w X.K X.mg X.base N_l_how "_law_how" (defScope (topS 81)) (A 81) cdg X.A X.stack s H C8.E0).nox).suite a ((a, oe) :: pn)) (p := (a, oe)) GK (rm a) (List.mem_cons_self ..) hz hf (by rfl) T.g_l_kind T.f_l_kind.kp T.b_l_kind (pa_cons (pv 1) pa_nil))))
      (HdsAs.cons (test_tup (.cons ⟨rfl, by decide, .inl T.k_NoPlace⟩ (.cons ⟨rfl, by decide, .inl T.k_NoSlot⟩ .nil)) (by show 2 ≤ sizeLine; decide)) (fun _ _ _ _ _ _ _ => pss_never) HdsAs.nil))))
    (pss_one (ps_ret pe_str)), ?_⟩
  · refine ⟨fun pins s' σ H' D I h' => ?_⟩
    obtain ⟨Ech, hW, h1, h2, h3⟩ := h'
    exact (pss_one (ps_expr (act W pn xe Ech _ _ tk hW))).run pins s' σ H' D I ⟨h1, h2, h3⟩
  · refine ⟨_, fun cls d σ' H' hE hl => ?_, rfl, hc, h⟩
    obtain ⟨C, i, nm, rfl, hp, hn, hd, q⟩ := hE
    refine ⟨false, hp.e5, (fun z => Bool.noConfusion z), fun _ => ⟨true, hp.ew, fun _ a na => ?_, fun z => Bool.noConfusion z⟩⟩
    match σ', hl with
    | [x, y], _ => exact ⟨.ref a, rfl, C, i, nm, rfl, rfl, hp, hn, hd, q⟩
set_option maxHeartbeats 8000000 in
theorem pe_how {X : Cx} (T : TX X.K X.mg A FD TK CC) {c Pt : Addr} {k : Nat} {params : Arguments} {body : Expr} {scope : Scope} {t : XK → TE} {p lpos pos : Pos} {Tt : List (Addr × Str)} (TB : LamX.TabB X.base X.mg c Pt) (hcode : X.env.code = .ref c) (hmT : (Pt, X.env.qual ++ "<lambda>") ∈ Tt)
    (hu : ∀ q ∈ Tt, q.1 = Pt → q.2 = X.env.qual ++ "<lambda>") (hr : Room (k + 4) X.A) (L : LamX.LamS X.env.scope scope)
    (hbody : ∀ (A' : Around) (outer : List Env) (s : Shared) (H : Hp) (E : XK) (f c' : Addr), Room (k + 2) (A'.deeper (LamX.lamEnv X scope s.heap.objs.size f c')) → PE (LamX.lamCx X A' outer s H E scope f c') body (t E))
    (hg : Gl X "_law_how" := by rfl) (hdef : defaultsOf params X.env = ([], []) := by rfl)
    (hbind : ∀ (q : Str) (cl : List (Str × Addr)) (pm cv ctv : Value), bindArgs (PySem.W.kla_fn "<lambda>" q params body scope cl pm cv ctv) ⟨[], []⟩ = pure [] := by intros; rfl) :
    PE X (.Call (.Name "_law_how" p) [.Lambda params body scope lpos] [] pos) (LamX.tLam Tt (TTHow X.K A) t) := by
  have B := T.b_l_how
  obtain ⟨oc, od, kV, doc, pm, an, cdv, ct, osl, e, lk, hcd⟩ := T.f_l_how.ex
  rw [e] at B lk
  exact LamX.pe_lamcall (k := k + 2) hg T.g_l_how T.f_l_how.kp lk hcd B sc_l_how rfl (.inl rfl) (how_gives T (k := k) (hr.mono (show k + 2 ≤ k + 4 by omega)) cdv _) TB hcode hmT hu hr L hdef hbind hbody

/-! ### codes of numbers: the mathematics -/
theorem ip_mulI {X : Cx} : PIp X .Mult (fun x y H Q => ∃ i j, x = .int i ∧ y = .int j ∧ CMul i j ∧ Q (.int (i * j)) H) := by
  intro pins s σ H x y v u Q I r1 r2 h
  obtain ⟨i, j, e1, e2, hc, q⟩ := h
  subst e1; subst e2
  obtain ⟨t, rfl⟩ := r1
  obtain ⟨t', rfl⟩ := r2
  exact imul_int ⟨.int _, H, I.tok _, ⟨_, rfl⟩, q⟩ hc.ok
theorem tlen (z : Str) : (tl z).length = z.length := by
  simp [tl, Str.length]
def one (c : Nat) : Str := ⟨#[c]⟩
def txt (l : List Nat) : Str := ⟨l.toArray⟩
theorem tl_txt (l : List Nat) : tl (txt l) = l := rfl
theorem txt_len (l : List Nat) : (txt l).length = l.length := List.size_toArray
theorem txt_tl (z : Str) : txt (tl z) = z := ext_tl rfl
theorem joinL_no : ∀ ps : List (List Nat), joinL [] ps = ps.flatten
  | [] => rfl
  | [p] => by simp [joinL]
  | p :: q :: r => by
    rw [joinL, joinL_no (q :: r)]
    rfl
theorem join_txts (ls : List (List Nat)) : Txt.join "" (ls.map txt) = txt ls.flatten := by
  refine ext_tl ?_
  rw [join_eq, tl_join, List.map_map]
  refine (joinL_no _).trans ?_
  rw [show (tl ∘ txt) = id from rfl, List.map_id]
  rfl
theorem flat_ones : ∀ cs : List Nat, (cs.map fun c => [c]).flatten = cs
  | [] => rfl
  | c :: r => by rw [List.map_cons, List.flatten_cons, flat_ones r]; rfl
theorem join_ones (cs : List Nat) : Txt.join "" (cs.map one) = txt cs := by
  have := join_txts (cs.map fun c => [c])
  rw [List.map_map, flat_ones] at this
  exact this
theorem sum_txts (ls : List (List Nat)) : ((ls.map txt).map (·.length)).sum = ls.flatten.length := by
  induction ls with
  | nil => rfl
  | cons l r ih =>
    rw [List.map_cons, List.map_cons, List.sum_cons, ih, List.flatten_cons, List.length_append]
    rfl
theorem sum_ones (cs : List Nat) : ((cs.map one).map (·.length)).sum = cs.length := by
  induction cs with
  | nil => rfl
  | cons c r ih =>
    rw [List.map_cons, List.map_cons, List.sum_cons, ih, List.length_cons]
    show 1 + r.length = r.length + 1
    omega
/-- the code of a number -/
def codeN (n : Nat) : List Nat := if n < 16 then [97 + n] else (65 + n % 16) :: codeN (n / 16)
termination_by n
decreasing_by omega
theorem codeN_low {n : Nat} (h : n < 16) : codeN n = [97 + n] := by rw [codeN, if_pos h]
theorem codeN_up {n : Nat} (h : ¬ n < 16) : codeN n = (65 + n % 16) :: codeN (n / 16) := by rw [codeN, if_neg h]
theorem codeN_len : ∀ (k n : Nat), n < 16 ^ (k + 1) → (codeN n).length ≤ k + 1
  | 0, n, h => by
    rw [codeN_low (by simpa using h)]
    exact Nat.le_refl _
  | k + 1, n, h => by
    by_cases l : n < 16
    · rw [codeN_low l]
      simp
    · rw [codeN_up l, List.length_cons]
      have := codeN_len k (n / 16) (Nat.div_lt_of_lt_mul (by rw [Nat.mul_comm, ← Nat.pow_succ]; exact h))
      omega
theorem codeN_pos (n : Nat) : 1 ≤ (codeN n).length := by
  by_cases l : n < 16
  · rw [codeN_low l]
    exact Nat.le_refl _
  · rw [codeN_up l]
    simp
def upS : Str := "ABCDEFGHIJKLMNOP"
def loS : Str := "abcdefghijklmnop"
theorem up_at (d : Nat) (h : d < 16) : atI upS.cps.toList (d : Int) = some (65 + d) := by
  refine atI_nat ?_
  have k : ∀ d, d < 16 → upS.cps.toList[d]? = some (65 + d) := by decide +kernel
  exact k d h
theorem lo_at (d : Nat) (h : d < 16) : atI loS.cps.toList (d : Int) = some (97 + d) := by
  refine atI_nat ?_
  have k : ∀ d, d < 16 → loS.cps.toList[d]? = some (97 + d) := by decide +kernel
  exact k d h
theorem lo_find (d : Nat) (h : d < 16) : Txt.find loS (one (97 + d)) = (d : Int) := by
  have k : ∀ d, d < 16 → Txt.find loS (one (97 + d)) = (d : Int) := by decide +kernel
  exact k d h
theorem lo_none (d : Nat) (h : d < 16) : Txt.find loS (one (65 + d)) = -1 := by
  have k : ∀ d, d < 16 → Txt.find loS (one (65 + d)) = -1 := by decide +kernel
  exact k d h
theorem up_find (d : Nat) (h : d < 16) : Txt.find upS (one (65 + d)) = (d : Int) := by
  have k : ∀ d, d < 16 → Txt.find upS (one (65 + d)) = (d : Int) := by decide +kernel
  exact k d h

/-! ### code, code_all -/
def spWhl : Sp := fun vs H Q _ => ∃ z : Int, vs = [.int z] ∧ Q (.bl true) H
set_option maxHeartbeats 4000000 in
theorem ok_whl (T : TX K mg A FD TK CC) : FnOk P w K mg base CX0 1 (A 22) (FD 22) ["thing"] spWhl := by
  refine T.f_is_whole.ok sc_is_whole (fun vs H Q E h => ?_) (fun cdv A' outer s H vs Q E hr h => ?_)
  · obtain ⟨z, rfl, _⟩ := h
    rfl
  · obtain ⟨i, rfl, q⟩ := h
    refine ⟨_, (pss_one (ps_ret (pe_and (pe_callB (isiK (K := K) rfl) (by rfl) T.m_isinstance (by decide +kernel) (pa_cons (pv 0) (pa_cons (pe_bltn (v := .ty "int") (by rfl) T.m_int (by decide +kernel) rfl) pa_nil))) (pe_one (pe_not (pe_callB (isiK (K := K) rfl) (by rfl) T.m_isinstance (by decide +kernel) (pa_cons (pv 0) (pa_cons (pe_bltn (v := .ty "bool") (by rfl) T.m_bool (by decide +kernel) rfl) pa_nil)))))))), ?_⟩
    refine ⟨.int i, rfl, .int i, .ty "int", .type "int", .type "int", true, rfl, .ty _, .base (.int i), kit_ty (by decide +kernel), true, rfl, ?_⟩
    exact ⟨.int i, rfl, .int i, .ty "bool", .type "int", .type "bool", false, rfl, .ty _, .base (.int i), kit_ty (by decide +kernel), false, rfl, q⟩
def spCnt : Sp := fun vs H Q _ => ∃ n : Nat, vs = [.int (n : Int)] ∧ Q (.bl true) H
set_option maxHeartbeats 4000000 in
theorem ok_cnt (T : TX K mg A FD TK CC) : FnOk P w K mg base CX0 2 (A 40) (FD 40) ["thing"] spCnt := by
  have G_is_whole := ok_whl (P := P) (w := w) (base := base) T
  refine T.f_is_count.ok (k := 1) sc_is_count (fun vs H Q E h => ?_) (fun cdv A' outer s H vs Q E hr h => ?_)
  · obtain ⟨n, rfl, _⟩ := h
    rfl
  · obtain ⟨n, rfl, q⟩ := h
    refine ⟨_, (pss_one (ps_ret (pe_and (pe_call G_is_whole hr (by rfl) T.g_is_whole T.f_is_whole.kp T.b_is_whole .nil pass0 (pa_cons (pv 0) pa_nil)) (pe_one (pe_cmpR op_ge (pv 0) pe_int (nomark _)))))), ?_⟩
    refine ⟨.int n, rfl, n, rfl, true, rfl, .int n, rfl, n, 0, rfl, rfl, ?_⟩
    show Q (.bl (decide ((0 : Int) ≤ (n : Int)))) H
    rw [decide_eq_true (show (0 : Int) ≤ (n : Int) by omega)]
    exact q
def muN : L2.St → Hp → Nat := fun σ _ => match σ with
  | some (.int r) :: _ => r.toNat
  | _ => 0
def spCode : Sp := fun vs H Q _ => ∃ n : Nat, vs = [.int (n : Int)] ∧ n < 16 ^ 100 ∧ ∀ H', Ex H H' → Q (.str (txt (codeN n))) H'
set_option maxHeartbeats 4000000 in
theorem ok_code (T : TX K mg A FD TK CC) : FnOk P w K mg base CX0 3 (A 41) (FD 41) ["number"] spCode := by
  have G_is_count := ok_cnt (P := P) (w := w) (base := base) T
  refine T.f_code.ok (k := 2) sc_code (fun vs H Q E h => ?_) (fun cdv A' outer s H vs Q E hr h => ?_)
  · obtain ⟨n, rfl, _⟩ := h
    rfl
  · obtain ⟨n, rfl, hn, q⟩ := h
    have hl := codeN_len 99 n hn
    refine ⟨_, (pss_cons (ps_if (pt_not (pt_val (pe_call G_is_count hr (by rfl) T.g_is_count T.f_is_count.kp T.b_is_count .nil pass0 (pa_cons (pv 0) pa_nil))))
      (pss_one ps_never)
      pss_nil)
      (pss_cons (ps_set (i := 1) sc_code.nd rfl (.inl rfl) (pe_lst pa_nil))
      (pss_cons (ps_while PassesOwn.never (pt_cmpR op_ge (pv 0) pe_int (nomark _))
      (pss_cons (ps_asg (pe_callB call_divmod (by rfl) T.m_divmod (by decide +kernel) (pa_cons (pv 0) (pa_cons pe_int pa_nil))) (pg_tup rfl (pgs_cons (pg_name (i := 0) sc_code.nd rfl (.inl rfl)) (pgs_cons (pg_name (i := 2) sc_code.nd rfl (.inl rfl)) pgs_nil))))
      (pss_one (ps_expr (pe_bm PySem.F.plainAttrs_list PySem.F.slot_list_append PySem.F.type_list_append mt_append (pv 1) (pa_cons (pe_ix ix_str (pe_glob (v := .str "ABCDEFGHIJKLMNOP") (by rfl) T.c_DIGITS_AHEAD ⟨_, rfl⟩) (pv 2) (fun _ _ => rfl)) pa_nil))))))
      (pss_cons (ps_expr (pe_bm PySem.F.plainAttrs_list PySem.F.slot_list_append PySem.F.type_list_append mt_append (pv 1) (pa_cons (pe_ix ix_str (pe_glob (v := .str "abcdefghijklmnop") (by rfl) T.c_LAST_DIGITS ⟨_, rfl⟩) (pv 0) (fun _ _ => rfl)) pa_nil)))
      (pss_one (ps_ret (pe_join pe_str (pv 1)))))))), ?_⟩
    refine ⟨.int n, rfl, n, rfl, _, rfl, ite2 (fun c => absurd c (by decide)) (fun _ => ?_)⟩
    refine ⟨Nat.zero_le _, fun D nD => ?_⟩
    refine while_by (fun σ' H' => ∃ (m : Nat) (cs : List Nat) (o : Option V), σ' = [some (.int (m : Int)), some (.ref D), o] ∧ H' D = some (.lst ((cs.map one).map V.str)) ∧ cs ++ codeN m = codeN n ∧ Ex H H') muN ⟨n, [], none, rfl, upd_same, rfl, Ex.new nD⟩ (fun σ' H' p => ?_) (fun σ' H' Q Q' m h => ?_)
    · obtain ⟨m, cs, o, rfl, hD, hc, x⟩ := p
      have lc : cs.length ≤ 100 := by
        have := congrArg List.length hc
        rw [List.length_append] at this
        omega
      refine ⟨.int m, rfl, m, 16, rfl, rfl, _, rfl, ite2 (fun e => ?_) (fun e => ?_)⟩
      · have e0 : (16 : Int) ≤ (m : Int) := of_decide_eq_true e
        refine ⟨.int m, rfl, m, 16, rfl, ⟨by decide, by decide⟩, fun t nt => ?_⟩
        have x2 := x.trans (Ex.new (o := .tup [.int ((m : Int) / 16), .int ((m : Int) % 16)]) nt)
        have hD2 := (Ex.new (o := .tup [.int ((m : Int) / 16), .int ((m : Int) % 16)]) nt) _ _ hD
        have ht := upd_same (H := H') (a := t) (o := .tup [.int ((m : Int) / 16), .int ((m : Int) % 16)])
        generalize upd H' t (.tup [.int ((m : Int) / 16), .int ((m : Int) % 16)]) = H2 at x2 hD2 ht ⊢
        have em : (m : Int) % 16 = ((m % 16 : Nat) : Int) := by omega
        have ed : (m : Int) / 16 = ((m / 16 : Nat) : Int) := by omega
        rw [em, ed] at ht
        have m16 : m % 16 < 16 := Nat.mod_lt _ (by decide)
        have ul : upS.length = 16 := by decide +kernel
        refine ⟨t, _, rfl, SqT.of ht, rfl, _, _, rfl, _, _, rfl, rfl, .ref D, rfl, .inl ⟨rfl, _, SqL.of hD2⟩, .int ((m % 16 : Nat) : Int), rfl, upS, _, _, rfl, rfl, sz (by omega), up_at _ m16, D, _, _, rfl, rfl, hD2, ?_, ?_, ?_⟩
        · rw [List.length_map, List.length_map]
          exact sz_lt (by omega)
        · refine ⟨m / 16, cs ++ [65 + m % 16], _, rfl, ?_, ?_, Ex.mut x2 nD⟩
          · rw [upd_same, List.map_append, List.map_append]
            rfl
          · rw [List.append_assoc, ← hc, codeN_up (n := m) (by omega)]
            rfl
        · show (((m / 16 : Nat) : Int)).toNat < (m : Int).toNat
          omega
      · have e0 : ¬ (16 : Int) ≤ (m : Int) := fun z => e (decide_eq_true z)
        have m16 : m < 16 := by omega
        have ll : loS.length = 16 := by decide +kernel
        refine ⟨.ref D, rfl, .inl ⟨rfl, _, SqL.of hD⟩, .int (m : Int), rfl, loS, _, _, rfl, rfl, sz (by omega), lo_at _ m16, D, _, _, rfl, rfl, hD, ?_, ?_⟩
        · rw [List.length_map, List.length_map]
          exact sz_lt (by omega)
        have hf : cs ++ [97 + m] = codeN n := by rw [← hc, codeN_low m16]
        have hD2 : (upd H' D (.lst ((cs.map one).map V.str ++ [.str ⟨#[97 + m]⟩]))) D = some (.lst (((codeN n).map one).map V.str)) := by
          rw [upd_same, ← hf, List.map_append, List.map_append]
          rfl
        refine ⟨⟨_, rfl⟩, .ref D, rfl, "", D, (codeN n).map one, rfl, rfl, .inl (SqL.of hD2), ?_, ?_⟩
        · rw [sum_ones]
          show _ + _ * 0 ≤ 16777216
          omega
        · rw [join_ones]
          exact q _ (Ex.mut x nD)
    · obtain ⟨v, hv, i, j, e1, e2, k, hk, hq⟩ := h
      exact ⟨v, hv, i, j, e1, e2, k, hk, m _ _ hq⟩

/-! ### code_all; rising numbers and their gaps -/
def nvs (ns : List Nat) : List V := ns.map fun (n : Nat) => V.int (n : Int)
theorem nvs_len (ns : List Nat) : (nvs ns).length = ns.length := List.length_map ..
theorem nvs_at {ns : List Nat} {i : Nat} {x : V} (g : (nvs ns)[i]? = some x) : ∃ n, ns[i]? = some n ∧ x = .int (n : Int) ∧ i < ns.length := by
  unfold nvs at g
  rw [List.getElem?_map] at g
  cases e : ns[i]? with
  | none => rw [e] at g; cases g
  | some n =>
    rw [e] at g
    cases g
    exact ⟨n, rfl, rfl, (List.getElem?_eq_some_iff.mp e).1⟩
theorem nvs_snoc (ns : List Nat) (n : Nat) : nvs (ns ++ [n]) = nvs ns ++ [.int (n : Int)] := by
  unfold nvs
  rw [List.map_append]
  rfl
theorem take_up {α : Type} {l : List α} {i : Nat} {x : α} (g : l[i]? = some x) : l.take (i + 1) = l.take i ++ [x] := by
  rw [List.take_add_one, g]
  rfl
def codeL (ns : List Nat) : List Nat := (ns.map codeN).flatten
theorem codeL_len {ns : List Nat} (h : ∀ n ∈ ns, n < 16 ^ 100) : (codeL ns).length ≤ ns.length * 100 := by
  induction ns with
  | nil => exact Nat.zero_le _
  | cons n r ih =>
    have a := codeN_len 99 n (h n (List.mem_cons_self ..))
    have b := ih fun m hm => h m (List.mem_cons_of_mem _ hm)
    unfold codeL at b ⊢
    rw [List.map_cons, List.flatten_cons, List.length_append, List.length_cons, Nat.add_mul]
    omega
def spCodeAll (K : PySem.W.Frag) : Sp := fun vs H Q _ => ∃ (a : Addr) (ns : List Nat), vs = [.ref a] ∧ H a = some (.lst (nvs ns)) ∧ ns.length ≤ 900 ∧ (∀ n ∈ ns, n < 16 ^ 100) ∧ ∀ H', Ex H H' → Q (.str (txt (codeL ns))) H'
set_option maxHeartbeats 4000000 in
theorem ok_code_all (T : TX K mg A FD TK CC) : FnOk P w K mg base CX0 4 (A 42) (FD 42) ["numbers"] (spCodeAll K) := by
  have G_is_count := (ok_cnt (P := P) (w := w) (base := base) T).mono (show 2 ≤ 3 by decide)
  have G_code := ok_code (P := P) (w := w) (base := base) T
  refine T.f_code_all.ok (k := 3) sc_code_all (fun vs H Q E h => ?_) (fun cdv A' outer s H vs Q E hr h => ?_)
  · obtain ⟨a, ns, rfl, _⟩ := h
    rfl
  · obtain ⟨a, ns, rfl, hS0, hn, hb, q⟩ := h
    have hS : SqL K H a (nvs ns) := SqL.of hS0
    refine ⟨_, (pss_cons (ps_if (pt_not (pt_val (pe_callB (isiK (K := K) rfl) (by rfl) T.m_isinstance (by decide +kernel) (pa_cons (pv 0) (pa_cons (pe_bltn (v := .ty "list") (by rfl) T.m_list (by decide +kernel) rfl) pa_nil)))))
      (pss_one ps_never)
      pss_nil)
      (pss_cons (ps_for PassesOwn.never rfl (pi_enum (by rfl) T.m_enumerate (pa_cons (pv 0) pa_nil)) (pg_tup rfl (pgs_cons (pg_name (i := 1) sc_code_all.nd rfl (.inl rfl)) (pgs_cons (pg_name (i := 2) sc_code_all.nd rfl (.inl rfl)) pgs_nil)))
      (pss_one (ps_if (pt_not (pt_val (pe_call G_is_count hr (by rfl) T.g_is_count T.f_is_count.kp T.b_is_count .nil pass0 (pa_cons (pv 2) pa_nil))))
      (pss_one ps_never)
      pss_nil)))
      (pss_one (ps_ret (pe_join pe_str (pe_lc (own := [("number", 2)])  rfl sc_code_all.nd (piLK (K := K) rfl (pv 0)) (blkOk_by (own := [("number", 2)]) (N := N_code_all) (sc := defScope (topS 42)) (by decide +kernel)) (fun _ _ _ _ _ => (pg_name (i := 2) sc_code_all.nd rfl (Or.inl rfl))) (fun _ _ _ _ _ => pts_nil) (fun _ _ _ _ _ => (pe_call G_code hr (by rfl) T.g_code T.f_code.kp T.b_code .nil pass0 (pa_cons (pv 2) pa_nil))))))))), ?_⟩
    refine ⟨.ref a, rfl, .ref a, .ty "list", .type "list", .type "list", true, rfl, .ty _, .base (.lst hS0), kit_ty (by decide +kernel), _, rfl, ite2 (fun c => absurd c (by decide)) (fun _ => ?_)⟩
    refine ⟨.ref a, rfl, a, _, rfl, hS, ?_⟩
    refine for_it (walk_enum (K := K) (a := a) (xs := nvs ns)) (fun i σ' H' => (∃ o1 o2, σ' = [some (.ref a), o1, o2]) ∧ Ex H H') ⟨⟨none, none, rfl⟩, Ex.refl H⟩ (fun i σ' H' _ p => ex_l p.2 hS) (fun i x σ' H1 H2 hi p y => ?_) (fun σ' H1 p => ?_)
    · obtain ⟨⟨o1, o2, rfl⟩, x1⟩ := p
      obtain ⟨Tt, u1, u2, rfl, nT, rfl, g1, g2⟩ := y
      cases g1
      obtain ⟨n, gn, rfl, _⟩ := nvs_at g2
      refine ⟨Tt, _, rfl, SqT.of upd_same, rfl, _, _, rfl, _, _, rfl, rfl, .int (n : Int), rfl, n, rfl, _, rfl, ite2 (fun c => absurd c (by decide)) (fun _ => ⟨⟨_, _, rfl⟩, x1.trans (Ex.new nT)⟩)⟩
    · obtain ⟨⟨o1, o2, rfl⟩, x1⟩ := p
      refine ⟨⟨_, rfl⟩, .ref a, rfl, a, rfl, ⟨_, ex_l x1 hS⟩, fun D hD => ?_⟩
      refine lc_list (K := K) (xs := nvs ns) (fun i H' => Ex H1 H' ∧ H' D = some (.lst ((((ns.take i).map codeN).map txt).map V.str))) ⟨Ex.new hD, upd_same⟩ (fun i H' _ p => ex_l p.1 (ex_l x1 hS)) (fun i x H2 hx p => ?_) (fun H2 p => ?_)
      · obtain ⟨p1, p2⟩ := p
        obtain ⟨n, gn, rfl, il⟩ := nvs_at hx
        refine ⟨rfl, .int (n : Int), rfl, n, rfl, hb n (List.mem_of_getElem? gn), fun H3 e3 => ⟨_, e3 _ _ p2, ?_, Ex.mut (p1.trans e3) hD, ?_⟩⟩
        · rw [List.length_map, List.length_map, List.length_map, List.length_take]
          exact sz_lt (by omega)
        · rw [upd_same, take_up gn, List.map_append, List.map_append, List.map_append]
          rfl
      · obtain ⟨p1, p2⟩ := p
        rw [nvs_len, List.take_length] at p2
        refine ⟨"", D, (ns.map codeN).map txt, rfl, rfl, .inl (SqL.of p2), ?_, ?_⟩
        · rw [sum_txts]
          have : (ns.map codeN).flatten.length ≤ ns.length * 100 := codeL_len hb
          show _ + _ * 0 ≤ 16777216
          omega
        · rw [join_txts]
          exact q _ (x1.trans p1)
/-- the number ahead of the i-th -/
def ah (xs : List Nat) : Nat → Int
  | 0 => -1
  | i + 1 => ((xs.getD i 0 : Nat) : Int)
def Ris (xs : List Nat) : Prop := ∀ (i x : Nat), xs[i]? = some x → ah xs i < (x : Int)
def gapI (xs : List Nat) (j : Nat) : Nat := (((xs.getD j 0 : Nat) : Int) - ah xs j - 1).toNat
def gapsL (xs : List Nat) : List Nat := (List.range xs.length).map (gapI xs)
theorem getD_at {xs : List Nat} {i x : Nat} (g : xs[i]? = some x) : xs.getD i 0 = x := by
  rw [List.getD_eq_getElem?_getD, g]
  rfl
theorem gap_is {xs : List Nat} (h : Ris xs) {i x : Nat} (g : xs[i]? = some x) : (x : Int) - ah xs i - 1 = ((gapI xs i : Nat) : Int) := by
  have := h i x g
  unfold gapI
  rw [getD_at g]
  omega
def spGaps (K : PySem.W.Frag) : Sp := fun vs H Q _ => ∃ (a : Addr) (xs : List Nat), vs = [.ref a] ∧ (SqL K H a (nvs xs) ∨ SqT K H a (nvs xs)) ∧ Ris xs ∧ xs.length ≤ 900 ∧ ∀ (l : Addr) (H' : Hp), H l = none → Ex H H' → H' l = some (.lst (nvs (gapsL xs))) → Q (.ref l) H'
set_option maxHeartbeats 4000000 in
theorem ok_gaps_of (T : TX K mg A FD TK CC) : FnOk P w K mg base CX0 1 (A 49) (FD 49) ["numbers"] (spGaps K) := by
  refine T.f_gaps_of.ok sc_gaps_of (fun vs H Q E h => ?_) (fun cdv A' outer s H vs Q E hr h => ?_)
  · obtain ⟨a, xs, rfl, _⟩ := h
    rfl
  · obtain ⟨a, xs, rfl, hS, hR, hn, q⟩ := h
    refine ⟨_, (pss_cons (ps_set (i := 1) sc_gaps_of.nd rfl (.inl rfl) (pe_lst pa_nil))
      (pss_cons (ps_set (i := 2) sc_gaps_of.nd rfl (.inl rfl) (pe_un un_neg pe_int))
      (pss_cons (ps_for PassesOwn.never rfl (piOr (piLK (K := K) rfl (pv 0)) (piTK (K := K) rfl (pv 0))) (pg_name (i := 3) sc_gaps_of.nd rfl (.inl rfl))
      (pss_cons (ps_expr (pe_bm PySem.F.plainAttrs_list PySem.F.slot_list_append PySem.F.type_list_append mt_append (pv 1) (pa_cons (pe_op op_sub (pe_op op_sub (pv 3) (pv 2)) pe_int) pa_nil)))
      (pss_one (ps_set (i := 2) sc_gaps_of.nd rfl (.inl rfl) (pv 3)))))
      (pss_one (ps_ret (pv 1)))))), ?_⟩
    refine ⟨Nat.zero_le _, fun D nD => ⟨1, rfl, ?_⟩⟩
    have e1 : Ex H (upd H D (.lst [])) := Ex.new nD
    rcases hS with hS | hS
    · refine .inl ⟨.ref a, rfl, a, rfl, ⟨_, ex_l e1 hS⟩, ?_⟩
      refine for_list (K := K) (xs := nvs xs) (fun i σ' H' => (∃ o, σ' = [some (.ref a), some (.ref D), some (.int (ah xs i)), o]) ∧ H' D = some (.lst (nvs ((List.range i).map (gapI xs)))) ∧ Ex H H') ⟨⟨none, rfl⟩, upd_same, e1⟩ (fun i σ' H' _ p => ex_l p.2.2 hS) (fun i x σ' H1 g p => ?_) (fun σ' H1 p => ?_)
      · obtain ⟨⟨o, rfl⟩, hD, x1⟩ := p
        obtain ⟨n, gn, rfl, il⟩ := nvs_at g
        refine ⟨.ref D, rfl, .inl ⟨rfl, _, SqL.of hD⟩, .int (n : Int), rfl, .int (ah xs i), rfl, _, _, rfl, rfl, _, 1, rfl, rfl, D, _, _, rfl, rfl, hD, ?_, .int (n : Int), rfl, ⟨some (.int (n : Int)), ?_⟩, ?_, Ex.mut x1 nD⟩
        · rw [nvs_len, List.length_map, List.length_range]
          exact sz_lt (by omega)
        · show [some (V.ref a), some (V.ref D), some (V.int (n : Int)), some (V.int (n : Int))] = [some (V.ref a), some (V.ref D), some (V.int (ah xs (i + 1))), some (V.int (n : Int))]
          rw [ah, getD_at gn]
        · rw [upd_same, List.range_succ, List.map_append]
          show some (HO.lst (nvs ((List.range i).map (gapI xs)) ++ [V.int ((n : Int) - ah xs i - 1)])) = some (HO.lst (nvs ((List.range i).map (gapI xs) ++ [gapI xs i])))
          rw [nvs_snoc, gap_is hR gn]
      · obtain ⟨⟨o, rfl⟩, hD, x1⟩ := p
        rw [nvs_len] at hD
        exact ⟨.ref D, rfl, q D H1 nD x1 hD⟩
    · refine .inr ⟨.ref a, rfl, a, rfl, ⟨_, ex_t e1 hS⟩, ?_⟩
      refine for_tup (K := K) (xs := nvs xs) (fun i σ' H' => (∃ o, σ' = [some (.ref a), some (.ref D), some (.int (ah xs i)), o]) ∧ H' D = some (.lst (nvs ((List.range i).map (gapI xs)))) ∧ Ex H H') ⟨⟨none, rfl⟩, upd_same, e1⟩ (fun i σ' H' _ p => ex_t p.2.2 hS) (fun i x σ' H1 g p => ?_) (fun σ' H1 p => ?_)
      · obtain ⟨⟨o, rfl⟩, hD, x1⟩ := p
        obtain ⟨n, gn, rfl, il⟩ := nvs_at g
        refine ⟨.ref D, rfl, .inl ⟨rfl, _, SqL.of hD⟩, .int (n : Int), rfl, .int (ah xs i), rfl, _, _, rfl, rfl, _, 1, rfl, rfl, D, _, _, rfl, rfl, hD, ?_, .int (n : Int), rfl, ⟨some (.int (n : Int)), ?_⟩, ?_, Ex.mut x1 nD⟩
        · rw [nvs_len, List.length_map, List.length_range]
          exact sz_lt (by omega)
        · show [some (V.ref a), some (V.ref D), some (V.int (n : Int)), some (V.int (n : Int))] = [some (V.ref a), some (V.ref D), some (V.int (ah xs (i + 1))), some (V.int (n : Int))]
          rw [ah, getD_at gn]
        · rw [upd_same, List.range_succ, List.map_append]
          show some (HO.lst (nvs ((List.range i).map (gapI xs)) ++ [V.int ((n : Int) - ah xs i - 1)])) = some (HO.lst (nvs ((List.range i).map (gapI xs) ++ [gapI xs i])))
          rw [nvs_snoc, gap_is hR gn]
      · obtain ⟨⟨o, rfl⟩, hD, x1⟩ := p
        rw [nvs_len] at hD
        exact ⟨.ref D, rfl, q D H1 nD x1 hD⟩
/-! ### entries -/
def spFall (K : PySem.W.Frag) : Sp := fun vs H Q _ => ∃ (a : Addr) (xs : List Nat), vs = [.ref a] ∧ SqT K H a (nvs xs) ∧ Ris xs ∧ ∀ H', Ex H H' → Q .non H'
set_option maxHeartbeats 4000000 in
theorem ok_first_fall (T : TX K mg A FD TK CC) : FnOk P w K mg base CX0 2 (A 48) (FD 48) ["things"] (spFall K) := by
  have G_is_whole := ok_whl (P := P) (w := w) (base := base) T
  refine T.f_first_fall.ok (k := 1) sc_first_fall (fun vs H Q E h => ?_) (fun cdv A' outer s H vs Q E hr h => ?_)
  · obtain ⟨a, xs, rfl, _⟩ := h
    rfl
  · obtain ⟨a, xs, rfl, hS, hR, q⟩ := h
    refine ⟨_, (pss_cons (ps_set (i := 1) sc_first_fall.nd rfl (.inl rfl) (pe_un un_neg pe_int))
      (pss_cons (ps_for PassesOwn.never rfl (EnT.pi_enumT (K := K) rfl (by rfl) T.m_enumerate (pa_cons (pv 0) pa_nil)) (pg_tup rfl (pgs_cons (pg_name (i := 2) sc_first_fall.nd rfl (.inl rfl)) (pgs_cons (pg_name (i := 3) sc_first_fall.nd rfl (.inl rfl)) pgs_nil)))
      (pss_cons (ps_if (PW.pt (pw_or (pt_not (pt_val (pe_call G_is_whole hr (by rfl) T.g_is_whole T.f_is_whole.kp T.b_is_whole .nil pass0 (pa_cons (pv 3) pa_nil)))) (pw_or1 (pt_cmpR op_le (pv 3) (pv 1) (nomark _)))))
      (pss_one (ps_ret (pv 2)))
      pss_nil)
      (pss_one (ps_set (i := 1) sc_first_fall.nd rfl (.inl rfl) (pv 3)))))
      (pss_one (ps_ret pe_non)))), ?_⟩
    refine ⟨1, rfl, .ref a, rfl, a, _, rfl, hS, ?_⟩
    refine for_it (EnT.walkT (K := K) (a := a) (xs := nvs xs)) (fun i σ' H' => (∃ o1 o2, σ' = [some (.ref a), some (.int (ah xs i)), o1, o2]) ∧ Ex H H') ⟨⟨none, none, rfl⟩, Ex.refl H⟩ (fun i σ' H' _ p => ex_t p.2 hS) (fun i x σ' H1 H2 hi p y => ?_) (fun σ' H1 p => ?_)
    · obtain ⟨⟨o1, o2, rfl⟩, x1⟩ := p
      obtain ⟨Tt, u1, u2, rfl, nT, rfl, g1, g2⟩ := y
      cases g1
      obtain ⟨n, gn, rfl, _⟩ := nvs_at g2
      have lt := hR i n gn
      refine ⟨Tt, _, rfl, SqT.of upd_same, rfl, _, _, rfl, _, _, rfl, rfl, .int (n : Int), rfl, n, rfl, _, rfl, ite2 (fun c => absurd c (by decide)) (fun _ => ?_)⟩
      refine ⟨.int (n : Int), rfl, .int (ah xs i), rfl, _, _, rfl, rfl, _, rfl, ite2 (fun c => ?_) (fun _ => ?_)⟩
      · have : (n : Int) ≤ ah xs i := of_decide_eq_true c
        omega
      · refine ⟨.int (n : Int), rfl, ⟨some (.int (i : Nat)), some (.int (n : Int)), ?_⟩, x1.trans (Ex.new nT)⟩
        show [some (V.ref a), some (V.int (n : Int)), some (V.int (i : Nat)), some (V.int (n : Int))] = [some (V.ref a), some (V.int (ah xs (i + 1))), some (V.int (i : Nat)), some (V.int (n : Int))]
        rw [ah, getD_at gn]
    · obtain ⟨⟨o1, o2, rfl⟩, x1⟩ := p
      exact q _ x1
def spArePl (K : PySem.W.Frag) : Sp := fun vs H Q _ => ∃ (a : Addr) (xs : List Nat), vs = [.ref a] ∧ H a = some (.tup (nvs xs)) ∧ Ris xs ∧ 0 < xs.length ∧ ∀ H', Ex H H' → Q (.bl true) H'
set_option maxHeartbeats 4000000 in
theorem ok_are_places (T : TX K mg A FD TK CC) : FnOk P w K mg base CX0 3 (A 47) (FD 47) ["thing"] (spArePl K) := by
  have G_first_fall := ok_first_fall (P := P) (w := w) (base := base) T
  refine T.f_are_places.ok (k := 2) sc_are_places (fun vs H Q E h => ?_) (fun cdv A' outer s H vs Q E hr h => ?_)
  · obtain ⟨a, xs, rfl, _⟩ := h
    rfl
  · obtain ⟨a, xs, rfl, hS, hR, h0, q⟩ := h
    refine ⟨_, (pss_one (ps_ret (pe_and (pe_callB (isiK (K := K) rfl) (by rfl) T.m_isinstance (by decide +kernel) (pa_cons (pv 0) (pa_cons (pe_bltn (v := .ty "tuple") (by rfl) T.m_tuple (by decide +kernel) rfl) pa_nil))) (pe_and (pe_cmpR op_gt (pe_callB (lenK (K := K) rfl) (by rfl) T.m_len (by decide +kernel) (pa_cons (pv 0) pa_nil)) pe_int (nomark _)) (pe_one (pe_cmpR op_isN (pe_call G_first_fall hr (by rfl) T.g_first_fall T.f_first_fall.kp T.b_first_fall .nil pass0 (pa_cons (pv 0) pa_nil)) pe_non (nomark _))))))), ?_⟩
    refine ⟨.ref a, rfl, .ref a, .ty "tuple", .type "tuple", .type "tuple", true, rfl, .ty _, .base (.tup hS), kit_ty (by decide +kernel), true, rfl, ?_⟩
    refine ⟨.ref a, rfl, a, _, rfl, .inr (SqT.of hS), _, 0, rfl, rfl, _, rfl, ite2 (fun _ => ?_) (fun c => ?_)⟩
    · refine ⟨.ref a, rfl, a, xs, rfl, SqT.of hS, hR, fun H1 e1 => ?_⟩
      refine ⟨rfl, ?_⟩
      exact q _ e1
    · refine absurd (decide_eq_true ?_) c
      rw [nvs_len]
      omega
/-- an entry at a: a slot and rising places -/
def EnA (H : Hp) (a : Addr) (e : Nat × List Nat) : Prop := ∃ t, H a = some (.tup [.int (e.1 : Int), .ref t]) ∧ H t = some (.tup (nvs e.2))
structure EnOk (e : Nat × List Nat) : Prop where
  ris : Ris e.2
  some : 0 < e.2.length
  few : e.2.length ≤ 120
  slot : e.1 < 16 ^ 100
  small : ∀ n ∈ e.2, n < 16 ^ 100
def EnsA (H : Hp) (xs : List V) (es : List (Nat × List Nat)) : Prop := xs.length = es.length ∧ ∀ (i : Nat) (e : Nat × List Nat), es[i]? = some e → ∃ a, xs[i]? = some (.ref a) ∧ EnA H a e
theorem EnA.ex {H H' : Hp} {a : Addr} {e : Nat × List Nat} (h : EnA H a e) (x : Ex H H') : EnA H' a e := by
  obtain ⟨t, h1, h2⟩ := h
  exact ⟨t, x _ _ h1, x _ _ h2⟩
theorem EnsA.ex {H H' : Hp} {xs : List V} {es : List (Nat × List Nat)} (h : EnsA H xs es) (x : Ex H H') : EnsA H' xs es := ⟨h.1, fun i e g => let ⟨a, h1, h2⟩ := h.2 i e g; ⟨a, h1, h2.ex x⟩⟩
theorem EnsA.at {H : Hp} {xs : List V} {es : List (Nat × List Nat)} (h : EnsA H xs es) {i : Nat} {v : V} (g : xs[i]? = .some v) : ∃ e a, es[i]? = .some e ∧ v = .ref a ∧ EnA H a e := by
  have hi : i < es.length := by rw [← h.1]; exact (List.getElem?_eq_some_iff.mp g).1
  obtain ⟨a, g1, g2⟩ := h.2 i es[i] (List.getElem?_eq_getElem hi)
  rw [g] at g1
  exact ⟨es[i], a, List.getElem?_eq_getElem hi, Option.some.inj g1, g2⟩
def spIsEn (K : PySem.W.Frag) : Sp := fun vs H Q _ => ∃ (a : Addr) (e : Nat × List Nat), vs = [.ref a] ∧ EnA H a e ∧ EnOk e ∧ ∀ H', Ex H H' → Q (.bl true) H'
set_option maxHeartbeats 4000000 in
theorem ok_is_entry (T : TX K mg A FD TK CC) : FnOk P w K mg base CX0 4 (A 46) (FD 46) ["thing"] (spIsEn K) := by
  have G_is_count := (ok_cnt (P := P) (w := w) (base := base) T).mono (show 2 ≤ 3 by decide)
  have G_are_places := ok_are_places (P := P) (w := w) (base := base) T
  refine T.f_is_entry.ok (k := 3) sc_is_entry (fun vs H Q E h => ?_) (fun cdv A' outer s H vs Q E hr h => ?_)
  · obtain ⟨a, e, rfl, _⟩ := h
    rfl
  · obtain ⟨a, e, rfl, ⟨t, ha, ht⟩, he, q⟩ := h
    refine ⟨_, (pss_one (ps_ret (pe_and (pe_callB (isiK (K := K) rfl) (by rfl) T.m_isinstance (by decide +kernel) (pa_cons (pv 0) (pa_cons (pe_bltn (v := .ty "tuple") (by rfl) T.m_tuple (by decide +kernel) rfl) pa_nil))) (pe_and (pe_cmpR op_eq (pe_callB (lenK (K := K) rfl) (by rfl) T.m_len (by decide +kernel) (pa_cons (pv 0) pa_nil)) pe_int (nomark _)) (pe_and (pe_call G_is_count hr (by rfl) T.g_is_count T.f_is_count.kp T.b_is_count .nil pass0 (pa_cons (pe_ix (ixTK (K := K) rfl) (pv 0) pe_int (fun _ _ => rfl)) pa_nil)) (pe_one (pe_call G_are_places hr (by rfl) T.g_are_places T.f_are_places.kp T.b_are_places .nil pass0 (pa_cons (pe_ix (ixTK (K := K) rfl) (pv 0) pe_int (fun _ _ => rfl)) pa_nil)))))))), ?_⟩
    refine ⟨.ref a, rfl, .ref a, .ty "tuple", .type "tuple", .type "tuple", true, rfl, .ty _, .base (.tup ha), kit_ty (by decide +kernel), true, rfl, ?_⟩
    refine ⟨.ref a, rfl, a, _, rfl, .inr (SqT.of ha), rfl, _, rfl, ite2 (fun _ => ?_) (fun c => absurd (decide_eq_true rfl) c)⟩
    refine ⟨.ref a, rfl, a, _, 0, _, rfl, rfl, SqT.of ha, atI_nat (j := 0) rfl, e.1, rfl, true, rfl, ?_⟩
    exact ⟨.ref a, rfl, a, _, 1, _, rfl, rfl, SqT.of ha, atI_nat (j := 1) rfl, t, e.2, rfl, ht, he.ris, he.some, q⟩
def slots (es : List (Nat × List Nat)) : List Nat := es.map (·.1)
def spChkEn (K : PySem.W.Frag) : Sp := fun vs H Q _ => ∃ (l : Addr) (xs : List V) (es : List (Nat × List Nat)), vs = [.ref l] ∧ H l = some (.lst xs) ∧ EnsA H xs es ∧ (∀ e ∈ es, EnOk e) ∧ Ris (slots es) ∧ ∀ H', Ex H H' → Q .non H'
theorem slots_at {es : List (Nat × List Nat)} {i : Nat} {e : Nat × List Nat} (g : es[i]? = some e) : (slots es)[i]? = some e.1 := by
  unfold slots
  rw [List.getElem?_map, g]
  rfl
set_option maxHeartbeats 4000000 in
theorem ok_check_entries (T : TX K mg A FD TK CC) : FnOk P w K mg base CX0 5 (A 45) (FD 45) ["entries"] (spChkEn K) := by
  have G_is_entry := ok_is_entry (P := P) (w := w) (base := base) T
  refine T.f_check_entries.ok (k := 4) sc_check_entries (fun vs H Q E h => ?_) (fun cdv A' outer s H vs Q E hr h => ?_)
  · obtain ⟨l, xs, es, rfl, _⟩ := h
    rfl
  · obtain ⟨l, xs, es, rfl, hl, hE, ho, hR, q⟩ := h
    refine ⟨_, (pss_cons (ps_if (pt_not (pt_val (pe_callB (isiK (K := K) rfl) (by rfl) T.m_isinstance (by decide +kernel) (pa_cons (pv 0) (pa_cons (pe_bltn (v := .ty "list") (by rfl) T.m_list (by decide +kernel) rfl) pa_nil)))))
      (pss_one ps_never)
      pss_nil)
      (pss_cons (ps_set (i := 1) sc_check_entries.nd rfl (.inl rfl) (pe_un un_neg pe_int))
      (pss_one (ps_for PassesOwn.never rfl (pi_enum (by rfl) T.m_enumerate (pa_cons (pv 0) pa_nil)) (pg_tup rfl (pgs_cons (pg_name (i := 2) sc_check_entries.nd rfl (.inl rfl)) (pgs_cons (pg_name (i := 3) sc_check_entries.nd rfl (.inl rfl)) pgs_nil)))
      (pss_cons (ps_if (PW.pt (pw_or (pt_not (pt_val (pe_call G_is_entry hr (by rfl) T.g_is_entry T.f_is_entry.kp T.b_is_entry .nil pass0 (pa_cons (pv 3) pa_nil)))) (pw_or1 (pt_cmpR op_le (pe_ix (ixTK (K := K) rfl) (pv 3) pe_int (fun _ _ => rfl)) (pv 1) (nomark _)))))
      (pss_one ps_never)
      pss_nil)
      (pss_one (ps_set (i := 1) sc_check_entries.nd rfl (.inl rfl) (pe_ix (ixTK (K := K) rfl) (pv 3) pe_int (fun _ _ => rfl))))))))), ?_⟩
    refine ⟨.ref l, rfl, .ref l, .ty "list", .type "list", .type "list", true, rfl, .ty _, .base (.lst hl), kit_ty (by decide +kernel), _, rfl, ite2 (fun c => absurd c (by decide)) (fun _ => ?_)⟩
    refine ⟨1, rfl, .ref l, rfl, l, _, rfl, SqL.of hl, ?_⟩
    refine for_it (walk_enum (K := K) (a := l) (xs := xs)) (fun i σ' H' => (∃ o1 o2, σ' = [some (.ref l), some (.int (ah (slots es) i)), o1, o2]) ∧ Ex H H') ⟨⟨none, none, rfl⟩, Ex.refl H⟩ (fun i σ' H' _ p => SqL.of (p.2 _ _ hl)) (fun i x σ' H1 H2 hi p y => ?_) (fun σ' H1 p => ?_)
    · obtain ⟨⟨o1, o2, rfl⟩, x1⟩ := p
      obtain ⟨Tt, u1, u2, rfl, nT, rfl, g1, g2⟩ := y
      cases g1
      obtain ⟨e, a, ge, rfl, hA⟩ := hE.at g2
      have eT := Ex.new (o := .tup [V.int (i : Nat), .ref a]) nT
      have hA2 := hA.ex (x1.trans eT)
      have lt := hR i e.1 (slots_at ge)
      obtain ⟨t, ha, ht⟩ := id hA2
      refine ⟨Tt, _, rfl, SqT.of upd_same, rfl, _, _, rfl, _, _, rfl, rfl, .ref a, rfl, a, e, rfl, hA2, ho e (List.mem_of_getElem? ge), fun H3 e3 => ⟨_, rfl, ite2 (fun c => absurd c (by decide)) (fun _ => ?_)⟩⟩
      refine ⟨.ref a, rfl, a, _, 0, _, rfl, rfl, SqT.of (e3 _ _ ha), atI_nat (j := 0) rfl, .int (ah (slots es) i), rfl, _, _, rfl, rfl, _, rfl, ite2 (fun c => ?_) (fun _ => ?_)⟩
      · have : (e.1 : Int) ≤ ah (slots es) i := of_decide_eq_true c
        omega
      · refine ⟨.ref a, rfl, a, _, 0, _, rfl, rfl, SqT.of (e3 _ _ ha), atI_nat (j := 0) rfl, ⟨some (.int (i : Nat)), some (.ref a), ?_⟩, (x1.trans eT).trans e3⟩
        show [some (V.ref l), some (V.int (e.1 : Int)), some (V.int (i : Nat)), some (V.ref a)] = [some (V.ref l), some (V.int (ah (slots es) (i + 1))), some (V.int (i : Nat)), some (V.ref a)]
        rw [ah, getD_at (slots_at ge)]
    · obtain ⟨⟨o1, o2, rfl⟩, x1⟩ := p
      exact q _ x1

/-! ### code_entries -/
theorem gaps_small {xs : List Nat} (h : ∀ n ∈ xs, n < 16 ^ 100) : ∀ g ∈ gapsL xs, g < 16 ^ 100 := fun g hg => by
  obtain ⟨j, hj, rfl⟩ := List.mem_map.mp hg
  have jl : j < xs.length := List.mem_range.mp hj
  have hx := h xs[j] (List.getElem_mem jl)
  have e : xs.getD j 0 = xs[j] := getD_at (List.getElem?_eq_getElem jl)
  have a1 : -1 ≤ ah xs j := by
    cases j with
    | zero => exact Int.le_refl _
    | succ i =>
      show (-1 : Int) ≤ ((xs.getD i 0 : Nat) : Int)
      omega
  unfold gapI
  rw [e]
  omega
theorem gapsL_len (xs : List Nat) : (gapsL xs).length = xs.length := by
  unfold gapsL
  rw [List.length_map, List.length_range]
/-- the code of an entry's places -/
def codeP (e : Nat × List Nat) : List (List Nat) := [codeN (e.2.length - 1), codeL (gapsL e.2)]
def codeE (es : List (Nat × List Nat)) : List (List Nat) := [codeN es.length, codeL (gapsL (slots es))] ++ (es.map codeP).flatten
structure Ens (es : List (Nat × List Nat)) : Prop where
  ok : ∀ e ∈ es, EnOk e
  ris : Ris (slots es)
  few : es.length ≤ 60
theorem slots_small {es : List (Nat × List Nat)} (h : ∀ e ∈ es, EnOk e) : ∀ n ∈ slots es, n < 16 ^ 100 := fun n hn => by
  obtain ⟨e, he, rfl⟩ := List.mem_map.mp hn
  exact (h e he).slot
theorem small_nat {n : Nat} (h : n ≤ 1000) : n < 16 ^ 100 := Nat.lt_of_le_of_lt h (by decide +kernel)
theorem codeP_flat_len {es : List (Nat × List Nat)} (h : ∀ e ∈ es, EnOk e) : ((es.map codeP).flatten).flatten.length ≤ es.length * 13000 := by
  induction es with
  | nil => exact Nat.zero_le _
  | cons e r ih =>
    have he := h e (List.mem_cons_self ..)
    have i := ih fun f hf => h f (List.mem_cons_of_mem _ hf)
    have a := codeN_len 99 (e.2.length - 1) (small_nat (by have := he.few; omega))
    have b := codeL_len (gaps_small he.small)
    rw [gapsL_len] at b
    have c := he.few
    have d : e.2.length * 100 ≤ 12000 := by omega
    rw [List.map_cons, List.flatten_cons, List.flatten_append, List.length_append, List.length_cons, Nat.add_mul]
    have k : (codeP e).flatten.length = (codeN (e.2.length - 1)).length + (codeL (gapsL e.2)).length := by
      unfold codeP
      simp
    omega
def spCodeE (K : PySem.W.Frag) : Sp := fun vs H Q _ => ∃ (l : Addr) (xs : List V) (es : List (Nat × List Nat)), vs = [.ref l] ∧ H l = some (.lst xs) ∧ EnsA H xs es ∧ Ens es ∧ ∀ H', Ex H H' → Q (.str (txt (codeE es).flatten)) H'
set_option maxHeartbeats 8000000 in
theorem ok_code_entries (T : TX K mg A FD TK CC) : FnOk P w K mg base CX0 6 (A 43) (FD 43) ["entries"] (spCodeE K) := by
  have G_check_entries := ok_check_entries (P := P) (w := w) (base := base) T
  have G_code := (ok_code (P := P) (w := w) (base := base) T).mono (show 3 ≤ 5 by decide)
  have G_code_all := (ok_code_all (P := P) (w := w) (base := base) T).mono (show 4 ≤ 5 by decide)
  have G_gaps_of := (ok_gaps_of (P := P) (w := w) (base := base) T).mono (show 1 ≤ 5 by decide)
  refine T.f_code_entries.ok (k := 5) sc_code_entries (fun vs H Q E h => ?_) (fun cdv A' outer s H vs Q E hr h => ?_)
  · obtain ⟨l, xs, es, rfl, _⟩ := h
    rfl
  · obtain ⟨l, xs, es, rfl, hl, hE, hs, q⟩ := h
    have few := hs.few
    refine ⟨_, (pss_cons (ps_expr (pe_call G_check_entries hr (by rfl) T.g_check_entries T.f_check_entries.kp T.b_check_entries .nil pass0 (pa_cons (pv 0) pa_nil)))
      (pss_cons (ps_set (i := 1) sc_code_entries.nd rfl (.inl rfl) (pe_lst (pa_cons (pe_call G_code hr (by rfl) T.g_code T.f_code.kp T.b_code .nil pass0 (pa_cons (pe_callB (lenK (K := K) rfl) (by rfl) T.m_len (by decide +kernel) (pa_cons (pv 0) pa_nil)) pa_nil)) (pa_cons (pe_call G_code_all hr (by rfl) T.g_code_all T.f_code_all.kp T.b_code_all .nil pass0 (pa_cons (pe_call G_gaps_of hr (by rfl) T.g_gaps_of T.f_gaps_of.kp T.b_gaps_of .nil pass0 (pa_cons (pe_lc (own := [("slot", 2), ("places", 3)])  rfl sc_code_entries.nd (piLK (K := K) rfl (pv 0)) (blkOk_by (own := [("slot", 2), ("places", 3)]) (N := N_code_entries) (sc := defScope (topS 43)) (by decide +kernel)) (fun _ _ _ _ _ => (tupGK (K := K) (n := 2) rfl rfl (pgs_cons (pg_name (i := 2) sc_code_entries.nd rfl (Or.inl rfl)) (pgs_cons (pg_name (i := 3) sc_code_entries.nd rfl (Or.inl rfl)) pgs_nil)))) (fun _ _ _ _ _ => pts_nil) (fun _ _ _ _ _ => (pv 2))) pa_nil)) pa_nil)) pa_nil))))
      (pss_cons (ps_for PassesOwn.never rfl (piLK (K := K) rfl (pv 0)) (pg_tup rfl (pgs_cons (pg_name (i := 2) sc_code_entries.nd rfl (.inl rfl)) (pgs_cons (pg_name (i := 3) sc_code_entries.nd rfl (.inl rfl)) pgs_nil)))
      (pss_cons (ps_expr (pe_bm PySem.F.plainAttrs_list PySem.F.slot_list_append PySem.F.type_list_append mt_append (pv 1) (pa_cons (pe_call G_code hr (by rfl) T.g_code T.f_code.kp T.b_code .nil pass0 (pa_cons (pe_op op_sub (pe_callB (lenK (K := K) rfl) (by rfl) T.m_len (by decide +kernel) (pa_cons (pv 3) pa_nil)) pe_int) pa_nil)) pa_nil)))
      (pss_one (ps_expr (pe_bm PySem.F.plainAttrs_list PySem.F.slot_list_append PySem.F.type_list_append mt_append (pv 1) (pa_cons (pe_call G_code_all hr (by rfl) T.g_code_all T.f_code_all.kp T.b_code_all .nil pass0 (pa_cons (pe_call G_gaps_of hr (by rfl) T.g_gaps_of T.f_gaps_of.kp T.b_gaps_of .nil pass0 (pa_cons (pv 3) pa_nil)) pa_nil)) pa_nil))))))
      (pss_one (ps_ret (pe_join pe_str (pv 1))))))), ?_⟩
    refine ⟨.ref l, rfl, l, xs, es, rfl, hl, hE, hs.ok, hs.ris, fun H1 e1 => ?_⟩
    have hl1 := e1 _ _ hl
    have hE1 := hE.ex e1
    refine ⟨.ref l, rfl, l, _, rfl, .inl (SqL.of hl1), es.length, ?_, small_nat (by omega), fun H2 e2 => ?_⟩
    · rw [hE.1]
      rfl
    have hl2 := e2 _ _ hl1
    have hE2 := hE1.ex e2
    refine ⟨.ref l, rfl, l, rfl, ⟨_, SqL.of hl2⟩, fun D nD => ?_⟩
    refine lc_list (K := K) (xs := xs) (fun i H' => Ex H2 H' ∧ H' D = some (.lst (nvs (slots (es.take i))))) ⟨Ex.new nD, upd_same⟩ (fun i H' _ z => SqL.of (z.1 _ _ hl2)) (fun i v H' gv z => ?_) (fun H3 z => ?_)
    · obtain ⟨z1, z2⟩ := z
      obtain ⟨e, a, ge, rfl, hA⟩ := hE2.at gv
      obtain ⟨t, ha, ht⟩ := hA.ex z1
      have il : i < es.length := (List.getElem?_eq_some_iff.mp ge).1
      refine ⟨a, _, rfl, SqT.of ha, rfl, _, _, rfl, _, _, rfl, rfl, rfl, .int (e.1 : Int), rfl, _, z2, ?_, Ex.mut z1 nD, ?_⟩
      · rw [nvs_len]
        unfold slots
        rw [List.length_map, List.length_take]
        exact sz_lt (by omega)
      · rw [upd_same, take_up ge]
        unfold slots nvs
        rw [List.map_append, List.map_append]
        rfl
    · obtain ⟨e3, hD⟩ := z
      rw [hE.1, List.take_length] at hD
      have sl : (slots es).length = es.length := List.length_map ..
      refine ⟨D, slots es, rfl, .inl (SqL.of hD), hs.ris, by omega, fun g H4 ng e4 hg => ?_⟩
      refine ⟨g, gapsL (slots es), rfl, hg, ?_, gaps_small (slots_small hs.ok), fun H5 e5 => ⟨by show 2 ≤ sizeLine; decide, fun TX nTX => ?_⟩⟩
      · rw [gapsL_len]
        omega
      have x5 : Ex H H5 := ((((e1.trans e2).trans e3).trans e4).trans e5)
      have nTX0 : H TX = none := fresh_back x5 nTX
      refine ⟨.ref l, rfl, l, rfl, ⟨_, SqL.of ((x5.trans (Ex.new nTX)) _ _ hl)⟩, ?_⟩
      refine for_list (K := K) (xs := xs) (fun i σ' H' => (∃ o1 o2, σ' = [some (.ref l), some (.ref TX), o1, o2]) ∧ H' TX = some (.lst ((([codeN es.length, codeL (gapsL (slots es))] ++ ((es.take i).map codeP).flatten).map txt).map V.str)) ∧ Ex H H') ⟨⟨none, none, rfl⟩, upd_same, x5.trans (Ex.new nTX)⟩ (fun i σ' H' _ p => SqL.of (p.2.2 _ _ hl)) (fun i v σ' H6 gv p => ?_) (fun σ' H6 p => ?_)
      · obtain ⟨⟨o1, o2, rfl⟩, hX, x6⟩ := p
        obtain ⟨e, a, ge, rfl, hA⟩ := hE.at gv
        obtain ⟨t, ha, ht⟩ := hA.ex x6
        have il : i < es.length := (List.getElem?_eq_some_iff.mp ge).1
        have he := hs.ok e (List.mem_of_getElem? ge)
        have hfew := he.few
        have hsome := he.some
        have lX : ((([codeN es.length, codeL (gapsL (slots es))] ++ ((es.take i).map codeP).flatten).map txt).map V.str).length ≤ 2 + 2 * i := by
          rw [List.length_map, List.length_map, List.length_append]
          have : ∀ fs : List (Nat × List Nat), ((fs.map codeP).flatten).length = 2 * fs.length := by
            intro fs
            induction fs with
            | nil => rfl
            | cons f r ih =>
              rw [List.map_cons, List.flatten_cons, List.length_append, ih, List.length_cons]
              show 2 + 2 * r.length = _
              omega
          rw [this, List.length_take]
          show 2 + _ ≤ _
          omega
        refine ⟨a, _, rfl, SqT.of ha, rfl, _, _, rfl, _, _, rfl, rfl, .ref TX, rfl, .inl ⟨rfl, _, SqL.of hX⟩, .ref t, rfl, t, _, rfl, .inr (SqT.of ht), _, 1, rfl, rfl, e.2.length - 1, ?_, small_nat (by omega), fun H7 e7 => ⟨TX, _, _, rfl, rfl, e7 _ _ hX, sz_lt (by omega), ?_⟩⟩
        · rw [nvs_len]
          show [V.int ((e.2.length : Int) - 1)] = [V.int ((e.2.length - 1 : Nat) : Int)]
          rw [show (e.2.length : Int) - 1 = ((e.2.length - 1 : Nat) : Int) by omega]
        have x8 := Ex.mut (o := .lst ((([codeN es.length, codeL (gapsL (slots es))] ++ ((es.take i).map codeP).flatten).map txt).map V.str ++ [.str (txt (codeN (e.2.length - 1)))])) (x6.trans e7) nTX0
        have h8 := upd_same (H := H7) (a := TX) (o := .lst ((([codeN es.length, codeL (gapsL (slots es))] ++ ((es.take i).map codeP).flatten).map txt).map V.str ++ [.str (txt (codeN (e.2.length - 1)))]))
        have ht8 : (upd H7 TX (.lst ((([codeN es.length, codeL (gapsL (slots es))] ++ ((es.take i).map codeP).flatten).map txt).map V.str ++ [.str (txt (codeN (e.2.length - 1)))]))) t = some (.tup (nvs e.2)) := by
          rw [upd_ne (ne_of ht hX (by intro z; cases z))]
          exact e7 _ _ ht
        generalize upd H7 TX (.lst ((([codeN es.length, codeL (gapsL (slots es))] ++ ((es.take i).map codeP).flatten).map txt).map V.str ++ [.str (txt (codeN (e.2.length - 1)))])) = H8 at x8 h8 ht8 ⊢
        refine ⟨.ref TX, rfl, .inl ⟨rfl, _, SqL.of h8⟩, .ref t, rfl, t, e.2, rfl, .inr (SqT.of ht8), he.ris, by omega, fun g2 H9 ng2 e9 hg2 => ⟨g2, gapsL e.2, rfl, hg2, ?_, gaps_small he.small, fun HA eA => ⟨TX, _, _, rfl, rfl, eA _ _ (e9 _ _ h8), ?_, ⟨_, _, rfl⟩, ?_, Ex.mut ((x8.trans e9).trans eA) nTX0⟩⟩⟩
        · rw [gapsL_len]
          omega
        · rw [List.length_append]
          exact sz_lt (by show _ + 1 < 100000; omega)
        · have ee : [codeN es.length, codeL (gapsL (slots es))] ++ ((es.take i ++ [e]).map codeP).flatten = ([codeN es.length, codeL (gapsL (slots es))] ++ ((es.take i).map codeP).flatten) ++ [codeN (e.2.length - 1), codeL (gapsL e.2)] := by simp [codeP]
          rw [upd_same, take_up ge, ee]
          generalize [codeN es.length, codeL (gapsL (slots es))] ++ ((es.take i).map codeP).flatten = bs
          rw [List.map_append, List.map_append, List.append_assoc]
          rfl
      · obtain ⟨⟨o1, o2, rfl⟩, hX, x6⟩ := p
        rw [hE.1, List.take_length] at hX
        refine ⟨⟨_, rfl⟩, .ref TX, rfl, "", TX, (codeE es).map txt, rfl, rfl, .inl (SqL.of hX), ?_, ?_⟩
        · rw [sum_txts]
          have a := codeP_flat_len hs.ok
          have b := codeN_len 99 es.length (small_nat (by omega))
          have c := codeL_len (gaps_small (slots_small hs.ok))
          rw [gapsL_len] at c
          have k : (codeE es).flatten.length = (codeN es.length).length + (codeL (gapsL (slots es))).length + ((es.map codeP).flatten).flatten.length := by
            unfold codeE
            rw [List.flatten_append, List.length_append]
            simp
          show _ + _ * 0 ≤ 16777216
          have d : es.length * 13000 ≤ 60 * 13000 := Nat.mul_le_mul few (Nat.le_refl _)
          omega
        · rw [join_txts]
          exact q _ x6

/-! ### read_number -/
def pw (i : Nat) : Nat := 16 ^ i
theorem pw_succ (i : Nat) : pw (i + 1) = pw i * 16 := Nat.pow_succ ..
theorem pw_pos (i : Nat) : 0 < pw i := Nat.pow_pos (by decide)
theorem div_succ (n i : Nat) : n / pw (i + 1) = n / pw i / 16 := by rw [pw_succ, Nat.div_div_eq_div_mul]
theorem mod_succ' (n i : Nat) : n % pw (i + 1) = n % pw i + (n / pw i % 16) * pw i := by
  rw [pw_succ, Nat.mod_mul, Nat.mul_comm (pw i)]
theorem split_at (n i : Nat) : n % pw i + (n / pw i) * pw i = n := by
  rw [Nat.mul_comm]
  exact Nat.mod_add_div n (pw i)
theorem codeN_drop (n : Nat) : ∀ i, i < (codeN n).length → (codeN n).drop i = codeN (n / pw i)
  | 0, _ => by rw [show pw 0 = 1 from rfl, Nat.div_one, List.drop_zero]
  | i + 1, h => by
    have a := codeN_drop n i (by omega)
    have l : ((codeN n).drop i).length = (codeN n).length - i := List.length_drop ..
    rw [a] at l
    have up : ¬ n / pw i < 16 := fun z => by
      rw [codeN_low z] at l
      have l : 1 = (codeN n).length - i := l
      omega
    have b : (codeN n).drop (i + 1) = ((codeN n).drop i).drop 1 := by rw [List.drop_drop]
    rw [b, a, codeN_up up, div_succ]
    rfl
theorem codeN_end (n i : Nat) (h : i < (codeN n).length) : (n / pw i < 16 ↔ (codeN n).length = i + 1) := by
  have l : ((codeN n).drop i).length = (codeN n).length - i := List.length_drop ..
  rw [codeN_drop n i h] at l
  constructor
  · intro z
    rw [codeN_low z] at l
    have l : 1 = (codeN n).length - i := l
    omega
  · intro z
    apply Classical.byContradiction
    intro up
    rw [codeN_up up, List.length_cons] at l
    have := codeN_pos (n / pw i / 16)
    omega
theorem codeN_head (n i : Nat) (h : i < (codeN n).length) : (codeN n)[i]? = some (if n / pw i < 16 then 97 + n / pw i else 65 + n / pw i % 16) := by
  have e : (codeN n)[i]? = ((codeN n).drop i)[0]? := by rw [List.getElem?_drop, Nat.add_zero]
  rw [e, codeN_drop n i h]
  by_cases z : n / pw i < 16
  · rw [codeN_low z, if_pos z]
    rfl
  · rw [codeN_up z, if_neg z]
    rfl
theorem pos_in (n : Nat) : ∀ i, i < (codeN n).length → i = 0 ∨ 0 < n / pw i
  | 0, _ => .inl rfl
  | i + 1, h => .inr (by
    have z : ¬ n / pw i < 16 := fun z => by
      have := (codeN_end n i (by omega)).mp z
      omega
    rw [div_succ]
    omega)
def spRead : Sp := fun vs H Q _ => ∃ (L rest : List Nat) (st n : Nat), vs = [.str (txt L), .int (st : Int)] ∧ L.length ≤ 90000 ∧ L.drop st = codeN n ++ rest ∧ st + (codeN n).length ≤ L.length ∧
  ∀ p, H p = none → Q (.ref p) (upd H p (.tup [.int (n : Int), .int ((st + (codeN n).length : Nat) : Int)]))
theorem L_at {L rest : List Nat} {st n : Nat} (h : L.drop st = codeN n ++ rest) {i : Nat} (hi : i < (codeN n).length) : L[st + i]? = (codeN n)[i]? := by
  rw [← List.getElem?_drop, h, List.getElem?_append_left hi]
set_option maxHeartbeats 8000000 in
theorem ok_read_number (T : TX K mg A FD TK CC) : FnOk P w K mg base CX0 1 (A 52) (FD 52) ["text", "start"] spRead := by
  refine T.f_read_number.ok sc_read_number (fun vs H Q E h => ?_) (fun cdv A' outer s H vs Q E hr h => ?_)
  · obtain ⟨L, rest, st, n, rfl, _⟩ := h
    rfl
  · obtain ⟨L, rest, st, n, rfl, hL, hd, hle, q⟩ := h
    have cp := codeN_pos n
    have tlL : (txt L).length = L.length := txt_len L
    refine ⟨_, (pss_cons (ps_set (i := 2) sc_read_number.nd rfl (.inl rfl) pe_int)
      (pss_cons (ps_set (i := 3) sc_read_number.nd rfl (.inl rfl) pe_int)
      (pss_cons (ps_for PassesOwn.never rfl (pi_range2 (by rfl) T.m_range (pa_cons (pv 1) (pa_cons (pe_callB call_len_str (by rfl) T.m_len (by decide +kernel) (pa_cons (pv 0) pa_nil)) pa_nil))) (pg_name (i := 4) sc_read_number.nd rfl (.inl rfl))
      (pss_cons (ps_set (i := 5) sc_read_number.nd rfl (.inl rfl) (pe_bm PySem.F.plainAttrs_str PySem.F.slot_str_find PySem.F.type_str_find mt_find (pe_glob (v := .str "abcdefghijklmnop") (by rfl) T.c_LAST_DIGITS ⟨_, rfl⟩) (pa_cons (pe_ix ix_str (pv 0) (pv 4) (fun _ _ => rfl)) pa_nil)))
      (pss_cons (ps_if (PW.pt (pw_or (pt_cmpR op_gt (pv 5) pe_int (nomark _)) (pw_or1 (PW.pt (pw_and (pt_cmpR op_eq (pv 5) pe_int (nomark _)) (pw_and1 (pt_cmpR op_eq (pv 4) (pv 1) (nomark _))))))))
      (pss_one (ps_ret (pe_tup (pa_cons (pe_op op_add (pv 2) (pe_op op_mul (pv 5) (pv 3))) (pa_cons (pe_op op_add (pv 4) pe_int) pa_nil)))))
      pss_nil)
      (pss_cons (ps_set (i := 6) sc_read_number.nd rfl (.inl rfl) (pe_bm PySem.F.plainAttrs_str PySem.F.slot_str_find PySem.F.type_str_find mt_find (pe_glob (v := .str "ABCDEFGHIJKLMNOP") (by rfl) T.c_DIGITS_AHEAD ⟨_, rfl⟩) (pa_cons (pe_ix ix_str (pv 0) (pv 4) (fun _ _ => rfl)) pa_nil)))
      (pss_cons (ps_if (pt_cmpR op_lt (pv 6) pe_int (nomark _))
      (pss_one ps_never)
      pss_nil)
      (pss_cons (ps_aug (i := 2) sc_read_number.nd rfl (.inl rfl) (pe_op op_mul (pv 6) (pv 3)) ip_add)
      (pss_one (ps_aug (i := 3) sc_read_number.nd rfl (.inl rfl) pe_int ip_mulI))))))))
      (pss_one ps_never)))), ?_⟩
    refine ⟨.int (st : Int), rfl, .str (txt L), rfl, txt L, rfl, sz (by omega), (st : Int), ((txt L).length : Int), rfl, by omega, ?_⟩
    refine for_range (lo := (st : Int)) (n := (((txt L).length : Int) - (st : Int)).toNat) (fun i σ' H' => H' = H ∧ i < (codeN n).length ∧ ∃ o4 o5 o6, σ' = [some (.str (txt L)), some (.int (st : Int)), some (.int ((n % pw i : Nat) : Int)), some (.int ((pw i : Nat) : Int)), o4, o5, o6]) ⟨rfl, by omega, none, none, none, ?_⟩ (fun i σ' H' hi p => ?_) (fun σ' H' p => ?_)
    · rw [show pw 0 = 1 from rfl, Nat.mod_one]
      rfl
    · obtain ⟨rfl, hi2, o4, o5, o6, rfl⟩ := p
      have g := (L_at hd hi2).trans (codeN_head n i hi2)
      have ga : atI (txt L).cps.toList ((st : Int) + (i : Int)) = some (if n / pw i < 16 then 97 + n / pw i else 65 + n / pw i % 16) := by
        rw [show (st : Int) + (i : Int) = ((st + i : Nat) : Int) by omega]
        exact atI_nat g
      refine ⟨rfl, .str (txt L), rfl, .int ((st : Int) + (i : Int)), rfl, txt L, _, _, rfl, rfl, sz (by omega), ga, loS, one _, rfl, rfl, ?_⟩
      by_cases z : n / pw i < 16
      · have zl := (codeN_end n i hi2).mp z
        rw [if_pos z, lo_find _ z]
        have fin : ∀ p, H' p = none → Q (.ref p) (upd H' p (.tup [.int (((n % pw i : Nat) : Int) + ((n / pw i : Nat) : Int) * ((pw i : Nat) : Int)), .int ((st : Int) + (i : Int) + 1)])) := fun p np => by
          have e1 : ((n % pw i : Nat) : Int) + ((n / pw i : Nat) : Int) * ((pw i : Nat) : Int) = (n : Int) := by
            rw [← Int.natCast_mul, ← Int.natCast_add, split_at]
          have e2 : (st : Int) + (i : Int) + 1 = ((st + (codeN n).length : Nat) : Int) := by omega
          rw [e1, e2]
          exact q p np
        have cm : CMul ((n / pw i : Nat) : Int) ((pw i : Nat) : Int) := .inl ⟨Int.lt_of_lt_of_le (by decide) (Int.natCast_nonneg _), Int.lt_trans (Int.ofNat_lt.mpr z) (by decide)⟩
        refine ⟨.int ((n / pw i : Nat) : Int), rfl, _, 0, rfl, rfl, _, rfl, ite2 (fun c => ?_) (fun c => ?_)⟩
        · exact ⟨.int _, rfl, .int ((n / pw i : Nat) : Int), rfl, .int ((pw i : Nat) : Int), rfl, _, _, rfl, rfl, cm, _, _, rfl, rfl, .int ((st : Int) + (i : Int)), rfl, _, 1, rfl, rfl, by show 2 ≤ sizeLine; decide, fin⟩
        · have m0 : n / pw i = 0 := by
            have : ¬ (0 : Int) < ((n / pw i : Nat) : Int) := fun y => c (decide_eq_true y)
            exact Nat.eq_zero_of_not_pos fun h => this (Int.ofNat_lt.mpr h)
          have i0 : i = 0 := by
            rcases pos_in n i hi2 with k | k
            · exact k
            · omega
          refine ⟨.int ((n / pw i : Nat) : Int), rfl, rfl, _, rfl, ite2 (fun _ => ?_) (fun c2 => ?_)⟩
          · refine ⟨.int ((st : Int) + (i : Int)), rfl, .int (st : Int), rfl, rfl, _, rfl, ite2 (fun _ => ?_) (fun c3 => ?_)⟩
            · exact ⟨.int _, rfl, .int ((n / pw i : Nat) : Int), rfl, .int ((pw i : Nat) : Int), rfl, _, _, rfl, rfl, cm, _, _, rfl, rfl, .int ((st : Int) + (i : Int)), rfl, _, 1, rfl, rfl, by show 2 ≤ sizeLine; decide, fin⟩
            · refine absurd (decide_eq_true ?_) c3
              rw [i0]
              show V.int ((st : Int) + 0) = V.int (st : Int)
              rw [Int.add_zero]
          · refine absurd (decide_eq_true ?_) c2
            rw [m0]
            rfl
      · have zl : (codeN n).length ≠ i + 1 := fun e => z ((codeN_end n i hi2).mpr e)
        have m16 : n / pw i % 16 < 16 := Nat.mod_lt _ (by decide)
        rw [if_neg z] at ga
        rw [if_neg z, lo_none _ m16]
        refine ⟨.int (-1), rfl, _, 0, rfl, rfl, _, rfl, ite2 (fun c => absurd c (by decide)) (fun _ => ?_)⟩
        refine ⟨.int (-1), rfl, rfl, _, rfl, ite2 (fun c => absurd c (by decide)) (fun _ => ?_)⟩
        refine ⟨rfl, .str (txt L), rfl, .int ((st : Int) + (i : Int)), rfl, txt L, _, _, rfl, rfl, sz (by omega), ga, upS, one _, rfl, rfl, ?_⟩
        rw [up_find _ m16]
        refine ⟨.int ((n / pw i % 16 : Nat) : Int), rfl, _, 0, rfl, rfl, _, rfl, ite2 (fun c => ?_) (fun _ => ?_)⟩
        · have : ((n / pw i % 16 : Nat) : Int) < 0 := of_decide_eq_true c
          omega
        have cm : CMul ((n / pw i % 16 : Nat) : Int) ((pw i : Nat) : Int) := .inl ⟨by omega, by omega⟩
        have cm2 : CMul ((pw i : Nat) : Int) 16 := .inr ⟨by decide, by decide⟩
        refine ⟨.int ((n % pw i : Nat) : Int), rfl, .int ((n / pw i % 16 : Nat) : Int), rfl, .int ((pw i : Nat) : Int), rfl, _, _, rfl, rfl, cm, _, _, rfl, rfl, .int ((pw i : Nat) : Int), rfl, _, 16, rfl, rfl, cm2, rfl, by omega, some (.int ((st : Int) + (i : Int))), some (.int (-1)), some (.int ((n / pw i % 16 : Nat) : Int)), ?_⟩
        have e1 : ((n % pw i : Nat) : Int) + ((n / pw i % 16 : Nat) : Int) * ((pw i : Nat) : Int) = ((n % pw (i + 1) : Nat) : Int) := by
          rw [mod_succ', Int.natCast_add, Int.natCast_mul]
        have e2 : ((pw i : Nat) : Int) * 16 = ((pw (i + 1) : Nat) : Int) := by
          rw [pw_succ, Int.natCast_mul]
          rfl
        rw [← e1, ← e2]
        rfl
    · obtain ⟨rfl, hi2, _⟩ := p
      exfalso
      omega
/-! ### read_numbers, risen -/
def spReads : Sp := fun vs H Q _ => ∃ (L rest : List Nat) (st : Nat) (ns : List Nat), vs = [.str (txt L), .int (st : Int), .int (ns.length : Int)] ∧ L.length ≤ 90000 ∧ ns.length ≤ 900 ∧ L.drop st = codeL ns ++ rest ∧ st + (codeL ns).length ≤ L.length ∧
  ∀ (l p : Addr) (H' : Hp), H l = none → H p = none → Ex H H' → H' l = some (.lst (nvs ns)) → H' p = some (.tup [.ref l, .int ((st + (codeL ns).length : Nat) : Int)]) → Q (.ref p) H'
def muR (k : Nat) (f : Hp → Nat) : L2.St → Hp → Nat := fun _ H => k - f H
theorem codeL_cons (n : Nat) (r : List Nat) : codeL (n :: r) = codeN n ++ codeL r := by
  unfold codeL
  rw [List.map_cons, List.flatten_cons]
theorem codeL_app (a b : List Nat) : codeL (a ++ b) = codeL a ++ codeL b := by
  unfold codeL
  rw [List.map_append, List.flatten_append]
def spRisen (K : PySem.W.Frag) : Sp := fun vs H Q _ => ∃ (a : Addr) (xs : List Nat), vs = [.ref a] ∧ SqL K H a (nvs (gapsL xs)) ∧ Ris xs ∧ xs.length ≤ 900 ∧ ∀ (l : Addr) (H' : Hp), H l = none → Ex H H' → H' l = some (.lst (nvs xs)) → Q (.ref l) H'
theorem gaps_at {xs : List Nat} {i g : Nat} (e : (gapsL xs)[i]? = some g) : i < xs.length ∧ g = gapI xs i := by
  have h := (List.getElem?_eq_some_iff.mp e).1
  rw [gapsL_len] at h
  refine ⟨h, ?_⟩
  unfold gapsL at e
  rw [List.getElem?_map, List.getElem?_range h] at e
  exact (Option.some.inj e).symm
set_option maxHeartbeats 4000000 in
theorem ok_risen (T : TX K mg A FD TK CC) : FnOk P w K mg base CX0 1 (A 50) (FD 50) ["gaps"] (spRisen K) := by
  refine T.f_risen.ok sc_risen (fun vs H Q E h => ?_) (fun cdv A' outer s H vs Q E hr h => ?_)
  · obtain ⟨a, xs, rfl, _⟩ := h
    rfl
  · obtain ⟨a, xs, rfl, hS, hR, hn, q⟩ := h
    refine ⟨_, (pss_cons (ps_set (i := 1) sc_risen.nd rfl (.inl rfl) (pe_lst pa_nil))
      (pss_cons (ps_set (i := 2) sc_risen.nd rfl (.inl rfl) (pe_un un_neg pe_int))
      (pss_cons (ps_for PassesOwn.never rfl (piLK (K := K) rfl (pv 0)) (pg_name (i := 3) sc_risen.nd rfl (.inl rfl))
      (pss_cons (ps_aug (i := 2) sc_risen.nd rfl (.inl rfl) (pe_op op_add (pv 3) pe_int) ip_add)
      (pss_one (ps_expr (pe_bm PySem.F.plainAttrs_list PySem.F.slot_list_append PySem.F.type_list_append mt_append (pv 1) (pa_cons (pv 2) pa_nil))))))
      (pss_one (ps_ret (pv 1)))))), ?_⟩
    refine ⟨Nat.zero_le _, fun D nD => ⟨1, rfl, ?_⟩⟩
    have e1 : Ex H (upd H D (.lst [])) := Ex.new nD
    refine ⟨.ref a, rfl, a, rfl, ⟨_, ex_l e1 hS⟩, ?_⟩
    refine for_list (K := K) (xs := nvs (gapsL xs)) (fun i σ' H' => (∃ o, σ' = [some (.ref a), some (.ref D), some (.int (ah xs i)), o]) ∧ H' D = some (.lst (nvs (xs.take i))) ∧ Ex H H') ⟨⟨none, rfl⟩, upd_same, e1⟩ (fun i σ' H' _ p => ex_l p.2.2 hS) (fun i x σ' H1 g p => ?_) (fun σ' H1 p => ?_)
    · obtain ⟨⟨o, rfl⟩, hD, x1⟩ := p
      obtain ⟨gg, gn, rfl, _⟩ := nvs_at g
      obtain ⟨il, rfl⟩ := gaps_at gn
      have gx : xs[i]? = some xs[i] := List.getElem?_eq_getElem il
      have gi := gap_is hR gx
      have e2 : ah xs i + (((gapI xs i : Nat) : Int) + 1) = ah xs (i + 1) := by
        rw [← gi, ah, getD_at gx]
        omega
      refine ⟨.int (ah xs i), rfl, .int ((gapI xs i : Nat) : Int), rfl, _, 1, rfl, rfl, _, _, rfl, rfl, .ref D, rfl, .inl ⟨rfl, _, SqL.of hD⟩, .int (ah xs (i + 1)), ?_, D, _, _, rfl, rfl, hD, ?_, ⟨some (.int ((gapI xs i : Nat) : Int)), ?_⟩, ?_, Ex.mut x1 nD⟩
      · rw [← e2]
        rfl
      · rw [nvs_len, List.length_take]
        exact sz_lt (by omega)
      · rw [← e2]
        rfl
      · rw [upd_same, take_up gx, nvs_snoc, ah, getD_at gx]
    · obtain ⟨⟨o, rfl⟩, hD, x1⟩ := p
      rw [nvs_len, gapsL_len, List.take_length] at hD
      exact ⟨.ref D, rfl, q D H1 nD x1 hD⟩

/-! ### read_numbers, decode_entries -/
def lenAt (D : Addr) (H : Hp) : Nat := match H D with
  | some (.lst xs) => xs.length
  | _ => 0
theorem lenAt_is {D : Addr} {H : Hp} {xs : List V} (h : H D = some (.lst xs)) : lenAt D H = xs.length := by
  unfold lenAt
  rw [h]
theorem drop_more {L a b : List Nat} {st : Nat} (h : L.drop st = a ++ b) : L.drop (st + a.length) = b := by
  rw [← List.drop_drop, h, List.drop_left' rfl]
set_option maxHeartbeats 8000000 in
theorem ok_read_numbers (T : TX K mg A FD TK CC) : FnOk P w K mg base CX0 2 (A 53) (FD 53) ["text", "at", "many"] spReads := by
  have G_read_number := ok_read_number (P := P) (w := w) (base := base) T
  refine T.f_read_numbers.ok (k := 1) sc_read_numbers (fun vs H Q E h => ?_) (fun cdv A' outer s H vs Q E hr h => ?_)
  · obtain ⟨L, rest, st, ns, rfl, _⟩ := h
    rfl
  · obtain ⟨L, rest, st, ns, rfl, hL, hn, hd, hle, q⟩ := h
    refine ⟨_, (pss_cons (ps_set (i := 3) sc_read_numbers.nd rfl (.inl rfl) (pe_lst pa_nil))
      (pss_cons (ps_while PassesOwn.never (pt_cmpR op_lt (pe_callB (lenK (K := K) rfl) (by rfl) T.m_len (by decide +kernel) (pa_cons (pv 3) pa_nil)) (pv 2) (nomark _))
      (pss_cons (ps_asg (pe_call G_read_number hr (by rfl) T.g_read_number T.f_read_number.kp T.b_read_number .nil pass0 (pa_cons (pv 0) (pa_cons (pv 1) pa_nil))) (pg_tup rfl (pgs_cons (pg_name (i := 4) sc_read_numbers.nd rfl (.inl rfl)) (pgs_cons (pg_name (i := 1) sc_read_numbers.nd rfl (.inl rfl)) pgs_nil))))
      (pss_one (ps_expr (pe_bm PySem.F.plainAttrs_list PySem.F.slot_list_append PySem.F.type_list_append mt_append (pv 3) (pa_cons (pv 4) pa_nil))))))
      (pss_one (ps_ret (pe_tup (pa_cons (pv 3) (pa_cons (pv 1) pa_nil))))))), ?_⟩
    refine ⟨Nat.zero_le _, fun D nD => ?_⟩
    refine while_by (fun σ' H' => ∃ (i : Nat) (o : Option V), i ≤ ns.length ∧ σ' = [some (.str (txt L)), some (.int ((st + (codeL (ns.take i)).length : Nat) : Int)), some (.int (ns.length : Int)), some (.ref D), o] ∧ H' D = some (.lst (nvs (ns.take i))) ∧ Ex H H') (fun _ H' => ns.length - lenAt D H') ⟨0, none, Nat.zero_le _, rfl, upd_same, Ex.new nD⟩ (fun σ' H' p => ?_) (fun σ' H' Q Q' m h => ?_)
    · obtain ⟨i, o, hi, rfl, hD, x⟩ := p
      have li : (nvs (ns.take i)).length = i := by
        rw [nvs_len, List.length_take]
        omega
      refine ⟨.ref D, rfl, D, _, rfl, .inl (SqL.of hD), .int (ns.length : Int), rfl, _, _, rfl, rfl, _, rfl, ite2 (fun c => ?_) (fun c => ?_)⟩
      · rw [li] at c
        have il : i < ns.length := by
          have : (i : Int) < (ns.length : Int) := of_decide_eq_true c
          omega
        have gi : ns[i]? = some ns[i] := List.getElem?_eq_getElem il
        have hsp : codeL ns = codeL (ns.take i) ++ (codeN ns[i] ++ codeL (ns.drop (i + 1))) := by
          rw [← codeL_cons, ← codeL_app, List.getElem_cons_drop, List.take_append_drop]
        have hd2 : L.drop (st + (codeL (ns.take i)).length) = codeN ns[i] ++ (codeL (ns.drop (i + 1)) ++ rest) := by
          refine drop_more (a := codeL (ns.take i)) ?_
          rw [hd, hsp]
          simp
        have hl2 : (codeL ns).length = (codeL (ns.take i)).length + ((codeN ns[i]).length + (codeL (ns.drop (i + 1))).length) := by
          rw [hsp, List.length_append, List.length_append]
        refine ⟨.str (txt L), rfl, .int ((st + (codeL (ns.take i)).length : Nat) : Int), rfl, L, _, _, ns[i], rfl, hL, hd2, by omega, fun t nt => ?_⟩
        have x2 := x.trans (Ex.new (o := .tup [.int (ns[i] : Int), .int ((st + (codeL (ns.take i)).length + (codeN ns[i]).length : Nat) : Int)]) nt)
        have hD2 := (Ex.new (o := .tup [.int (ns[i] : Int), .int ((st + (codeL (ns.take i)).length + (codeN ns[i]).length : Nat) : Int)]) nt) _ _ hD
        have ht := upd_same (H := H') (a := t) (o := .tup [.int (ns[i] : Int), .int ((st + (codeL (ns.take i)).length + (codeN ns[i]).length : Nat) : Int)])
        generalize upd H' t (.tup [.int (ns[i] : Int), .int ((st + (codeL (ns.take i)).length + (codeN ns[i]).length : Nat) : Int)]) = H2 at x2 hD2 ht ⊢
        refine ⟨t, _, rfl, SqT.of ht, rfl, _, _, rfl, _, _, rfl, rfl, .ref D, rfl, .inl ⟨rfl, _, SqL.of hD2⟩, .int (ns[i] : Int), rfl, D, _, _, rfl, rfl, hD2, sz_lt (by omega), ⟨i + 1, some (.int (ns[i] : Int)), by omega, ?_, ?_, Ex.mut x2 nD⟩, ?_⟩
        · have e : (codeL (ns.take (i + 1))).length = (codeL (ns.take i)).length + (codeN ns[i]).length := by
            rw [take_up gi, codeL_app, List.length_append]
            simp [codeL]
          rw [e, ← Nat.add_assoc]
          rfl
        · rw [upd_same, take_up gi, nvs_snoc]
        · show ns.length - lenAt D (upd H2 D _) < ns.length - lenAt D H'
          rw [lenAt_is upd_same, lenAt_is hD, List.length_append, li]
          show ns.length - (i + 1) < ns.length - i
          omega
      · rw [li] at c
        have ie : i = ns.length := by
          have : ¬ (i : Int) < (ns.length : Int) := fun z => c (decide_eq_true z)
          omega
        subst ie
        rw [List.take_length] at hD ⊢
        exact ⟨.ref D, rfl, .int ((st + (codeL ns).length : Nat) : Int), rfl, by show 2 ≤ sizeLine; decide, fun p np => q D p _ nD (fresh_back x np) (x.trans (Ex.new np)) ((Ex.new np) _ _ hD) upd_same⟩
    · obtain ⟨v, hv, a, xs, e, hS, w', hw, i, j, e1, e2, k, hk, hq⟩ := h
      exact ⟨v, hv, a, xs, e, hS, w', hw, i, j, e1, e2, k, hk, m _ _ hq⟩
def spCkT : Sp := fun vs H Q _ => ∃ z : Str, vs = [.str z] ∧ Q .non H
set_option maxHeartbeats 4000000 in
theorem ok_check_text (T : TX K mg A FD TK CC) : FnOk P w K mg base CX0 1 (A 51) (FD 51) ["text"] spCkT := by
  refine T.f_check_text.ok sc_check_text (fun vs H Q E h => ?_) (fun cdv A' outer s H vs Q E hr h => ?_)
  · obtain ⟨z, rfl, _⟩ := h
    rfl
  · obtain ⟨z, rfl, q⟩ := h
    refine ⟨_, (pss_one (ps_if (pt_not (pt_val (pe_callB (isiK (K := K) rfl) (by rfl) T.m_isinstance (by decide +kernel) (pa_cons (pv 0) (pa_cons (pe_bltn (v := .ty "str") (by rfl) T.m_str (by decide +kernel) rfl) pa_nil)))))
      (pss_one ps_never)
      pss_nil)), ?_⟩
    exact ⟨.str z, rfl, .str z, .ty "str", .type "str", .type "str", true, rfl, .ty _, .base (.str z), kit_ty (by decide +kernel), _, rfl, ite2 (fun c => absurd c (by decide)) (fun _ => q)⟩
def restE (es : List (Nat × List Nat)) : List Nat := ((es.map codeP).flatten).flatten
theorem codeE_flat (es : List (Nat × List Nat)) : (codeE es).flatten = codeN es.length ++ (codeL (gapsL (slots es)) ++ restE es) := by
  unfold codeE restE
  simp
theorem restE_app (a b : List (Nat × List Nat)) : restE (a ++ b) = restE a ++ restE b := by
  unfold restE
  rw [List.map_append, List.flatten_append, List.flatten_append]
theorem restE_one (e : Nat × List Nat) : restE [e] = codeN (e.2.length - 1) ++ codeL (gapsL e.2) := by
  unfold restE codeP
  simp
theorem restE_cons (e : Nat × List Nat) (r : List (Nat × List Nat)) : restE (e :: r) = codeN (e.2.length - 1) ++ (codeL (gapsL e.2) ++ restE r) := by
  have := restE_app [e] r
  rw [restE_one, List.append_assoc] at this
  exact this
theorem EnsA.mono {H H' : Hp} {xs : List V} {es : List (Nat × List Nat)} (h : EnsA H xs es) (k : ∀ b zs, H b = some (.tup zs) → H' b = some (.tup zs)) : EnsA H' xs es := ⟨h.1, fun i e g => by
  obtain ⟨a, h1, t, h2, h3⟩ := h.2 i e g
  exact ⟨a, h1, t, k _ _ h2, k _ _ h3⟩⟩
theorem EnsA.snoc {H : Hp} {xs : List V} {es : List (Nat × List Nat)} {a : Addr} {e : Nat × List Nat} (h : EnsA H xs es) (g : EnA H a e) : EnsA H (xs ++ [.ref a]) (es ++ [e]) := by
  refine ⟨by rw [List.length_append, List.length_append, h.1]; rfl, fun i f q => ?_⟩
  by_cases l : i < es.length
  · rw [List.getElem?_append_left l] at q
    obtain ⟨b, h1, h2⟩ := h.2 i f q
    exact ⟨b, by rw [List.getElem?_append_left (by rw [h.1]; exact l)]; exact h1, h2⟩
  · rw [List.getElem?_append_right (by omega)] at q
    have i0 : i - es.length = 0 := by
      have := (List.getElem?_eq_some_iff.mp q).1
      simp at this
      omega
    rw [i0] at q
    cases q
    exact ⟨a, by rw [List.getElem?_append_right (by rw [h.1]; omega), h.1, i0]; rfl, g⟩
def spDec (K : PySem.W.Frag) : Sp := fun vs H Q _ => ∃ es : List (Nat × List Nat), vs = [.str (txt (codeE es).flatten)] ∧ Ens es ∧ (codeE es).flatten.length ≤ 90000 ∧ ∀ (l : Addr) (xs : List V) (H' : Hp), H l = none → Ex H H' → H' l = some (.lst xs) → EnsA H' xs es → Q (.ref l) H'
set_option maxHeartbeats 16000000 in
theorem ok_decode_entries (T : TX K mg A FD TK CC) : FnOk P w K mg base CX0 3 (A 44) (FD 44) ["text"] (spDec K) := by
  have G_check_text := (ok_check_text (P := P) (w := w) (base := base) T).mono (show 1 ≤ 2 by decide)
  have G_read_number := (ok_read_number (P := P) (w := w) (base := base) T).mono (show 1 ≤ 2 by decide)
  have G_read_numbers := ok_read_numbers (P := P) (w := w) (base := base) T
  have G_risen := (ok_risen (P := P) (w := w) (base := base) T).mono (show 1 ≤ 2 by decide)
  refine T.f_decode_entries.ok (k := 2) sc_decode_entries (fun vs H Q E h => ?_) (fun cdv A' outer s H vs Q E hr h => ?_)
  · obtain ⟨es, rfl, _⟩ := h
    rfl
  · obtain ⟨es, rfl, hs, hL, q⟩ := h
    have few := hs.few
    have sl : (slots es).length = es.length := List.length_map ..
    have gl : (gapsL (slots es)).length = es.length := by rw [gapsL_len, sl]
    have fl := codeE_flat es
    have ll : (codeE es).flatten.length = (codeN es.length).length + ((codeL (gapsL (slots es))).length + (restE es).length) := by
      rw [fl, List.length_append, List.length_append]
    generalize hLL : (codeE es).flatten = L at fl ll hL ⊢
    refine ⟨_, (pss_cons (ps_expr (pe_call G_check_text hr (by rfl) T.g_check_text T.f_check_text.kp T.b_check_text .nil pass0 (pa_cons (pv 0) pa_nil)))
      (pss_cons (ps_asg (pe_call G_read_number hr (by rfl) T.g_read_number T.f_read_number.kp T.b_read_number .nil pass0 (pa_cons (pv 0) (pa_cons pe_int pa_nil))) (pg_tup rfl (pgs_cons (pg_name (i := 1) sc_decode_entries.nd rfl (.inl rfl)) (pgs_cons (pg_name (i := 2) sc_decode_entries.nd rfl (.inl rfl)) pgs_nil))))
      (pss_cons (ps_asg (pe_call G_read_numbers hr (by rfl) T.g_read_numbers T.f_read_numbers.kp T.b_read_numbers .nil pass0 (pa_cons (pv 0) (pa_cons (pv 2) (pa_cons (pv 1) pa_nil)))) (pg_tup rfl (pgs_cons (pg_name (i := 3) sc_decode_entries.nd rfl (.inl rfl)) (pgs_cons (pg_name (i := 2) sc_decode_entries.nd rfl (.inl rfl)) pgs_nil))))
      (pss_cons (ps_set (i := 4) sc_decode_entries.nd rfl (.inl rfl) (pe_lst pa_nil))
      (pss_cons (ps_for PassesOwn.never rfl (piLK (K := K) rfl (pe_call G_risen hr (by rfl) T.g_risen T.f_risen.kp T.b_risen .nil pass0 (pa_cons (pv 3) pa_nil))) (pg_name (i := 5) sc_decode_entries.nd rfl (.inl rfl))
      (pss_cons (ps_asg (pe_call G_read_number hr (by rfl) T.g_read_number T.f_read_number.kp T.b_read_number .nil pass0 (pa_cons (pv 0) (pa_cons (pv 2) pa_nil))) (pg_tup rfl (pgs_cons (pg_name (i := 6) sc_decode_entries.nd rfl (.inl rfl)) (pgs_cons (pg_name (i := 2) sc_decode_entries.nd rfl (.inl rfl)) pgs_nil))))
      (pss_cons (ps_asg (pe_call G_read_numbers hr (by rfl) T.g_read_numbers T.f_read_numbers.kp T.b_read_numbers .nil pass0 (pa_cons (pv 0) (pa_cons (pv 2) (pa_cons (pe_op op_add (pv 6) pe_int) pa_nil)))) (pg_tup rfl (pgs_cons (pg_name (i := 7) sc_decode_entries.nd rfl (.inl rfl)) (pgs_cons (pg_name (i := 2) sc_decode_entries.nd rfl (.inl rfl)) pgs_nil))))
      (pss_one (ps_expr (pe_bm PySem.F.plainAttrs_list PySem.F.slot_list_append PySem.F.type_list_append mt_append (pv 4) (pa_cons (pe_tup (pa_cons (pv 5) (pa_cons (pe_callTy (tupK (K := K) rfl) (by rfl) T.m_tuple (by decide +kernel) (pa_cons (pe_call G_risen hr (by rfl) T.g_risen T.f_risen.kp T.b_risen .nil pass0 (pa_cons (pv 7) pa_nil)) pa_nil)) pa_nil))) pa_nil)))))))
      (pss_cons (ps_if (pt_cmpR op_lt (pv 2) (pe_callB call_len_str (by rfl) T.m_len (by decide +kernel) (pa_cons (pv 0) pa_nil)) (nomark _))
      (pss_one ps_never)
      pss_nil)
      (pss_one (ps_ret (pv 4))))))))), ?_⟩
    refine ⟨.str (txt L), rfl, txt L, rfl, .str (txt L), rfl, L, codeL (gapsL (slots es)) ++ restE es, 0, es.length, rfl, hL, ?_, by omega, fun t1 nt1 => ?_⟩
    · rw [List.drop_zero]
      exact fl
    have e1 := Ex.new (o := .tup [.int (es.length : Int), .int ((0 + (codeN es.length).length : Nat) : Int)]) nt1
    have h1 := upd_same (H := H) (a := t1) (o := .tup [.int (es.length : Int), .int ((0 + (codeN es.length).length : Nat) : Int)])
    generalize upd H t1 (.tup [.int (es.length : Int), .int ((0 + (codeN es.length).length : Nat) : Int)]) = H1 at e1 h1 ⊢
    rw [Nat.zero_add] at h1
    refine ⟨t1, _, rfl, SqT.of h1, rfl, _, _, rfl, _, _, rfl, rfl, .str (txt L), rfl, .int (((codeN es.length).length : Nat) : Int), rfl, .int (es.length : Int), rfl, L, restE es, (codeN es.length).length, gapsL (slots es), ?_, hL, by omega, ?_, by omega, fun lg t2 H2 nlg nt2 e2 hlg h2 => ?_⟩
    · rw [gl]
      rfl
    · rw [fl, List.drop_left' rfl]
    refine ⟨t2, _, rfl, SqT.of h2, rfl, _, _, rfl, _, _, rfl, rfl, Nat.zero_le _, fun D nD => ?_⟩
    have x2 : Ex H H2 := e1.trans e2
    have nD0 : H D = none := fresh_back x2 nD
    refine ⟨.ref lg, rfl, lg, slots es, rfl, SqL.of ((Ex.new nD) _ _ hlg), hs.ris, by omega, fun ls H3 nls e3 hls => ?_⟩
    have x3 : Ex H H3 := (x2.trans (Ex.new nD)).trans e3
    have hD3 : H3 D = some (.lst []) := e3 _ _ upd_same
    have nlsD : ls ≠ D := (ne_of_none (upd_same (H := H2) (a := D) (o := .lst [])) nls).symm
    refine ⟨ls, rfl, ⟨_, SqL.of hls⟩, ?_⟩
    refine for_list (K := K) (xs := nvs (slots es)) (fun i σ' H' => (∃ o5 o6 o7, σ' = [some (.str (txt L)), some (.int (es.length : Int)), some (.int (((codeN es.length).length + (codeL (gapsL (slots es))).length + (restE (es.take i)).length : Nat) : Int)), some (.ref lg), some (.ref D), o5, o6, o7]) ∧ (∃ ys, H' D = some (.lst ys) ∧ EnsA H' ys (es.take i)) ∧ H' ls = some (.lst (nvs (slots es))) ∧ Ex H H')
      ⟨⟨none, none, none, rfl⟩, ⟨[], hD3, rfl, fun i e g => by simp at g⟩, hls, x3⟩ (fun i σ' H' _ p => SqL.of p.2.2.1) (fun i v σ' H4 gv p => ?_) (fun σ' H4 p => ?_)
    · obtain ⟨⟨o5, o6, o7, rfl⟩, ⟨ys, hD4, hE4⟩, hls4, x4⟩ := p
      obtain ⟨sn, gs, rfl, il⟩ := nvs_at gv
      have il2 : i < es.length := by omega
      have ge : es[i]? = some es[i] := List.getElem?_eq_getElem il2
      have es1 := slots_at ge
      rw [gs] at es1
      cases es1
      have he := hs.ok es[i] (List.getElem_mem il2)
      have hfew := he.few
      have hsome := he.some
      have hsp : restE es = restE (es.take i) ++ (codeN (es[i].2.length - 1) ++ (codeL (gapsL es[i].2) ++ restE (es.drop (i + 1)))) := by
        rw [← restE_cons, ← restE_app, List.getElem_cons_drop, List.take_append_drop]
      have hl2 := congrArg List.length hsp
      rw [List.length_append, List.length_append, List.length_append] at hl2
      have d0 : L.drop ((codeN es.length).length + (codeL (gapsL (slots es))).length + (restE (es.take i)).length) = codeN (es[i].2.length - 1) ++ (codeL (gapsL es[i].2) ++ restE (es.drop (i + 1))) := by
        refine drop_more (a := restE (es.take i)) ?_
        rw [← hsp]
        refine drop_more (a := codeL (gapsL (slots es))) ?_
        rw [fl, List.drop_left' rfl]
      generalize ha0 : (codeN es.length).length + (codeL (gapsL (slots es))).length + (restE (es.take i)).length = a0 at d0 ⊢
      refine ⟨.str (txt L), rfl, .int (a0 : Int), rfl, L, _, a0, es[i].2.length - 1, rfl, hL, d0, by omega, fun t5 nt5 => ?_⟩
      have e5 := Ex.new (o := .tup [.int ((es[i].2.length - 1 : Nat) : Int), .int ((a0 + (codeN (es[i].2.length - 1)).length : Nat) : Int)]) nt5
      have h5 := upd_same (H := H4) (a := t5) (o := .tup [.int ((es[i].2.length - 1 : Nat) : Int), .int ((a0 + (codeN (es[i].2.length - 1)).length : Nat) : Int)])
      generalize upd H4 t5 (.tup [.int ((es[i].2.length - 1 : Nat) : Int), .int ((a0 + (codeN (es[i].2.length - 1)).length : Nat) : Int)]) = H5 at e5 h5 ⊢
      have g2 : (gapsL es[i].2).length = es[i].2.length := gapsL_len _
      refine ⟨t5, _, rfl, SqT.of h5, rfl, _, _, rfl, _, _, rfl, rfl, .str (txt L), rfl, .int _, rfl, .int _, rfl, _, 1, rfl, rfl, L, restE (es.drop (i + 1)), a0 + (codeN (es[i].2.length - 1)).length, gapsL es[i].2, ?_, hL, by omega, drop_more d0, by omega, fun lp t6 H6 nlp nt6 e6 hlp h6 => ?_⟩
      · rw [g2]
        show [V.str (txt L), V.int ((a0 + (codeN (es[i].2.length - 1)).length : Nat) : Int), V.int (((es[i].2.length - 1 : Nat) : Int) + 1)] = _
        rw [show ((es[i].2.length - 1 : Nat) : Int) + 1 = (es[i].2.length : Int) by omega]
      have x6 : Ex H4 H6 := e5.trans e6
      refine ⟨t6, _, rfl, SqT.of h6, rfl, _, _, rfl, _, _, rfl, rfl, .ref D, rfl, .inl ⟨rfl, _, SqL.of (x6 _ _ hD4)⟩, .int _, rfl, .ref lp, rfl, lp, es[i].2, rfl, SqL.of hlp, he.ris, by omega, fun lr H7 nlr e7 hlr => ?_⟩
      refine ⟨lr, _, rfl, .inl ⟨SqL.of hlr, fun tp ntp => ?_⟩⟩
      have e8 := Ex.new (o := .tup (nvs es[i].2)) ntp
      have h8 := upd_same (H := H7) (a := tp) (o := .tup (nvs es[i].2))
      generalize upd H7 tp (.tup (nvs es[i].2)) = H8 at e8 h8 ⊢
      refine ⟨by show 2 ≤ sizeLine; decide, fun te nte => ?_⟩
      have e9 := Ex.new (o := .tup [.int (es[i].1 : Int), .ref tp]) nte
      have h9 := upd_same (H := H8) (a := te) (o := .tup [.int (es[i].1 : Int), .ref tp])
      have x9 : Ex H4 (upd H8 te (.tup [.int (es[i].1 : Int), .ref tp])) := ((x6.trans e7).trans e8).trans e9
      have h89 := e9 _ _ h8
      generalize upd H8 te (.tup [.int (es[i].1 : Int), .ref tp]) = H9 at e9 h9 x9 h89 ⊢
      have hD9 := x9 _ _ hD4
      have lys : ys.length ≤ 60 := by
        rw [hE4.1, List.length_take]
        omega
      refine ⟨D, _, _, rfl, rfl, hD9, sz_lt (by omega), ⟨some (.int (es[i].1 : Int)), some (.int ((es[i].2.length - 1 : Nat) : Int)), some (.ref lp), ?_⟩, ⟨ys ++ [.ref te], upd_same, ?_⟩, ?_, Ex.mut (x4.trans x9) nD0⟩
      · have e : (restE (es.take (i + 1))).length = (restE (es.take i)).length + ((codeN (es[i].2.length - 1)).length + (codeL (gapsL es[i].2)).length) := by
          rw [take_up ge, restE_app, restE_one, List.length_append, List.length_append]
        rw [e, show (codeN es.length).length + (codeL (gapsL (slots es))).length + ((restE (es.take i)).length + ((codeN (es[i].2.length - 1)).length + (codeL (gapsL es[i].2)).length)) = a0 + (codeN (es[i].2.length - 1)).length + (codeL (gapsL es[i].2)).length by omega]
        rfl
      · have k : ∀ b zs, H9 b = some (.tup zs) → (upd H9 D (.lst (ys ++ [.ref te]))) b = some (.tup zs) := fun b zs hb => by
          rw [upd_ne (ne_of hb hD9 (by intro z; cases z))]
          exact hb
        rw [take_up ge]
        exact ((hE4.ex x9).mono k).snoc ⟨tp, k _ _ h9, k _ _ h89⟩
      · rw [upd_ne nlsD]
        exact x9 _ _ hls4
    · obtain ⟨⟨o5, o6, o7, rfl⟩, ⟨ys, hD4, hE4⟩, hls4, x4⟩ := p
      rw [nvs_len, sl, List.take_length] at hE4
      refine ⟨.int _, rfl, .str (txt L), rfl, txt L, rfl, sz (by rw [txt_len]; omega), _, _, rfl, rfl, _, rfl, ite2 (fun c => ?_) (fun _ => ?_)⟩
      · rw [nvs_len, sl, List.take_length, txt_len] at c
        have := of_decide_eq_true c
        omega
      · exact ⟨.ref D, rfl, q D ys H4 nD0 x4 hD4 hE4⟩

/-! ### blocks: the mathematics -/
abbrev En := Nat × List Nat
def zsI (ns : List Nat) : List Int := ns.map fun (n : Nat) => (n : Int)
theorem nvs_zs (ns : List Nat) : nvs ns = (zsI ns).map V.int := by
  unfold nvs zsI
  rw [List.map_map]
  rfl
theorem zsI_len (ns : List Nat) : (zsI ns).length = ns.length := List.length_map ..
def mxL : List Nat → Nat
  | [] => 0
  | x :: r => max x (mxL r)
def mnL : List Nat → Nat
  | [] => 0
  | [x] => x
  | x :: y :: r => min x (mnL (y :: r))
theorem mxL_ge : ∀ {ns : List Nat} {n : Nat}, n ∈ ns → n ≤ mxL ns
  | x :: r, n, h => by
    rcases List.mem_cons.mp h with rfl | h
    · exact Nat.le_max_left ..
    · exact Nat.le_trans (mxL_ge h) (Nat.le_max_right ..)
theorem mxL_mem : ∀ {ns : List Nat}, ns ≠ [] → mxL ns ∈ ns
  | [x], _ => by simp [mxL]
  | x :: y :: r, _ => by
    have i := mxL_mem (ns := y :: r) (by simp)
    show max x (mxL (y :: r)) ∈ _
    rcases Nat.le_total x (mxL (y :: r)) with h | h
    · rw [Nat.max_eq_right h]
      exact List.mem_cons_of_mem _ i
    · rw [Nat.max_eq_left h]
      exact List.mem_cons_self ..
theorem mnL_le : ∀ {ns : List Nat} {n : Nat}, n ∈ ns → mnL ns ≤ n
  | [x], n, h => by
    rw [List.mem_singleton.mp h]
    exact Nat.le_refl _
  | x :: y :: r, n, h => by
    show min x (mnL (y :: r)) ≤ n
    rcases List.mem_cons.mp h with rfl | h
    · exact Nat.min_le_left ..
    · exact Nat.le_trans (Nat.min_le_right ..) (mnL_le h)
theorem mnL_mem : ∀ {ns : List Nat}, ns ≠ [] → mnL ns ∈ ns
  | [x], _ => by simp [mnL]
  | x :: y :: r, _ => by
    have i := mnL_mem (ns := y :: r) (by simp)
    show min x (mnL (y :: r)) ∈ _
    rcases Nat.le_total x (mnL (y :: r)) with h | h
    · rw [Nat.min_eq_left h]
      exact List.mem_cons_self ..
    · rw [Nat.min_eq_right h]
      exact List.mem_cons_of_mem _ i
theorem zs_mem {ns : List Nat} {m : Int} (h : m ∈ zsI ns) : ∃ n : Nat, n ∈ ns ∧ m = (n : Int) := by
  obtain ⟨n, hn, e⟩ := List.mem_map.mp h
  exact ⟨n, hn, e.symm⟩
theorem mem_zs {ns : List Nat} {n : Nat} (h : n ∈ ns) : (n : Int) ∈ zsI ns := List.mem_map.mpr ⟨n, h, rfl⟩
theorem ne_nil {α : Type} {l : List α} (h : 0 < l.length) : l ≠ [] := fun z => by
  rw [z] at h
  exact absurd h (by simp)
theorem mx_is {ns : List Nat} {m : Int} (hm : m ∈ zsI ns) (hx : ∀ y, y ∈ zsI ns → y ≤ m) : m = ((mxL ns : Nat) : Int) := by
  obtain ⟨n, hn, rfl⟩ := zs_mem hm
  have a := mxL_ge hn
  have b := hx _ (mem_zs (mxL_mem (fun z => by rw [z] at hn; cases hn)))
  omega
theorem mn_is {ns : List Nat} {m : Int} (hm : m ∈ zsI ns) (hx : ∀ y, y ∈ zsI ns → m ≤ y) : m = ((mnL ns : Nat) : Int) := by
  obtain ⟨n, hn, rfl⟩ := zs_mem hm
  have a := mnL_le hn
  have b := hx _ (mem_zs (mnL_mem (fun z => by rw [z] at hn; cases hn)))
  omega
/-- the i-th block of s entries -/
def cutE (es : List En) (s i : Nat) : List En := (es.drop (i * s)).take s
def nb (n s : Nat) : Nat := (n + s - 1) / s
theorem nb_lt {n s i : Nat} (hs : 0 < s) : i < nb n s ↔ i * s < n := by
  unfold nb
  rw [Nat.lt_div_iff_mul_lt hs]
  omega
theorem nb_mul {n s : Nat} (hs : 0 < s) : n ≤ nb n s * s := by
  rcases Nat.lt_or_ge (nb n s * s) n with h | h
  · exact absurd ((nb_lt hs).mpr h) (Nat.lt_irrefl _)
  · exact h
theorem nb_le {n s : Nat} (hs : 0 < s) : nb n s ≤ n := by
  rcases Nat.lt_or_ge n (nb n s) with h | h
  · have := (nb_lt hs).mp h
    have : n ≤ n * s := Nat.le_mul_of_pos_right _ hs
    omega
  · exact h
theorem cutE_len (es : List En) (s i : Nat) : (cutE es s i).length = min s (es.length - i * s) := by
  unfold cutE
  rw [List.length_take, List.length_drop]
theorem cutE_pos {es : List En} {s i : Nat} (hs : 0 < s) (hi : i < nb es.length s) : 0 < (cutE es s i).length := by
  have := (nb_lt hs).mp hi
  rw [cutE_len]
  omega
theorem cutE_mem {es : List En} {s i : Nat} {e : En} (h : e ∈ cutE es s i) : e ∈ es := List.mem_of_mem_drop (List.mem_of_mem_take h)
theorem cutE_at {es : List En} {s i j : Nat} {e : En} (h : (cutE es s i)[j]? = some e) : es[i * s + j]? = some e ∧ j < s := by
  unfold cutE at h
  rw [List.getElem?_take] at h
  by_cases hj : j < s
  · rw [if_pos hj, List.getElem?_drop] at h
    exact ⟨h, hj⟩
  · rw [if_neg hj] at h
    cases h
theorem ah_ge (xs : List Nat) (i : Nat) : -1 ≤ ah xs i := by
  cases i with
  | zero => exact Int.le_refl _
  | succ i =>
    show (-1 : Int) ≤ ((xs.getD i 0 : Nat) : Int)
    omega
theorem ris_drop {xs : List Nat} (h : Ris xs) (k : Nat) : Ris (xs.drop k) := fun i x g => by
  rw [List.getElem?_drop] at g
  cases i with
  | zero =>
    show (-1 : Int) < (x : Int)
    omega
  | succ i =>
    have := h _ _ g
    rw [show k + (i + 1) = (k + i) + 1 by omega] at this
    show ((((xs.drop k).getD i 0 : Nat)) : Int) < (x : Int)
    have e : (xs.drop k).getD i 0 = xs.getD (k + i) 0 := by
      rw [List.getD_eq_getElem?_getD, List.getElem?_drop, List.getD_eq_getElem?_getD]
    rw [e]
    exact this
theorem ris_take {xs : List Nat} (h : Ris xs) (k : Nat) : Ris (xs.take k) := fun i x g => by
  rw [List.getElem?_take] at g
  by_cases hi : i < k
  · rw [if_pos hi] at g
    have := h _ _ g
    cases i with
    | zero => exact this
    | succ i =>
      show ((((xs.take k).getD i 0 : Nat)) : Int) < (x : Int)
      have e : (xs.take k).getD i 0 = xs.getD i 0 := by
        rw [List.getD_eq_getElem?_getD, List.getElem?_take, if_pos (by omega), List.getD_eq_getElem?_getD]
      rw [e]
      exact this
  · rw [if_neg hi] at g
    cases g
theorem cutE_slots (es : List En) (s i : Nat) : slots (cutE es s i) = ((slots es).drop (i * s)).take s := by
  unfold slots cutE
  rw [List.map_take, List.map_drop]
theorem Ens.cut {es : List En} (h : Ens es) (s i : Nat) : Ens (cutE es s i) := ⟨fun e he => h.ok e (cutE_mem he), by rw [cutE_slots]; exact ris_take (ris_drop h.ris _) _, by
  have := h.few
  rw [cutE_len]
  omega⟩
/-- small entries: the code stays short -/
def Sml (es : List En) : Prop := ∀ e ∈ es, e.1 < 256 ∧ ∀ n ∈ e.2, n < 256
theorem Sml.cut {es : List En} (h : Sml es) (s i : Nat) : Sml (cutE es s i) := fun e he => h e (cutE_mem he)
theorem codeL_len2 {ns : List Nat} (h : ∀ n ∈ ns, n < 256) : (codeL ns).length ≤ ns.length * 2 := by
  induction ns with
  | nil => exact Nat.zero_le _
  | cons n r ih =>
    have a := codeN_len 1 n (h n (List.mem_cons_self ..))
    have b := ih fun m hm => h m (List.mem_cons_of_mem _ hm)
    unfold codeL at b ⊢
    rw [List.map_cons, List.flatten_cons, List.length_append, List.length_cons, Nat.add_mul]
    omega
theorem gaps_lt {xs : List Nat} {B : Nat} (h : ∀ n ∈ xs, n < B) : ∀ g ∈ gapsL xs, g < B := fun g hg => by
  obtain ⟨j, hj, rfl⟩ := List.mem_map.mp hg
  have jl : j < xs.length := List.mem_range.mp hj
  have hx := h xs[j] (List.getElem_mem jl)
  have e : xs.getD j 0 = xs[j] := getD_at (List.getElem?_eq_getElem jl)
  have a1 := ah_ge xs j
  unfold gapI
  rw [e]
  omega
theorem codeP_len2 {es : List En} (h : Ens es) (k : Sml es) : (restE es).length ≤ es.length * 242 := by
  have ok := h.ok
  clear h
  induction es with
  | nil => exact Nat.zero_le _
  | cons e r ih =>
    have he := ok e (List.mem_cons_self ..)
    have ke := k e (List.mem_cons_self ..)
    have i := ih (fun f hf => k f (List.mem_cons_of_mem _ hf)) (fun f hf => ok f (List.mem_cons_of_mem _ hf))
    have c := he.few
    have a := codeN_len 1 (e.2.length - 1) (show e.2.length - 1 < 256 by omega)
    have b := codeL_len2 (gaps_lt ke.2)
    rw [gapsL_len] at b
    rw [restE_cons, List.length_append, List.length_append, List.length_cons, Nat.add_mul]
    omega
theorem codeE_len2 {es : List En} (h : Ens es) (k : Sml es) : (codeE es).flatten.length ≤ 2 + es.length * 244 := by
  have f := h.few
  have a := codeN_len 1 es.length (show es.length < 256 by omega)
  have b := codeL_len2 (gaps_lt (xs := slots es) (B := 256) fun n hn => by
    obtain ⟨e, he, rfl⟩ := List.mem_map.mp hn
    exact (k e he).1)
  rw [gapsL_len] at b
  have l : (slots es).length = es.length := List.length_map ..
  have c := codeP_len2 h k
  rw [codeE_flat, List.length_append, List.length_append]
  omega
/-- the entries of the first i blocks -/
theorem take_more (es : List En) (s i : Nat) : es.take ((i + 1) * s) = es.take (i * s) ++ cutE es s i := by
  unfold cutE
  rw [Nat.add_mul, Nat.one_mul, List.take_add]
theorem EnsA.cut {H : Hp} {xs : List V} {es : List En} (h : EnsA H xs es) (s i : Nat) : EnsA H ((xs.drop (i * s)).take s) (cutE es s i) := by
  refine ⟨?_, fun j e g => ?_⟩
  · rw [cutE_len, List.length_take, List.length_drop, h.1]
  · obtain ⟨g1, hj⟩ := cutE_at g
    obtain ⟨a, h1, h2⟩ := h.2 _ _ g1
    exact ⟨a, by rw [List.getElem?_take, if_pos hj, List.getElem?_drop]; exact h1, h2⟩
theorem EnsA.app {H : Hp} {xs ys : List V} {es fs : List En} (h : EnsA H xs es) (k : EnsA H ys fs) : EnsA H (xs ++ ys) (es ++ fs) := by
  refine ⟨by rw [List.length_append, List.length_append, h.1, k.1], fun i e g => ?_⟩
  by_cases hi : i < es.length
  · rw [List.getElem?_append_left hi] at g
    obtain ⟨a, h1, h2⟩ := h.2 i e g
    exact ⟨a, by rw [List.getElem?_append_left (by rw [h.1]; exact hi)]; exact h1, h2⟩
  · rw [List.getElem?_append_right (by omega)] at g
    obtain ⟨a, h1, h2⟩ := k.2 _ e g
    exact ⟨a, by rw [List.getElem?_append_right (by rw [h.1]; omega), h.1]; exact h1, h2⟩
def fstE (es : List En) : Nat := (slots es).headD 0
def lstE (es : List En) : Nat := (slots es).getLastD 0
def mostE (es : List En) : Nat := mxL (es.map fun e => e.2.length)
def leastE (es : List En) (ls : List Nat) : Nat := mnL (es.map fun e => ls.getD e.1 0)
def headE (es : List En) (ls : List Nat) : List Nat := [fstE es, lstE es, es.length, mostE es, leastE es ls]
def blkF (es : List En) (ls : List Nat) : List (Str × V) := [("first", .int (fstE es : Nat)), ("last", .int (lstE es : Nat)), ("many", .int (es.length : Nat)), ("most", .int (mostE es : Nat)), ("least", .int (leastE es ls : Nat)), ("coded", .str (txt (codeE es).flatten))]
def BlkAt (C : Addr) (H : Hp) (b : Addr) (es : List En) (ls : List Nat) : Prop := ∃ dx, H b = some (.ins C dx (blkF es ls))
theorem BlkAt.ex {C : Addr} {H H' : Hp} {b : Addr} {es : List En} {ls : List Nat} (h : BlkAt C H b es ls) (x : Ex H H') : BlkAt C H' b es ls := by
  obtain ⟨dx, h⟩ := h
  exact ⟨dx, x _ _ h⟩
theorem fst_at {es : List En} {e : En} (g : es[0]? = some e) : fstE es = e.1 := by
  cases es with
  | nil => cases g
  | cons a r =>
    cases g
    rfl
theorem lst_at {es : List En} {e : En} (g : es[es.length - 1]? = some e) : lstE es = e.1 := by
  unfold lstE
  rw [List.getLastD_eq_getLast?, List.getLast?_eq_getElem?]
  have l : (slots es).length = es.length := List.length_map ..
  rw [l, slots_at g]
  rfl
theorem atI_end {α : Type} {xs : List α} {x : α} (g : xs[xs.length - 1]? = some x) : atI xs (-1) = some x := by
  have hl := (List.getElem?_eq_some_iff.mp g).1
  have e : ixN xs.length (-1) = some (xs.length - 1) := by
    unfold ixN
    rw [if_neg (by decide), if_pos (by omega)]
    congr 1
    omega
  unfold atI
  rw [e]
  exact g
/-- entries and the lengths of pages that fit -/
structure Fit (es : List En) (ls : List Nat) : Prop where
  few : ls.length ≤ 60
  most : ∀ n ∈ ls, n ≤ 120
  fit : ∀ e ∈ es, e.1 < ls.length ∧ ∀ n ∈ e.2, n < ls.getD e.1 0
theorem getD_mem {ls : List Nat} {i : Nat} (h : i < ls.length) : ls.getD i 0 ∈ ls := by
  rw [getD_at (List.getElem?_eq_getElem h)]
  exact List.getElem_mem h
theorem Fit.sml {es : List En} {ls : List Nat} (h : Fit es ls) : Sml es := fun e he => by
  obtain ⟨a, b⟩ := h.fit e he
  have := h.few
  refine ⟨by omega, fun n hn => ?_⟩
  have c := b n hn
  have d := h.most _ (getD_mem a)
  omega
theorem Fit.cut {es : List En} {ls : List Nat} (h : Fit es ls) (s i : Nat) : Fit (cutE es s i) ls := ⟨h.few, h.most, fun e he => h.fit e (cutE_mem he)⟩

/-! ### check_word, check_lengths, check_size, check_fit -/
def spCkWd : Sp := fun vs H Q _ => ∃ z : Str, vs = [.str z] ∧ isW z = true ∧ ∀ H', Ex H H' → Q .non H'
set_option maxHeartbeats 4000000 in
theorem ok_check_word (T : TX K mg A FD TK CC) : FnOk P w K mg base CX0 2 (A 29) (FD 29) ["word"] spCkWd := by
  have G_is_word := ok_is_word (P := P) (w := w) (base := base) T
  refine T.f_check_word.ok sc_check_word (fun vs H Q E h => ?_) (fun cdv A' outer s H vs Q E hr h => ?_)
  · obtain ⟨z, rfl, _⟩ := h
    rfl
  · obtain ⟨z, rfl, hz, q⟩ := h
    refine ⟨_, (pss_one (ps_if (pt_not (pt_val (pe_call G_is_word hr (by rfl) T.g_is_word T.f_is_word.kp T.b_is_word .nil pass0 (pa_cons (pv 0) pa_nil))))
      (pss_one ps_never)
      pss_nil)), ?_⟩
    refine ⟨.str z, rfl, z, rfl, by have := isW_len hz; omega, fun H1 e1 => ⟨_, rfl, ?_⟩⟩
    rw [hz]
    exact iteF (q _ e1)
def spCkSz : Sp := fun vs H Q _ => ∃ n : Nat, vs = [.int (n : Int)] ∧ 1 ≤ n ∧ n ≤ 8 ∧ ∀ H', Ex H H' → Q .non H'
set_option maxHeartbeats 4000000 in
theorem ok_check_size (T : TX K mg A FD TK CC) : FnOk P w K mg base CX0 3 (A 61) (FD 61) ["size"] spCkSz := by
  have G_is_within := ok_is_within (P := P) (w := w) (base := base) T
  refine T.f_check_size.ok sc_check_size (fun vs H Q E h => ?_) (fun cdv A' outer s H vs Q E hr h => ?_)
  · obtain ⟨n, rfl, _⟩ := h
    rfl
  · obtain ⟨n, rfl, h1, h2, q⟩ := h
    refine ⟨_, (pss_one (ps_if (pt_not (pt_val (pe_call G_is_within hr (by rfl) T.g_is_within T.f_is_within.kp T.b_is_within .nil pass0 (pa_cons (pv 0) (pa_cons pe_int (pa_cons (pe_glob (v := .int 8) (by rfl) T.c_MOST_SIZE ⟨_, rfl⟩) pa_nil))))))
      (pss_one ps_never)
      pss_nil)), ?_⟩
    refine ⟨.int (n : Int), rfl, n, 1, 8, rfl, fun H1 e1 => ⟨_, rfl, ?_⟩⟩
    rw [decide_eq_true (show (1 : Int) ≤ n by omega), decide_eq_true (show (n : Int) ≤ 8 by omega)]
    exact q _ e1
def spCkLn : Sp := fun vs H Q _ => ∃ (m : Addr) (ls : List Nat), vs = [.ref m] ∧ H m = some (.lst (nvs ls)) ∧ ls.length ≤ 60 ∧ (∀ n ∈ ls, n ≤ 120) ∧ ∀ H', Ex H H' → Q .non H'
set_option maxHeartbeats 4000000 in
theorem ok_check_lengths (T : TX K mg A FD TK CC) : FnOk P w K mg base CX0 3 (A 60) (FD 60) ["lengths"] spCkLn := by
  have G_is_within := ok_is_within (P := P) (w := w) (base := base) T
  refine T.f_check_lengths.ok sc_check_lengths (fun vs H Q E h => ?_) (fun cdv A' outer s H vs Q E hr h => ?_)
  · obtain ⟨m, ls, rfl, _⟩ := h
    rfl
  · obtain ⟨m, ls, rfl, hm, hl, hb, q⟩ := h
    refine ⟨_, (pss_cons (ps_if (PW.pt (pw_or (pt_not (pt_val (pe_callB (isiK (K := K) rfl) (by rfl) T.m_isinstance (by decide +kernel) (pa_cons (pv 0) (pa_cons (pe_bltn (v := .ty "list") (by rfl) T.m_list (by decide +kernel) rfl) pa_nil))))) (pw_or1 (pt_cmpR op_gt (pe_callB (lenK (K := K) rfl) (by rfl) T.m_len (by decide +kernel) (pa_cons (pv 0) pa_nil)) (pe_glob (v := .int 60) (by rfl) T.c_MOST_LENGTHS ⟨_, rfl⟩) (nomark _)))))
      (pss_one ps_never)
      pss_nil)
      (pss_one (ps_if (pt_not (pt_val (pe_callB (allK (K := K) rfl rfl) (by rfl) T.m_all (by decide +kernel) (pa_cons (pe_lc (own := [("length", 1)])  rfl sc_check_lengths.nd (piLK (K := K) rfl (pv 0)) (blkOk_by (own := [("length", 1)]) (N := N_check_lengths) (sc := defScope (topS 60)) (by decide +kernel)) (fun _ _ _ _ _ => (pg_name (i := 1) sc_check_lengths.nd rfl (Or.inl rfl))) (fun _ _ _ _ _ => pts_nil) (fun _ _ _ _ _ => (pe_call G_is_within hr (by rfl) T.g_is_within T.f_is_within.kp T.b_is_within .nil pass0 (pa_cons (pv 1) (pa_cons pe_int (pa_cons (pe_glob (v := .int 120) (by rfl) T.c_MOST_WORDS ⟨_, rfl⟩) pa_nil)))))) pa_nil))))
      (pss_one ps_never)
      pss_nil))), ?_⟩
    refine ⟨.ref m, rfl, .ref m, .ty "list", .type "list", .type "list", true, rfl, .ty _, .base (.lst hm), kit_ty (by decide +kernel), true, rfl, ?_⟩
    refine ⟨.ref m, rfl, m, _, rfl, .inl (SqL.of hm), _, 60, rfl, rfl, _, rfl, ite2 (fun c => ?_) (fun _ => ?_)⟩
    · have c : (60 : Int) < ((nvs ls).length : Int) := of_decide_eq_true c
      rw [nvs_len] at c
      omega
    refine ⟨.ref m, rfl, m, rfl, ⟨_, SqL.of hm⟩, fun D hD => ?_⟩
    refine lc_list (K := K) (xs := nvs ls) (fun i H' => Ex H H' ∧ H' D = some (.lst ((List.replicate i true).map V.bl))) ⟨Ex.new hD, upd_same⟩ (fun i H' _ p => ex_l p.1 (SqL.of hm)) (fun i x H2 hx p => ?_) (fun H2 p => ?_)
    · obtain ⟨p1, p2⟩ := p
      obtain ⟨n, gn, rfl, il⟩ := nvs_at hx
      have bn := hb n (List.mem_of_getElem? gn)
      refine ⟨rfl, .int (n : Int), rfl, n, 0, 120, rfl, fun H3 e3 => ⟨_, e3 _ _ p2, ?_, Ex.mut (p1.trans e3) hD, ?_⟩⟩
      · rw [List.length_map, List.length_replicate]
        exact sz_lt (by omega)
      · rw [upd_same, List.replicate_succ', List.map_append, decide_eq_true (show (0 : Int) ≤ n by omega), decide_eq_true (show (n : Int) ≤ 120 by omega)]
        rfl
    · obtain ⟨p1, p2⟩ := p
      refine ⟨D, _, rfl, SqL.of p2, _, rfl, ?_⟩
      rw [show (List.replicate (nvs ls).length true).all id = true by simp]
      exact q _ p1
def spCkFt (K : PySem.W.Frag) : Sp := fun vs H Q _ => ∃ (l m : Addr) (xs : List V) (es : List En) (ls : List Nat), vs = [.ref l, .ref m] ∧ H l = some (.lst xs) ∧ EnsA H xs es ∧ Ens es ∧ H m = some (.lst (nvs ls)) ∧ Fit es ls ∧ ∀ H', Ex H H' → Q .non H'
set_option maxHeartbeats 4000000 in
theorem ok_check_fit (T : TX K mg A FD TK CC) : FnOk P w K mg base CX0 1 (A 62) (FD 62) ["entries", "lengths"] (spCkFt K) := by
  refine T.f_check_fit.ok sc_check_fit (fun vs H Q E h => ?_) (fun cdv A' outer s H vs Q E hr h => ?_)
  · obtain ⟨l, m, xs, es, ls, rfl, _⟩ := h
    rfl
  · obtain ⟨l, m, xs, es, ls, rfl, hl, hE, hN, hm, hF, q⟩ := h
    refine ⟨_, (pss_one (ps_for PassesOwn.never rfl (pi_enum (by rfl) T.m_enumerate (pa_cons (pv 0) pa_nil)) (pg_tup rfl (pgs_cons (pg_name (i := 2) sc_check_fit.nd rfl (.inl rfl)) (pgs_cons (pg_tup rfl (pgs_cons (pg_name (i := 3) sc_check_fit.nd rfl (.inl rfl)) (pgs_cons (pg_name (i := 4) sc_check_fit.nd rfl (.inl rfl)) pgs_nil))) pgs_nil)))
      (pss_one (ps_if (PW.pt (pw_or (pt_cmpR op_ge (pv 3) (pe_callB (lenK (K := K) rfl) (by rfl) T.m_len (by decide +kernel) (pa_cons (pv 1) pa_nil)) (nomark _)) (pw_or1 (pt_cmpR op_ge (pe_ix (ixTK (K := K) rfl) (pv 4) (pe_un un_neg pe_int) (fun _ _ => rfl)) (pe_ix (ixLK (K := K) rfl) (pv 1) (pv 3) (fun _ _ => rfl)) (nomark _)))))
      (pss_one ps_never)
      pss_nil)))), ?_⟩
    refine ⟨.ref l, rfl, l, _, rfl, SqL.of hl, ?_⟩
    refine for_it (walk_enum (K := K) (a := l) (xs := xs)) (fun i σ' H' => (∃ o1 o2 o3, σ' = [some (.ref l), some (.ref m), o1, o2, o3]) ∧ Ex H H') ⟨⟨none, none, none, rfl⟩, Ex.refl H⟩ (fun i σ' H' _ p => SqL.of (p.2 _ _ hl)) (fun i x σ' H1 H2 hi p y => ?_) (fun σ' H1 p => ?_)
    · obtain ⟨⟨o1, o2, o3, rfl⟩, x1⟩ := p
      obtain ⟨Tt, u1, u2, rfl, nT, rfl, g1, g2⟩ := y
      cases g1
      obtain ⟨e, a, ge, rfl, hA⟩ := hE.at g2
      have eT := Ex.new (o := .tup [V.int (i : Nat), .ref a]) nT
      have em := List.mem_of_getElem? ge
      obtain ⟨t, ha, ht⟩ := hA.ex (x1.trans eT)
      obtain ⟨f1, f2⟩ := hF.fit e em
      have hm2 := (x1.trans eT) _ _ hm
      have h0 := (hN.ok e em).some
      have last := f2 (e.2[e.2.length - 1]'(by omega)) (List.getElem_mem _)
      have gl : e.2[e.2.length - 1]? = some (e.2[e.2.length - 1]'(by omega)) := List.getElem?_eq_getElem _
      generalize e.2[e.2.length - 1]'(by omega) = y at last gl
      have gls : (nvs ls)[e.1]? = some (.int ((ls.getD e.1 0 : Nat) : Int)) := by
        unfold nvs
        rw [List.getElem?_map, List.getElem?_eq_getElem f1, getD_at (List.getElem?_eq_getElem f1)]
        rfl
      have gy : (nvs e.2)[(nvs e.2).length - 1]? = some (.int (y : Int)) := by
        rw [nvs_len]
        unfold nvs
        rw [List.getElem?_map, gl]
        rfl
      refine ⟨Tt, _, rfl, SqT.of upd_same, rfl, _, _, rfl, _, _, rfl, a, _, rfl, SqT.of ha, rfl, _, _, rfl, _, _, rfl, rfl, rfl, ?_⟩
      refine ⟨.int (e.1 : Int), rfl, .ref m, rfl, m, _, rfl, .inl (SqL.of hm2), _, _, rfl, rfl, _, rfl, ite2 (fun c => ?_) (fun _ => ?_)⟩
      · have c : ((nvs ls).length : Int) ≤ (e.1 : Int) := of_decide_eq_true c
        rw [nvs_len] at c
        omega
      refine ⟨.ref t, rfl, 1, rfl, t, _, -1, _, rfl, rfl, SqT.of ht, atI_end gy, .ref m, rfl, .int (e.1 : Int), rfl, m, _, _, _, rfl, rfl, SqL.of hm2, atI_nat gls, _, _, rfl, rfl, _, rfl, ite2 (fun c => ?_) (fun _ => ?_)⟩
      · have c : ((ls.getD e.1 0 : Nat) : Int) ≤ (y : Int) := of_decide_eq_true c
        omega
      · exact ⟨⟨_, _, _, rfl⟩, x1.trans eT⟩
    · obtain ⟨⟨o1, o2, o3, rfl⟩, x1⟩ := p
      exact q _ x1

/-! ### Block -/
/-- all but x stays -/
def ExI (x : Addr) (H H' : Hp) : Prop := ∀ b o, b ≠ x → H b = some o → H' b = some o
theorem ExI.new {H H' : Hp} {x dx : Addr} {o u : HO} (nx : H x = none) (nd : H dx = none) (i : ExI x (upd (upd H dx o) x u) H') : Ex H H' := fun c q h => by
  refine i c q (ne_of_none h nx) ?_
  rw [upd_ne (ne_of_none h nx), upd_ne (ne_of_none h nd)]
  exact h
theorem EnsA.keep {H H' : Hp} {xs : List V} {es : List En} {C x dx : Addr} {fs : List (Str × V)} (h : EnsA H xs es) (hx : H x = some (.ins C dx fs)) (i : ExI x H H') : EnsA H' xs es := h.mono fun b zs hb => i b _ (ne_of hb hx (by intro z; cases z)) hb
theorem lst_keep {H H' : Hp} {C x dx l : Addr} {fs : List (Str × V)} {xs : List V} (h : H l = some (.lst xs)) (hx : H x = some (.ins C dx fs)) (i : ExI x H H') : H' l = some (.lst xs) := i l _ (ne_of h hx (by intro z; cases z)) h
def spBIn (C : Addr) : Sp := fun vs H Q _ => ∃ (x dx l m : Addr) (xs : List V) (es : List En) (ls : List Nat), vs = [.ref x, .ref l, .ref m] ∧ H x = some (.ins C dx []) ∧ H l = some (.lst xs) ∧ EnsA H xs es ∧ Ens es ∧ 0 < es.length ∧ H m = some (.lst (nvs ls)) ∧ Fit es ls ∧
  ∀ H', ExI x H H' → H' x = some (.ins C dx (blkF es ls)) → Q .non H'
theorem fld_step {H0 : Hp} {H H1 : Hp} {C x dx : Addr} {fs : List (Str × V)} {f : Str} {v : V} (i : ExI x H0 H) (e : Ex H H1) (hx : H x = some (.ins C dx fs)) : ExI x H0 (upd H1 x (.ins C dx (putF f v fs))) ∧ (upd H1 x (.ins C dx (putF f v fs))) x = some (.ins C dx (putF f v fs)) :=
  ⟨fun b o nb h => by rw [upd_ne nb]; exact e _ _ (i _ _ nb h), upd_same⟩
set_option maxHeartbeats 8000000 in
theorem ok_binit (T : TX K mg A FD TK CC) : FnOk P w K mg base CX0 7 (A 88) (FD 88) ["self", "entries", "lengths"] (spBIn (A 58)) := by
  have G_code_entries := ok_code_entries (P := P) (w := w) (base := base) T
  refine T.f_Block_init.ok (k := 6) sc_Block_init (fun vs H Q E h => ?_) (fun cdv A' outer s H vs Q E hr h => ?_)
  · obtain ⟨x, dx, l, m, xs, es, ls, rfl, _⟩ := h
    rfl
  · obtain ⟨x, dx, l, m, xs, es, ls, rfl, hx, hl, hE, hN, h0, hm, hF, q⟩ := h
    refine ⟨_, (pss_cons (ps_fld (pv 0) (pe_ix (ixTK (K := K) rfl) (pe_ix (ixLK (K := K) rfl) (pv 1) pe_int (fun _ _ => rfl)) pe_int (fun _ _ => rfl)) rfl)
      (pss_cons (ps_fld (pv 0) (pe_ix (ixTK (K := K) rfl) (pe_ix (ixLK (K := K) rfl) (pv 1) (pe_un un_neg pe_int) (fun _ _ => rfl)) pe_int (fun _ _ => rfl)) rfl)
      (pss_cons (ps_fld (pv 0) (pe_callB (lenK (K := K) rfl) (by rfl) T.m_len (by decide +kernel) (pa_cons (pv 1) pa_nil)) rfl)
      (pss_cons (ps_fld (pv 0) (pe_callB (maxK (K := K) rfl rfl) (by rfl) T.m_max (by decide +kernel) (pa_cons (pe_lc (own := [("slot", 3), ("places", 4)])  rfl sc_Block_init.nd (piLK (K := K) rfl (pv 1)) (blkOk_by (own := [("slot", 3), ("places", 4)]) (N := N_Block_init) (sc := defScope (inClass (topS 58) 0)) (by decide +kernel)) (fun _ _ _ _ _ => (tupGK (K := K) (n := 2) rfl rfl (pgs_cons (pg_name (i := 3) sc_Block_init.nd rfl (Or.inl rfl)) (pgs_cons (pg_name (i := 4) sc_Block_init.nd rfl (Or.inl rfl)) pgs_nil)))) (fun _ _ _ _ _ => pts_nil) (fun _ _ _ _ _ => (pe_callB (lenK (K := K) rfl) (by rfl) T.m_len (by decide +kernel) (pa_cons (pv 4) pa_nil)))) pa_nil)) rfl)
      (pss_cons (ps_fld (pv 0) (pe_callB (minK (K := K) rfl rfl) (by rfl) T.m_min (by decide +kernel) (pa_cons (pe_lc (own := [("slot", 3), ("places", 4)])  rfl sc_Block_init.nd (piLK (K := K) rfl (pv 1)) (blkOk_by (own := [("slot", 3), ("places", 4)]) (N := N_Block_init) (sc := defScope (inClass (topS 58) 0)) (by decide +kernel)) (fun _ _ _ _ _ => (tupGK (K := K) (n := 2) rfl rfl (pgs_cons (pg_name (i := 3) sc_Block_init.nd rfl (Or.inl rfl)) (pgs_cons (pg_name (i := 4) sc_Block_init.nd rfl (Or.inl rfl)) pgs_nil)))) (fun _ _ _ _ _ => pts_nil) (fun _ _ _ _ _ => (pe_ix (ixLK (K := K) rfl) (pv 2) (pv 3) (fun _ _ => rfl)))) pa_nil)) rfl)
      (pss_one (ps_fld (pv 0) (pe_call G_code_entries hr (by rfl) T.g_code_entries T.f_code_entries.kp T.b_code_entries .nil pass0 (pa_cons (pv 1) pa_nil)) rfl))))))), ?_⟩
    have few := hN.few
    have ge0 : es[0]? = some es[0] := List.getElem?_eq_getElem h0
    have geL : es[es.length - 1]? = some (es[es.length - 1]'(by omega)) := List.getElem?_eq_getElem _
    obtain ⟨a0, g0, hA0⟩ := hE.2 _ _ ge0
    obtain ⟨aL, gL, hAL⟩ := hE.2 _ _ geL
    obtain ⟨t0, ha0, _⟩ := id hA0
    -- first
    refine ⟨.ref l, rfl, l, _, 0, _, rfl, rfl, SqL.of hl, atI_nat (j := 0) g0, a0, _, 0, _, rfl, rfl, SqT.of ha0, atI_nat (j := 0) rfl, .ref x, rfl, x, A 58, dx, [], rfl, hx, T.cl_Block, T.n_Block_first, (by show 0 < 1000; decide), ?_⟩
    obtain ⟨i1, hx1⟩ := fld_step (f := "first") (v := .int (es[0].1 : Nat)) (fun b o _ h => h) (Ex.refl H) hx
    generalize (upd H x (.ins (A 58) dx (putF "first" (.int (es[0].1 : Nat)) []))) = H1 at i1 hx1 ⊢
    -- last
    obtain ⟨tL, haL, _⟩ := id (show EnA H1 aL _ from ((hE.keep hx i1).2 _ _ geL).elim fun a h => by rw [gL] at h; cases h.1; exact h.2)
    refine ⟨.ref l, rfl, 1, rfl, l, _, -1, _, rfl, rfl, SqL.of (lst_keep hl hx i1), atI_end (by rw [hE.1]; exact gL), aL, _, 0, _, rfl, rfl, SqT.of haL, atI_nat (j := 0) rfl, .ref x, rfl, x, A 58, dx, _, rfl, hx1, T.cl_Block, T.n_Block_last, (by show 1 < 1000; decide), ?_⟩
    obtain ⟨i2, hx2⟩ := fld_step (f := "last") (v := .int ((es[es.length - 1]'(by omega)).1 : Nat)) i1 (Ex.refl H1) hx1
    generalize (upd H1 x (.ins (A 58) dx (putF "last" (.int ((es[es.length - 1]'(by omega)).1 : Nat)) (putF "first" (.int (es[0].1 : Nat)) [])))) = H2 at i2 hx2 ⊢
    -- many
    have hl2 := lst_keep hl hx i2
    refine ⟨.ref l, rfl, l, _, rfl, .inl (SqL.of hl2), .ref x, rfl, x, A 58, dx, _, rfl, hx2, T.cl_Block, T.n_Block_many, (by show 2 < 1000; decide), ?_⟩
    rw [hE.1]
    obtain ⟨i3, hx3⟩ := fld_step (f := "many") (v := .int (es.length : Nat)) i2 (Ex.refl H2) hx2
    generalize (upd H2 x (.ins (A 58) dx (putF "many" (.int (es.length : Nat)) _))) = H3 at i3 hx3 ⊢
    -- most
    have hl3 := lst_keep hl hx i3
    have hE3 := hE.keep hx i3
    refine ⟨.ref l, rfl, l, rfl, ⟨_, SqL.of hl3⟩, fun D nD => ?_⟩
    refine lc_list (K := K) (xs := xs) (fun i H' => Ex H3 H' ∧ H' D = some (.lst (nvs ((es.take i).map fun e => e.2.length)))) ⟨Ex.new nD, upd_same⟩ (fun i H' _ p => ex_l p.1 (SqL.of hl3)) (fun i v H4 hv p => ?_) (fun H4 p => ?_)
    · obtain ⟨p1, p2⟩ := p
      obtain ⟨e, a, ge, rfl, hA⟩ := hE3.at hv
      obtain ⟨t, ha, ht⟩ := hA.ex p1
      refine ⟨a, _, rfl, SqT.of ha, rfl, _, _, rfl, _, _, rfl, rfl, rfl, .ref t, rfl, t, _, rfl, .inr (SqT.of ht), _, p2, ?_, Ex.mut p1 nD, ?_⟩
      · rw [nvs_len, List.length_map, List.length_take]
        exact sz_lt (by omega)
      · rw [upd_same, take_up ge, List.map_append, nvs_len]
        exact congrArg (fun z => some (HO.lst z)) (nvs_snoc _ _).symm
    obtain ⟨e4, p2⟩ := p
    rw [hE.1, List.take_length, nvs_zs] at p2
    refine ⟨D, _, rfl, SqL.of p2, by rw [zsI_len, List.length_map]; exact h0, fun mm hmm hmx => ?_⟩
    rw [show mm = ((mostE es : Nat) : Int) from mx_is hmm hmx]
    have hx4 := e4 _ _ hx3
    refine ⟨.ref x, rfl, x, A 58, dx, _, rfl, hx4, T.cl_Block, T.n_Block_most, (by show 3 < 1000; decide), ?_⟩
    obtain ⟨i5, hx5⟩ := fld_step (f := "most") (v := .int (mostE es : Nat)) i3 e4 hx3
    generalize (upd H4 x (.ins (A 58) dx (putF "most" (.int (mostE es : Nat)) _))) = H5 at i5 hx5 ⊢
    -- least
    have hl5 := lst_keep hl hx i5
    have hE5 := hE.keep hx i5
    have hm5 := lst_keep hm hx i5
    refine ⟨.ref l, rfl, l, rfl, ⟨_, SqL.of hl5⟩, fun D2 nD2 => ?_⟩
    refine lc_list (K := K) (xs := xs) (fun i H' => Ex H5 H' ∧ H' D2 = some (.lst (nvs ((es.take i).map fun e => ls.getD e.1 0)))) ⟨Ex.new nD2, upd_same⟩ (fun i H' _ p => ex_l p.1 (SqL.of hl5)) (fun i v H6 hv p => ?_) (fun H6 p => ?_)
    · obtain ⟨p1, p2⟩ := p
      obtain ⟨e, a, ge, rfl, hA⟩ := hE5.at hv
      obtain ⟨t, ha, ht⟩ := hA.ex p1
      have f1 := (hF.fit e (List.mem_of_getElem? ge)).1
      have gls : (nvs ls)[e.1]? = some (.int ((ls.getD e.1 0 : Nat) : Int)) := by
        unfold nvs
        rw [List.getElem?_map, List.getElem?_eq_getElem f1, getD_at (List.getElem?_eq_getElem f1)]
        rfl
      refine ⟨a, _, rfl, SqT.of ha, rfl, _, _, rfl, _, _, rfl, rfl, rfl, .ref m, rfl, .int (e.1 : Int), rfl, m, _, _, _, rfl, rfl, SqL.of (p1 _ _ hm5), atI_nat gls, _, p2, ?_, Ex.mut p1 nD2, ?_⟩
      · rw [nvs_len, List.length_map, List.length_take]
        exact sz_lt (by omega)
      · rw [upd_same, take_up ge, List.map_append]
        exact congrArg (fun z => some (HO.lst z)) (nvs_snoc _ _).symm
    obtain ⟨e6, p2⟩ := p
    rw [hE.1, List.take_length, nvs_zs] at p2
    refine ⟨D2, _, rfl, SqL.of p2, by rw [zsI_len, List.length_map]; exact h0, fun mm hmm hmx => ?_⟩
    rw [show mm = ((leastE es ls : Nat) : Int) from mn_is hmm hmx]
    have hx6 := e6 _ _ hx5
    refine ⟨.ref x, rfl, x, A 58, dx, _, rfl, hx6, T.cl_Block, T.n_Block_least, (by show 4 < 1000; decide), ?_⟩
    obtain ⟨i7, hx7⟩ := fld_step (f := "least") (v := .int (leastE es ls : Nat)) i5 e6 hx5
    generalize (upd H6 x (.ins (A 58) dx (putF "least" (.int (leastE es ls : Nat)) _))) = H7 at i7 hx7 ⊢
    -- coded
    refine ⟨.ref l, rfl, l, xs, es, rfl, lst_keep hl hx i7, hE.keep hx i7, hN, fun H8 e8 => ?_⟩
    have hx8 := e8 _ _ hx7
    refine ⟨.ref x, rfl, x, A 58, dx, _, rfl, hx8, T.cl_Block, T.n_Block_coded, (by show 5 < 1000; decide), ?_⟩
    obtain ⟨i9, hx9⟩ := fld_step (f := "coded") (v := .str (txt (codeE es).flatten)) i7 e8 hx7
    refine q _ i9 (hx9.trans ?_)
    unfold blkF
    rw [fst_at ge0, lst_at geL]
    rfl

/-! ### Row -/
theorem rgc_of {n s : Nat} (h1 : 1 ≤ s) (h2 : s ≤ 1000) (h3 : n ≤ 100000) : RgC 0 (n : Int) (s : Int) (nb n s) := by
  have e : Builtin.Range.rangeSize 0 (n : Int) (s : Int) = ((nb n s : Nat) : Int) := by
    rw [rangeSize_pos (by omega) (by omega)]
    unfold nb
    rw [Int.natCast_ediv]
    congr 1
    omega
  have l := nb_le (n := n) (s := s) h1
  refine ⟨by omega, by omega, ?_, e⟩
  unfold Builtin.Range.small
  rw [e]
  simp only [Builtin.Range.rangeFitsLong, Bool.and_eq_true, Bool.or_eq_true, decide_eq_true_eq, beq_iff_eq]
  rw [if_pos (by omega)]
  refine ⟨⟨⟨⟨⟨by decide, by decide⟩, by omega, by omega⟩, by omega, by omega⟩, by omega, by omega⟩, .inr ?_⟩
  simp only [Bool.and_eq_true, decide_eq_true_eq]
  omega
theorem cutV_at {xs : List V} {i s : Nat} : cutV xs (some ((0 : Int) + (i : Nat) * (s : Int))) (some ((0 : Int) + (i : Nat) * (s : Int) + (s : Int))) = (xs.drop (i * s)).take s := by
  unfold cutV
  have e1 : (0 : Int) + (i : Nat) * (s : Int) = ((i * s : Nat) : Int) := by
    rw [Int.natCast_mul]
    omega
  rw [e1, show ((i * s : Nat) : Int) + (s : Int) = ((i * s + s : Nat) : Int) by omega, HT.sIx_nat, HT.sIx_nat]
  rcases Nat.le_total xs.length (i * s) with h | h
  · rw [Nat.min_eq_right h, Nat.min_eq_right (by omega), List.drop_of_length_le h, List.drop_of_length_le (Nat.le_refl _), List.take_nil, List.take_nil]
  · rw [Nat.min_eq_left h]
    rcases Nat.le_total xs.length (i * s + s) with k | k
    · rw [Nat.min_eq_right k, List.take_of_length_le (by rw [List.length_drop]; omega), List.take_of_length_le (by rw [List.length_drop]; omega)]
    · rw [Nat.min_eq_left k, show i * s + s - i * s = s by omega]
/-- the blocks at bs are those of es -/
def BlksAt (CB : Addr) (H : Hp) (bs : List Addr) (s : Nat) (es : List En) (ls : List Nat) : Prop := bs.length = nb es.length s ∧ ∀ (i : Nat) (b : Addr), bs[i]? = some b → BlkAt CB H b (cutE es s i) ls
structure RowIs (z : Str) (s : Nat) (es : List En) (ls : List Nat) : Prop where
  word : isW z = true
  lo : 1 ≤ s
  hi : s ≤ 8
  ens : Ens es
  fit : Fit es ls
def rowF (z : Str) (s : Nat) (t : Addr) : List (Str × V) := [("word", .str z), ("size", .int (s : Nat)), ("cut", .ref t)]
def RowAt (CR CB : Addr) (H : Hp) (r : Addr) (z : Str) (s : Nat) (es : List En) (ls : List Nat) : Prop := ∃ (dx t : Addr) (bs : List Addr), H r = some (.ins CR dx (rowF z s t)) ∧ H t = some (.tup (bs.map V.ref)) ∧ BlksAt CB H bs s es ls
theorem BlksAt.ex {CB : Addr} {H H' : Hp} {bs : List Addr} {s : Nat} {es : List En} {ls : List Nat} (h : BlksAt CB H bs s es ls) (x : Ex H H') : BlksAt CB H' bs s es ls := ⟨h.1, fun i b g => (h.2 i b g).ex x⟩
theorem RowAt.ex {CR CB : Addr} {H H' : Hp} {r : Addr} {z : Str} {s : Nat} {es : List En} {ls : List Nat} (h : RowAt CR CB H r z s es ls) (x : Ex H H') : RowAt CR CB H' r z s es ls := by
  obtain ⟨dx, t, bs, h1, h2, h3⟩ := h
  exact ⟨dx, t, bs, x _ _ h1, x _ _ h2, h3.ex x⟩
theorem refs_at {bs : List Addr} {i : Nat} {v : V} (g : (bs.map V.ref)[i]? = some v) : ∃ b, bs[i]? = some b ∧ v = .ref b ∧ i < bs.length := by
  rw [List.getElem?_map] at g
  cases e : bs[i]? with
  | none => rw [e] at g; cases g
  | some b =>
    rw [e] at g
    cases g
    exact ⟨b, rfl, rfl, (List.getElem?_eq_some_iff.mp e).1⟩
theorem ex2 {H : Hp} {x dx : Addr} {o u : HO} (nx : H x = none) (nd : H dx = none) : Ex H (upd (upd H dx o) x u) := fun c q h => by
  rw [upd_ne (ne_of_none h nx), upd_ne (ne_of_none h nd)]
  exact h
theorem BlkAt.updL {C D : Addr} {H : Hp} {b : Addr} {es : List En} {ls : List Nat} {xs : List V} {o : HO} (h : BlkAt C H b es ls) (hD : H D = some (.lst xs)) : BlkAt C (upd H D o) b es ls := by
  obtain ⟨dx, h⟩ := h
  exact ⟨dx, by rw [upd_ne (ne_of h hD (by intro z; cases z))]; exact h⟩
theorem snoc_at {α : Type} {l : List α} {x y : α} {j : Nat} (g : (l ++ [x])[j]? = some y) : (l[j]? = some y) ∨ (j = l.length ∧ y = x) := by
  by_cases h : j < l.length
  · rw [List.getElem?_append_left h] at g
    exact .inl g
  · rw [List.getElem?_append_right (by omega)] at g
    have : j - l.length = 0 := by
      have := (List.getElem?_eq_some_iff.mp g).1
      rw [List.length_singleton] at this
      omega
    rw [this] at g
    cases g
    exact .inr ⟨by omega, rfl⟩
def spRIn (CR CB : Addr) : Sp := fun vs H Q _ => ∃ (x dx l m : Addr) (xs : List V) (z : Str) (s : Nat) (es : List En) (ls : List Nat), vs = [.ref x, .str z, .ref l, .ref m, .int (s : Nat)] ∧ H x = some (.ins CR dx []) ∧ H l = some (.lst xs) ∧ EnsA H xs es ∧ H m = some (.lst (nvs ls)) ∧ RowIs z s es ls ∧
  ∀ (H' : Hp) (t : Addr) (bs : List Addr), ExI x H H' → H' x = some (.ins CR dx (rowF z s t)) → H' t = some (.tup (bs.map V.ref)) → BlksAt CB H' bs s es ls → Q .non H'
set_option maxHeartbeats 8000000 in
theorem ok_rinit (T : TX K mg A FD TK CC) : FnOk P w K mg base CX0 9 (A 91) (FD 91) ["self", "word", "entries", "lengths", "size"] (spRIn (A 59) (A 58)) := by
  have G_check_word := (ok_check_word (P := P) (w := w) (base := base) T).mono (show 2 ≤ 8 by decide)
  have G_check_entries := (ok_check_entries (P := P) (w := w) (base := base) T).mono (show 5 ≤ 8 by decide)
  have G_check_lengths := (ok_check_lengths (P := P) (w := w) (base := base) T).mono (show 3 ≤ 8 by decide)
  have G_check_size := (ok_check_size (P := P) (w := w) (base := base) T).mono (show 3 ≤ 8 by decide)
  have G_check_fit := (ok_check_fit (P := P) (w := w) (base := base) T).mono (show 1 ≤ 8 by decide)
  have G_Block := ok_binit (P := P) (w := w) (base := base) T
  have B2_Block := T.b_Block_init
  have R2_Block : Vals [] [] := .nil
  refine T.f_Row_init.ok (k := 8) sc_Row_init (fun vs H Q E h => ?_) (fun cdv A' outer s H vs Q E hr h => ?_)
  · obtain ⟨x, dx, l, m, xs, z, s, es, ls, rfl, _⟩ := h
    rfl
  · obtain ⟨x, dx, l, m, xs, z, s, es, ls, rfl, hx, hl, hE, hm, hR, q⟩ := h
    refine ⟨_, PSs.nox (pss_cons (ps_expr (pe_call G_check_word hr (by rfl) T.g_check_word T.f_check_word.kp T.b_check_word .nil pass0 (pa_cons (pv 1) pa_nil)))
      (pss_cons (ps_expr (pe_call G_check_entries hr (by rfl) T.g_check_entries T.f_check_entries.kp T.b_check_entries .nil pass0 (pa_cons (pv 2) pa_nil)))
      (pss_cons (ps_expr (pe_call G_check_lengths hr (by rfl) T.g_check_lengths T.f_check_lengths.kp T.b_check_lengths .nil pass0 (pa_cons (pv 3) pa_nil)))
      (pss_cons (ps_expr (pe_call G_check_size hr (by rfl) T.g_check_size T.f_check_size.kp T.b_check_size .nil pass0 (pa_cons (pv 4) pa_nil)))
      (pss_cons (ps_expr (pe_call G_check_fit hr (by rfl) T.g_check_fit T.f_check_fit.kp T.b_check_fit .nil pass0 (pa_cons (pv 2) (pa_cons (pv 3) pa_nil))))
      (pss_cons (ps_fld (pv 0) (pv 1) rfl)
      (pss_cons (ps_fld (pv 0) (pv 4) rfl)
      (pss_one (ps_fld (pv 0) (pe_callTy (tupK (K := K) rfl) (by rfl) T.m_tuple (by decide +kernel) (pa_cons (pe_lc (own := [("at", 5)])  rfl sc_Row_init.nd (pi_range3 (by rfl) T.m_range (pa_cons pe_int (pa_cons (pe_callB (lenK (K := K) rfl) (by rfl) T.m_len (by decide +kernel) (pa_cons (pv 2) pa_nil)) (pa_cons (pv 4) pa_nil)))) (blkOk_by (own := [("at", 5)]) (N := N_Row_init) (sc := defScope (inClass (topS 59) 0)) (by decide +kernel)) (fun _ _ _ _ _ => (pg_name (i := 5) sc_Row_init.nd rfl (Or.inl rfl))) (fun _ _ _ _ _ => pts_nil) (fun _ _ _ _ _ => (pe_make T.M_Block G_Block hr (by rfl) T.k_Block B2_Block R2_Block pass0 (pa_cons (pe_slice (slLK (K := K) rfl) (pv 2) (po_some (pv 5)) (po_some (pe_op op_add (pv 5) (pv 4)))) (pa_cons (pv 3) pa_nil))))) pa_nil)) rfl))))))))), ?_⟩
    have few := hR.ens.few
    have s1 := hR.lo
    have s8 := hR.hi
    refine ⟨.str z, rfl, z, rfl, hR.word, fun H1 e1 => ?_⟩
    refine ⟨.ref l, rfl, l, xs, es, rfl, e1 _ _ hl, hE.ex e1, hR.ens.ok, hR.ens.ris, fun H2 e2 => ?_⟩
    have x2 := e1.trans e2
    refine ⟨.ref m, rfl, m, ls, rfl, x2 _ _ hm, hR.fit.few, hR.fit.most, fun H3 e3 => ?_⟩
    have x3 := x2.trans e3
    refine ⟨.int (s : Nat), rfl, s, rfl, s1, s8, fun H4 e4 => ?_⟩
    have x4 := x3.trans e4
    refine ⟨.ref l, rfl, .ref m, rfl, l, m, xs, es, ls, rfl, x4 _ _ hl, hE.ex x4, hR.ens, x4 _ _ hm, hR.fit, fun H5 e5 => ?_⟩
    have x5 := x4.trans e5
    clear e1 e2 e3 e4 e5 x2 x3 x4 H1 H2 H3 H4
    refine ⟨.str z, rfl, .ref x, rfl, x, A 59, dx, [], rfl, x5 _ _ hx, T.cl_Row, T.n_Row_word, (by show 0 < 1000; decide), ?_⟩
    obtain ⟨i6, hx6⟩ := fld_step (f := "word") (v := .str z) (fun b o _ h => x5 _ _ h) (Ex.refl H5) (x5 _ _ hx)
    generalize (upd H5 x (.ins (A 59) dx (putF "word" (.str z) []))) = H6 at i6 hx6 ⊢
    refine ⟨.int (s : Nat), rfl, .ref x, rfl, x, A 59, dx, _, rfl, hx6, T.cl_Row, T.n_Row_size, (by show 1 < 1000; decide), ?_⟩
    obtain ⟨i7, hx7⟩ := fld_step (f := "size") (v := .int (s : Nat)) i6 (Ex.refl H6) hx6
    generalize (upd H6 x (.ins (A 59) dx (putF "size" (.int (s : Nat)) _))) = H7 at i7 hx7 ⊢
    have hl7 := lst_keep hl hx i7
    have hm7 := lst_keep hm hx i7
    have hE7 := hE.keep hx i7
    refine ⟨.ref l, rfl, l, _, rfl, .inl (SqL.of hl7), .int (s : Nat), rfl, 0, _, _, _, rfl, (by rw [hE.1]; exact rgc_of s1 (by omega) (by omega)), fun D nD => ?_⟩
    refine lc_it (walk_rangeC (lo := 0) (c := (s : Int)) (n := nb es.length s)) (fun i H' => Ex H7 H' ∧ ∃ bs : List Addr, bs.length = i ∧ H' D = some (.lst (bs.map V.ref)) ∧ ∀ (j : Nat) (b : Addr), bs[j]? = some b → BlkAt (A 58) H' b (cutE es s j) ls) ⟨Ex.new nD, [], rfl, upd_same, fun j b g => nomatch g⟩ (fun _ _ _ _ => True.intro) (fun i v H8 H9 hi p y => ?_) (fun H8 p => ?_)
    · obtain ⟨p1, bs, bl, p2, p3⟩ := p
      obtain ⟨rfl, rfl⟩ := y
      refine ⟨rfl, .ref l, rfl, _, rfl, _, rfl, _, rfl, .int (s : Nat), rfl, _, _, rfl, rfl, _, rfl, l, _, rfl, SqL.of (p1 _ _ hl7), fun c nc => ?_⟩
      rw [cutV_at]
      have eC := Ex.new (o := .lst ((xs.drop (i * s)).take s)) nc
      have hc := upd_same (H := H9) (a := c) (o := .lst ((xs.drop (i * s)).take s))
      generalize (upd H9 c (.lst ((xs.drop (i * s)).take s))) = Hc at eC hc ⊢
      have p1c := p1.trans eC
      refine ⟨.ref m, rfl, fun b d2 nb nd _ => ?_⟩
      have e2 := ex2 (o := .own b) (u := .ins (A 58) d2 []) nb nd
      refine ⟨b, d2, c, m, _, cutE es s i, ls, rfl, upd_same, e2 _ _ hc, ((hE7.ex (p1c.trans e2)).cut s i), hR.ens.cut s i, cutE_pos s1 hi, (p1c.trans e2) _ _ hm7, hR.fit.cut s i, fun H' iE hb => ⟨rfl, ?_⟩⟩
      have eH := ExI.new nb nd iE
      have hD := eH _ _ (eC _ _ p2)
      refine ⟨_, hD, ?_, Ex.mut (p1c.trans eH) nD, bs ++ [b], ?_, ?_, fun j b' g => ?_⟩
      · rw [List.length_map]
        exact sz_lt (by have := nb_le (n := es.length) (s := s) s1; omega)
      · rw [List.length_append, bl]
        rfl
      · rw [upd_same, List.map_append]
        rfl
      · rcases snoc_at g with g | ⟨rfl, rfl⟩
        · exact ((p3 j b' g).ex (eC.trans eH)).updL hD
        · rw [bl]
          exact BlkAt.updL ⟨d2, hb⟩ hD
    · obtain ⟨p1, bs, bl, p2, p3⟩ := p
      refine ⟨D, _, rfl, .inl ⟨SqL.of p2, fun t nt => ?_⟩⟩
      have eT := Ex.new (o := .tup (bs.map V.ref)) nt
      have ht := upd_same (H := H8) (a := t) (o := .tup (bs.map V.ref))
      generalize (upd H8 t (.tup (bs.map V.ref))) = H9 at eT ht ⊢
      have hx9 := eT _ _ (p1 _ _ hx7)
      refine ⟨.ref x, rfl, x, A 59, dx, _, rfl, hx9, T.cl_Row, T.n_Row_cut, (by show 2 < 1000; decide), ?_⟩
      obtain ⟨iF, hxF⟩ := fld_step (f := "cut") (v := .ref t) i7 (p1.trans eT) hx7
      refine q _ t bs iF hxF ?_ ⟨bl, fun j b g => ?_⟩
      · rw [upd_ne (ne_of ht hx9 (by intro z; cases z))]
        exact ht
      · obtain ⟨db, hb⟩ := (p3 j b g).ex eT
        refine ⟨db, ?_⟩
        by_cases hbx : b = x
        · subst hbx
          rw [hx9] at hb
          exact absurd (Option.some.inj hb) (fun z => by
            have := congrArg (fun o => match o with | HO.ins _ _ fs => fs.length | _ => 0) z
            exact absurd (show (2 : Nat) = 6 from this) (by decide))
        · rw [upd_ne hbx]
          exact hb
def spRLen (CR CB : Addr) : Sp := fun vs H Q _ => ∃ (r : Addr) (z : Str) (s : Nat) (es : List En) (ls : List Nat), vs = [.ref r] ∧ RowAt CR CB H r z s es ls ∧ RowIs z s es ls ∧ RetV (.int (es.length : Int)) H Q
theorem sum_cut (es : List En) (s : Nat) : ∀ i, (zsI ((List.range i).map fun j => (cutE es s j).length)).sum = (((es.take (i * s)).length : Nat) : Int)
  | 0 => by simp [zsI]
  | i + 1 => by
    have h := sum_cut es s i
    rw [List.range_succ, List.map_append, take_more, List.length_append]
    unfold zsI at h ⊢
    rw [List.map_append, List.sum_append, h]
    simp
theorem all_cut {es : List En} {s : Nat} (hs : 0 < s) : es.take (nb es.length s * s) = es := List.take_of_length_le (nb_mul hs)
set_option maxHeartbeats 8000000 in
theorem ok_rlen (T : TX K mg A FD TK CC) : FnOk P w K mg base CX0 1 (A 93) (FD 93) ["self"] (spRLen (A 59) (A 58)) := by
  refine T.f_Row_len.ok sc_Row_len (fun vs H Q E h => ?_) (fun cdv A' outer s H vs Q E hr h => ?_)
  · obtain ⟨r, z, s, es, ls, rfl, _⟩ := h
    rfl
  · obtain ⟨r, z, s, es, ls, rfl, ⟨dx, t, bs, h1, h2, h3⟩, hR, q⟩ := h
    refine ⟨_, (pss_one (ps_ret (pe_callB RgV.cr_lenR (by rfl) T.m_len (by decide +kernel) (pa_cons (pe_callTy RgV.cr_range1 (by rfl) T.m_range (by decide +kernel) (pa_cons (pe_callB (sumK (K := K) rfl rfl) (by rfl) T.m_sum (by decide +kernel) (pa_cons (pe_lc (own := [("block", 1)])  rfl sc_Row_len.nd (piTK (K := K) rfl (fldK (K := K) rfl (pv 0) rfl)) (blkOk_by (own := [("block", 1)]) (N := N_Row_len) (sc := defScope (inClass (topS 59) 2)) (by decide +kernel)) (fun _ _ _ _ _ => (pg_name (i := 1) sc_Row_len.nd rfl (Or.inl rfl))) (fun _ _ _ _ _ => pts_nil) (fun _ _ _ _ _ => (fldK (K := K) rfl (pv 1) rfl))) pa_nil)) pa_nil)) pa_nil)))), ?_⟩
    have few := hR.ens.few
    have nbl := nb_le (n := es.length) (s := s) hR.lo
    refine ⟨.ref r, rfl, r, A 59, dx, _, _, rfl, h1, T.cl_Row, T.n_Row_cut, rfl, t, rfl, ⟨_, SqT.of h2⟩, fun D nD => ?_⟩
    refine lc_tup (K := K) (xs := bs.map V.ref) (fun i H' => Ex H H' ∧ H' D = some (.lst ((zsI ((List.range i).map fun j => (cutE es s j).length)).map V.int))) ⟨Ex.new nD, upd_same⟩ (fun i H' _ p => ex_t p.1 (SqT.of h2)) (fun i v H2 hv p => ?_) (fun H2 p => ?_)
    · obtain ⟨p1, p2⟩ := p
      obtain ⟨b, gb, rfl, ib⟩ := refs_at hv
      obtain ⟨db, hb⟩ := (h3.2 i b gb).ex p1
      refine ⟨rfl, .ref b, rfl, b, A 58, db, _, _, rfl, hb, T.cl_Block, T.n_Block_many, rfl, _, p2, ?_, Ex.mut p1 nD, ?_⟩
      · rw [List.length_map, zsI_len, List.length_map, List.length_range]
        exact sz_lt (by have := h3.1; omega)
      · rw [upd_same, List.range_succ, List.map_append]
        unfold zsI
        rw [List.map_append, List.map_append]
        rfl
    · obtain ⟨p1, p2⟩ := p
      rw [List.length_map, h3.1] at p2
      refine ⟨D, _, rfl, SqL.of p2, _, rfl, fun rg nr => ?_⟩
      rw [sum_cut, all_cut hR.lo]
      exact ⟨rg, (es.length : Int), rfl, upd_same, by omega, by omega, q _ (p1.trans (Ex.new nr))⟩
def spREnt (CR CB : Addr) : Sp := fun vs H Q _ => ∃ (r : Addr) (z : Str) (s : Nat) (es : List En) (ls : List Nat), vs = [.ref r] ∧ RowAt CR CB H r z s es ls ∧ RowIs z s es ls ∧ ∀ (l : Addr) (xs : List V) (H' : Hp), H l = none → Ex H H' → H' l = some (.lst xs) → EnsA H' xs es → Q (.ref l) H'
/-- a loop by its invariant, whatever its body asks -/
theorem loopIt {J : It} {n : Nat} {G : Hp → Prop} {Y : Nat → Hp → V → Hp → Prop} {B : V → Hp → (Hp → Prop) → Prop} {H0 : Hp} {Qd : Hp → Prop} (wk : Walk J n G Y) (Pv : Nat → Hp → Prop) (h0 : Pv 0 H0) (hG : ∀ i H, i ≤ n → Pv i H → G H)
    (hs : ∀ i x H H', i < n → Pv i H → Y i H x H' → B x H' (Pv (i + 1))) (hd : ∀ H, Pv n H → Qd H) :
    ∃ W : Nat → Nat → Hp → Prop, (∃ m, W 0 m H0) ∧ ∀ i m H, W i m H → (J.stop i H ∧ Qd H) ∨ (J.go i H ∧ ∃ Nx : Hp → Prop, (∀ H', Nx H' → ∃ m', m' < m ∧ W (i + 1) m' H') ∧ ∀ x H', J.yld i H x H' → B x H' Nx) := by
  refine ⟨fun i m H => i ≤ n ∧ m = n - i ∧ Pv i H, ⟨n, Nat.zero_le n, rfl, h0⟩, fun i m H ⟨hi, e, p⟩ => ?_⟩
  have q := hG i H hi p
  rcases Nat.lt_or_ge i n with lt | ge
  · exact .inr ⟨wk.goes i H lt q, Pv (i + 1), fun H' p' => ⟨n - (i + 1), by omega, lt, rfl, p'⟩, fun x H' y => hs i x H H' lt p (wk.yields i H x H' lt q y)⟩
  · obtain rfl : i = n := by omega
    exact .inl ⟨wk.stops H q, hd H p⟩
set_option maxHeartbeats 8000000 in
theorem ok_rentries (T : TX K mg A FD TK CC) : FnOk P w K mg base CX0 4 (A 94) (FD 94) ["self"] (spREnt (A 59) (A 58)) := by
  have G_decode_entries := ok_decode_entries (P := P) (w := w) (base := base) T
  refine T.f_Row_entries.ok (k := 3) sc_Row_entries (fun vs H Q E h => ?_) (fun cdv A' outer s H vs Q E hr h => ?_)
  · obtain ⟨r, z, s, es, ls, rfl, _⟩ := h
    rfl
  · obtain ⟨r, z, s, es, ls, rfl, ⟨dx, t, bs, h1, h2, h3⟩, hR, q⟩ := h
    refine ⟨_, (pss_one (ps_ret (pe_lc2 (own := [("block", 1), ("entry", 2)]) (wi1 := iList K _)  (vs1 := [2]) rfl sc_Row_entries.nd (piTK (K := K) rfl (fldK (K := K) rfl (pv 0) rfl)) (blkOk_by (own := [("block", 1), ("entry", 2)]) (N := N_Row_entries) (sc := defScope (inClass (topS 59) 4)) (by decide +kernel)) (by decide) (fun _ _ _ _ _ => (pg_name (i := 1) sc_Row_entries.nd rfl (Or.inl rfl))) (fun _ _ _ _ _ => pts_nil) (fun _ _ _ _ _ => by exact (piLK (K := K) rfl (pe_call G_decode_entries hr (by rfl) T.g_decode_entries T.f_decode_entries.kp T.b_decode_entries .nil pass0 (pa_cons (fldK (K := K) rfl (pv 1) rfl) pa_nil)))) (fun _ _ _ _ _ => (pg_name (i := 2) sc_Row_entries.nd rfl (Or.inl rfl))) (fun _ _ _ _ _ => pts_nil) (fun _ _ _ _ _ => (pv 2))))), ?_⟩
    have few := hR.ens.few
    refine ⟨.ref r, rfl, r, A 59, dx, _, _, rfl, h1, T.cl_Row, T.n_Row_cut, rfl, t, rfl, ⟨_, SqT.of h2⟩, fun D nD => ?_⟩
    refine loopIt (walk_tup (K := K) (a := t) (xs := bs.map V.ref)) (fun i H' => Ex H H' ∧ ∃ xs, H' D = some (.lst xs) ∧ EnsA H' xs (es.take (i * s))) ⟨Ex.new nD, [], upd_same, ⟨by simp, fun i e g => by simp at g⟩⟩ (fun i H' _ p => ex_t p.1 (SqT.of h2)) (fun i v H1 H2 hi p y => ?_) (fun H1 p => ?_)
    · obtain ⟨p1, xs, p2, p3⟩ := p
      obtain ⟨rfl, hv⟩ := y
      obtain ⟨b, gb, rfl, ib⟩ := refs_at hv
      obtain ⟨db, hb⟩ := (h3.2 i b gb).ex p1
      have hc := codeE_len2 (hR.ens.cut s i) (hR.fit.cut s i).sml
      have hcl := (hR.ens.cut s i).few
      refine ⟨rfl, .ref b, rfl, b, A 58, db, _, _, rfl, hb, T.cl_Block, T.n_Block_coded, rfl, cutE es s i, rfl, hR.ens.cut s i, by omega, fun l ys H3 nl e3 hl hE => ?_⟩
      refine ⟨l, rfl, ⟨_, SqL.of hl⟩, ?_⟩
      have hDl : D ≠ l := ne_of_none p2 nl
      refine loopIt (walk_list (K := K) (a := l) (xs := ys)) (fun j H' => (∀ c o, c ≠ D → H3 c = some o → H' c = some o) ∧ Ex H H' ∧ H' D = some (.lst (xs ++ ys.take j))) ⟨fun c o _ h => h, p1.trans e3, by rw [List.take_zero, List.append_nil]; exact e3 _ _ p2⟩ (fun j H' _ p => SqL.of (p.1 _ _ hDl.symm hl)) (fun j v H4 H5 hj p y => ?_) (fun H4 p => ?_)
      · obtain ⟨k1, k2, k3⟩ := p
        obtain ⟨rfl, hv2⟩ := y
        refine ⟨rfl, v, rfl, _, k3, ?_, fun c o nc h => ?_, Ex.mut k2 nD, ?_⟩
        · have a1 := p3.1
          have a2 := hE.1
          rw [List.length_append, List.length_take, a1, List.length_take]
          exact sz_lt (by omega)
        · rw [upd_ne nc]
          exact k1 c o nc h
        · rw [upd_same, take_up hv2, List.append_assoc]
      · obtain ⟨k1, k2, k3⟩ := p
        rw [List.take_length] at k3
        refine ⟨k2, _, k3, ?_⟩
        rw [take_more]
        have tt : ∀ c zs, H3 c = some (.tup zs) → H4 c = some (.tup zs) := fun c zs h => k1 c _ (ne_of h (e3 _ _ p2) (by intro z; cases z)) h
        exact ((p3.ex e3).mono tt).app (hE.mono tt)
    · obtain ⟨p1, xs, p2, p3⟩ := p
      rw [List.length_map, h3.1, all_cut hR.lo] at p3
      exact q D xs H1 nD p1 p2 p3

/-! ### words_of, Page(..): no refusal -/
def spCheckW : Sp := fun vs H Q _ => ∃ (a : Addr) (zs : List Str), vs = [.ref a] ∧ H a = some (.lst (zs.map V.str)) ∧ okP zs = true ∧ RetV .non H Q
set_option maxHeartbeats 4000000 in
theorem ok_check_words (T : TX K mg A FD TK CC) : FnOk P w K mg base CX0 3 (A 31) (FD 31) ["words"] spCheckW := by
  have G_are_words := ok_are_words (P := P) (w := w) (base := base) T
  refine T.f_check_words.ok sc_check_words (fun vs H Q E h => ?_) (fun cdv A' outer s H vs Q E hr h => ?_)
  · obtain ⟨a, zs, rfl, _⟩ := h
    rfl
  · obtain ⟨a, zs, rfl, hS, ho, q⟩ := h
    unfold okP at ho
    rw [Bool.and_eq_true, decide_eq_true_eq] at ho
    refine ⟨_, (pss_cons (ps_if (pt_cmpR op_gt (pe_callB (lenK (K := K) rfl) (by rfl) T.m_len (by decide +kernel) (pa_cons (pv 0) pa_nil)) (pe_glob (v := .int 120) (by rfl) T.c_MOST_WORDS ⟨_, rfl⟩) (nomark _))
      (pss_one ps_never)
      pss_nil)
      (pss_one (ps_if (pt_not (pt_truth (pe_call G_are_words hr (by rfl) T.g_are_words T.f_are_words.kp T.b_are_words .nil pass0 (pa_cons (pv 0) pa_nil)) (by intro _; rfl)))
      (pss_one ps_never)
      pss_nil))), ?_⟩
    refine ⟨.ref a, rfl, a, _, rfl, .inl (SqL.of hS), _, 120, rfl, rfl, _, rfl, ite2 (fun e => ?_) (fun e => ?_)⟩
    · have e : (120 : Int) < ((zs.map V.str).length : Int) := of_decide_eq_true e
      rw [List.length_map] at e
      omega
    · refine ⟨.ref a, rfl, a, zs, rfl, .inl (SqL.of hS), by omega, fun z hz => ?_, fun H1 e1 => ⟨_, rfl, ?_⟩⟩
      · have := isW_len (List.all_eq_true.mp ho.2 z hz)
        omega
      · rw [ho.2]
        exact q.go e1
def spWordsOf : Sp := fun vs H Q _ => ∃ z : Str, vs = [.str z] ∧ z.length ≤ 20000 ∧ okP (piecesOf z) = true ∧ RetL ((piecesOf z).map V.str) H Q
set_option maxHeartbeats 4000000 in
theorem ok_words_of (T : TX K mg A FD TK CC) : FnOk P w K mg base CX0 4 (A 30) (FD 30) ["text"] spWordsOf := by
  have G_check_words := ok_check_words (P := P) (w := w) (base := base) T
  refine T.f_words_of.ok sc_words_of (fun vs H Q E h => ?_) (fun cdv A' outer s H vs Q E hr h => ?_)
  · obtain ⟨z, rfl, _⟩ := h
    rfl
  · obtain ⟨z, rfl, hl, ho, q⟩ := h
    refine ⟨_, (pss_cons (ps_if (pt_not (pt_val (pe_callB (isiK (K := K) rfl) (by rfl) T.m_isinstance (by decide +kernel) (pa_cons (pv 0) (pa_cons (pe_bltn (v := .ty "str") (by rfl) T.m_str (by decide +kernel) rfl) pa_nil)))))
      (pss_one ps_never)
      pss_nil)
      (pss_cons (ps_set (i := 1) sc_words_of.nd rfl (.inl rfl) (pe_ifExp (pt_truth (pv 0) (by intro _; rfl)) (pe_split (pv 0) pe_str) (pe_lst pa_nil)))
      (pss_cons (ps_expr (pe_call G_check_words hr (by rfl) T.g_check_words T.f_check_words.kp T.b_check_words .nil pass0 (pa_cons (pv 1) pa_nil)))
      (pss_one (ps_ret (pv 1)))))), ?_⟩
    refine ⟨.str z, rfl, .str z, .ty "str", .type "str", .type "str", true, rfl, .ty _, .base (.str z), kit_ty (by decide +kernel), true, rfl, ?_⟩
    have fin : ∀ (p : Addr), H p = none → spCheckW [.ref p] (upd H p (.lst ((piecesOf z).map V.str))) (fun _ H' => ∃ v : V, ([some (.str z), some (.ref p)] : L2.St)[1]? = some (some v) ∧ Q v H') (fun _ _ _ => False) := fun p np =>
      ⟨p, _, rfl, upd_same, ho, fun H2 e2 => ⟨.ref p, rfl, q p H2 np ((Ex.new np).trans e2) (e2 _ _ upd_same)⟩⟩
    refine ⟨.str z, rfl, ((z.length : Int) != 0), ⟨sz (by omega), rfl⟩, ?_⟩
    by_cases h0 : z.length = 0
    · rw [show ((z.length : Int) != 0) = false by rw [h0]; rfl]
      refine ⟨Nat.zero_le _, fun p np => ?_⟩
      have f := fin p np
      rw [show piecesOf z = [] by unfold piecesOf; rw [if_pos h0]] at f
      exact ⟨.ref p, rfl, f⟩
    · rw [show ((z.length : Int) != 0) = true by simp [h0]]
      refine ⟨.str z, rfl, ⟨_, rfl⟩, z, " ", rfl, rfl, by decide +kernel, sz (by omega), fun p np => ?_⟩
      have f := fin p np
      rw [show piecesOf z = Txt.split z " " by unfold piecesOf; rw [if_neg h0]] at f
      exact ⟨.ref p, rfl, f⟩
def spCheckN : Sp := fun vs H Q _ => ∃ n : Int, vs = [.int n] ∧ 1 ≤ n ∧ n ≤ 9999 ∧ RetV .non H Q
set_option maxHeartbeats 4000000 in
theorem ok_check_page_number (T : TX K mg A FD TK CC) : FnOk P w K mg base CX0 3 (A 35) (FD 35) ["number"] spCheckN := by
  have G_is_within := ok_is_within (P := P) (w := w) (base := base) T
  refine T.f_check_page_number.ok sc_check_page_number (fun vs H Q E h => ?_) (fun cdv A' outer s H vs Q E hr h => ?_)
  · obtain ⟨n, rfl, _⟩ := h
    rfl
  · obtain ⟨n, rfl, h1, h2, q⟩ := h
    refine ⟨_, (pss_one (ps_if (pt_not (pt_val (pe_call G_is_within hr (by rfl) T.g_is_within T.f_is_within.kp T.b_is_within .nil pass0 (pa_cons (pv 0) (pa_cons pe_int (pa_cons (pe_glob (v := .int 9999) (by rfl) T.c_MOST_NUMBER ⟨_, rfl⟩) pa_nil))))))
      (pss_one ps_never)
      pss_nil)), ?_⟩
    refine ⟨.int n, rfl, n, 1, 9999, rfl, fun H1 e1 => ⟨_, rfl, ?_⟩⟩
    rw [decide_eq_true h1, decide_eq_true h2]
    exact q.go e1
def spPInit (C : Addr) : Sp := fun vs H Q _ => ∃ (x dx : Addr) (n : Int) (z : Str), vs = [.ref x, .int n, .str z] ∧ H x = some (.ins C dx []) ∧ 1 ≤ n ∧ n ≤ 9999 ∧ z.length ≤ 20000 ∧ okP (piecesOf z) = true ∧
  ∀ H' t, ExI x H H' → H' x = some (.ins C dx [("number", .int n), ("in_turn", .ref t)]) → H' t = some (.tup ((piecesOf z).map V.str)) → Q .non H'
set_option maxHeartbeats 4000000 in
theorem ok_pinit (T : TX K mg A FD TK CC) : FnOk P w K mg base CX0 5 (A 85) (FD 85) ["self", "number", "text"] (spPInit (A 34)) := by
  have G_check_page_number := (ok_check_page_number (P := P) (w := w) (base := base) T).mono (show 3 ≤ 4 by decide)
  have G_words_of := ok_words_of (P := P) (w := w) (base := base) T
  refine T.f_Page_init.ok (k := 4) sc_Page_init (fun vs H Q E h => ?_) (fun cdv A' outer s H vs Q E hr h => ?_)
  · obtain ⟨x, dx, n, z, rfl, _⟩ := h
    rfl
  · obtain ⟨x, dx, n, z, rfl, hx, n1, n2, hl, ho, q⟩ := h
    refine ⟨_, (pss_cons (ps_expr (pe_call G_check_page_number hr (by rfl) T.g_check_page_number T.f_check_page_number.kp T.b_check_page_number .nil pass0 (pa_cons (pv 1) pa_nil)))
      (pss_cons (ps_fld (pv 0) (pv 1) rfl)
      (pss_one (ps_fld (pv 0) (pe_callTy (tupK (K := K) rfl) (by rfl) T.m_tuple (by decide +kernel) (pa_cons (pe_call G_words_of hr (by rfl) T.g_words_of T.f_words_of.kp T.b_words_of .nil pass0 (pa_cons (pv 2) pa_nil)) pa_nil)) rfl)))), ?_⟩
    refine ⟨.int n, rfl, n, rfl, n1, n2, fun H0 e0 => ?_⟩
    refine ⟨.int n, rfl, .ref x, rfl, x, A 34, dx, [], rfl, e0 _ _ hx, T.cl_Page, T.n_Page_number, (by show 0 < 1000; decide), ?_⟩
    have i1 : ExI x H (upd H0 x (.ins (A 34) dx (putF "number" (.int n) []))) := fun b o nb h => by rw [upd_ne nb]; exact e0 _ _ h
    have hx1 : (upd H0 x (.ins (A 34) dx (putF "number" (.int n) []))) x = some (.ins (A 34) dx (putF "number" (.int n) [])) := upd_same
    generalize (upd H0 x (.ins (A 34) dx (putF "number" (.int n) []))) = H1 at i1 hx1 ⊢
    refine ⟨.str z, rfl, z, rfl, hl, ho, fun p H2 np e2 hp => ?_⟩
    refine ⟨p, _, rfl, .inl ⟨SqL.of hp, fun tt ntt => ?_⟩⟩
    have e3 := Ex.new (o := .tup ((piecesOf z).map V.str)) ntt
    have hx3 := e3 _ _ (e2 _ _ hx1)
    refine ⟨.ref x, rfl, x, A 34, dx, _, rfl, hx3, T.cl_Page, T.n_Page_in_turn, (by show 1 < 1000; decide), q _ tt (fun b o nb h => ?_) upd_same ?_⟩
    · rw [upd_ne nb]
      exact e3 _ _ (e2 _ _ (i1 _ _ nb h))
    · rw [upd_ne (ne_of_none (e2 _ _ hx1) ntt).symm]
      exact upd_same

/-! ### a page, its methods -/
/-- at p stands a page of the number n and the words ws -/
def PageAt (C : Addr) (H : Hp) (p : Addr) (n : Int) (ws : List Str) : Prop := ∃ (dx t : Addr), H p = some (.ins C dx [("number", .int n), ("in_turn", .ref t)]) ∧ H t = some (.tup (ws.map V.str)) ∧ ws.length ≤ 120 ∧ ws.all isW = true
theorem PageAt.ex {C : Addr} {H H' : Hp} {p : Addr} {n : Int} {ws : List Str} (h : PageAt C H p n ws) (e : Ex H H') : PageAt C H' p n ws := by
  obtain ⟨dx, t, h1, h2, h3⟩ := h
  exact ⟨dx, t, e _ _ h1, e _ _ h2, h3⟩
def spPWords (C : Addr) : Sp := fun vs H Q _ => ∃ (p : Addr) (n : Int) (ws : List Str), vs = [.ref p] ∧ PageAt C H p n ws ∧ RetL (ws.map V.str) H Q
set_option maxHeartbeats 4000000 in
theorem ok_p_words (T : TX K mg A FD TK CC) : FnOk P w K mg base CX0 1 (A 87) (FD 87) ["self"] (spPWords (A 34)) := by
  refine T.f_Page_words.ok sc_Page_words (fun vs H Q E h => ?_) (fun cdv A' outer s H vs Q E hr h => ?_)
  · obtain ⟨p, n, ws, rfl, _⟩ := h
    rfl
  · obtain ⟨p, n, ws, rfl, ⟨dx, t, h1, h2, _⟩, q⟩ := h
    refine ⟨_, (pss_one (ps_ret (pe_callTy (listK (K := K) rfl) (by rfl) T.m_list (by decide +kernel) (pa_cons (fldK (K := K) rfl (pv 0) rfl) pa_nil)))), ?_⟩
    exact ⟨.ref p, rfl, p, A 34, dx, _, .ref t, rfl, h1, T.cl_Page, T.n_Page_in_turn, rfl, t, _, rfl, .inr (SqT.of h2), fun l nl => q l _ nl (Ex.new nl) upd_same⟩
def spPLen (C : Addr) : Sp := fun vs H Q _ => ∃ (p : Addr) (n : Int) (ws : List Str), vs = [.ref p] ∧ PageAt C H p n ws ∧ Q (.int (ws.length : Int)) H
set_option maxHeartbeats 4000000 in
theorem ok_p_len (T : TX K mg A FD TK CC) : FnOk P w K mg base CX0 1 (A 86) (FD 86) ["self"] (spPLen (A 34)) := by
  refine T.f_Page_len.ok sc_Page_len (fun vs H Q E h => ?_) (fun cdv A' outer s H vs Q E hr h => ?_)
  · obtain ⟨p, n, ws, rfl, _⟩ := h
    rfl
  · obtain ⟨p, n, ws, rfl, ⟨dx, t, h1, h2, _⟩, q⟩ := h
    refine ⟨_, (pss_one (ps_ret (pe_callB (lenK (K := K) rfl) (by rfl) T.m_len (by decide +kernel) (pa_cons (fldK (K := K) rfl (pv 0) rfl) pa_nil)))), ?_⟩
    refine ⟨.ref p, rfl, p, A 34, dx, _, .ref t, rfl, h1, T.cl_Page, T.n_Page_in_turn, rfl, t, _, rfl, .inr (SqT.of h2), ?_⟩
    rw [List.length_map]
    exact q

/-! tables of lambdas -/
abbrev lamQ (n : Str) : Str := n ++ ".<locals>." ++ "<lambda>"
abbrev TabL (PR : Addr) : List (Addr × Str) := [(PR, lamQ "law")]
theorem fx_new {p : Addr} {H H1 H2 : Hp} (n : H p = none) (e : Ex H H1) (f : Fx p H1 H2) : Ex H H2 := fun a o h => f a o (ne_of_none h n) (e a o h)
theorem maxmin (n : Nat) : 1 ≤ (if (if (n : Int) < 8 then (n : Int) else 8) > 1 then (if (n : Int) < 8 then (n : Int) else 8) else 1) ∧ (if (if (n : Int) < 8 then (n : Int) else 8) > 1 then (if (n : Int) < 8 then (n : Int) else 8) else 1) ≤ 8 := by
  constructor
  · split <;> split <;> omega
  · split <;> split <;> omega
theorem lst_exN {H H' : Hp} {a : Addr} {xs : List V} (e : LamX.ExtN H H') (h : H a = some (.lst xs)) : H' a = some (.lst xs) := e _ _ h (by intro ps z; cases z)
theorem tup_exN {H H' : Hp} {a : Addr} {xs : List V} (e : LamX.ExtN H H') (h : H a = some (.tup xs)) : H' a = some (.tup xs) := e _ _ h (by intro ps z; cases z)
theorem sql_exN {K : PySem.W.Frag} {H H' : Hp} {a : Addr} {xs : List V} (e : LamX.ExtN H H') (h : SqL K H a xs) : SqL K H' a xs := by
  rcases h with (h | ⟨o, h⟩) | h
  · exact .inl (.inl (lst_exN e h))
  · exact .inl (.inr ⟨o, e _ _ h (by intro ps z; cases z)⟩)
  · exact .inr h
theorem sqt_exN {K : PySem.W.Frag} {H H' : Hp} {a : Addr} {xs : List V} (e : LamX.ExtN H H') (h : SqT K H a xs) : SqT K H' a xs := by
  rcases h with (h | ⟨o, h⟩) | h
  · exact .inl (.inl (tup_exN e h))
  · exact .inl (.inr ⟨o, e _ _ h (by intro ps z; cases z)⟩)
  · exact .inr h
theorem fx_newN {p : Addr} {H H1 H2 : Hp} (n : H p = none) (e : LamX.ExtN H H1) (f : Fx p H1 H2) : LamX.ExtN H H2 := fun a o h t => f a o (ne_of_none h n) (e a o h t)
theorem tabs_fx {Tt : List (Addr × Str)} {H H' : Hp} {p : Addr} {c : Nat} (t : LamX.Tabs Tt H) (hp : Pl H p c) (f : Fx p H H') : LamX.Tabs Tt H' := fun q hq => by
  obtain ⟨ps, h1, h2, h3⟩ := t q hq
  obtain ⟨xs, hx⟩ := hp.some
  refine ⟨ps, f _ _ (ne_of h1 hx (by intro z; cases z)) h1, h2, fun pos cv hc => ?_⟩
  obtain ⟨c, e1, e2⟩ := h3 pos cv hc
  exact ⟨c, e1, f _ _ (ne_of e2 hx (by intro z; cases z)) e2⟩

/-! pages made in a law -/
theorem bindsP (T : TX K mg A FD TK CC) : ∃ ds, Vals ([] : List V) ds ∧ Binds K (FD 85) ["self", "number", "text"] ds := by
  obtain ⟨ds2, R2, B2⟩ := T.f_Page_init.binds1 (ps := ["self", "number", "text"]) 3 1 (by simp) rfl (fun _ _ _ _ _ _ _ us its hl1 hl2 => match us, its, hl1, hl2 with | [_, _, _], [_], _, _ => ⟨_, rfl, rfl⟩)
  exact ⟨ds2, R2, B2⟩
theorem jbound {ws : List Str} (h : ws.all isW = true) (hl : ws.length ≤ 120) : (ws.map (·.length)).sum + ws.length * (Str.ofString " ").length ≤ 16777216 := by
  have := len_sum ws h
  rw [show (Str.ofString " ").length = 1 by decide +kernel]
  omega
theorem mk_page {C : Addr} {H : Hp} {x dx : Addr} {n : Int} {ws : List Str} {R : Hp → Prop} {E : XK} (nx : H x = none) (ndx : H dx = none) (h1 : 1 ≤ n) (h2 : n ≤ 9999) (hl : ws.length ≤ 120) (hw : ws.all isW = true) (q : ∀ H', Ex H H' → PageAt C H' x n ws → R H') :
    spPInit C [.ref x, .int n, .str (Txt.join " " ws)] (upd (upd H dx (.own x)) x (.ins C dx [])) (fun v H2 => v = .non ∧ R H2) E := by
  have ep := pieces_join hw
  refine ⟨x, dx, n, _, rfl, upd_same, h1, h2, by have := join_le hw hl; omega, ?_, fun H' t i hx ht => ⟨rfl, q H' (fun c o h => ?_) ⟨dx, t, hx, ?_, hl, hw⟩⟩⟩
  · rw [ep]
    unfold okP
    rw [decide_eq_true hl, hw]
    rfl
  · refine i c o (ne_of_none h nx) ?_
    rw [upd_ne (ne_of_none h nx), upd_ne (ne_of_none h ndx)]
    exact h
  · rw [ep] at ht
    exact ht
theorem PageAt.fx {C : Addr} {H H' : Hp} {q p : Addr} {n : Int} {ws : List Str} {c : Nat} (h : PageAt C H q n ws) (f : Fx p H H') (hp : Pl H p c) : PageAt C H' q n ws := by
  obtain ⟨dx, t, h1, h2, h3⟩ := h
  obtain ⟨ys, hy⟩ := hp.some
  exact ⟨dx, t, f _ _ (ne_of h1 hy (by intro z; cases z)) h1, f.tup hp h2, h3⟩
theorem PageAt.upl {C : Addr} {H : Hp} {q D : Addr} {n : Int} {ws : List Str} {xs : List V} {o : HO} (h : PageAt C H q n ws) (hD : H D = some (.lst xs)) : PageAt C (upd H D o) q n ws := by
  obtain ⟨dx, t, h1, h2, h3⟩ := h
  exact ⟨dx, t, by rw [upd_ne (ne_of h1 hD (by intro z; cases z))]; exact h1, by rw [upd_ne (ne_of h2 hD (by intro z; cases z))]; exact h2, h3⟩

/-! ### numbers, entries, tuples of numbers as data -/
def dV (ns : List Nat) : List PyData := ns.map fun (n : Nat) => .int (n : Int)
def dE (e : En) : PyData := .tuple [.int (e.1 : Int), .tuple (dV e.2)]
def dEs (es : List En) : List PyData := es.map dE
def dTs (nss : List (List Nat)) : List PyData := nss.map fun ns => .tuple (dV ns)
theorem dpV {K : PySem.W.Frag} {H : Hp} : ∀ ns : List Nat, DpAll K H (nvs ns) (dV ns)
  | [] => .nil
  | n :: r => .cons (.int _) (dpV r)
theorem dp_all {K : PySem.W.Frag} {H : Hp} {α : Type} {f : α → PyData} : ∀ {xs : List V} {as : List α}, xs.length = as.length → (∀ (i : Nat) (a : α), as[i]? = some a → ∃ v, xs[i]? = some v ∧ Dp K H v (f a)) → DpAll K H xs (as.map f)
  | [], [], _, _ => .nil
  | v :: xs, a :: as, hl, h => by
    obtain ⟨u, e, d⟩ := h 0 a rfl
    cases e
    exact .cons d (dp_all (by simpa using hl) fun i a g => h (i + 1) a g)
  | [], _ :: _, hl, _ => by simp at hl
  | _ :: _, [], hl, _ => by simp at hl
theorem dpE {K : PySem.W.Frag} {H : Hp} {a : Addr} {e : En} (h : EnA H a e) : Dp K H (.ref a) (dE e) := by
  obtain ⟨t, h1, h2⟩ := h
  exact .tup (SqT.of h1) (.cons (.int _) (.cons (.tup (SqT.of h2) (dpV _)) .nil))
theorem dpEs {K : PySem.W.Frag} {H : Hp} {xs : List V} {es : List En} (h : EnsA H xs es) : DpAll K H xs (dEs es) := dp_all h.1 fun i e g => let ⟨a, h1, h2⟩ := h.2 i e g; ⟨_, h1, dpE h2⟩
/-- tuples of numbers at hs -/
def TupsA (H : Hp) (hs : List Addr) (nss : List (List Nat)) : Prop := hs.length = nss.length ∧ ∀ (i : Nat) (ns : List Nat), nss[i]? = some ns → ∃ b, hs[i]? = some b ∧ H b = some (.tup (nvs ns))
theorem TupsA.ex {H H' : Hp} {hs : List Addr} {nss : List (List Nat)} (h : TupsA H hs nss) (x : Ex H H') : TupsA H' hs nss := ⟨h.1, fun i ns g => let ⟨b, h1, h2⟩ := h.2 i ns g; ⟨b, h1, x _ _ h2⟩⟩
theorem TupsA.updL {H : Hp} {D : Addr} {o : HO} {hs : List Addr} {ys : List V} {nss : List (List Nat)} (h : TupsA H hs nss) (hD : H D = some (.lst ys)) : TupsA (upd H D o) hs nss := ⟨h.1, fun i ns g => let ⟨b, h1, h2⟩ := h.2 i ns g; ⟨b, h1, by rw [upd_ne (ne_of h2 hD (by intro z; cases z))]; exact h2⟩⟩
theorem TupsA.snoc {H : Hp} {hs : List Addr} {nss : List (List Nat)} {b : Addr} {ns : List Nat} (h : TupsA H hs nss) (hb : H b = some (.tup (nvs ns))) : TupsA H (hs ++ [b]) (nss ++ [ns]) := by
  refine ⟨by rw [List.length_append, List.length_append, h.1]; rfl, fun i ms g => ?_⟩
  rcases snoc_at g with g | ⟨rfl, rfl⟩
  · obtain ⟨c, h1, h2⟩ := h.2 i ms g
    exact ⟨c, by rw [List.getElem?_append_left (List.getElem?_eq_some_iff.mp h1).1]; exact h1, h2⟩
  · exact ⟨b, by rw [← h.1, List.getElem?_append_right (Nat.le_refl _)]; simp, hb⟩
theorem dpTs {K : PySem.W.Frag} {H : Hp} {hs : List Addr} {nss : List (List Nat)} (h : TupsA H hs nss) : DpAll K H (hs.map V.ref) (dTs nss) := dp_all (by rw [List.length_map]; exact h.1) fun i ns g => by
  obtain ⟨b, h1, h2⟩ := h.2 i ns g
  exact ⟨.ref b, by rw [List.getElem?_map, h1]; rfl, .tup (SqT.of h2) (dpV _)⟩
theorem shV (ns : List Nat) : PyData.canLayAll0 (dV ns) = true ∧ PyData.depthAll (dV ns) = 0 := by
  unfold dV
  induction ns with
  | nil => exact ⟨rfl, rfl⟩
  | cons n r ih => exact ⟨by rw [List.map_cons, PyData.canLayAll0, ih.1]; rfl, by rw [List.map_cons, PyData.depthAll, ih.2, PyData.depth]; rfl⟩
theorem sh_all {α : Type} {f : α → PyData} {k : Nat} (h : ∀ a, PyData.canLay0 (f a) = true ∧ PyData.depth (f a) ≤ k) : ∀ as : List α, PyData.canLayAll0 (as.map f) = true ∧ PyData.depthAll (as.map f) ≤ k
  | [] => ⟨rfl, Nat.zero_le _⟩
  | a :: r => by
    have i := sh_all h r
    exact ⟨by rw [List.map_cons, PyData.canLayAll0, (h a).1, i.1]; rfl, by rw [List.map_cons, PyData.depthAll]; exact Nat.max_le.mpr ⟨(h a).2, i.2⟩⟩
theorem sh_list {ds : List PyData} {k : Nat} (hk : k ≤ 60) (h : PyData.canLayAll0 ds = true ∧ PyData.depthAll ds ≤ k) : SeqAt.shaped (.list ds) = true := by
  unfold SeqAt.shaped
  rw [PyData.canLay0, PyData.depth, h.1, Bool.true_and]
  have := h.2
  exact decide_eq_true (by omega)
theorem shT (ns : List Nat) : PyData.canLay0 (.tuple (dV ns)) = true ∧ PyData.depth (.tuple (dV ns)) ≤ 1 := ⟨by rw [PyData.canLay0]; exact (shV ns).1, by rw [PyData.depth, (shV ns).2]; exact Nat.le_refl _⟩
theorem shE (e : En) : PyData.canLay0 (dE e) = true ∧ PyData.depth (dE e) ≤ 2 := by
  unfold dE
  refine ⟨?_, ?_⟩
  · rw [PyData.canLay0, PyData.canLayAll0, PyData.canLayAll0, (shT e.2).1]
    rfl
  · rw [PyData.depth, PyData.depthAll, PyData.depthAll]
    have := (shT e.2).2
    simp only [PyData.depthAll, PyData.depth] at this ⊢
    omega
theorem shTs (nss : List (List Nat)) : SeqAt.shaped (.list (dTs nss)) = true := sh_list (k := 1) (by decide) (sh_all shT nss)
theorem shEs (es : List En) : SeqAt.shaped (.list (dEs es)) = true := sh_list (k := 2) (by decide) (sh_all shE es)
theorem eqv_self {d : PyData} (h : SeqAt.shaped d = true) : PyData.eqv d d = true := SeqAt.eqv_refl _ (SeqAt.canLay_of_shaped h)

/-! ### Row(..) -/
theorem kb_row (T : TX K mg A FD TK CC) : KBn K (FD 91) ["self", "word", "entries", "lengths", "size"] 4 ["size"] (fun us ws => us ++ ws) (fun vs zs => vs ++ zs) := by
  obtain ⟨oc, od, dV, kV, doc, pm, an, cdv, ct, osl, e, lk, hcd, hD, hK⟩ := T.f_Row_init.ex
  rcases hD with ⟨_, rfl⟩ | ⟨e', _⟩
  · rw [e]
    rcases hK with e' | ⟨D, rfl, _⟩
    · cases e'
    · exact ⟨fun s us ws _ l1 l2 => match us, ws, l1, l2 with | [_, _, _, _], [_], _, _ => .of_eq rfl, fun r1 r2 => r1.append r2⟩
  · exact absurd rfl e'
theorem bd_row (T : TX K mg A FD TK CC) : ∃ ds, Vals [V.int 4] ds ∧ Binds K (FD 91) ["self", "word", "entries", "lengths", "size"] ds :=
  T.f_Row_init.binds0 4 (by simp) rfl fun D doc pm an cdv ct us ks l1 l2 => match us, ks, l1, l2 with
    | [_, _, _, _], [_], _, _ => ⟨_, _, _, _, _, _, rfl, rfl, rfl⟩
/-- the row is made -/
theorem mk_row {CR CB : Addr} {H : Hp} {x dx l m : Addr} {xs : List V} {z : Str} {s : Nat} {es : List En} {ls : List Nat} {R : Hp → Prop} {E : XK} (nx : H x = none) (nd : H dx = none) (hl : H l = some (.lst xs)) (hE : EnsA H xs es) (hm : H m = some (.lst (nvs ls))) (hR : RowIs z s es ls) (q : ∀ H', Ex H H' → RowAt CR CB H' x z s es ls → R H') :
    spRIn CR CB [.ref x, .str z, .ref l, .ref m, .int (s : Nat)] (upd (upd H dx (.own x)) x (.ins CR dx [])) (fun v H2 => v = .non ∧ R H2) E := by
  have e := ex2 (o := .own x) (u := .ins CR dx []) nx nd
  exact ⟨x, dx, l, m, xs, z, s, es, ls, rfl, upd_same, e _ _ hl, hE.ex e, e _ _ hm, hR, fun H' t bs i h1 h2 h3 => ⟨rfl, q H' (ExI.new nx nd i) ⟨dx, t, bs, h1, h2, h3⟩⟩⟩
theorem BlksAt.updL {CB D : Addr} {H : Hp} {bs : List Addr} {s : Nat} {es : List En} {ls : List Nat} {xs : List V} {o : HO} (h : BlksAt CB H bs s es ls) (hD : H D = some (.lst xs)) : BlksAt CB (upd H D o) bs s es ls := ⟨h.1, fun i b g => (h.2 i b g).updL hD⟩
theorem RowAt.updL {CR CB D : Addr} {H : Hp} {r : Addr} {z : Str} {s : Nat} {es : List En} {ls : List Nat} {xs : List V} {o : HO} (h : RowAt CR CB H r z s es ls) (hD : H D = some (.lst xs)) : RowAt CR CB (upd H D o) r z s es ls := by
  obtain ⟨dx, t, bs, h1, h2, h3⟩ := h
  exact ⟨dx, t, bs, by rw [upd_ne (ne_of h1 hD (by intro z; cases z))]; exact h1, by rw [upd_ne (ne_of h2 hD (by intro z; cases z))]; exact h2, h3.updL hD⟩

/-! ### codes of unlike entries are unlike; equality of data -/
theorem codeN_inj : ∀ (n m : Nat) (r q : List Nat), codeN n ++ r = codeN m ++ q → n = m ∧ r = q := by
  intro n
  induction n using Nat.strongRecOn with
  | ind n ih =>
    intro m r q h
    by_cases hn : n < 16
    · by_cases hm : m < 16
      · rw [codeN_low hn, codeN_low hm] at h
        obtain ⟨a, b⟩ := List.cons.inj h
        exact ⟨by omega, b⟩
      · rw [codeN_low hn, codeN_up hm] at h
        have := (List.cons.inj h).1
        omega
    · by_cases hm : m < 16
      · rw [codeN_up hn, codeN_low hm] at h
        have := (List.cons.inj h).1
        omega
      · rw [codeN_up hn, codeN_up hm] at h
        obtain ⟨a, b⟩ := List.cons.inj h
        obtain ⟨c, d⟩ := ih (n / 16) (by omega) (m / 16) r q b
        exact ⟨by omega, d⟩
theorem codeL_inj : ∀ (xs ys : List Nat) (r q : List Nat), xs.length = ys.length → codeL xs ++ r = codeL ys ++ q → xs = ys ∧ r = q
  | [], [], r, q, _, h => ⟨rfl, h⟩
  | x :: xs, y :: ys, r, q, hl, h => by
    have h' : codeN x ++ (codeL xs ++ r) = codeN y ++ (codeL ys ++ q) := by
      have e : ∀ (z : Nat) (zs t : List Nat), codeL (z :: zs) ++ t = codeN z ++ (codeL zs ++ t) := fun z zs t => by
        unfold codeL
        rw [List.map_cons, List.flatten_cons, List.append_assoc]
      rw [← e, ← e]
      exact h
    obtain ⟨a, b⟩ := codeN_inj x y _ _ h'
    obtain ⟨c, d⟩ := codeL_inj xs ys r q (by simpa using hl) b
    exact ⟨by rw [a, c], d⟩
  | [], _ :: _, _, _, hl, _ => by simp at hl
  | _ :: _, [], _, _, hl, _ => by simp at hl
theorem gapsL_inj {xs ys : List Nat} (hx : Ris xs) (hy : Ris ys) (hl : xs.length = ys.length) (h : gapsL xs = gapsL ys) : xs = ys := by
  have g : ∀ i, i < xs.length → gapI xs i = gapI ys i := fun i hi => by
    have e : (gapsL xs)[i]? = (gapsL ys)[i]? := by rw [h]
    unfold gapsL at e
    rw [List.getElem?_map, List.getElem?_map, List.getElem?_range hi, List.getElem?_range (by omega)] at e
    exact Option.some.inj e
  have key : ∀ i, i ≤ xs.length → ah xs i = ah ys i := by
    intro i
    induction i with
    | zero => intro _; rfl
    | succ i ih =>
      intro hi
      have hxi : xs[i]? = some (xs[i]'(by omega)) := List.getElem?_eq_getElem _
      have hyi : ys[i]? = some (ys[i]'(by omega)) := List.getElem?_eq_getElem _
      have a := gap_is hx hxi
      have b := gap_is hy hyi
      have c := g i (by omega)
      have d := ih (by omega)
      show ((xs.getD i 0 : Nat) : Int) = ((ys.getD i 0 : Nat) : Int)
      rw [getD_at hxi, getD_at hyi]
      omega
  apply List.ext_getElem hl
  intro i h1 h2
  have := key (i + 1) h1
  have e : ((xs.getD i 0 : Nat) : Int) = ((ys.getD i 0 : Nat) : Int) := this
  rw [getD_at (List.getElem?_eq_getElem h1), getD_at (List.getElem?_eq_getElem h2)] at e
  omega
theorem restE_inj : ∀ (es fs : List En) (r q : List Nat), es.length = fs.length → (∀ e ∈ es, EnOk e) → (∀ e ∈ fs, EnOk e) → restE es ++ r = restE fs ++ q → es.map (·.2) = fs.map (·.2) ∧ r = q
  | [], [], r, q, _, _, _, h => ⟨rfl, h⟩
  | e :: es, f :: fs, r, q, hl, he, hf, h => by
    rw [restE_cons, restE_cons, List.append_assoc, List.append_assoc, List.append_assoc, List.append_assoc] at h
    obtain ⟨a, b⟩ := codeN_inj _ _ _ _ h
    have e0 := he e List.mem_cons_self
    have f0 := hf f List.mem_cons_self
    have p1 := e0.some
    have p2 := f0.some
    have l2 : e.2.length = f.2.length := by omega
    obtain ⟨c, d⟩ := codeL_inj _ _ _ _ (by rw [gapsL_len, gapsL_len]; exact l2) b
    have k := gapsL_inj e0.ris f0.ris l2 c
    obtain ⟨u, v⟩ := restE_inj es fs r q (by simpa using hl) (fun x hx => he x (List.mem_cons_of_mem _ hx)) (fun x hx => hf x (List.mem_cons_of_mem _ hx)) d
    exact ⟨by rw [List.map_cons, List.map_cons, k, u], v⟩
  | [], _ :: _, _, _, hl, _, _, _ => by simp at hl
  | _ :: _, [], _, _, hl, _, _, _ => by simp at hl
theorem pairs_eq : ∀ {es fs : List En}, es.map (·.1) = fs.map (·.1) → es.map (·.2) = fs.map (·.2) → es = fs
  | [], [], _, _ => rfl
  | e :: es, f :: fs, h, k => by
    rw [List.map_cons, List.map_cons] at h k
    obtain ⟨a, b⟩ := List.cons.inj h
    obtain ⟨c, d⟩ := List.cons.inj k
    rw [show e = f from Prod.ext a c, pairs_eq b d]
  | [], _ :: _, h, _ => by simp at h
  | _ :: _, [], h, _ => by simp at h
theorem codeE_inj {es fs : List En} (he : Ens es) (hf : Ens fs) (h : (codeE es).flatten = (codeE fs).flatten) : es = fs := by
  rw [codeE_flat, codeE_flat] at h
  obtain ⟨a, b⟩ := codeN_inj _ _ _ _ h
  have ls : (slots es).length = (slots fs).length := by
    unfold slots
    rw [List.length_map, List.length_map]
    exact a
  obtain ⟨c, d⟩ := codeL_inj _ _ _ _ (by rw [gapsL_len, gapsL_len]; exact ls) b
  have k := gapsL_inj he.ris hf.ris ls c
  rw [← List.append_nil (restE es), ← List.append_nil (restE fs)] at d
  exact pairs_eq k (restE_inj es fs [] [] a he.ok hf.ok d).1
/-! ### data of numbers, texts, lists and tuples: equal only where alike -/
mutual
def plnD : PyData → Bool
  | .int _ => true
  | .str _ => true
  | .list xs => plnL xs
  | .tuple xs => plnL xs
  | .none => false
  | .bool _ => false
  | .dict _ => false
def plnL : List PyData → Bool
  | [] => true
  | x :: xs => plnD x && plnL xs
end
mutual
theorem eqv_pln : ∀ d e : PyData, plnD d = true → plnD e = true → PyData.eqv d e = true → d = e
  | .int i, e, _, he, h => by
    cases e with
    | int j =>
      rw [PyData.eqv] at h
      rw [beq_iff_eq.mp h]
    | bool _ => rw [plnD] at he; cases he
    | none => rw [plnD] at he; cases he
    | str _ => rw [PyData.eqv] at h; cases h
    | list _ => rw [PyData.eqv] at h; cases h
    | tuple _ => rw [PyData.eqv] at h; cases h
    | dict _ => rw [PyData.eqv] at h; cases h
  | .str x, e, _, he, h => by
    cases e with
    | str y =>
      rw [PyData.eqv] at h
      rw [beq_iff_eq.mp h]
    | bool _ => rw [plnD] at he; cases he
    | none => rw [plnD] at he; cases he
    | int _ => rw [PyData.eqv] at h; cases h
    | list _ => rw [PyData.eqv] at h; cases h
    | tuple _ => rw [PyData.eqv] at h; cases h
    | dict _ => rw [PyData.eqv] at h; cases h
  | .list xs, e, hd, he, h => by
    cases e with
    | list ys =>
      rw [PyData.eqv] at h
      rw [plnD] at hd he
      rw [eqv_plnL xs ys hd he h]
    | bool _ => rw [plnD] at he; cases he
    | none => rw [plnD] at he; cases he
    | int _ => rw [PyData.eqv] at h; cases h
    | str _ => rw [PyData.eqv] at h; cases h
    | tuple _ => rw [PyData.eqv] at h; cases h
    | dict _ => rw [PyData.eqv] at h; cases h
  | .tuple xs, e, hd, he, h => by
    cases e with
    | tuple ys =>
      rw [PyData.eqv] at h
      rw [plnD] at hd he
      rw [eqv_plnL xs ys hd he h]
    | bool _ => rw [plnD] at he; cases he
    | none => rw [plnD] at he; cases he
    | int _ => rw [PyData.eqv] at h; cases h
    | str _ => rw [PyData.eqv] at h; cases h
    | list _ => rw [PyData.eqv] at h; cases h
    | dict _ => rw [PyData.eqv] at h; cases h
  | .none, _, hd, _, _ => by rw [plnD] at hd; cases hd
  | .bool _, _, hd, _, _ => by rw [plnD] at hd; cases hd
  | .dict _, _, hd, _, _ => by rw [plnD] at hd; cases hd
theorem eqv_plnL : ∀ xs ys : List PyData, plnL xs = true → plnL ys = true → PyData.eqvAll xs ys = true → xs = ys
  | [], [], _, _, _ => rfl
  | x :: xs, y :: ys, hx, hy, h => by
    rw [PyData.eqvAll, Bool.and_eq_true] at h
    rw [plnL, Bool.and_eq_true] at hx hy
    rw [eqv_pln x y hx.1 hy.1 h.1, eqv_plnL xs ys hx.2 hy.2 h.2]
  | [], _ :: _, _, _, h => by rw [PyData.eqvAll] at h; cases h
  | _ :: _, [], _, _, h => by rw [PyData.eqvAll] at h; cases h
end
theorem plnL_map {α : Type} {f : α → PyData} (h : ∀ a, plnD (f a) = true) : ∀ as : List α, plnL (as.map f) = true
  | [] => rfl
  | a :: as => by rw [List.map_cons, plnL, h a, plnL_map h as]; rfl
theorem pln_dV (ns : List Nat) : plnL (dV ns) = true := plnL_map (fun _ => rfl) ns
theorem pln_dE (e : En) : plnD (dE e) = true := by
  unfold dE
  rw [plnD, plnL, plnL, plnL, plnD, plnD, pln_dV]
  rfl
theorem pln_dEs (es : List En) : plnL (dEs es) = true := plnL_map pln_dE es
theorem pln_dTs (nss : List (List Nat)) : plnL (dTs nss) = true := plnL_map (fun ns => by rw [plnD]; exact pln_dV ns) nss
theorem map_inj {α β : Type} {f : α → β} (h : ∀ a b, f a = f b → a = b) : ∀ {as bs : List α}, as.map f = bs.map f → as = bs
  | [], [], _ => rfl
  | a :: as, b :: bs, e => by
    rw [List.map_cons, List.map_cons] at e
    obtain ⟨p, q⟩ := List.cons.inj e
    rw [h a b p, map_inj h q]
  | [], _ :: _, e => by simp at e
  | _ :: _, [], e => by simp at e
theorem dV_inj {ns ms : List Nat} (h : dV ns = dV ms) : ns = ms := map_inj (fun a b e => by have := PyData.int.inj e; omega) h
theorem dE_inj {e f : En} (h : dE e = dE f) : e = f := by
  unfold dE at h
  have h1 := PyData.tuple.inj h
  obtain ⟨a, b⟩ := List.cons.inj h1
  obtain ⟨c, _⟩ := List.cons.inj b
  have := PyData.int.inj a
  exact Prod.ext (by omega) (dV_inj (PyData.tuple.inj c))
theorem dEs_inj {es fs : List En} (h : dEs es = dEs fs) : es = fs := map_inj (fun _ _ => dE_inj) h
theorem dTs_inj {a b : List (List Nat)} (h : dTs a = dTs b) : a = b := map_inj (fun x y e => dV_inj (PyData.tuple.inj e)) h

/-! ### Block.head, Block ==, Row == -/
theorem shTd (ns : List Nat) : SeqAt.shaped (.tuple (dV ns)) = true := by
  unfold SeqAt.shaped
  rw [(shT ns).1, Bool.true_and]
  have := (shT ns).2
  exact decide_eq_true (by omega)
def spHd (CB : Addr) : Sp := fun vs H Q _ => ∃ (b : Addr) (es : List En) (ls : List Nat), vs = [.ref b] ∧ BlkAt CB H b es ls ∧ ∀ (t : Addr) (H' : Hp), H t = none → Ex H H' → H' t = some (.tup (nvs (headE es ls))) → Q (.ref t) H'
set_option maxHeartbeats 4000000 in
theorem ok_bhead (T : TX K mg A FD TK CC) : FnOk P w K mg base CX0 1 (A 90) (FD 90) ["self"] (spHd (A 58)) := by
  refine T.f_Block_head.ok sc_Block_head (fun vs H Q E h => ?_) (fun cdv A' outer s H vs Q E hr h => ?_)
  · obtain ⟨b, es, ls, rfl, _⟩ := h
    rfl
  · obtain ⟨b, es, ls, rfl, ⟨dx, hb⟩, q⟩ := h
    refine ⟨_, (pss_one (ps_ret (pe_tup (pa_cons (fldK (K := K) rfl (pv 0) rfl) (pa_cons (fldK (K := K) rfl (pv 0) rfl) (pa_cons (fldK (K := K) rfl (pv 0) rfl) (pa_cons (fldK (K := K) rfl (pv 0) rfl) (pa_cons (fldK (K := K) rfl (pv 0) rfl) pa_nil)))))))), ?_⟩
    refine ⟨.ref b, rfl, b, _, dx, _, _, rfl, hb, T.cl_Block, T.n_Block_first, rfl, .ref b, rfl, b, _, dx, _, _, rfl, hb, T.cl_Block, T.n_Block_last, rfl, .ref b, rfl, b, _, dx, _, _, rfl, hb, T.cl_Block, T.n_Block_many, rfl, .ref b, rfl, b, _, dx, _, _, rfl, hb, T.cl_Block, T.n_Block_most, rfl, .ref b, rfl, b, _, dx, _, _, rfl, hb, T.cl_Block, T.n_Block_least, rfl, by show 5 ≤ sizeLine; decide, fun t nt => ?_⟩
    exact q t _ nt (Ex.new nt) upd_same
/-- the answer of a block's == -/
def blkEq (es : List En) (ls : List Nat) (fs : List En) (ks : List Nat) : Bool := PyData.eqv (.tuple (dV (headE es ls))) (.tuple (dV (headE fs ks))) && decide (V.str (txt (codeE es).flatten) = V.str (txt (codeE fs).flatten))
def BEqR (CB : Addr) (a b : Addr) (r : Bool) (H : Hp) : Prop := ∃ es ls fs ks, BlkAt CB H a es ls ∧ BlkAt CB H b fs ks ∧ r = blkEq es ls fs ks
/-- a thing of another class -/
def Else (K : PySem.W.Frag) (C : Addr) (H : Hp) (y : V) : Prop := ∃ τ, TyX K H y τ ∧ PySem.W.kitOne K τ (.ref C) = some false
def spBEq (K : PySem.W.Frag) (CB : Addr) : Sp := fun vs H Q _ => ∃ (a : Addr) (es : List En) (ls : List Nat) (y : V), vs = [.ref a, y] ∧ BlkAt CB H a es ls ∧ ((∃ b fs ks, y = .ref b ∧ BlkAt CB H b fs ks ∧ ∀ H', Ex H H' → Q (.bl (blkEq es ls fs ks)) H') ∨ (Else K CB H y ∧ Q (.bl false) H))
theorem blkSays {K : PySem.W.Frag} {CB : Addr} : OwnT.Says (BEqR CB) (spBEq K CB) := fun H a b r Q E h q => by
  obtain ⟨es, ls, fs, ks, h1, h2, rfl⟩ := h
  exact ⟨a, es, ls, .ref b, rfl, h1, .inl ⟨b, fs, ks, rfl, h2, q⟩⟩
theorem blkKeeps {CB : Addr} : OwnT.Keeps (BEqR CB) := fun H H' a b r e h => by
  obtain ⟨es, ls, fs, ks, h1, h2, rfl⟩ := h
  exact ⟨es, ls, fs, ks, h1.ex e, h2.ex e, rfl⟩
set_option maxHeartbeats 8000000 in
theorem ok_beq (T : TX K mg A FD TK CC) : FnOk P w K mg base CX0 2 (A 89) (FD 89) ["self", "other"] (spBEq K (A 58)) := by
  have G_Block_head := ok_bhead (P := P) (w := w) (base := base) T
  refine T.f_Block_eq.ok (k := 1) sc_Block_eq (fun vs H Q E h => ?_) (fun cdv A' outer s H vs Q E hr h => ?_)
  · obtain ⟨a, es, ls, y, rfl, _⟩ := h
    rfl
  · obtain ⟨a, es, ls, y, rfl, hA, hy⟩ := h
    obtain ⟨da, ha⟩ := id hA
    refine ⟨_, (pss_one (ps_ret (pe_and (pe_callB (isiK (K := K) rfl) (by rfl) T.m_isinstance (by decide +kernel) (pa_cons (pv 1) (pa_cons (pe_glob (v := .ref (A 58)) (by rfl) T.k_Block rfl) pa_nil))) (pe_and (pe_cmpR (eqDK (K := K) rfl hr.units) (pe_meth0 (pv 0) T.cl_Block T.M_Block_head G_Block_head hr T.b_Block_head .nil pass0) (pe_meth0 (pv 1) T.cl_Block T.M_Block_head G_Block_head hr T.b_Block_head .nil pass0) (nomark _)) (pe_one (pe_cmpR op_eq (fldK (K := K) rfl (pv 0) rfl) (fldK (K := K) rfl (pv 1) rfl) (nomark _))))))), ?_⟩
    rcases hy with ⟨b, fs, ks, rfl, hB, q⟩ | ⟨⟨τ, ht, hk⟩, q⟩
    · obtain ⟨db, hb⟩ := id hB
      refine ⟨.ref b, rfl, .ref b, .ref (A 58), _, .ref (A 58), true, rfl, .own _, .base (.ins hb T.cl_Block T.ciB T.cs T.ct T.moB), T.kB, true, rfl, ?_⟩
      refine ⟨.ref a, rfl, a, da, _, rfl, ha, rfl, a, es, ls, rfl, hA, fun t H1 nt e1 gt => ?_⟩
      refine ⟨.ref b, rfl, b, db, _, rfl, e1 _ _ hb, rfl, b, fs, ks, rfl, hB.ex e1, fun u H2 nu e2 gu => ?_⟩
      have e12 := e1.trans e2
      have q2 := q H2 e12
      unfold blkEq at q2
      refine ⟨.tuple (dV (headE es ls)), .tuple (dV (headE fs ks)), .tup (SqT.of (e2 _ _ gt)) (dpV _), .tup (SqT.of gu) (dpV _), shTd _, shTd _, _, rfl, ite2 (fun c => ?_) (fun c => ?_)⟩
      · rw [c, Bool.true_and] at q2
        exact ⟨.ref a, rfl, a, _, da, _, _, rfl, e12 _ _ ha, T.cl_Block, T.n_Block_coded, rfl, .ref b, rfl, b, _, db, _, _, rfl, e12 _ _ hb, T.cl_Block, T.n_Block_coded, rfl, rfl, q2⟩
      · have c' : PyData.eqv (.tuple (dV (headE es ls))) (.tuple (dV (headE fs ks))) = false := by
          cases h : PyData.eqv (.tuple (dV (headE es ls))) (.tuple (dV (headE fs ks))) with
          | true => exact absurd h c
          | false => rfl
        rw [c', Bool.false_and] at q2
        exact q2
    · exact ⟨y, rfl, y, .ref (A 58), _, .ref (A 58), false, rfl, .own _, ht, hk, false, rfl, q⟩
/-- the answer of a row's == -/
def rowEq (z : Str) (s : Nat) (es : List En) (ls : List Nat) (z' : Str) (s' : Nat) (es' : List En) (ls' : List Nat) : Bool := decide (V.str z = V.str z') && (decide (V.int (s : Int) = V.int (s' : Int)) && OwnT.ans (fun i => blkEq (cutE es s i) ls (cutE es' s' i) ls') (nb es.length s) (nb es'.length s'))
def REqR (CR CB : Addr) (a b : Addr) (r : Bool) (H : Hp) : Prop := ∃ z s es ls z' s' es' ls', RowAt CR CB H a z s es ls ∧ RowAt CR CB H b z' s' es' ls' ∧ r = rowEq z s es ls z' s' es' ls'
def spREq (K : PySem.W.Frag) (CR CB : Addr) : Sp := fun vs H Q _ => ∃ (a : Addr) (z : Str) (s : Nat) (es : List En) (ls : List Nat) (y : V), vs = [.ref a, y] ∧ RowAt CR CB H a z s es ls ∧ ((∃ b z' s' es' ls', y = .ref b ∧ RowAt CR CB H b z' s' es' ls' ∧ ∀ H', Ex H H' → Q (.bl (rowEq z s es ls z' s' es' ls')) H') ∨ (Else K CR H y ∧ Q (.bl false) H))
theorem rowSays {K : PySem.W.Frag} {CR CB : Addr} : OwnT.Says (REqR CR CB) (spREq K CR CB) := fun H a b r Q E h q => by
  obtain ⟨z, s, es, ls, z', s', es', ls', h1, h2, rfl⟩ := h
  exact ⟨a, z, s, es, ls, .ref b, rfl, h1, .inl ⟨b, z', s', es', ls', rfl, h2, q⟩⟩
theorem rowKeeps {CR CB : Addr} : OwnT.Keeps (REqR CR CB) := fun H H' a b r e h => by
  obtain ⟨z, s, es, ls, z', s', es', ls', h1, h2, rfl⟩ := h
  exact ⟨z, s, es, ls, z', s', es', ls', h1.ex e, h2.ex e, rfl⟩
theorem blkF_same {es fs : List En} {ls ks : List Nat} (h : blkF es ls = blkF fs ks) : blkEq es ls fs ks = true := by
  unfold blkF at h
  simp only [List.cons.injEq, Prod.mk.injEq, true_and, and_true] at h
  obtain ⟨h1, h2, h3, h4, h5, h6⟩ := h
  have f1 := V.int.inj h1
  have f2 := V.int.inj h2
  have f3 := V.int.inj h3
  have f4 := V.int.inj h4
  have f5 := V.int.inj h5
  have e : headE es ls = headE fs ks := by
    unfold headE
    rw [show fstE es = fstE fs by omega, show lstE es = lstE fs by omega, show es.length = fs.length by omega, show mostE es = mostE fs by omega, show leastE es ls = leastE fs ks by omega]
  unfold blkEq
  rw [e, eqv_self (shTd _), h6, decide_eq_true rfl]
  rfl
theorem BlkAt.same {CB : Addr} {H : Hp} {a : Addr} {es fs : List En} {ls ks : List Nat} (h : BlkAt CB H a es ls) (k : BlkAt CB H a fs ks) : blkEq es ls fs ks = true := by
  obtain ⟨d, h⟩ := h
  obtain ⟨e, k⟩ := k
  rw [h] at k
  exact blkF_same (HO.ins.inj (Option.some.inj k)).2.2
theorem blk_db {CB : Addr} {H : Hp} {a b : Addr} {es fs : List En} {ls ks : List Nat} (h : BlkAt CB H a es ls) (k : BlkAt CB H b fs ks) : OwnS.DB CB (BEqR CB) H (.ref a) (.ref b) (blkEq es ls fs ks) := by
  obtain ⟨d, h1⟩ := id h
  obtain ⟨e, k1⟩ := id k
  exact ⟨a, b, d, e, _, _, rfl, rfl, h1, k1, ⟨es, ls, fs, ks, h, k, rfl⟩, fun z => by subst z; exact h.same k⟩
theorem blks_db {CB : Addr} {H : Hp} {bs cs : List Addr} {s s' : Nat} {es es' : List En} {ls ls' : List Nat} (h : BlksAt CB H bs s es ls) (k : BlksAt CB H cs s' es' ls') (i : Nat) (p q : V) (gp : (bs.map V.ref)[i]? = some p) (gq : (cs.map V.ref)[i]? = some q) :
    OwnS.DB CB (BEqR CB) H p q (blkEq (cutE es s i) ls (cutE es' s' i) ls') := by
  obtain ⟨b, gb, rfl, _⟩ := refs_at gp
  obtain ⟨c, gc, rfl, _⟩ := refs_at gq
  exact blk_db (h.2 i b gb) (k.2 i c gc)
set_option maxHeartbeats 8000000 in
theorem ok_req (T : TX K mg A FD TK CC) : FnOk P w K mg base CX0 4 (A 92) (FD 92) ["self", "other"] (spREq K (A 59) (A 58)) := by
  have G_Block_eq := ok_beq (P := P) (w := w) (base := base) T
  refine T.f_Row_eq.ok (k := 3) sc_Row_eq (fun vs H Q E h => ?_) (fun cdv A' outer s H vs Q E hr h => ?_)
  · obtain ⟨a, z, s, es, ls, y, rfl, _⟩ := h
    rfl
  · obtain ⟨a, z, s, es, ls, y, rfl, hA, hy⟩ := h
    obtain ⟨da, ta, bs, ha, hta, hbs⟩ := id hA
    refine ⟨_, (pss_cons (ps_if (pt_not (pt_val (pe_callB (isiK (K := K) rfl) (by rfl) T.m_isinstance (by decide +kernel) (pa_cons (pv 1) (pa_cons (pe_glob (v := .ref (A 59)) (by rfl) T.k_Row rfl) pa_nil)))))
      (pss_one (ps_ret pe_bl))
      pss_nil)
      (pss_one (ps_ret (pe_and (pe_cmpR op_eq (fldK (K := K) rfl (pv 0) rfl) (fldK (K := K) rfl (pv 1) rfl) (nomark _)) (pe_and (pe_cmpR op_eq (fldK (K := K) rfl (pv 0) rfl) (fldK (K := K) rfl (pv 1) rfl) (nomark _)) (pe_one (pe_cmpR (OwnT.op_eqT (R := BEqR (A 58)) blkSays blkKeeps G_Block_eq T.M_Block_eq T.b_Block_eq pass0 hr) (fldK (K := K) rfl (pv 0) rfl) (fldK (K := K) rfl (pv 1) rfl) (nomark _)))))))), ?_⟩
    rcases hy with ⟨b, z', s', es', ls', rfl, hB, q⟩ | ⟨⟨τ, ht, hk⟩, q⟩
    · obtain ⟨db, tb, cs, hb, htb, hcs⟩ := id hB
      refine ⟨.ref b, rfl, .ref b, .ref (A 59), _, .ref (A 59), true, rfl, .own _, .base (.ins hb T.cl_Row T.ciR T.cs T.ct T.moR), T.kR, true, rfl, ite2 (fun c => absurd c (by decide)) (fun _ => ?_)⟩
      have q0 := q H (Ex.refl H)
      unfold rowEq at q q0
      refine ⟨.ref a, rfl, a, _, da, _, _, rfl, ha, T.cl_Row, T.n_Row_word, rfl, .ref b, rfl, b, _, db, _, _, rfl, hb, T.cl_Row, T.n_Row_word, rfl, rfl, _, rfl, ite2 (fun c => ?_) (fun c => ?_)⟩
      · rw [c] at q q0
        refine ⟨.ref a, rfl, a, _, da, _, _, rfl, ha, T.cl_Row, T.n_Row_size, rfl, .ref b, rfl, b, _, db, _, _, rfl, hb, T.cl_Row, T.n_Row_size, rfl, rfl, _, rfl, ite2 (fun c => ?_) (fun c => ?_)⟩
        · rw [c] at q
          refine ⟨.ref a, rfl, a, _, da, _, _, rfl, ha, T.cl_Row, T.n_Row_cut, rfl, .ref b, rfl, b, _, db, _, _, rfl, hb, T.cl_Row, T.n_Row_cut, rfl, ta, tb, bs.map V.ref, cs.map V.ref, fun i => blkEq (cutE es s i) ls (cutE es' s' i) ls', rfl, rfl, hta, htb, fun i p q gp gq => blks_db hbs hcs i p q gp gq, fun H' e => ?_⟩
          rw [List.length_map, List.length_map, hbs.1, hcs.1]
          exact q H' e
        · have c' := Bool.eq_false_iff.mpr c
          rw [c'] at q0
          exact q0
      · have c' := Bool.eq_false_iff.mpr c
        rw [c'] at q0
        exact q0
    · exact ⟨y, rfl, y, .ref (A 59), _, .ref (A 59), false, rfl, .own _, ht, hk, false, rfl, ite2 (fun _ => q) (fun c => absurd rfl c)⟩

/-! ### when rows are equal -/
def headsE (es : List En) (s : Nat) (ls : List Nat) (n : Nat) : List (List Nat) := (List.range n).map fun i => headE (cutE es s i) ls
theorem blkEq_iff {es fs : List En} {ls ks : List Nat} (he : Ens es) (hf : Ens fs) : blkEq es ls fs ks = true ↔ headE es ls = headE fs ks ∧ es = fs := by
  unfold blkEq
  rw [Bool.and_eq_true, decide_eq_true_eq]
  constructor
  · rintro ⟨a, b⟩
    have a' := eqv_pln _ _ (by rw [plnD]; exact pln_dV _) (by rw [plnD]; exact pln_dV _) a
    have b' := V.str.inj b
    have b2 : (codeE es).flatten = (codeE fs).flatten := by
      rw [← tl_txt (codeE es).flatten, b', tl_txt]
    exact ⟨dV_inj (PyData.tuple.inj a'), codeE_inj he hf b2⟩
  · rintro ⟨a, rfl⟩
    rw [a]
    exact ⟨eqv_self (shTd _), rfl⟩
theorem ans_iff {e : Nat → Bool} {m n : Nat} : OwnT.ans e m n = true ↔ m = n ∧ ∀ i, i < m → e i = true := by
  unfold OwnT.ans
  rw [Bool.and_eq_true, List.all_eq_true, beq_iff_eq]
  constructor
  · rintro ⟨a, rfl⟩
    exact ⟨rfl, fun i hi => a i (List.mem_range.mpr (by omega))⟩
  · rintro ⟨rfl, b⟩
    exact ⟨fun i hi => b i (by have := List.mem_range.mp hi; omega), rfl⟩
theorem cuts_eq {es fs : List En} {s n : Nat} (h : ∀ i, i < n → cutE es s i = cutE fs s i) : es.take (n * s) = fs.take (n * s) := by
  induction n with
  | zero => rw [Nat.zero_mul]; rfl
  | succ n ih => rw [take_more, take_more, ih fun i hi => h i (by omega), h n (Nat.lt_succ_self n)]
theorem rowEq_iff {z z' : Str} {s s' : Nat} {es es' : List En} {ls ls' : List Nat} (he : Ens es) (hf : Ens es') (s1 : 1 ≤ s) : rowEq z s es ls z' s' es' ls' = true ↔ z = z' ∧ s = s' ∧ es = es' ∧ headsE es s ls (nb es.length s) = headsE es' s' ls' (nb es'.length s') := by
  unfold rowEq
  rw [Bool.and_eq_true, Bool.and_eq_true, decide_eq_true_eq, decide_eq_true_eq, ans_iff]
  constructor
  · rintro ⟨a, b, c, d⟩
    have hz := V.str.inj a
    have hs : s = s' := by have := V.int.inj b; omega
    subst hs
    have k : ∀ i, i < nb es.length s → headE (cutE es s i) ls = headE (cutE es' s i) ls' ∧ cutE es s i = cutE es' s i := fun i hi => (blkEq_iff (he.cut s i) (hf.cut s i)).mp (d i hi)
    have t := cuts_eq (n := nb es.length s) fun i hi => (k i hi).2
    have m1 := nb_mul (n := es.length) (s := s) s1
    have m2 := nb_mul (n := es'.length) (s := s) s1
    rw [List.take_of_length_le m1, c, List.take_of_length_le m2] at t
    refine ⟨hz, rfl, t, ?_⟩
    unfold headsE
    rw [← c]
    exact List.map_congr_left fun i hi => (k i (List.mem_range.mp hi)).1
  · rintro ⟨rfl, rfl, rfl, d⟩
    refine ⟨rfl, rfl, rfl, fun i hi => (blkEq_iff (he.cut s i) (he.cut s i)).mpr ⟨?_, rfl⟩⟩
    unfold headsE at d
    have g : ((List.range (nb es.length s)).map fun i => headE (cutE es s i) ls)[i]? = ((List.range (nb es.length s)).map fun i => headE (cutE es s i) ls')[i]? := by rw [d]
    rw [List.getElem?_map, List.getElem?_map, List.getElem?_range hi] at g
    exact Option.some.inj g
theorem refs_inj : ∀ {bs cs : List Addr}, bs.map V.ref = cs.map V.ref → bs = cs := fun h => map_inj (fun _ _ e => V.ref.inj e) h
theorem rowF_same {z z' : Str} {s s' : Nat} {t t' : Addr} (h : rowF z s t = rowF z' s' t') : z = z' ∧ s = s' ∧ t = t' := by
  unfold rowF at h
  simp only [List.cons.injEq, Prod.mk.injEq, true_and, and_true] at h
  obtain ⟨a, b, c⟩ := h
  exact ⟨V.str.inj a, by have := V.int.inj b; omega, V.ref.inj c⟩
theorem RowAt.same {CR CB : Addr} {H : Hp} {r : Addr} {z z' : Str} {s s' : Nat} {es es' : List En} {ls ls' : List Nat} (h : RowAt CR CB H r z s es ls) (k : RowAt CR CB H r z' s' es' ls') : rowEq z s es ls z' s' es' ls' = true := by
  obtain ⟨dx, t, bs, h1, h2, h3⟩ := h
  obtain ⟨dy, u, cs, k1, k2, k3⟩ := k
  rw [h1] at k1
  obtain ⟨rfl, rfl, rfl⟩ := rowF_same (HO.ins.inj (Option.some.inj k1)).2.2
  rw [h2] at k2
  obtain rfl := refs_inj (HO.tup.inj (Option.some.inj k2))
  unfold rowEq
  rw [decide_eq_true rfl, decide_eq_true rfl, Bool.true_and, Bool.true_and, ans_iff]
  refine ⟨h3.1.symm.trans k3.1, fun i hi => ?_⟩
  have hb : i < bs.length := by rw [h3.1]; exact hi
  have g := List.getElem?_eq_getElem hb
  exact (h3.2 i _ g).same (k3.2 i _ g)
theorem row_db {CR CB : Addr} {H : Hp} {a b : Addr} {z z' : Str} {s s' : Nat} {es es' : List En} {ls ls' : List Nat} (h : RowAt CR CB H a z s es ls) (k : RowAt CR CB H b z' s' es' ls') : OwnS.DB CR (REqR CR CB) H (.ref a) (.ref b) (rowEq z s es ls z' s' es' ls') := by
  obtain ⟨dx, t, bs, h1, _⟩ := id h
  obtain ⟨dy, u, cs, k1, _⟩ := id k
  exact ⟨a, b, dx, dy, _, _, rfl, rfl, h1, k1, ⟨z, s, es, ls, z', s', es', ls', h, k, rfl⟩, fun e => by subst e; exact h.same k⟩

namespace Ax
/-! ### is_word of any thing -/
def spIsWord : Sp := fun vs H Q _ => ∃ v : V, vs = [v] ∧ Th H v ∧ RetV (.bl (wordV v)) H Q
set_option maxHeartbeats 4000000 in
theorem ok_is_word (T : TX K mg A FD TK CC) : FnOk P w K mg base CX0 1 (A 27) (FD 27) ["thing"] spIsWord := by
  refine T.f_is_word.ok sc_is_word (fun vs H Q E h => ?_) (fun cdv A' outer s H vs Q E hr h => ?_)
  · obtain ⟨v, rfl, _⟩ := h
    rfl
  · obtain ⟨v, rfl, ht, q⟩ := h
    refine ⟨_, (pss_cons (ps_if (PW.pt (pw_or (pt_not (pt_val (pe_callB (isiK (K := K) rfl) (by rfl) T.m_isinstance (by decide +kernel) (pa_cons (pv 0) (pa_cons (pe_bltn (v := .ty "str") (by rfl) T.m_str (by decide +kernel) rfl) pa_nil))))) (pw_or1 (pt_not (pt_chain op_le op_le pe_int (pe_callB call_len_str (by rfl) T.m_len (by decide +kernel) (pa_cons (pv 0) pa_nil)) (pe_glob (v := .int 12) (by rfl) T.c_MOST_LETTERS ⟨_, rfl⟩))))))
      (pss_one (ps_ret pe_bl))
      pss_nil)
      (pss_one (ps_ret (pe_callB (allK (K := K) rfl rfl) (by rfl) T.m_all (by decide +kernel) (pa_cons (pe_lc (own := [("sign", 1)])  rfl sc_is_word.nd (pi_str (pv 0)) (blkOk_by (own := [("sign", 1)]) (N := N_is_word) (sc := defScope (topS 27)) (by decide +kernel)) (fun _ _ _ _ _ => (pg_name (i := 1) sc_is_word.nd rfl (Or.inl rfl))) (fun _ _ _ _ _ => pts_nil) (fun _ _ _ _ _ => (pe_chain op_le_str op_le_str pe_str (pv 1) pe_str))) pa_nil))))), ?_⟩
    rcases ht.kinds K with ⟨z, rfl, hz⟩ | ⟨ty, t1, t2, t3, t4⟩
    · refine ⟨.str z, rfl, .str z, .ty "str", .type "str", .type "str", true, rfl, .ty _, .base (.str z), kit_ty (by decide +kernel), true, rfl, iteF ?_⟩
      have q : RetV (.bl (isW z)) H Q := q
      have no : ¬ (decide ((1 : Int) ≤ (z.length : Int)) = true ∧ decide ((z.length : Int) ≤ 12) = true) → isW z = false := fun h => by
        unfold isW
        have e : z.length = z.cps.size := rfl
        by_cases h1 : 1 ≤ z.cps.size
        · by_cases h2 : z.cps.size ≤ 12
          · exact absurd ⟨decide_eq_true (by omega), decide_eq_true (by omega)⟩ h
          · rw [decide_eq_false h2, Bool.and_false, Bool.false_and]
        · rw [decide_eq_false h1, Bool.false_and, Bool.false_and]
      refine ⟨.str z, rfl, z, rfl, sz hz, 1, (z.length : Int), rfl, rfl, _, rfl, ite2 (fun c1 => ?_) (fun c1 => ?_)⟩
      · refine ⟨(z.length : Int), 12, rfl, rfl, _, rfl, ?_⟩
        by_cases c2 : (z.length : Int) ≤ 12
        · rw [decide_eq_true c2]
          refine iteF ?_
          have e : z.length = z.cps.size := rfl
          have c1' : (1 : Int) ≤ (z.length : Int) := of_decide_eq_true c1
          refine ⟨.str z, rfl, z, rfl, fun D hD => ?_⟩
          refine lc_it (walk_str (z := z)) (fun i H' => Ex H H' ∧ H' D = some (.lst ((z.cps.toList.take i).map fun c => .bl (decide (97 ≤ c) && decide (c ≤ 122))))) ⟨Ex.new hD, upd_same⟩ (fun _ _ _ _ => True.intro) (fun i x H1 H2 hi p y => ?_) (fun H1 p => ?_)
          · obtain ⟨p1, p2⟩ := p
            obtain ⟨rfl, c, hc, rfl⟩ := y
            have g : z.cps.toList[i]? = some c := by
              rw [Array.getElem?_toList]
              exact hc
            have stepE : (z.cps.toList.take (i + 1)).map (fun c => V.bl (decide (97 ≤ c) && decide (c ≤ 122))) = (z.cps.toList.take i).map (fun c => V.bl (decide (97 ≤ c) && decide (c ≤ 122))) ++ [V.bl (decide (97 ≤ c) && decide (c ≤ 122))] := by
              rw [List.take_add_one, g, List.map_append]
              rfl
            have lenE : ((z.cps.toList.take i).map (fun c => V.bl (decide (97 ≤ c) && decide (c ≤ 122)))).length < sizeLine := by
              rw [List.length_map, List.length_take]
              refine sz_lt ?_
              have : z.cps.toList.length = z.cps.size := by simp
              omega
            refine ⟨rfl, .str ⟨#[c]⟩, rfl, _, _, rfl, rfl, _, rfl, ?_⟩
            have e1 : (!decide (((⟨#[c]⟩ : Str).cps.toList) < (Str.ofString "a").cps.toList)) = decide (97 ≤ c) := by
              show (!decide ([c] < [97])) = _
              rw [lt_one]
              by_cases h : 97 ≤ c
              · rw [decide_eq_true h, decide_eq_false (by omega)]
                rfl
              · rw [decide_eq_false h, decide_eq_true (by omega)]
                rfl
            have e2 : (!decide ((Str.ofString "z").cps.toList < (⟨#[c]⟩ : Str).cps.toList)) = decide (c ≤ 122) := by
              show (!decide ([122] < [c])) = _
              rw [lt_one]
              by_cases h : c ≤ 122
              · rw [decide_eq_true h, decide_eq_false (by omega)]
                rfl
              · rw [decide_eq_false h, decide_eq_true (by omega)]
                rfl
            refine ite2 (fun b1 => ?_) (fun b1 => ?_)
            · refine ⟨_, _, rfl, rfl, _, p2, lenE, Ex.mut p1 hD, ?_⟩
              rw [upd_same, stepE, ← e1, ← e2, b1, Bool.true_and]
            · refine ⟨_, p2, lenE, Ex.mut p1 hD, ?_⟩
              rw [upd_same, stepE, ← e1, Bool.eq_false_iff.mpr b1, Bool.false_and]
          · obtain ⟨p1, p2⟩ := p
            refine ⟨D, (z.cps.toList.map fun c => (decide (97 ≤ c) && decide (c ≤ 122))), rfl, SqL.of ?_, ?_⟩
            · rw [p2, List.take_of_length_le (by simp), List.map_map]
              rfl
            · have v := q.go p1
              have ev : isW z = ((z.cps.toList.map fun c => (decide (97 ≤ c) && decide (c ≤ 122))).all id) := by
                unfold isW
                rw [decide_eq_true (by omega), decide_eq_true (by omega), List.all_map]
                rfl
              rw [ev] at v
              exact v
        · rw [decide_eq_false c2]
          refine iteT ?_
          have v := ret_v q
          rw [no (fun h => c2 (of_decide_eq_true h.2))] at v
          exact v
      · have v := ret_v q
        rw [no (fun h => c1 h.1)] at v
        exact ⟨false, rfl, v⟩
    · rw [t3] at q
      exact ⟨v, rfl, v, .ty "str", .type ty, .type "str", false, rfl, .ty _, t1, kit_ty t2, false, rfl, ret_v q⟩

end Ax

/-! ### dicts of lists on the heap -/
def DLk (kas : List (Str × Addr)) : List (Key × V) := kas.map fun p => (Sum.inr p.1, V.ref p.2)
def putL {α : Type} (L : Str → List α) (w : Str) (x : α) : Str → List α := fun k => if k = w then L k ++ [x] else L k
structure DL {α : Type} (P : Hp → List V → List α → Prop) (H0 H : Hp) (d : Addr) (kas : List (Str × Addr)) (L : Str → List α) : Prop where
  ex : Ex H0 H
  nd : H0 d = none
  dk : H d = some (.dK (DLk kas))
  keys : ∀ k, k ∈ kas.map (·.1) ↔ L k ≠ []
  one : (kas.map (·.1)).Nodup
  as : (kas.map (·.2)).Nodup
  new : ∀ p ∈ kas, H0 p.2 = none ∧ p.2 ≠ d
  at_ : ∀ p ∈ kas, ∃ xs, H p.2 = some (.lst xs) ∧ P H xs (L p.1)
theorem nodup_eq {kas : List (Str × Addr)} (n : (kas.map (·.1)).Nodup) {p q : Str × Addr} (hp : p ∈ kas) (hq : q ∈ kas) (e : p.1 = q.1) : p = q := by
  induction kas with
  | nil => cases hp
  | cons a r ih =>
    rw [List.map_cons, List.nodup_cons] at n
    rcases List.mem_cons.mp hp with rfl | hp'
    · rcases List.mem_cons.mp hq with rfl | hq'
      · rfl
      · exact absurd (List.mem_map.mpr ⟨q, hq', e.symm⟩) n.1
    · rcases List.mem_cons.mp hq with rfl | hq'
      · exact absurd (List.mem_map.mpr ⟨p, hp', e⟩) n.1
      · exact ih n.2 hp' hq'
theorem nodup_eq2 {kas : List (Str × Addr)} (n : (kas.map (·.2)).Nodup) {p q : Str × Addr} (hp : p ∈ kas) (hq : q ∈ kas) (e : p.2 = q.2) : p = q := by
  induction kas with
  | nil => cases hp
  | cons a r ih =>
    rw [List.map_cons, List.nodup_cons] at n
    rcases List.mem_cons.mp hp with rfl | hp'
    · rcases List.mem_cons.mp hq with rfl | hq'
      · rfl
      · exact absurd (List.mem_map.mpr ⟨q, hq', e.symm⟩) n.1
    · rcases List.mem_cons.mp hq with rfl | hq'
      · exact absurd (List.mem_map.mpr ⟨p, hp', e⟩) n.1
      · exact ih n.2 hp' hq'
def TupP {α : Type} (P : Hp → List V → List α → Prop) : Prop := ∀ (H H' : Hp) (xs : List V) (l : List α), (∀ c zs, H c = some (.tup zs) → H' c = some (.tup zs)) → P H xs l → P H' xs l
theorem dlk_val {w : Str} {v : V} : ∀ {kas : List (Str × Addr)}, valV (DLk kas) (Sum.inr w) = some v → ∃ p ∈ kas, p.1 = w ∧ v = .ref p.2
  | [], h => by cases h
  | p :: r, h => by
    by_cases e : p.1 = w
    · have h2 : valV (DLk (p :: r)) (Sum.inr w) = some (V.ref p.2) := valV_pos (p := (Sum.inr p.1, V.ref p.2)) (congrArg Sum.inr e)
      rw [h2] at h
      exact ⟨p, List.mem_cons_self .., e, (Option.some.inj h).symm⟩
    · have h2 : valV (DLk (p :: r)) (Sum.inr w) = valV (DLk r) (Sum.inr w) := valV_neg (p := (Sum.inr p.1, V.ref p.2)) (fun z => e (Sum.inr.inj z))
      rw [h2] at h
      obtain ⟨q, hq, r1, r2⟩ := dlk_val h
      exact ⟨q, List.mem_cons_of_mem _ hq, r1, r2⟩
theorem dlk_none {w : Str} : ∀ {kas : List (Str × Addr)}, valV (DLk kas) (Sum.inr w) = none → w ∉ kas.map (·.1)
  | [], _ => by simp
  | p :: r, h => by
    by_cases e : p.1 = w
    · have h2 : valV (DLk (p :: r)) (Sum.inr w) = some (V.ref p.2) := valV_pos (p := (Sum.inr p.1, V.ref p.2)) (congrArg Sum.inr e)
      rw [h2] at h
      cases h
    · have h2 : valV (DLk (p :: r)) (Sum.inr w) = valV (DLk r) (Sum.inr w) := valV_neg (p := (Sum.inr p.1, V.ref p.2)) (fun z => e (Sum.inr.inj z))
      rw [h2] at h
      rw [List.map_cons, List.mem_cons]
      rintro (z | z)
      · exact e z.symm
      · exact dlk_none h z
theorem dlk_of {p : Str × Addr} {kas : List (Str × Addr)} (h : p ∈ kas) (n : (kas.map (·.1)).Nodup) : valV (DLk kas) (Sum.inr p.1) = some (.ref p.2) := by
  cases hv : valV (DLk kas) (Sum.inr p.1) with
  | none => exact absurd (List.mem_map.mpr ⟨p, h, rfl⟩) (dlk_none hv)
  | some v =>
    obtain ⟨q, hq, e1, rfl⟩ := dlk_val hv
    have : q = p := nodup_eq n hq h e1
    rw [this]
theorem DL.mk0 {α : Type} {P : Hp → List V → List α → Prop} {H : Hp} {d : Addr} (nd : H d = none) : DL P H (upd H d (.dK [])) d [] (fun _ => []) :=
  ⟨Ex.new nd, nd, upd_same, fun k => ⟨fun h => (by cases h), fun h => absurd rfl h⟩, List.nodup_nil, List.nodup_nil, fun p h => (by cases h), fun p h => (by cases h)⟩
theorem DL.ext {α : Type} {P : Hp → List V → List α → Prop} {H0 H H' : Hp} {d : Addr} {kas : List (Str × Addr)} {L : Str → List α} (hP : TupP P) (h : DL P H0 H d kas L) (e : Ex H H') : DL P H0 H' d kas L :=
  ⟨h.ex.trans e, h.nd, e _ _ h.dk, h.keys, h.one, h.as, h.new, fun p hp => by
    obtain ⟨xs, h1, h2⟩ := h.at_ p hp
    exact ⟨xs, e _ _ h1, hP _ _ _ _ (fun c zs z => e _ _ z) h2⟩⟩
theorem DL.there {α : Type} {P : Hp → List V → List α → Prop} {H0 H : Hp} {d : Addr} {kas : List (Str × Addr)} {L : Str → List α} {w : Str} {v : V} (hP : TupP P) (h : DL P H0 H d kas L) (hv : valV (DLk kas) (Sum.inr w) = some v) :
    ∃ (a : Addr) (xs : List V), v = .ref a ∧ H a = some (.lst xs) ∧ P H xs (L w) ∧ L w ≠ [] ∧ ∀ (H4 : Hp) (u : V) (x : α), Ex H H4 → P H4 (xs ++ [u]) (L w ++ [x]) → DL P H0 (upd H4 a (.lst (xs ++ [u]))) d kas (putL L w x) := by
  obtain ⟨p, hp, rfl, rfl⟩ := dlk_val hv
  obtain ⟨xs, h1, h2⟩ := h.at_ p hp
  have lne : L p.1 ≠ [] := (h.keys p.1).mp (List.mem_map.mpr ⟨p, hp, rfl⟩)
  refine ⟨p.2, xs, rfl, h1, h2, lne, fun H4 u x e hx => ?_⟩
  have tt : ∀ c zs, H4 c = some (.tup zs) → upd H4 p.2 (.lst (xs ++ [u])) c = some (.tup zs) := fun c zs z => by
    rw [upd_ne (ne_of z (e _ _ h1) (by intro z; cases z))]
    exact z
  refine ⟨Ex.mut (h.ex.trans e) (h.new p hp).1, h.nd, by rw [upd_ne (h.new p hp).2.symm]; exact e _ _ h.dk, fun k => ?_, h.one, h.as, h.new, fun q hq => ?_⟩
  · rw [h.keys k]
    unfold putL
    by_cases z : k = p.1
    · rw [if_pos z, z]
      exact ⟨fun _ => by simp, fun _ => lne⟩
    · rw [if_neg z]
  · by_cases z : q.2 = p.2
    · have : q = p := nodup_eq2 h.as hq hp z
      rw [this]
      refine ⟨_, upd_same, hP _ _ _ _ tt ?_⟩
      unfold putL
      rw [if_pos rfl]
      exact hx
    · obtain ⟨ys, g1, g2⟩ := h.at_ q hq
      refine ⟨ys, by rw [upd_ne z]; exact e _ _ g1, hP _ _ _ _ (fun c zs y => tt c zs (e _ _ y)) ?_⟩
      unfold putL
      rw [if_neg fun k => z (by rw [nodup_eq h.one hq hp k])]
      exact g2
theorem DL.miss {α : Type} {P : Hp → List V → List α → Prop} {H0 H : Hp} {d nl : Addr} {kas : List (Str × Addr)} {L : Str → List α} {w : Str} (hP : TupP P) (h : DL P H0 H d kas L) (hv : valV (DLk kas) (Sum.inr w) = none) (nn : H nl = none) :
    L w = [] ∧ ∀ (H4 : Hp) (u : V) (x : α), Ex (upd (upd H nl (.lst [])) d (.dK (putK (DLk kas) (Sum.inr w) (.ref nl)))) H4 → P H4 [u] [x] → DL P H0 (upd H4 nl (.lst [u])) d (kas ++ [(w, nl)]) (putL L w x) := by
  have wn := dlk_none hv
  have le : L w = [] := Classical.byContradiction fun z => wn ((h.keys w).mpr z)
  refine ⟨le, fun H4 u x e hx => ?_⟩
  have nld : nl ≠ d := (ne_of_none h.dk nn).symm
  have n0 : H0 nl = none := fresh_back h.ex nn
  have hn4 : H4 nl = some (.lst []) := e _ _ (by rw [upd_ne nld, upd_same])
  have old : ∀ b o, b ≠ d → H b = some o → H4 b = some o := fun b o nb g => e _ _ (by rw [upd_ne nb, upd_ne (ne_of_none g nn)]; exact g)
  have tt : ∀ c zs, H4 c = some (.tup zs) → upd H4 nl (.lst [u]) c = some (.tup zs) := fun c zs z => by
    rw [upd_ne (ne_of z hn4 (by intro z; cases z))]
    exact z
  have tt0 : ∀ c zs, H c = some (.tup zs) → upd H4 nl (.lst [u]) c = some (.tup zs) := fun c zs z => tt c zs (old c _ (ne_of z h.dk (by intro z; cases z)) z)
  refine ⟨fun b o g => ?_, h.nd, ?_, fun k => ?_, ?_, ?_, fun p hp => ?_, fun p hp => ?_⟩
  · rw [upd_ne (ne_of_none g n0)]
    exact old b o (ne_of_none g h.nd) (h.ex _ _ g)
  · rw [upd_ne nld.symm, e d _ upd_same, putK_new _ hv]
    unfold DLk
    rw [List.map_append]
    rfl
  · rw [List.map_append, List.mem_append, h.keys k]
    unfold putL
    by_cases z : k = w
    · rw [if_pos z, z]
      exact ⟨fun _ => by simp, fun _ => .inr (by simp)⟩
    · rw [if_neg z]
      exact ⟨fun y => y.elim id fun y => absurd (by simpa using y) z, .inl⟩
  · rw [List.map_append]
    exact List.nodup_append.mpr ⟨h.one, by simp, fun a ha b hb => by
      rw [show b = w by simpa using hb]
      exact fun z => wn (z ▸ ha)⟩
  · rw [List.map_append]
    exact List.nodup_append.mpr ⟨h.as, by simp, fun a ha b hb => by
      rw [show b = nl by simpa using hb]
      obtain ⟨p, hp, rfl⟩ := List.mem_map.mp ha
      obtain ⟨xs, g1, _⟩ := h.at_ p hp
      exact ne_of_none g1 nn⟩
  · rcases List.mem_append.mp hp with hp | hp
    · exact h.new p hp
    · rw [List.mem_singleton.mp hp]
      exact ⟨n0, nld⟩
  · rcases List.mem_append.mp hp with hp | hp
    · obtain ⟨ys, g1, g2⟩ := h.at_ p hp
      refine ⟨ys, by rw [upd_ne (ne_of_none g1 nn)]; exact old _ _ (h.new p hp).2 g1, hP _ _ _ _ tt0 ?_⟩
      unfold putL
      rw [if_neg fun z : p.1 = w => wn (z ▸ List.mem_map.mpr ⟨p, hp, rfl⟩)]
      exact g2
    · rw [List.mem_singleton.mp hp]
      refine ⟨[u], upd_same, hP _ _ _ _ tt ?_⟩
      unfold putL
      rw [if_pos rfl, le]
      exact hx

/-! ### check_word, Page.places, Page.often of any things -/
def RetE (C : Addr) (H : Hp) (E : XK) : Prop := ∀ H', Ex H H' → E (.ref C) none H'
theorem RetE.go {C : Addr} {H H1 : Hp} {E : XK} (q : RetE C H E) (e : Ex H H1) : RetE C H1 E := fun H' x => q H' (e.trans x)
def spCkWdX (C : Addr) : Sp := fun vs H Q E => ∃ v : V, vs = [v] ∧ Th H v ∧ (wordV v = true → ∀ H', Ex H H' → Q .non H') ∧ (wordV v = false → RetE C H E)
set_option maxHeartbeats 4000000 in
theorem ok_check_wordX (T : TX K mg A FD TK CC) : FnOk P w K mg base (L2.CX P w) 2 (A 29) (FD 29) ["word"] (spCkWdX (A 3)) := by
  have G_is_word := Ax.ok_is_word (P := P) (w := w) (base := base) T
  refine T.f_check_word.okX (k := 1) sc_check_word (fun vs H Q E h => ?_) (fun cdv A' outer s H vs Q E hr h => ?_)
  · obtain ⟨v, rfl, _⟩ := h
    rfl
  · obtain ⟨v, rfl, hv, q, qe⟩ := h
    refine ⟨_, (pss_one (ps_if (pt_not (pt_val (pe_call G_is_word hr (by rfl) T.g_is_word T.f_is_word.kp T.b_is_word .nil pass0 (pa_cons (pv 0) pa_nil))))
      (pss_one (ps_raise rfl (takes_of rfl rfl rfl rfl) (pmk_own PySem.F.excBase_ValueError T.x_NoWord T.k_NoWord T.kc_NoWord (raises_own T.br_NoWord T.ty_NoWord) rfl)))
      pss_nil)), ?_⟩
    refine ⟨v, rfl, v, rfl, hv, fun H1 e1 => ⟨_, rfl, ?_⟩⟩
    cases hb : wordV v with
    | false => exact qe hb H1 e1
    | true => exact q hb H1 e1
/-- where w stands in xs, counted from k -/
def plc (w : Str) : Nat → List Str → List Nat
  | _, [] => []
  | k, x :: r => if x = w then k :: plc w (k + 1) r else plc w (k + 1) r
theorem plc_snoc (w x : Str) : ∀ (xs : List Str) (k : Nat), plc w k (xs ++ [x]) = plc w k xs ++ (if x = w then [k + xs.length] else [])
  | [], k => by
    show (if x = w then [k] else []) = [] ++ _
    rw [List.nil_append]
    rfl
  | y :: r, k => by
    rw [List.cons_append, plc, plc, plc_snoc w x r (k + 1), List.length_cons, show k + 1 + r.length = k + (r.length + 1) by omega]
    split
    · rw [List.cons_append]
    · rfl
theorem plc_len (w : Str) : ∀ (xs : List Str) (k : Nat), (plc w k xs).length ≤ xs.length
  | [], _ => Nat.le_refl _
  | y :: r, k => by
    have := plc_len w r (k + 1)
    rw [plc]
    split
    · rw [List.length_cons, List.length_cons]
      omega
    · rw [List.length_cons]
      omega
abbrev nV (n : Nat) : V := .int (n : Int)

/-! ### the entries of a word, of pages by slots -/
theorem plc_mem {w : Str} : ∀ {xs : List Str} {k n : Nat}, n ∈ plc w k xs → k ≤ n ∧ xs[n - k]? = some w
  | [], _, _, h => by cases h
  | x :: r, k, n, h => by
    rw [plc] at h
    split at h
    · rename_i e
      rcases List.mem_cons.mp h with rfl | h
      · exact ⟨Nat.le_refl _, by rw [Nat.sub_self, ← e]; rfl⟩
      · obtain ⟨h1, h2⟩ := plc_mem h
        refine ⟨by omega, ?_⟩
        rw [show n - k = (n - (k + 1)) + 1 by omega]
        exact h2
    · obtain ⟨h1, h2⟩ := plc_mem h
      refine ⟨by omega, ?_⟩
      rw [show n - k = (n - (k + 1)) + 1 by omega]
      exact h2
theorem mem_plc {w : Str} : ∀ {xs : List Str} {k i : Nat}, xs[i]? = some w → k + i ∈ plc w k xs
  | [], _, _, h => by cases h
  | x :: r, k, 0, h => by
    rw [plc, if_pos (Option.some.inj h)]
    exact List.mem_cons_self ..
  | x :: r, k, i + 1, h => by
    have := mem_plc (k := k + 1) (show r[i]? = some w from h)
    rw [show k + (i + 1) = k + 1 + i by omega, plc]
    split
    · exact List.mem_cons_of_mem _ this
    · exact this
theorem plc_ne {w : Str} {xs : List Str} : plc w 0 xs ≠ [] ↔ w ∈ xs := by
  constructor
  · intro h
    obtain ⟨n, hn⟩ := List.exists_mem_of_ne_nil _ h
    exact List.mem_of_getElem? (plc_mem hn).2
  · intro h e
    obtain ⟨i, hi⟩ := List.mem_iff_getElem?.mp h
    have := mem_plc (k := 0) hi
    rw [e] at this
    cases this
theorem plc_pair (w : Str) : ∀ (xs : List Str) (k : Nat), (plc w k xs).Pairwise (· < ·)
  | [], _ => List.Pairwise.nil
  | x :: r, k => by
    rw [plc]
    split
    · exact List.pairwise_cons.mpr ⟨fun y hy => by have := (plc_mem hy).1; omega, plc_pair w r (k + 1)⟩
    · exact plc_pair w r (k + 1)
theorem ris_of {l : List Nat} (h : l.Pairwise (· < ·)) : Ris l := fun i x g => by
  cases i with
  | zero =>
    show (-1 : Int) < (x : Int)
    omega
  | succ i =>
    have hi := (List.getElem?_eq_some_iff.mp g)
    obtain ⟨h2, h3⟩ := hi
    have h1 : i < l.length := by omega
    have := List.pairwise_iff_getElem.mp h i (i + 1) h1 h2 (by omega)
    show ((l.getD i 0 : Nat) : Int) < (x : Int)
    rw [getD_at (List.getElem?_eq_getElem h1), ← h3]
    omega
def ents (w : Str) : Nat → List (List Str) → List En
  | _, [] => []
  | k, ws :: r => (if plc w 0 ws = [] then [] else [(k, plc w 0 ws)]) ++ ents w (k + 1) r
theorem ents_snoc (w : Str) (ws : List Str) : ∀ (ps : List (List Str)) (k : Nat), ents w k (ps ++ [ws]) = ents w k ps ++ (if plc w 0 ws = [] then [] else [(k + ps.length, plc w 0 ws)])
  | [], k => by
    show (if plc w 0 ws = [] then [] else [(k, plc w 0 ws)]) ++ [] = [] ++ _
    rw [List.append_nil, List.nil_append]
    rfl
  | p :: r, k => by
    rw [List.cons_append, ents, ents, ents_snoc w ws r (k + 1), List.length_cons, show k + 1 + r.length = k + (r.length + 1) by omega, List.append_assoc]
theorem ents_mem {w : Str} : ∀ {ps : List (List Str)} {k : Nat} {e : En}, e ∈ ents w k ps → k ≤ e.1 ∧ ∃ ws, ps[e.1 - k]? = some ws ∧ e.2 = plc w 0 ws ∧ e.2 ≠ []
  | [], _, _, h => by cases h
  | p :: r, k, e, h => by
    rw [ents] at h
    rcases List.mem_append.mp h with h | h
    · split at h
      · cases h
      · rename_i ne
        rw [List.mem_singleton.mp h]
        exact ⟨Nat.le_refl _, p, by rw [Nat.sub_self]; rfl, rfl, ne⟩
    · obtain ⟨h1, ws, h2, h3⟩ := ents_mem h
      refine ⟨by omega, ws, ?_, h3⟩
      rw [show e.1 - k = (e.1 - (k + 1)) + 1 by omega]
      exact h2
theorem mem_ents {w : Str} : ∀ {ps : List (List Str)} {k i : Nat} {ws : List Str}, ps[i]? = some ws → w ∈ ws → (k + i, plc w 0 ws) ∈ ents w k ps
  | [], _, _, _, h, _ => by cases h
  | p :: r, k, 0, ws, h, hw => by
    cases h
    rw [ents, if_neg (plc_ne.mpr hw)]
    exact List.mem_append_left _ (List.mem_cons_self ..)
  | p :: r, k, i + 1, ws, h, hw => by
    rw [ents, show k + (i + 1) = k + 1 + i by omega]
    exact List.mem_append_right _ (mem_ents h hw)
theorem ents_ne {w : Str} {ps : List (List Str)} : ents w 0 ps ≠ [] ↔ ∃ ws ∈ ps, w ∈ ws := by
  constructor
  · intro h
    obtain ⟨e, he⟩ := List.exists_mem_of_ne_nil _ h
    obtain ⟨_, ws, h1, h2, h3⟩ := ents_mem he
    exact ⟨ws, List.mem_of_getElem? h1, plc_ne.mp (h2 ▸ h3)⟩
  · rintro ⟨ws, h1, h2⟩ e
    obtain ⟨i, hi⟩ := List.mem_iff_getElem?.mp h1
    have := mem_ents (k := 0) hi h2
    rw [e] at this
    cases this
theorem ents_pair (w : Str) : ∀ (ps : List (List Str)) (k : Nat), (slots (ents w k ps)).Pairwise (· < ·)
  | [], _ => List.Pairwise.nil
  | p :: r, k => by
    unfold slots
    rw [ents, List.map_append]
    have ih := ents_pair w r (k + 1)
    unfold slots at ih
    split
    · rw [List.map_nil, List.nil_append]
      exact ih
    · show (k :: (ents w (k + 1) r).map (·.1)).Pairwise (· < ·)
      exact List.pairwise_cons.mpr ⟨fun y hy => by
        obtain ⟨e, he, rfl⟩ := List.mem_map.mp hy
        have := (ents_mem he).1
        omega, ih⟩
theorem ents_few (w : Str) : ∀ (ps : List (List Str)) (k : Nat), (ents w k ps).length ≤ ps.length
  | [], _ => Nat.le_refl _
  | p :: r, k => by
    have := ents_few w r (k + 1)
    rw [ents, List.length_append, List.length_cons]
    split
    · rw [List.length_nil]; omega
    · rw [List.length_singleton]; omega
/-- pages that may be sealed: their words -/
structure Pgs (pgs : List (List Str)) : Prop where
  few : pgs.length ≤ 60
  ok : ∀ ws ∈ pgs, ws.length ≤ 120 ∧ ws.all isW = true
theorem Pgs.row {pgs : List (List Str)} {w : Str} {s : Nat} (h : Pgs pgs) (hw : isW w = true) (h1 : 1 ≤ s) (h8 : s ≤ 8) : RowIs w s (ents w 0 pgs) (pgs.map List.length) := by
  have big : (120 : Nat) < 16 ^ 100 := by decide
  have el : ∀ e ∈ ents w 0 pgs, e.1 < pgs.length ∧ ∃ ws, pgs[e.1]? = some ws ∧ e.2 = plc w 0 ws ∧ e.2 ≠ [] := fun e he => by
    obtain ⟨_, ws, q1, q2, q3⟩ := ents_mem he
    rw [Nat.sub_zero] at q1
    exact ⟨(List.getElem?_eq_some_iff.mp q1).1, ws, q1, q2, q3⟩
  have pl : ∀ (ws : List Str) (n : Nat), n ∈ plc w 0 ws → n < ws.length := fun ws n hn => by
    have := (plc_mem hn).2
    rw [Nat.sub_zero] at this
    exact (List.getElem?_eq_some_iff.mp this).1
  refine ⟨hw, h1, h8, ⟨fun e he => ?_, ris_of (ents_pair w pgs 0), Nat.le_trans (ents_few w pgs 0) h.few⟩, ⟨by rw [List.length_map]; exact h.few, fun n hn => ?_, fun e he => ?_⟩⟩
  · obtain ⟨l1, ws, q1, q2, q3⟩ := el e he
    obtain ⟨w1, _⟩ := h.ok ws (List.mem_of_getElem? q1)
    have hf := h.few
    refine ⟨by rw [q2]; exact ris_of (plc_pair w ws 0), by cases he2 : e.2 with | nil => exact absurd he2 q3 | cons a b => rw [List.length_cons]; omega, by rw [q2]; exact Nat.le_trans (plc_len w ws 0) w1, by omega, fun n hn => ?_⟩
    rw [q2] at hn
    have := pl ws n hn
    omega
  · obtain ⟨ws, hws, rfl⟩ := List.mem_map.mp hn
    exact (h.ok ws hws).1
  · obtain ⟨l1, ws, q1, q2, q3⟩ := el e he
    refine ⟨by rw [List.length_map]; exact l1, fun n hn => ?_⟩
    rw [q2] at hn
    have g : (pgs.map List.length)[e.1]? = some ws.length := by rw [List.getElem?_map, q1]; rfl
    rw [getD_at g]
    exact pl ws n hn

/-! ### lists of pages; check_pages, places_by_word -/
abbrev Pg := Int × List Str
def PagesAt (C : Addr) (H : Hp) (xs : List V) (ps : List Pg) : Prop := xs.length = ps.length ∧ ∀ (i : Nat) (v : V), xs[i]? = some v → ∃ (p : Addr) (g : Pg), v = .ref p ∧ ps[i]? = some g ∧ PageAt C H p g.1 g.2
theorem PagesAt.ex {C : Addr} {H H' : Hp} {xs : List V} {ps : List Pg} (h : PagesAt C H xs ps) (e : Ex H H') : PagesAt C H' xs ps := ⟨h.1, fun i v g => by
  obtain ⟨p, q, h1, h2, h3⟩ := h.2 i v g
  exact ⟨p, q, h1, h2, h3.ex e⟩⟩
def spChkPg (C : Addr) : Sp := fun vs H Q _ => ∃ (l : Addr) (xs : List V) (ps : List Pg), vs = [.ref l, .int 1, .int 60] ∧ H l = some (.lst xs) ∧ PagesAt C H xs ps ∧ 1 ≤ ps.length ∧ ps.length ≤ 60 ∧ (ps.map (·.1)).Nodup ∧ ∀ H', Ex H H' → Q .non H'
set_option maxHeartbeats 4000000 in
theorem ok_check_pages (T : TX K mg A FD TK CC) : FnOk P w K mg base CX0 1 (A 36) (FD 36) ["pages", "least", "most"] (spChkPg (A 34)) := by
  refine T.f_check_pages.ok (k := 0) sc_check_pages (fun vs H Q E h => ?_) (fun cdv A' outer s H vs Q E hr h => ?_)
  · obtain ⟨l, xs, ps, rfl, _⟩ := h
    rfl
  · obtain ⟨l, xs, ps, rfl, hl, hP, l1, l60, nd, q⟩ := h
    refine ⟨_, (pss_cons (ps_if (PW.pt (pw_or (pt_not (pt_val (pe_callB (isiK (K := K) rfl) (by rfl) T.m_isinstance (by decide +kernel) (pa_cons (pv 0) (pa_cons (pe_bltn (v := .ty "list") (by rfl) T.m_list (by decide +kernel) rfl) pa_nil))))) (pw_or1 (pt_not (pt_chain op_le op_le (pv 1) (pe_callB (lenK (K := K) rfl) (by rfl) T.m_len (by decide +kernel) (pa_cons (pv 0) pa_nil)) (pv 2))))))
      (pss_one ps_never)
      pss_nil)
      (pss_cons (ps_set (i := 3) sc_check_pages.nd rfl (.inl rfl) (pe_callTy0 cr_set0 (by rfl) T.m_set (by decide +kernel)))
      (pss_one (ps_for PassesOwn.never rfl (pi_enum (by rfl) T.m_enumerate (pa_cons (pv 0) pa_nil)) (pg_tup rfl (pgs_cons (pg_name (i := 4) sc_check_pages.nd rfl (.inl rfl)) (pgs_cons (pg_name (i := 5) sc_check_pages.nd rfl (.inl rfl)) pgs_nil)))
      (pss_cons (ps_if (PW.pt (pw_or (pt_not (pt_val (pe_callB (isiK (K := K) rfl) (by rfl) T.m_isinstance (by decide +kernel) (pa_cons (pv 5) (pa_cons (pe_glob (v := .ref (A 34)) (by rfl) T.k_Page rfl) pa_nil))))) (pw_or1 (pt_cmpR or_sin (fldK (K := K) rfl (pv 5) rfl) (pv 3) (by rfl)))))
      (pss_one ps_never)
      pss_nil)
      (pss_one (ps_expr (pe_sadd (pv 3) (pa_cons (fldK (K := K) rfl (pv 5) rfl) pa_nil))))))))), ?_⟩
    refine ⟨.ref l, rfl, .ref l, .ty "list", .type "list", .type "list", true, rfl, .ty _, .base (.lst hl), kit_ty (by decide +kernel), ?_⟩
    refine ⟨true, rfl, iteF ?_⟩
    have xl : xs.length = ps.length := hP.1
    refine ⟨.int 1, rfl, .ref l, rfl, l, _, rfl, .inl (SqL.of hl), 1, (xs.length : Int), rfl, rfl, true, congrArg V.bl (decide_eq_true (by omega)), iteT ⟨.int 60, rfl, (xs.length : Int), 60, rfl, rfl, true, congrArg V.bl (decide_eq_true (by omega)), iteF ?_⟩⟩
    refine ⟨rfl, fun sa nsa => ?_⟩
    have e1 := Ex.new (o := SetO w sa (fun _ => false) 0) nsa
    have hs1 := upd_same (H := H) (a := sa) (o := SetO w sa (fun _ => false) 0)
    refine ⟨.ref l, rfl, l, _, rfl, SqL.of (e1 _ _ hl), ?_⟩
    refine for_it (walk_enum (K := K) (a := l) (xs := xs)) (fun i σ' H' => (∃ o1 o2, σ' = [some (.ref l), some (.int 1), some (.int 60), some (.ref sa), o1, o2]) ∧ Ex H H' ∧ ∃ (S : Int → Bool) (m : Nat), H' sa = some (SetO w sa S m) ∧ m ≤ i ∧ ∀ k, S k = true ↔ k ∈ (ps.take i).map (·.1)) ⟨⟨none, none, rfl⟩, e1, _, _, hs1, Nat.le_refl _, fun k => ⟨fun h => (by cases h), fun h => (by cases h)⟩⟩ (fun i σ' H' _ p => SqL.of (p.2.1 _ _ hl)) (fun i x σ' H1 H2 hi p y => ?_) (fun σ' H1 p => q _ p.2.1)
    obtain ⟨⟨o1, o2, rfl⟩, x1, S, m, hs, mi, hS⟩ := p
    obtain ⟨Tt, u1, u2, rfl, nT, rfl, g1, g2⟩ := y
    cases g1
    obtain ⟨pa, g, rfl, gg, hg⟩ := hP.2 i u2 g2
    have eT := Ex.new (o := .tup [V.int (i : Nat), .ref pa]) nT
    have hg2 := hg.ex (x1.trans eT)
    have hs2 := eT _ _ hs
    have x2 := x1.trans eT
    refine ⟨Tt, _, rfl, SqT.of upd_same, rfl, _, _, rfl, _, _, rfl, rfl, ?_⟩
    generalize (upd H1 Tt (.tup [V.int (i : Nat), .ref pa])) = H3 at hg2 hs2 x2 ⊢
    obtain ⟨dx, t, hp, _, _, _⟩ := hg2
    refine ⟨.ref pa, rfl, .ref pa, .ref (A 34), _, .ref (A 34), true, rfl, .own _, .base (.ins hp T.cl_Page T.ciP T.cs T.ct T.moP), T.kp, true, rfl, iteF ?_⟩
    have il : i < ps.length := (List.getElem?_eq_some_iff.mp gg).1
    have nin : S g.1 = false := by
      cases hsg : S g.1 with
      | false => rfl
      | true =>
        obtain ⟨g', hg', e'⟩ := List.mem_map.mp ((hS g.1).mp hsg)
        obtain ⟨j, hj⟩ := List.mem_iff_getElem?.mp hg'
        have jl := (List.getElem?_eq_some_iff.mp hj).1
        rw [List.length_take] at jl
        rw [List.getElem?_take, if_pos (by omega)] at hj
        have a1 : (ps.map (·.1))[j]? = some g.1 := by rw [List.getElem?_map, hj]; exact congrArg some e'
        have a2 : (ps.map (·.1))[i]? = some g.1 := by rw [List.getElem?_map, gg]; rfl
        have := (List.getElem?_inj (by rw [List.length_map]; omega) nd).mp (a1.trans a2.symm)
        omega
    refine ⟨.ref pa, rfl, pa, A 34, dx, _, .int g.1, rfl, hp, T.cl_Page, T.n_Page_number, rfl, .ref sa, rfl, g.1, sa, S, m, rfl, rfl, hs2, false, congrArg V.bl nin, iteF ?_⟩
    refine ⟨.ref sa, rfl, ⟨sa, S, m, rfl, hs2⟩, .ref pa, rfl, pa, A 34, dx, _, .int g.1, rfl, hp, T.cl_Page, T.n_Page_number, rfl, sa, g.1, S, m, rfl, rfl, hs2, by show _ < 4096; omega, ⟨_, _, rfl⟩, Ex.mut x2 nsa, _, _, upd_same, ?_, fun k => ?_⟩
    · rw [nin, if_neg (by decide)]
      omega
    · rw [List.take_add_one, gg, List.map_append, List.mem_append, ← hS k, Bool.or_eq_true, decide_eq_true_eq]
      simp
/-- a dict of lists just made -/
theorem DL.nil {α : Type} {P : Hp → List V → List α → Prop} {H0 H : Hp} {d : Addr} (e : Ex H0 H) (nd : H0 d = none) (hd : H d = some (.dK [])) : DL P H0 H d [] (fun _ => []) :=
  ⟨e, nd, hd, fun k => ⟨fun h => (by cases h), fun h => absurd rfl h⟩, List.nodup_nil, List.nodup_nil, fun p h => (by cases h), fun p h => (by cases h)⟩
theorem DL.weak {α : Type} {P : Hp → List V → List α → Prop} {H0 H1 H : Hp} {d : Addr} {kas : List (Str × Addr)} {L : Str → List α} (h : DL P H0 H d kas L) (e : Ex H1 H0) : DL P H1 H d kas L :=
  ⟨e.trans h.ex, fresh_back e h.nd, h.dk, h.keys, h.one, h.as, fun p hp => ⟨fresh_back e (h.new p hp).1, (h.new p hp).2⟩, h.at_⟩
theorem DL.eq {α : Type} {P : Hp → List V → List α → Prop} {H0 H : Hp} {d : Addr} {kas : List (Str × Addr)} {L M : Str → List α} (h : DL P H0 H d kas L) (e : ∀ k, L k = M k) : DL P H0 H d kas M := (funext e : L = M) ▸ h
def PN : Hp → List V → List Nat → Prop := fun _ xs l => xs = l.map nV
theorem tupPN : TupP PN := fun _ _ _ _ _ h => h
def spPbw (C : Addr) : Sp := fun vs H Q _ => ∃ (p : Addr) (n : Int) (ws : List Str), vs = [.ref p] ∧ PageAt C H p n ws ∧ ∀ (d : Addr) (kas : List (Str × Addr)) (H' : Hp), kas.length ≤ ws.length → DL PN H H' d kas (fun k => plc k 0 ws) → Q (.ref d) H'
set_option maxHeartbeats 4000000 in
theorem ok_pbw (T : TX K mg A FD TK CC) : FnOk P w K mg base CX0 2 (A 71) (FD 71) ["page"] (spPbw (A 34)) := by
  have G_Page_words := ok_p_words (P := P) (w := w) (base := base) T
  refine T.f_places_by_word.ok (k := 1) sc_places_by_word (fun vs H Q E h => ?_) (fun cdv A' outer s H vs Q E hr h => ?_)
  · obtain ⟨p, n, ws, rfl, _⟩ := h
    rfl
  · obtain ⟨p, n, ws, rfl, hP, q⟩ := h
    obtain ⟨dx, t, h1, h2, h3, h4⟩ := id hP
    refine ⟨_, (pss_cons (ps_set (i := 1) sc_places_by_word.nd rfl (.inl rfl) pe_dnewK)
      (pss_cons (ps_for PassesOwn.never rfl (pi_enum (by rfl) T.m_enumerate (pa_cons (pe_meth0 (pv 0) T.cl_Page T.M_Page_words G_Page_words hr T.b_Page_words .nil pass0) pa_nil)) (pg_tup rfl (pgs_cons (pg_name (i := 2) sc_places_by_word.nd rfl (.inl rfl)) (pgs_cons (pg_name (i := 3) sc_places_by_word.nd rfl (.inl rfl)) pgs_nil)))
      (pss_one (ps_expr (pe_bm PySem.F.plainAttrs_list PySem.F.slot_list_append PySem.F.type_list_append mt_append (pe_dsetd (pv 1) (pv 3) (pe_lst pa_nil) ⟨by rfl, by rfl, by rfl, by rfl⟩) (pa_cons (pv 2) pa_nil)))))
      (pss_one (ps_ret (pv 1))))), ?_⟩
    refine fun d nd => ?_
    have e1 := Ex.new (o := .dK []) nd
    have hd1 := upd_same (H := H) (a := d) (o := .dK [])
    generalize (upd H d (.dK [])) = H1 at e1 hd1 ⊢
    refine ⟨.ref p, rfl, p, dx, _, rfl, e1 _ _ h1, rfl, p, n, ws, rfl, hP.ex e1, fun D H2 nD e2 hD => ?_⟩
    refine ⟨D, _, rfl, SqL.of hD, ?_⟩
    have nDd : D ≠ d := (ne_of_none hd1 nD).symm
    have start : DL PN (upd H D (.lst (ws.map V.str))) H2 d [] (fun _ => []) := by
      refine DL.nil (fun b o g => ?_) (by rw [upd_ne nDd.symm]; exact nd) (e2 _ _ hd1)
      by_cases z : b = D
      · rw [z, upd_same] at g
        cases g
        rw [z]
        exact hD
      · rw [upd_ne z] at g
        exact e2 _ _ (e1 _ _ g)
    have n0 : H D = none := fresh_back e1 nD
    have eH0 : Ex H (upd H D (.lst (ws.map V.str))) := Ex.new n0
    have hD0 := upd_same (H := H) (a := D) (o := .lst (ws.map V.str))
    generalize (upd H D (.lst (ws.map V.str))) = H0 at start eH0 hD0
    refine for_it (walk_enum (K := K) (a := D) (xs := ws.map V.str)) (fun i σ' H' => (∃ o1 o2, σ' = [some (.ref p), some (.ref d), o1, o2]) ∧ ∃ kas, DL PN H0 H' d kas (fun k => plc k 0 (ws.take i)) ∧ kas.length ≤ i) ⟨⟨none, none, rfl⟩, [], start, Nat.zero_le _⟩ (fun i σ' H' _ p => ?_) (fun i x σ' H1 H2 hi p y => ?_) (fun σ' H1 p => ?_)
    · obtain ⟨_, kas, hk, _⟩ := p
      exact SqL.of (hk.ex _ _ hD0)
    · obtain ⟨⟨o1, o2, rfl⟩, kas, hk, kl⟩ := p
      obtain ⟨Tt, u1, u2, rfl, nT, rfl, g1, g2⟩ := y
      cases g1
      obtain ⟨w0, gw, rfl⟩ : ∃ w0, ws[i]? = some w0 ∧ u2 = .str w0 := by
        have g2 : (ws.map V.str)[i]? = some u2 := g2
        rw [List.getElem?_map] at g2
        cases hw : ws[i]? with
        | none => rw [hw] at g2; cases g2
        | some w0 => rw [hw] at g2; exact ⟨w0, rfl, (Option.some.inj g2).symm⟩
      have il : i < ws.length := (List.getElem?_eq_some_iff.mp gw).1
      have eT := Ex.new (o := .tup [V.int (i : Nat), .str w0]) nT
      have hk2 := hk.ext tupPN eT
      have st : ∀ k, putL (fun k => plc k 0 (ws.take i)) w0 i k = plc k 0 (ws.take (i + 1)) := fun k => by
        rw [List.take_add_one, gw]
        show _ = plc k 0 (ws.take i ++ [w0])
        rw [plc_snoc, List.length_take, Nat.min_eq_left (by omega), Nat.zero_add]
        unfold putL
        by_cases z : k = w0
        · rw [if_pos z, if_pos z.symm]
        · rw [if_neg z, if_neg (fun h => z h.symm), List.append_nil]
      refine ⟨Tt, _, rfl, SqT.of upd_same, rfl, _, _, rfl, _, _, rfl, rfl, ?_⟩
      generalize (upd H1 Tt (.tup [V.int (i : Nat), .str w0])) = H3 at hk2 ⊢
      refine ⟨.ref d, rfl, d, rfl, .inl ⟨_, .inl hk2.dk⟩, .str w0, rfl, by show 0 ≤ sizeLine; decide, fun nl nnl => ?_⟩
      have e4 := Ex.new (o := .lst []) nnl
      have hk4 := hk2.ext tupPN e4
      refine ⟨DLk kas, Sum.inr w0, hk4.dk, rfl, by unfold DLk; rw [List.length_map]; exact sz_lt (by omega), fun v hv => ?_, fun hv => ?_⟩
      · obtain ⟨a, xs, rfl, ha, hx, _, step⟩ := hk4.there tupPN hv
        have hx : xs = (plc w0 0 (ws.take i)).map nV := hx
        refine ⟨.inl ⟨rfl, _, SqL.of ha⟩, .int (i : Nat), rfl, a, xs, .int (i : Nat), rfl, rfl, ha, ?_, ⟨_, _, rfl⟩, kas, (step _ (.int (i : Nat)) i (fun _ _ h => h) (by unfold PN; rw [hx, List.map_append]; rfl)).eq st, by omega⟩
        have := plc_len w0 (ws.take i) 0
        rw [List.length_take] at this
        rw [hx, List.length_map]
        exact sz_lt (by omega)
      · obtain ⟨l0, step⟩ := hk2.miss tupPN hv nnl
        have hn := upd_ne (H := upd H3 nl (.lst [])) (a := d) (b := nl) (o := .dK (putK (DLk kas) (Sum.inr w0) (.ref nl))) (ne_of_none hk2.dk nnl).symm
        rw [upd_same] at hn
        refine ⟨.inl ⟨rfl, _, SqL.of hn⟩, .int (i : Nat), rfl, nl, [], .int (i : Nat), rfl, rfl, hn, by show 0 < sizeLine; decide, ⟨_, _, rfl⟩, _, (step _ (.int (i : Nat)) i (fun _ _ h => h) (by unfold PN; rfl)).eq st, by rw [List.length_append]; show _ + 1 ≤ _; omega⟩
    · obtain ⟨⟨o1, o2, rfl⟩, kas, hk, kl⟩ := p
      rw [List.length_map] at kl
      rw [List.length_map, List.take_length] at hk
      exact ⟨.ref d, rfl, q d kas _ kl (hk.weak eH0)⟩

/-- another object is changed -/
theorem DL.other {α : Type} {P : Hp → List V → List α → Prop} {H0 H : Hp} {d b : Addr} {o u : HO} {kas : List (Str × Addr)} {L : Str → List α} (hP : TupP P) (h : DL P H0 H d kas L) (hb : H b = some u) (nt : ∀ zs, u ≠ .tup zs) (n0 : H0 b = none) (nd : b ≠ d) (na : ∀ p ∈ kas, p.2 ≠ b) : DL P H0 (upd H b o) d kas L :=
  ⟨Ex.mut h.ex n0, h.nd, by rw [upd_ne nd.symm]; exact h.dk, h.keys, h.one, h.as, h.new, fun p hp => by
    obtain ⟨xs, h1, h2⟩ := h.at_ p hp
    exact ⟨xs, by rw [upd_ne (na p hp)]; exact h1, hP _ _ _ _ (fun c zs z => by rw [upd_ne (fun e => nt zs (by rw [e, hb] at z; exact Option.some.inj z))]; exact z) h2⟩⟩
/-- all but the dict and its lists -/
def hideD (H : Hp) (d : Addr) (kas : List (Str × Addr)) : Hp := fun b => open Classical in if b = d ∨ b ∈ kas.map (·.2) then none else H b
theorem hideD_at {H : Hp} {d b : Addr} {kas : List (Str × Addr)} (h1 : b ≠ d) (h2 : ∀ p ∈ kas, p.2 ≠ b) : hideD H d kas b = H b := by
  unfold hideD
  rw [if_neg]
  rintro (z | z)
  · exact h1 z
  · obtain ⟨p, hp, e⟩ := List.mem_map.mp z
    exact h2 p hp e
theorem DL.hide {α : Type} {P : Hp → List V → List α → Prop} {H0 H : Hp} {d : Addr} {kas : List (Str × Addr)} {L : Str → List α} (h : DL P H0 H d kas L) : DL P (hideD H d kas) H d kas L :=
  ⟨fun b o g => by
    unfold hideD at g
    split at g
    · cases g
    · exact g, by unfold hideD; rw [if_pos (.inl rfl)], h.dk, h.keys, h.one, h.as, fun p hp => ⟨by unfold hideD; rw [if_pos (.inr (List.mem_map.mpr ⟨p, hp, rfl⟩))], (h.new p hp).2⟩, h.at_⟩
theorem DL.under {α : Type} {P : Hp → List V → List α → Prop} {H0 H : Hp} {d : Addr} {kas : List (Str × Addr)} {L : Str → List α} (h : DL P H0 H d kas L) : Ex H0 (hideD H d kas) := fun b o g => by
  rw [hideD_at (ne_of_none g h.nd) (fun p hp e => by rw [← e, (h.new p hp).1] at g; cases g)]
  exact h.ex _ _ g

/-! ### rows_of -/
theorem dc_it {J : It} {N : Nat} {G : Hp → Prop} {Y : Nat → Hp → V → Hp → Prop} (wk : Walk J N G Y) {g : TG} {tt : TT} {tk tv : TE} {vs : List Nat} {σ : L2.St} {H1 : Hp} {D : Addr} {Qd : Hp → Prop} (Pv : Nat → Hp → Prop) (h0 : Pv 0 (upd H1 D (.dK []))) (hG : ∀ i H, i ≤ N → Pv i H → G H)
    (hs : ∀ i x H H', i < N → Pv i H → Y i H x H' → g x (wipe σ vs) H' fun σ2 H2 => wipe σ2 vs = wipe σ vs ∧ tt σ2 H2 fun b H3 =>
      if b = true then tk σ2 H3 fun y H4 => tv σ2 H4 fun z H5 => ∃ kvs k, y = kV k ∧ H5 D = some (.dK kvs) ∧ kvs.length < sizeLine ∧ Pv (i + 1) (upd H5 D (.dK (putK kvs k z))) else Pv (i + 1) H3) (hd : ∀ H, Pv N H → Qd H) :
    ∃ W : Nat → Nat → Hp → Prop, (∃ m, W 0 m (upd H1 D (.dK []))) ∧ ∀ i m H, W i m H →
      (J.stop i H ∧ Qd H) ∨ (J.go i H ∧ ∃ Nx : Hp → Prop, (∀ H', Nx H' → ∃ m', m' < m ∧ W (i + 1) m' H') ∧ ∀ x H', J.yld i H x H' → g x (wipe σ vs) H' fun σ2 H2 => wipe σ2 vs = wipe σ vs ∧ tt σ2 H2 fun b H3 =>
        if b = true then tk σ2 H3 fun y H4 => tv σ2 H4 fun z H5 => ∃ kvs k, y = kV k ∧ H5 D = some (.dK kvs) ∧ kvs.length < sizeLine ∧ Nx (upd H5 D (.dK (putK kvs k z))) else Nx H3) := by
  refine ⟨fun i m H => m + i = N ∧ Pv i H, ⟨N, rfl, h0⟩, fun i m H z => ?_⟩
  obtain ⟨hm, p⟩ := z
  have gi := hG i H (by omega) p
  rcases Nat.eq_zero_or_pos m with h | h
  · have hi : i = N := by omega
    subst hi
    exact .inl ⟨wk.stops H gi, hd H p⟩
  · have hi : i < N := by omega
    exact .inr ⟨wk.goes i H hi gi, Pv (i + 1), fun H' p' => ⟨m - 1, by omega, by omega, p'⟩, fun x H' y => hs i x H H' hi p (wk.yields i H x H' hi gi y)⟩
/-- at d: for each of the words its places on a page of the words pw -/
def PE : Hp → List V → List En → Prop := fun H xs l => EnsA H xs l
theorem tupPE : TupP PE := fun _ _ _ _ k h => EnsA.mono h k
theorem RowAt.updx {CR CB D : Addr} {H : Hp} {r : Addr} {z : Str} {s : Nat} {es : List En} {ls : List Nat} {o u : HO} (h : RowAt CR CB H r z s es ls) (hD : H D = some u) (ni : ∀ C dx fs, u ≠ .ins C dx fs) (nt : ∀ zs, u ≠ .tup zs) : RowAt CR CB (upd H D o) r z s es ls := by
  obtain ⟨dx, t, bs, h1, h2, h3⟩ := h
  exact ⟨dx, t, bs, by rw [upd_ne (ne_of h1 hD (ni _ _ _).symm)]; exact h1, by rw [upd_ne (ne_of h2 hD (nt _).symm)]; exact h2, ⟨h3.1, fun i b g => by
    obtain ⟨db, hb⟩ := h3.2 i b g
    exact ⟨db, by rw [upd_ne (ne_of hb hD (ni _ _ _).symm)]; exact hb⟩⟩⟩
structure RowsAt (CR CB : Addr) (H : Hp) (kas : List (Str × Addr)) (s : Nat) (pgs : List (List Str)) : Prop where
  one : (kas.map (·.1)).Nodup
  keys : ∀ k, k ∈ kas.map (·.1) ↔ ents k 0 pgs ≠ []
  row : ∀ p ∈ kas, RowAt CR CB H p.2 p.1 s (ents p.1 0 pgs) (pgs.map List.length)
def spRowsOf (C CR CB : Addr) : Sp := fun vs H Q _ => ∃ (l : Addr) (xs : List V) (ps : List Pg) (s : Nat), vs = [.ref l, .int (s : Nat)] ∧ H l = some (.lst xs) ∧ PagesAt C H xs ps ∧ Pgs (ps.map (·.2)) ∧ 1 ≤ s ∧ s ≤ 8 ∧
  ∀ (d : Addr) (kas : List (Str × Addr)) (H' : Hp), Ex H H' → H d = none → H' d = some (.dK (DLk kas)) → RowsAt CR CB H' kas s (ps.map (·.2)) → Q (.ref d) H'
set_option maxHeartbeats 8000000 in
theorem ok_rows_of (T : TX K mg A FD TK CC) : FnOk P w K mg base CX0 11 (A 70) (FD 70) ["pages", "size"] (spRowsOf (A 34) (A 59) (A 58)) := by
  have G_Page_len := (ok_p_len (P := P) (w := w) (base := base) T).mono (show 1 ≤ 9 by decide)
  have G_places_by_word := (ok_pbw (P := P) (w := w) (base := base) T).mono (show 2 ≤ 10 by decide)
  have G_Row := (ok_rinit (P := P) (w := w) (base := base) T).mono (show 9 ≤ 9 by decide)
  have KB3_Row := kb_row T
  refine T.f_rows_of.ok (k := 10) sc_rows_of (fun vs H Q E h => ?_) (fun cdv A' outer s H vs Q E hr h => ?_)
  · obtain ⟨l, xs, ps, s, rfl, _⟩ := h
    rfl
  · obtain ⟨l, xs, ps, sz_, rfl, hl, hP, hg, s1, s8, q⟩ := h
    refine ⟨_, (pss_cons (ps_set (i := 2) sc_rows_of.nd rfl (.inr rfl) (pe_lc (own := [("page", 5)])  rfl sc_rows_of.nd (piLK (K := K) rfl (pv 0)) (blkOk_by (own := [("page", 5)]) (N := N_rows_of) (sc := defScope (topS 70)) (by decide +kernel)) (fun _ _ _ _ _ => (pg_name (i := 5) sc_rows_of.nd rfl (Or.inl rfl))) (fun _ _ _ _ _ => pts_nil) (fun _ _ _ _ _ => (pe_callB (Own.cr_lenO G_Page_len T.M_Page_len T.b_Page_len pass0 hr) (by rfl) T.m_len (by decide +kernel) (pa_cons (pv 5) pa_nil)))))
      (pss_cons (ps_set (i := 3) sc_rows_of.nd rfl (.inr rfl) pe_dnewK)
      (pss_cons (ps_for PassesOwn.never rfl (pi_enum (by rfl) T.m_enumerate (pa_cons (pv 0) pa_nil)) (pg_tup rfl (pgs_cons (pg_name (i := 4) sc_rows_of.nd rfl (.inl rfl)) (pgs_cons (pg_name (i := 5) sc_rows_of.nd rfl (.inl rfl)) pgs_nil)))
      (pss_cons (ps_set (i := 6) sc_rows_of.nd rfl (.inl rfl) (pe_call G_places_by_word hr (by rfl) T.g_places_by_word T.f_places_by_word.kp T.b_places_by_word .nil pass0 (pa_cons (pv 5) pa_nil)))
      (pss_one (ps_lock (ps_for PassesOwn.never rfl (pi_keys (pv 6)) (pg_name (i := 7) sc_rows_of.nd rfl (.inl rfl))
      (pss_one (ps_expr (pe_bm PySem.F.plainAttrs_list PySem.F.slot_list_append PySem.F.type_list_append mt_append (pe_dsetd (pv 3) (pv 7) (pe_lst pa_nil) ⟨by rfl, by rfl, by rfl, by rfl⟩) (pa_cons (pe_tup (pa_cons (pv 4) (pa_cons (pe_callTy (tupK (K := K) rfl) (by rfl) T.m_tuple (by decide +kernel) (pa_cons (pe_dget (hu_of hr) (pv 6) (pv 7) (fun _ _ => rfl)) pa_nil)) pa_nil))) pa_nil)))))))))
      (pss_one (ps_ret (pe_lock (pe_dc (own := [("word", 7)]) rfl sc_rows_of.nd (pi_keys (pv 3)) (blkOk_by (own := [("word", 7)]) (N := N_rows_of) (sc := defScope (topS 70)) (by decide +kernel)) (fun _ _ _ _ _ => (pg_name (i := 7) sc_rows_of.nd rfl (Or.inl rfl))) (fun _ _ _ _ _ => pts_nil) (fun _ _ _ _ _ => (pv 7)) (fun _ _ _ _ _ => (pe_makeK T.M_Row G_Row hr (by rfl) T.k_Row KB3_Row pass0 (pa_cons (pv 7) (pa_cons (pe_dget (hu_of hr) (pv 3) (pv 7) (fun _ _ => rfl)) (pa_cons (pv 2) pa_nil))) (pk_cons (pv 1) pk_nil)))))))))), ?_⟩
    have xl : xs.length = ps.length := hP.1
    have few := hg.few
    rw [List.length_map] at few
    refine ⟨.ref l, rfl, l, rfl, ⟨_, SqL.of hl⟩, fun D nD => ?_⟩
    refine lc_list (K := K) (xs := xs) (fun i H' => Ex H H' ∧ H' D = some (.lst (nvs ((ps.take i).map fun g => g.2.length)))) ⟨Ex.new nD, upd_same⟩ (fun i H' _ p => SqL.of (p.1 _ _ hl)) (fun i v H2 hv p => ?_) (fun H2 p => ?_)
    · obtain ⟨p1, p2⟩ := p
      obtain ⟨pa, g, rfl, gg, hpa⟩ := hP.2 i v hv
      obtain ⟨dx, t, hp, _, lw, _⟩ := id (hpa.ex p1)
      have take_nv : nvs ((ps.take (i + 1)).map fun g => g.2.length) = nvs ((ps.take i).map fun g => g.2.length) ++ [V.int (g.2.length : Int)] := by
        rw [List.take_add_one, gg, List.map_append]
        unfold nvs
        rw [List.map_append]
        rfl
      refine ⟨rfl, .ref pa, rfl, pa, dx, _, rfl, hp, pa, g.1, g.2, rfl, hpa.ex p1, (g.2.length : Int), rfl, ⟨by omega, by omega⟩, _, p2, ?_, Ex.mut p1 nD, ?_⟩
      · unfold nvs
        rw [List.length_map, List.length_map, List.length_take]
        exact sz_lt (by omega)
      · rw [upd_same, take_nv]
    obtain ⟨p1, p2⟩ := p
    rw [xl, List.take_length] at p2
    refine fun d nd => ?_
    have hd0 : DL PE H2 (upd H2 d (.dK [])) d [] (fun _ => []) := DL.mk0 nd
    generalize (upd H2 d (.dK [])) = H3 at hd0 ⊢
    refine ⟨.ref l, rfl, l, _, rfl, SqL.of (hd0.ex _ _ (p1 _ _ hl)), ?_⟩
    refine for_it (walk_enum (K := K) (a := l) (xs := xs)) (fun i σ' H' => (∃ o1 o2 o3 o4, σ' = [some (.ref l), some (.int (sz_ : Nat)), some (.ref D), some (.ref d), o1, o2, o3, o4]) ∧ ∃ kas, DL PE H2 H' d kas (fun k => ents k 0 ((ps.take i).map (·.2))) ∧ kas.length ≤ 120 * i) ⟨⟨none, none, none, none, rfl⟩, [], hd0, Nat.zero_le _⟩ (fun i σ' H' _ p => ?_) (fun i x σ' H4 H5 hi p y => ?_) (fun σ' H4 p => ?_)
    · obtain ⟨_, kas, hk, _⟩ := p
      exact SqL.of (hk.ex _ _ (p1 _ _ hl))
    · obtain ⟨⟨o1, o2, o3, o4, rfl⟩, kas, hk, kl⟩ := p
      obtain ⟨Tt, u1, u2, rfl, nT, rfl, g1, g2⟩ := y
      cases g1
      obtain ⟨pa, g, rfl, gg, hpa⟩ := hP.2 i u2 g2
      have il : i < ps.length := (List.getElem?_eq_some_iff.mp gg).1
      have eT := Ex.new (o := .tup [V.int (i : Nat), .ref pa]) nT
      have hk2 := hk.ext tupPE eT
      have hpa2 := (hpa.ex p1).ex hk2.ex
      refine ⟨Tt, _, rfl, SqT.of upd_same, rfl, _, _, rfl, _, _, rfl, rfl, ?_⟩
      generalize (upd H4 Tt (.tup [V.int (i : Nat), .ref pa])) = H6 at hk2 hpa2 ⊢
      refine ⟨.ref pa, rfl, pa, g.1, g.2, rfl, hpa2, fun dp kap H7 kpl hkp => ?_⟩
      have hk7 := hk2.ext tupPE hkp.ex
      refine ⟨dp, _, hkp.dk, trivial, fun od => ?_⟩
      have dpd : dp ≠ d := (ne_of_none hk2.dk hkp.nd).symm
      have dpa : ∀ p ∈ kas, p.2 ≠ dp := fun p hp => by
        obtain ⟨ys, y1, _⟩ := hk2.at_ p hp
        exact ne_of_none y1 hkp.nd
      have hkL := hk7.other (o := .frz od (.dK (DLk kap))) tupPE hkp.dk (fun zs => by intro z; cases z) (fresh_back hk2.ex hkp.nd) dpd dpa
      have hdL : (upd H7 dp (.frz od (.dK (DLk kap)))) dp = some (.frz od (.dK (DLk kap))) := upd_same
      have hlL : ∀ p ∈ kap, (upd H7 dp (.frz od (.dK (DLk kap)))) p.2 = some (.lst ((plc p.1 0 g.2).map nV)) := fun p hp => by
        obtain ⟨ys, y1, y2⟩ := hkp.at_ p hp
        rw [upd_ne (hkp.new p hp).2, y1, show ys = _ from y2]
      show tFor _ _ _ _ _ (upd H7 dp (.frz od (.dK (DLk kap))))
      generalize (upd H7 dp (.frz od (.dK (DLk kap)))) = HL at hkL hdL hlL ⊢
      have hkB := hkL.hide
      have und := hkL.under
      have fdp : hideD HL d kas dp = some (.frz od (.dK (DLk kap))) := by rw [hideD_at dpd dpa, hdL]
      have fli : ∀ p ∈ kap, hideD HL d kas p.2 = some (.lst ((plc p.1 0 g.2).map nV)) := fun p hp => by
        rw [hideD_at (ne_of_none hk2.dk (hkp.new p hp).1).symm (fun q hq => ?_), hlL p hp]
        obtain ⟨ys, y1, _⟩ := hk2.at_ q hq
        exact ne_of_none y1 (hkp.new p hp).1
      generalize hideD HL d kas = HB at hkB und fdp fli
      refine ⟨.ref dp, rfl, dp, od, rfl, .inl ⟨DLk kap, hdL, ?_⟩⟩
      have kpl2 : kap.length ≤ 120 := by have := hpa2.choose_spec.choose_spec.2.2.1; omega
      refine for_it (walk_keys (d := dp) (o := od) (kvs := DLk kap)) (fun m σ' H' => (∃ o4, σ' = [some (.ref l), some (.int (sz_ : Nat)), some (.ref D), some (.ref d), some (.int (i : Nat)), some (.ref pa), some (.ref dp), o4]) ∧ ∃ kas', DL PE HB H' d kas' (fun k => ents k 0 ((ps.take i).map (·.2)) ++ (if k ∈ (kap.take m).map (·.1) then [(i, plc k 0 g.2)] else [])) ∧ kas'.length ≤ 120 * i + m) ⟨⟨o4, rfl⟩, kas, hkB.eq (fun k => by rw [List.take_zero, List.map_nil, if_neg (by simp), List.append_nil]), kl⟩ (fun m σ' H' _ p => ?_) (fun m x σ' H' H'' hm p y => ?_) (fun σ' H' p => ?_)
      · obtain ⟨_, kas', hk', _⟩ := p
        exact hk'.ex _ _ fdp
      · obtain ⟨⟨o4', rfl⟩, kas', hk', kl'⟩ := p
        obtain ⟨rfl, kk, vv, gk, rfl⟩ := y
        obtain ⟨pp, gp, rfl, rfl⟩ : ∃ pp, kap[m]? = some pp ∧ kk = Sum.inr pp.1 ∧ vv = .ref pp.2 := by
          unfold DLk at gk
          rw [List.getElem?_map] at gk
          cases hq : kap[m]? with
          | none => rw [hq] at gk; cases gk
          | some pp =>
            rw [hq] at gk
            cases gk
            exact ⟨pp, rfl, rfl, rfl⟩
        have hpp := List.mem_of_getElem? gp
        have ml : m < kap.length := (List.getElem?_eq_some_iff.mp gp).1
        have nin : pp.1 ∉ (kap.take m).map (·.1) := fun z => by
          rw [List.map_take] at z
          obtain ⟨j, hj⟩ := List.mem_iff_getElem?.mp z
          have jl := (List.getElem?_eq_some_iff.mp hj).1
          rw [List.length_take] at jl
          rw [List.getElem?_take, if_pos (by omega)] at hj
          have a2 : (kap.map (·.1))[m]? = some pp.1 := by rw [List.getElem?_map, gp]; rfl
          have := (List.getElem?_inj (by rw [List.length_map]; omega) hkp.one).mp (hj.trans a2.symm)
          omega
        have st : ∀ k, putL (fun k => ents k 0 ((ps.take i).map (·.2)) ++ (if k ∈ (kap.take m).map (·.1) then [(i, plc k 0 g.2)] else [])) pp.1 (i, plc pp.1 0 g.2) k = ents k 0 ((ps.take i).map (·.2)) ++ (if k ∈ (kap.take (m + 1)).map (·.1) then [(i, plc k 0 g.2)] else []) := fun k => by
          unfold putL
          dsimp only
          have mem : k ∈ (kap.take (m + 1)).map (·.1) ↔ (k ∈ (kap.take m).map (·.1) ∨ k = pp.1) := by
            rw [List.take_add_one, gp, List.map_append, List.mem_append]
            simp
          by_cases z : k = pp.1
          · subst z
            rw [if_pos rfl, if_neg nin, if_pos (mem.mpr (.inr rfl)), List.append_nil]
          · rw [if_neg z]
            by_cases y : k ∈ (kap.take m).map (·.1)
            · rw [if_pos y, if_pos (mem.mpr (.inl y))]
            · rw [if_neg y, if_neg fun q => (mem.mp q).elim y z]
        have few2 : ∀ k, (ents k 0 ((ps.take i).map (·.2)) ++ (if k ∈ (kap.take m).map (·.1) then [(i, plc k 0 g.2)] else [])).length ≤ 61 := fun k => by
          have := ents_few k ((ps.take i).map (·.2)) 0
          rw [List.length_map, List.length_take] at this
          rw [List.length_append]
          split
          · rw [List.length_singleton]; omega
          · rw [List.length_nil]; omega
        refine ⟨.ref d, rfl, d, rfl, .inl ⟨_, .inl hk'.dk⟩, .str pp.1, rfl, by show 0 ≤ sizeLine; decide, fun nl nnl => ?_⟩
        have e4 := Ex.new (o := .lst []) nnl
        have hk4 := hk'.ext tupPE e4
        -- the entry
        have arg : ∀ (a : Addr) (R : List V → Hp → Prop) (HX : Hp), Ex HB HX → (∀ (t2 : Addr) (HY : Hp), Ex HX HY → EnA HY t2 (i, plc pp.1 0 g.2) → R [.ref t2] HY) →
            tCons (tTup (tCons (tVar 4) (tCons (tCB (rTupS K) (tCons (tDGet (tVar 6) (tVar 7)) tNil)) tNil))) tNil [some (.ref l), some (.int (sz_ : Nat)), some (.ref D), some (.ref d), some (.int (i : Nat)), some (.ref pa), some (.ref dp), some (.str pp.1)] HX R := fun a R HX eX qR => by
          refine ⟨.int (i : Nat), rfl, .ref dp, rfl, .str pp.1, rfl, dp, .ref pp.2, rfl, ?_, ?_⟩
          · exact .inl ⟨DLk kap, .inr pp.1, .inr ⟨od, eX _ _ fdp⟩, rfl, (dlk_of hpp hkp.one).symm⟩
          · refine ⟨pp.2, _, rfl, .inl ⟨SqL.of (eX _ _ (fli pp hpp)), fun t1 nt1 => ⟨by show 2 ≤ sizeLine; decide, fun t2 nt2 => ?_⟩⟩⟩
            refine qR t2 _ ((Ex.new nt1).trans (Ex.new nt2)) ⟨t1, upd_same, ?_⟩
            rw [upd_ne (ne_of_none upd_same nt2), upd_same]
            rfl
        refine ⟨DLk kas', Sum.inr pp.1, hk4.dk, rfl, by unfold DLk; rw [List.length_map]; exact sz_lt (by omega), fun v hv => ?_, fun hv => ?_⟩
        · obtain ⟨a, ys, rfl, ha, hx, _, step⟩ := hk4.there tupPE hv
          refine ⟨.inl ⟨rfl, _, SqL.of ha⟩, arg a _ _ hk4.ex fun t2 HY eY hE => ?_⟩
          have hx2 : EnsA HY ys _ := EnsA.mono hx fun c zs z => eY _ _ z
          refine ⟨a, ys, .ref t2, rfl, rfl, eY _ _ ha, ?_, ⟨_, rfl⟩, kas', (step HY (.ref t2) (i, plc pp.1 0 g.2) eY (EnsA.snoc hx2 hE)).eq st, by omega⟩
          have := few2 pp.1
          rw [hx2.1]
          exact sz_lt (by omega)
        · obtain ⟨l0, step⟩ := hk'.miss tupPE hv nnl
          have hn := upd_ne (H := upd H'' nl (.lst [])) (a := d) (b := nl) (o := .dK (putK (DLk kas') (Sum.inr pp.1) (.ref nl))) (ne_of_none hk'.dk nnl).symm
          rw [upd_same] at hn
          have eX : Ex HB (upd (upd H'' nl (.lst [])) d (.dK (putK (DLk kas') (Sum.inr pp.1) (.ref nl)))) := Ex.mut hk4.ex hk'.nd
          refine ⟨.inl ⟨rfl, _, SqL.of hn⟩, arg nl _ _ eX fun t2 HY eY hE => ?_⟩
          refine ⟨nl, [], .ref t2, rfl, rfl, eY _ _ hn, by show 0 < sizeLine; decide, ⟨_, rfl⟩, _, (step HY (.ref t2) (i, plc pp.1 0 g.2) eY ?_).eq st, by rw [List.length_append]; show _ + 1 ≤ _; omega⟩
          have e0 : EnsA HY [] [] := ⟨rfl, fun i e g => by cases g⟩
          exact EnsA.snoc e0 hE
      · obtain ⟨⟨o4', rfl⟩, kas', hk', kl'⟩ := p
        have dl : (DLk kap).length = kap.length := List.length_map ..
        rw [dl] at kl'
        rw [dl, List.take_length] at hk'
        refine ⟨hk'.ex _ _ fdp, ⟨_, _, _, _, rfl⟩, kas', ?_, by omega⟩
        have hk2' := (hk'.weak und).eq (M := fun k => ents k 0 ((ps.take (i + 1)).map (·.2))) fun k => by
          have pe : (ps.take (i + 1)).map (·.2) = (ps.take i).map (·.2) ++ [g.2] := by
            rw [List.take_add_one, gg, List.map_append]
            rfl
          rw [pe, ents_snoc, List.length_map, List.length_take, Nat.min_eq_left (by omega), Nat.zero_add]
          have kk := hkp.keys k
          by_cases z : plc k 0 g.2 = []
          · rw [if_pos z, if_neg fun q => (kk.mp q) z]
          · rw [if_neg z, if_pos (kk.mpr z)]
        refine hk2'.other tupPE (hk'.ex _ _ fdp) (fun zs => by intro z; cases z) (fresh_back hk2.ex hkp.nd) dpd fun p hp e => ?_
        have := (hk'.new p hp).1
        rw [e, fdp] at this
        cases this
    · obtain ⟨⟨o1, o2, o3, o4, rfl⟩, kas, hk, kl0⟩ := p
      rw [xl, List.take_length] at hk
      have kl : kas.length ≤ 7200 := by
        have := kl0
        rw [xl] at this
        omega
      refine ⟨d, _, hk.dk, trivial, fun od => ?_⟩
      have hdL : (upd H4 d (.frz od (.dK (DLk kas)))) d = some (.frz od (.dK (DLk kas))) := upd_same
      have oldL : ∀ b o, b ≠ d → H4 b = some o → (upd H4 d (.frz od (.dK (DLk kas)))) b = some o := fun b o nb h => by rw [upd_ne nb]; exact h
      have exL : Ex H2 (upd H4 d (.frz od (.dK (DLk kas)))) := Ex.mut hk.ex hk.nd
      have hnone : ∀ b, (upd H4 d (.frz od (.dK (DLk kas)))) b = none → H4 b = none := fun b h => by
        by_cases z : b = d
        · rw [z, upd_same] at h
          cases h
        · rw [upd_ne z] at h
          exact h
      generalize (upd H4 d (.frz od (.dK (DLk kas)))) = HL at hdL oldL exL hnone ⊢
      refine ⟨.ref d, rfl, d, od, rfl, .inl ⟨DLk kas, hdL, fun DD nDD => ?_⟩⟩
      have nDDd : DD ≠ d := (ne_of_none hdL nDD).symm
      refine dc_it (walk_keys (d := d) (o := od) (kvs := DLk kas)) (fun m H' => Ex HL H' ∧ ∃ kar : List (Str × Addr), kar.map (·.1) = (kas.take m).map (·.1) ∧ H' DD = some (.dK (DLk kar)) ∧ ∀ p ∈ kar, RowAt (A 59) (A 58) H' p.2 p.1 sz_ (ents p.1 0 (ps.map (·.2))) ((ps.map (·.2)).map List.length)) ⟨Ex.new nDD, [], rfl, upd_same, fun p h => by cases h⟩ (fun m H' _ p => p.1 _ _ hdL) (fun m x H' H'' hm p y => ?_) (fun H' p => ?_)
      · obtain ⟨eL, kar, kk1, kk2, kk3⟩ := p
        obtain ⟨rfl, kk, vv, gk, rfl⟩ := y
        obtain ⟨pp, gp, rfl, rfl⟩ : ∃ pp, kas[m]? = some pp ∧ kk = Sum.inr pp.1 ∧ vv = .ref pp.2 := by
          unfold DLk at gk
          rw [List.getElem?_map] at gk
          cases hq : kas[m]? with
          | none => rw [hq] at gk; cases gk
          | some pp =>
            rw [hq] at gk
            cases gk
            exact ⟨pp, rfl, rfl, rfl⟩
        have hpp := List.mem_of_getElem? gp
        have ml : m < kas.length := (List.getElem?_eq_some_iff.mp gp).1
        obtain ⟨ys, y1, y2⟩ := hk.at_ pp hpp
        have y1L := eL _ _ (oldL _ _ (hk.new pp hpp).2 y1)
        have y2L : EnsA H'' ys (ents pp.1 0 (ps.map (·.2))) := EnsA.mono y2 fun c zs z => eL _ _ (oldL c _ (ne_of z hk.dk (by intro z; cases z)) z)
        have hDl : H'' D = some (.lst (nvs ((ps.map (·.2)).map List.length))) := by
          have e : (ps.map (·.2)).map List.length = ps.map fun g => g.2.length := by rw [List.map_map]; rfl
          rw [e]
          exact eL _ _ (exL _ _ p2)
        obtain ⟨ws, hws, hin⟩ := ents_ne.mp ((hk.keys pp.1).mp (List.mem_map.mpr ⟨pp, hpp, rfl⟩))
        have isw : isW pp.1 = true := List.all_eq_true.mp (hg.ok ws hws).2 _ hin
        have hR := hg.row isw s1 s8
        have nin : pp.1 ∉ kar.map (·.1) := fun z => by
          rw [kk1, List.map_take] at z
          obtain ⟨j, hj⟩ := List.mem_iff_getElem?.mp z
          have jl := (List.getElem?_eq_some_iff.mp hj).1
          rw [List.length_take] at jl
          rw [List.getElem?_take, if_pos (by omega)] at hj
          have a2 : (kas.map (·.1))[m]? = some pp.1 := by rw [List.getElem?_map, gp]; rfl
          have := (List.getElem?_inj (by rw [List.length_map]; omega) hk.one).mp (hj.trans a2.symm)
          omega
        have vn : valV (DLk kar) (Sum.inr pp.1) = none := by
          cases hv : valV (DLk kar) (Sum.inr pp.1) with
          | none => rfl
          | some v =>
            obtain ⟨q, hq, e1, _⟩ := dlk_val hv
            exact absurd (List.mem_map.mpr ⟨q, hq, e1⟩) nin
        refine ⟨rfl, .str pp.1, rfl, .str pp.1, rfl, .ref d, rfl, .str pp.1, rfl, d, .ref pp.2, rfl, .inl ⟨DLk kas, .inr pp.1, .inr ⟨od, eL _ _ hdL⟩, rfl, (dlk_of hpp hk.one).symm⟩, .ref D, rfl, .int (sz_ : Nat), rfl, rfl, rfl, fun r dr nr ndr _ => ?_⟩
        refine mk_row nr ndr y1L y2L hDl hR fun H5 e5 hrow => ?_
        have k5 := e5 _ _ kk2
        refine ⟨DLk kar, Sum.inr pp.1, rfl, k5, ?_, Ex.mut (eL.trans e5) nDD, kar ++ [(pp.1, r)], ?_, ?_, fun q hq => ?_⟩
        · have := congrArg List.length kk1
          rw [List.length_map, List.length_map, List.length_take] at this
          unfold DLk
          rw [List.length_map]
          exact sz_lt (by omega)
        · rw [List.map_append, kk1, List.take_add_one, gp, List.map_append]
          rfl
        · rw [upd_same, putK_new _ vn]
          unfold DLk
          rw [List.map_append]
          rfl
        · rcases List.mem_append.mp hq with hq | hq
          · exact ((kk3 q hq).ex e5).updx k5 (fun _ _ _ => by intro z; cases z) (fun _ => by intro z; cases z)
          · rw [List.mem_singleton.mp hq]
            exact hrow.updx k5 (fun _ _ _ => by intro z; cases z) (fun _ => by intro z; cases z)
      · obtain ⟨eL, kar, kk1, kk2, kk3⟩ := p
        rw [show (DLk kas).length = kas.length from List.length_map .., List.take_length] at kk1
        have fz := eL _ _ hdL
        refine ⟨fz, q DD kar _ (Ex.mut (p1.trans (exL.trans eL)) (fresh_back p1 hk.nd)) (fresh_back p1 (fresh_back hk.ex (hnone _ nDD))) (by rw [upd_ne nDDd]; exact kk2) ⟨by rw [kk1]; exact hk.one, fun k => by rw [kk1]; exact hk.keys k, fun p hp => ?_⟩⟩
        exact (kk3 p hp).updx fz (fun _ _ _ => by intro z; cases z) (fun _ => by intro z; cases z)

/-! ### Segment(..) -/
theorem kb_check_pages (T : TX K mg A FD TK CC) : KBn K (FD 36) ["pages", "least", "most"] 1 ["least", "most"] (fun us ws => us ++ ws) (fun vs zs => vs ++ zs) := by
  obtain ⟨oc, od, kV, doc, pm, an, cdv, ct, osl, e, lk, hcd⟩ := T.f_check_pages.ex
  rw [e]
  exact ⟨fun s us ws _ l1 l2 => match us, ws, l1, l2 with | [_], [_, _], _, _ => .of_eq rfl, fun r1 r2 => r1.append r2⟩
def sortPg (ps : List Pg) : List Pg := ps.mergeSort fun a b => decide (a.1 ≤ b.1)
theorem pages_sort {C : Addr} {H : Hp} {xs : List V} {ps : List Pg} {k : V → Int} (h : PagesAt C H xs ps) (hk : ∀ (i : Nat) (v : V) (g : Pg), xs[i]? = some v → ps[i]? = some g → k v = g.1) : PagesAt C H (SrtK.byKey k xs) (sortPg ps) := by
  have zl : (xs.zip ps).length = xs.length := by rw [List.length_zip, h.1, Nat.min_self]
  have zm : ∀ z ∈ xs.zip ps, ∃ p : Addr, z.1 = .ref p ∧ PageAt C H p z.2.1 z.2.2 ∧ k z.1 = z.2.1 := fun z hz => by
    obtain ⟨i, hi⟩ := List.mem_iff_getElem?.mp hz
    rw [List.getElem?_zip_eq_some] at hi
    obtain ⟨p, g, e1, e2, e3⟩ := h.2 i z.1 hi.1
    rw [hi.2] at e2
    cases e2
    exact ⟨p, e1, e3, hk i _ _ hi.1 hi.2⟩
  have m1 : ((xs.zip ps).mergeSort fun a b => decide (a.2.1 ≤ b.2.1)).map Prod.fst = SrtK.byKey k xs := by
    have := List.map_mergeSort (f := Prod.fst) (r := fun a b : V × Pg => decide (a.2.1 ≤ b.2.1)) (s := fun x y => decide (k x ≤ k y)) (l := xs.zip ps) fun a ha b hb => by
      obtain ⟨_, _, _, e1⟩ := zm a ha
      obtain ⟨_, _, _, e2⟩ := zm b hb
      rw [e1, e2]
    rw [this]
    unfold SrtK.byKey
    rw [List.map_fst_zip (by rw [h.1]; exact Nat.le_refl _)]
  have m2 : ((xs.zip ps).mergeSort fun a b => decide (a.2.1 ≤ b.2.1)).map Prod.snd = sortPg ps := by
    have := List.map_mergeSort (f := Prod.snd) (r := fun a b : V × Pg => decide (a.2.1 ≤ b.2.1)) (s := fun x y : Pg => decide (x.1 ≤ y.1)) (l := xs.zip ps) fun a ha b hb => rfl
    rw [this]
    unfold sortPg
    rw [List.map_snd_zip (by rw [h.1]; exact Nat.le_refl _)]
  refine ⟨by rw [← m1, ← m2, List.length_map, List.length_map], fun i v g => ?_⟩
  rw [← m1, List.getElem?_map] at g
  cases hz : ((xs.zip ps).mergeSort fun a b => decide (a.2.1 ≤ b.2.1))[i]? with
  | none => rw [hz] at g; cases g
  | some z =>
    rw [hz] at g
    have g : z.1 = v := Option.some.inj g
    obtain ⟨p, e1, e2, _⟩ := zm z (List.mem_mergeSort.mp (List.mem_of_getElem? hz))
    exact ⟨p, z.2, by rw [← g, e1], by rw [← m2, List.getElem?_map, hz]; rfl, e2⟩
theorem PagesAt.exN {C : Addr} {H H' : Hp} {xs : List V} {ps : List Pg} (h : PagesAt C H xs ps) (e : LamX.ExtN H H') : PagesAt C H' xs ps := ⟨h.1, fun i v g => by
  obtain ⟨p, q, h1, h2, dx, t, h3, h4, h5⟩ := h.2 i v g
  exact ⟨p, q, h1, h2, dx, t, e _ _ h3 (by intro ps z; cases z), tup_exN e h4, h5⟩⟩
/-- the number of the page at v -/
def numAt (H : Hp) : V → Int
  | .ref p => match H p with
    | some (.ins _ _ fs) => match fs.lookup ("number" : Str) with
      | some (.int n) => n
      | _ => 0
    | _ => 0
  | _ => 0
theorem numAt_is {C : Addr} {H : Hp} {p : Addr} {n : Int} {ws : List Str} (h : PageAt C H p n ws) : numAt H (.ref p) = n := by
  obtain ⟨dx, t, h1, _⟩ := h
  simp only [numAt, h1]
  rfl
theorem sort_len (ps : List Pg) : (sortPg ps).length = ps.length := List.length_mergeSort _
theorem sort_mem {ps : List Pg} {g : Pg} : g ∈ sortPg ps ↔ g ∈ ps := List.mem_mergeSort
theorem Pgs.sort {ps : List Pg} (h : Pgs (ps.map (·.2))) : Pgs ((sortPg ps).map (·.2)) :=
  ⟨by rw [List.length_map, sort_len]; have := h.few; rwa [List.length_map] at this, fun ws hw => by
    obtain ⟨g, hg, rfl⟩ := List.mem_map.mp hw
    exact h.ok _ (List.mem_map.mpr ⟨g, sort_mem.mp hg, rfl⟩)⟩
def segF (s : Nat) (t1 t2 d : Addr) : List (Str × V) := [("size", .int (s : Nat)), ("slot_numbers", .ref t1), ("slot_lengths", .ref t2), ("rows", .ref d)]
/-- at x stands a segment of the pages ps, by slots -/
def SegD (CS CR CB : Addr) (H : Hp) (x d : Addr) (s : Nat) (ps : List Pg) : Prop := ∃ (dx t1 t2 : Addr) (kas : List (Str × Addr)), H x = some (.ins CS dx (segF s t1 t2 d)) ∧ TupIx.TpF H t1 (ps.map fun g => V.int g.1) ∧ H t2 = some (.tup (nvs (ps.map fun g => g.2.length))) ∧
  H d = some (.dK (DLk kas)) ∧ RowsAt CR CB H kas s (ps.map (·.2))
def SegAt (CS CR CB : Addr) (H : Hp) (x : Addr) (s : Nat) (ps : List Pg) : Prop := ∃ d, SegD CS CR CB H x d s ps
theorem RowsAt.ex {CR CB : Addr} {H H' : Hp} {kas : List (Str × Addr)} {s : Nat} {pgs : List (List Str)} (h : RowsAt CR CB H kas s pgs) (e : Ex H H') : RowsAt CR CB H' kas s pgs := ⟨h.one, h.keys, fun p hp => (h.row p hp).ex e⟩
theorem SegD.ex {CS CR CB : Addr} {H H' : Hp} {x d : Addr} {s : Nat} {ps : List Pg} (h : SegD CS CR CB H x d s ps) (e : Ex H H') : SegD CS CR CB H' x d s ps := by
  obtain ⟨dx, t1, t2, kas, h1, h2, h3, h4, h5⟩ := h
  exact ⟨dx, t1, t2, kas, e _ _ h1, h2.ex e, e _ _ h3, e _ _ h4, h5.ex e⟩
theorem SegAt.ex {CS CR CB : Addr} {H H' : Hp} {x : Addr} {s : Nat} {ps : List Pg} (h : SegAt CS CR CB H x s ps) (e : Ex H H') : SegAt CS CR CB H' x s ps := by
  obtain ⟨d, h⟩ := h
  exact ⟨d, h.ex e⟩
/-- all but x and the tables stays -/
def ExNI (x : Addr) (H H' : Hp) : Prop := ∀ b o, b ≠ x → H b = some o → (∀ ps, o ≠ .tbl ps) → H' b = some o
def spSInit (C CS CR CB : Addr) (Tt : List (Addr × Str)) : Sp := fun vs H Q _ => ∃ (x dx l : Addr) (xs : List V) (ps : List Pg) (s : Nat), vs = [.ref x, .ref l, .int (s : Nat)] ∧ H x = some (.ins CS dx []) ∧ H l = some (.lst xs) ∧ PagesAt C H xs ps ∧ 1 ≤ ps.length ∧ (ps.map (·.1)).Nodup ∧ Pgs (ps.map (·.2)) ∧ 1 ≤ s ∧ s ≤ 8 ∧ LamX.Tabs Tt H ∧
  ∀ (d : Addr) (H' : Hp), (∀ kvs, H d ≠ some (.dK kvs)) → ExNI x H H' → LamX.Tabs Tt H' → SegD CS CR CB H' x d s (sortPg ps) → Q .non H'
set_option maxHeartbeats 8000000 in
theorem ok_sinit (T : TX K mg A FD TK CC) {Tt : List (Addr × Str)} {PS : Addr} (TBS : LamX.TabB base mg (CC 95) PS) (hmS : (PS, lamQ "Segment.__init__") ∈ Tt) (huS : ∀ p ∈ Tt, p.1 = PS → p.2 = lamQ "Segment.__init__") :
    FnOk P w K mg base CX0 13 (A 95) (FD 95) ["self", "pages", "size"] (spSInit (A 34) (A 68) (A 59) (A 58) Tt) := by
  have G_check_pages := (ok_check_pages (P := P) (w := w) (base := base) T).mono (show 1 ≤ 12 by decide)
  have KB_check_pages := kb_check_pages T
  have G_check_size := (ok_check_size (P := P) (w := w) (base := base) T).mono (show 3 ≤ 12 by decide)
  have G_Page_len := (ok_p_len (P := P) (w := w) (base := base) T).mono (show 1 ≤ 11 by decide)
  have G_rows_of := (ok_rows_of (P := P) (w := w) (base := base) T).mono (show 11 ≤ 12 by decide)
  refine T.F_Segment_init.ok (k := 12) sc_Segment_init (fun vs H Q E h => ?_) (fun A' outer s H vs Q E hr h => ?_)
  · obtain ⟨x, dx, l, xs, ps, s, rfl, _⟩ := h
    rfl
  · obtain ⟨x, dx, l, xs, ps, sz_, rfl, hx, hl, hP, l1, nd, hg, s1, s8, hT, q⟩ := h
    refine ⟨_, (pss_cons (ps_expr (pe_callN G_check_pages hr (by rfl) T.g_check_pages T.f_check_pages.kp KB_check_pages pass0 (pa_cons (pv 1) pa_nil) (pk_cons pe_int (pk_cons (pe_glob (v := .int 60) (by rfl) T.c_MOST_LENGTHS ⟨_, rfl⟩) pk_nil))))
      (pss_cons (ps_expr (pe_call G_check_size hr (by rfl) T.g_check_size T.f_check_size.kp T.b_check_size .nil pass0 (pa_cons (pv 2) pa_nil)))
      (pss_cons (ps_set (i := 3) sc_Segment_init.nd rfl (.inl rfl) (SrtK.pe_sortK (by rfl) T.m_sorted (pv 1) TBS rfl hmS huS hr (SrtK.lamP_by (by decide +kernel))))
      (pss_cons (ps_fld (pv 0) (pv 2) rfl)
      (pss_cons (ps_fld (pv 0) (pe_callTy (TupIx.tupFK (K := K) rfl) (by rfl) T.m_tuple (by decide +kernel) (pa_cons (pe_lc (own := [("page", 4)])  rfl sc_Segment_init.nd (piLK (K := K) rfl (pv 3)) (blkOk_by (own := [("page", 4)]) (N := N_Segment_init) (sc := defScope (inClass (topS 68) 0)) (by decide +kernel)) (fun _ _ _ _ _ => (pg_name (i := 4) sc_Segment_init.nd rfl (Or.inl rfl))) (fun _ _ _ _ _ => pts_nil) (fun _ _ _ _ _ => (fldK (K := K) rfl (pv 4) rfl))) pa_nil)) rfl)
      (pss_cons (ps_fld (pv 0) (pe_callTy (tupK (K := K) rfl) (by rfl) T.m_tuple (by decide +kernel) (pa_cons (pe_lc (own := [("page", 4)])  rfl sc_Segment_init.nd (piLK (K := K) rfl (pv 3)) (blkOk_by (own := [("page", 4)]) (N := N_Segment_init) (sc := defScope (inClass (topS 68) 0)) (by decide +kernel)) (fun _ _ _ _ _ => (pg_name (i := 4) sc_Segment_init.nd rfl (Or.inl rfl))) (fun _ _ _ _ _ => pts_nil) (fun _ _ _ _ _ => (pe_callB (Own.cr_lenO G_Page_len T.M_Page_len T.b_Page_len pass0 hr) (by rfl) T.m_len (by decide +kernel) (pa_cons (pv 4) pa_nil)))) pa_nil)) rfl)
      (pss_one (ps_fld (pv 0) (pe_call G_rows_of hr (by rfl) T.g_rows_of T.f_rows_of.kp T.b_rows_of .nil pass0 (pa_cons (pv 3) (pa_cons (pv 2) pa_nil))) rfl)))))))), ?_⟩
    have few := hg.few
    rw [List.length_map] at few
    refine ⟨.ref l, rfl, rfl, rfl, l, xs, ps, rfl, hl, hP, l1, few, nd, fun H1 e1 => ?_⟩
    refine ⟨.int (sz_ : Nat), rfl, sz_, rfl, s1, s8, fun H2 e2 => ?_⟩
    have x2 := e1.trans e2
    have hP2 := hP.ex x2
    have pk : ∀ (i : Nat) (v : V) (g : Pg), xs[i]? = some v → ps[i]? = some g → numAt H2 v = g.1 := fun i v g g1 g2 => by
      obtain ⟨p, g', rfl, e3, e4⟩ := hP2.2 i v g1
      rw [g2] at e3
      cases e3
      exact numAt_is e4
    refine ⟨.ref l, rfl, l, xs, numAt H2, rfl, SqL.of (x2 _ _ hl), fun y hy => ?_, LamX.Tabs.ext hT x2, fun H3 e3 T3 b nb => ?_⟩
    · obtain ⟨i, hi⟩ := List.mem_iff_getElem?.mp hy
      obtain ⟨p, g, rfl, e3, dx', t, h1, h2, _⟩ := hP2.2 i y hi
      refine ⟨p, _, dx', _, rfl, h1, T.cl_Page, T.n_Page_number, ?_⟩
      rw [pk i _ g hi e3]
      rfl
    have hS := (pages_sort hP2 pk).exN e3
    have hb4 := upd_same (H := H3) (a := b) (o := .lst (SrtK.byKey (numAt H2) xs))
    have e4 := Ex.new (o := .lst (SrtK.byKey (numAt H2) xs)) nb
    have hx4 := e4 _ _ (e3 _ _ (x2 _ _ hx) (by intro ps z; cases z))
    have hS4 := hS.ex e4
    have T4 := LamX.Tabs.ext T3 e4
    have F4 : ∀ b o, H b = some o → (∀ ps, o ≠ .tbl ps) → (upd H3 b (.lst (SrtK.byKey (numAt H2) xs))) b = some o → True := fun _ _ _ _ _ => trivial
    have F4 : LamX.ExtN H (upd H3 b (.lst (SrtK.byKey (numAt H2) xs))) := (LamX.ExtN.of x2).trans (e3.trans (LamX.ExtN.of e4))
    clear hS pk hP2
    show tSeq _ _ _ _ (upd H3 b (.lst (SrtK.byKey (numAt H2) xs)))
    generalize (SrtK.byKey (numAt H2) xs) = ys at hb4 hS4 hx4 T4 F4 ⊢
    generalize (upd H3 b (.lst ys)) = H4 at hb4 hS4 hx4 T4 F4 ⊢
    -- all but the segment
    obtain ⟨HB, hBx, hBo⟩ : ∃ HB : Hp, HB x = none ∧ ∀ c, c ≠ x → HB c = H4 c := ⟨fun c => if c = x then none else H4 c, if_pos rfl, fun c h => if_neg h⟩
    have fB : ∀ c o, H4 c = some o → (∀ dy fs, o ≠ .ins (A 68) dy fs) → HB c = some o := fun c o h n => by
      rw [hBo c (ne_of h hx4 (n _ _))]
      exact h
    have eB : Ex HB H4 := fun c o h => by
      by_cases z : c = x
      · rw [z, hBx] at h
        cases h
      · rw [hBo c z] at h
        exact h
    have hbB : HB b = some (.lst ys) := fB _ _ hb4 (fun _ _ => by intro z; cases z)
    have hSB : PagesAt (A 34) HB ys (sortPg ps) := ⟨hS4.1, fun i v g => by
      obtain ⟨p, g', rfl, h2, dy, t, h3, h4, h5⟩ := hS4.2 i v g
      have px : p ≠ x := fun e => by
        rw [e, hx4] at h3
        exact nomatch (HO.ins.inj (Option.some.inj h3)).2.2
      exact ⟨p, g', rfl, h2, dy, t, by rw [hBo p px]; exact h3, fB _ _ h4 (fun _ _ => by intro z; cases z), h5⟩⟩
    have TB : LamX.Tabs Tt HB := fun q hq => by
      obtain ⟨tb, t1, t2, t3⟩ := T4 q hq
      refine ⟨tb, fB _ _ t1 (fun _ _ => by intro z; cases z), t2, fun pos cv hc => ?_⟩
      obtain ⟨c, c1, c2⟩ := t3 pos cv hc
      exact ⟨c, c1, fB _ _ c2 (fun _ _ => by intro z; cases z)⟩
    have done : ∀ (d : Addr) (H' : Hp), HB d = none → d ≠ x → Ex HB H' → SegD (A 68) (A 59) (A 58) H' x d sz_ (sortPg ps) → Q .non H' := fun d H' nd ndx e sg => q d H' (fun kvs h => by
      have := F4 d _ h (by intro ps z; cases z)
      rw [← hBo d ndx, nd] at this
      cases this) (fun c o nc h n => e _ _ (by rw [hBo c nc]; exact F4 c o h n)) (TB.ext e) sg
    clear hP hl T4 F4 hS4 hb4
    have yl : ys.length = (sortPg ps).length := hSB.1
    have pl := sort_len ps
    have hgS := hg.sort
    generalize sortPg ps = qs at hSB done yl pl hgS
    refine ⟨.int (sz_ : Nat), rfl, .ref x, rfl, x, A 68, dx, [], rfl, hx4, T.cl_Segment, T.n_Segment_size, (by show 0 < 1000; decide), ?_⟩
    have e5 : Ex HB (upd H4 x (.ins (A 68) dx (putF "size" (.int (sz_ : Nat)) []))) := Ex.mut eB hBx
    have hx5 := upd_same (H := H4) (a := x) (o := .ins (A 68) dx (putF "size" (.int (sz_ : Nat)) []))
    generalize (upd H4 x (.ins (A 68) dx (putF "size" (.int (sz_ : Nat)) []))) = H5 at e5 hx5 ⊢
    refine ⟨.ref b, rfl, b, rfl, ⟨_, SqL.of (e5 _ _ hbB)⟩, fun D nD => ?_⟩
    have get : ∀ {R : Prop} {HX : Hp} {i : Nat} {v : V}, Ex HB HX → ys[i]? = some v → (∀ (p dy t : Addr) (g : Pg), v = .ref p → qs[i]? = some g → HX p = some (.ins (A 34) dy [("number", .int g.1), ("in_turn", .ref t)]) → PageAt (A 34) HX p g.1 g.2 → g.2.length ≤ 120 → R) → R := fun e g k => by
      obtain ⟨p, g', e1, e2, hp⟩ := (hSB.ex e).2 _ _ g
      obtain ⟨dy, t, h1, h2, h3, h4⟩ := id hp
      exact k p dy t g' e1 e2 h1 hp h3
    refine lc_list (K := K) (xs := ys) (fun i H' => Ex HB H' ∧ H' x = some (.ins (A 68) dx (putF "size" (.int (sz_ : Nat)) [])) ∧ H' D = some (.lst ((qs.take i).map fun g => V.int g.1))) ⟨e5.trans (Ex.new nD), (Ex.new nD) _ _ hx5, upd_same⟩ (fun i H' _ p => SqL.of (p.1 _ _ hbB)) (fun i v H2 hv p => ?_) (fun H6 p => ?_)
    · obtain ⟨p1, p2, p3⟩ := p
      refine get p1 hv fun p dy t g e1 gg h1 hp _ => ?_
      subst e1
      have nDx : D ≠ x := (ne_of_none hx5 nD).symm
      refine ⟨rfl, .ref p, rfl, p, A 34, dy, _, _, rfl, h1, T.cl_Page, T.n_Page_number, rfl, _, p3, ?_, Ex.mut p1 (fresh_back e5 nD), ?_, ?_⟩
      · rw [List.length_map, List.length_take]
        exact sz_lt (by omega)
      · rw [upd_ne nDx.symm]
        exact p2
      · rw [upd_same, List.take_add_one, gg, List.map_append]
        rfl
    obtain ⟨e6, hx6, hD6⟩ := p
    rw [yl, List.take_length] at hD6
    refine ⟨D, _, rfl, SqL.of hD6, fun t1 o1 nt1 od1 => ?_⟩
    have e7 := Ex.new (o := .frz o1 (.tup (qs.map fun g => V.int g.1))) nt1
    have ht7 := upd_same (H := H6) (a := t1) (o := .frz o1 (.tup (qs.map fun g => V.int g.1)))
    have hx7 := e7 _ _ hx6
    have e7 := e6.trans e7
    refine ⟨.ref x, rfl, x, A 68, dx, _, rfl, hx7, T.cl_Segment, T.n_Segment_slot_numbers, (by show 1 < 1000; decide), ?_⟩
    have e8 : Ex HB (upd (upd H6 t1 (.frz o1 (.tup (qs.map fun g => V.int g.1)))) x (.ins (A 68) dx (putF "slot_numbers" (.ref t1) (putF "size" (.int (sz_ : Nat)) [])))) := Ex.mut e7 hBx
    have hx8 := upd_same (H := upd H6 t1 (.frz o1 (.tup (qs.map fun g => V.int g.1)))) (a := x) (o := .ins (A 68) dx (putF "slot_numbers" (.ref t1) (putF "size" (.int (sz_ : Nat)) [])))
    have ht8 : (upd (upd H6 t1 (.frz o1 (.tup (qs.map fun g => V.int g.1)))) x (.ins (A 68) dx (putF "slot_numbers" (.ref t1) (putF "size" (.int (sz_ : Nat)) [])))) t1 = some (.frz o1 (.tup (qs.map fun g => V.int g.1))) := by
      rw [upd_ne (ne_of_none hx6 nt1).symm]
      exact ht7
    show tSeq _ _ _ _ (upd (upd H6 t1 (.frz o1 (.tup (qs.map fun g => V.int g.1)))) x (.ins (A 68) dx (putF "slot_numbers" (.ref t1) (putF "size" (.int (sz_ : Nat)) []))))
    generalize (upd (upd H6 t1 (.frz o1 (.tup (qs.map fun g => V.int g.1)))) x (.ins (A 68) dx (putF "slot_numbers" (.ref t1) (putF "size" (.int (sz_ : Nat)) [])))) = H8 at e8 hx8 ht8 ⊢
    clear hx7 ht7 e7 nt1 hD6 hx6 e6 nD hx5 e5 eB hx4
    refine ⟨.ref b, rfl, b, rfl, ⟨_, SqL.of (e8 _ _ hbB)⟩, fun D2 nD => ?_⟩
    refine lc_list (K := K) (xs := ys) (fun i H' => Ex HB H' ∧ Ex H8 H' ∧ H' D2 = some (.lst (nvs ((qs.take i).map fun g => g.2.length)))) ⟨e8.trans (Ex.new nD), Ex.new nD, upd_same⟩ (fun i H' _ p => SqL.of (p.1 _ _ hbB)) (fun i v H2 hv p => ?_) (fun H9 p => ?_)
    · obtain ⟨p1, p2, p3⟩ := p
      refine get p1 hv fun p dy t g e1 gg h1 hp gl => ?_
      subst e1
      refine ⟨rfl, .ref p, rfl, p, dy, _, rfl, h1, p, g.1, g.2, rfl, hp, (g.2.length : Int), rfl, ⟨by omega, by omega⟩, _, p3, ?_, Ex.mut p1 (fresh_back e8 nD), Ex.mut p2 nD, ?_⟩
      · unfold nvs
        rw [List.length_map, List.length_map, List.length_take]
        exact sz_lt (by omega)
      · rw [upd_same, List.take_add_one, gg, List.map_append]
        unfold nvs
        rw [List.map_append]
        rfl
    obtain ⟨e9, x9, hD9⟩ := p
    rw [yl, List.take_length] at hD9
    refine ⟨D2, _, rfl, .inl ⟨SqL.of hD9, fun t2 nt2 => ?_⟩⟩
    have n2 := Ex.new (o := .tup (nvs (qs.map fun g => g.2.length))) nt2
    have hu2 := upd_same (H := H9) (a := t2) (o := .tup (nvs (qs.map fun g => g.2.length)))
    have hx10 := n2 _ _ (x9 _ _ hx8)
    have ht10 := n2 _ _ (x9 _ _ ht8)
    have e10 := e9.trans n2
    have t2x : t2 ≠ x := (ne_of_none (x9 _ _ hx8) nt2).symm
    have t1x : t1 ≠ x := ne_of ht8 hx8 (by intro z; cases z)
    generalize (upd H9 t2 (.tup (nvs (qs.map fun g => g.2.length)))) = H10 at hu2 hx10 ht10 e10 ⊢
    refine ⟨.ref x, rfl, x, A 68, dx, _, rfl, hx10, T.cl_Segment, T.n_Segment_slot_lengths, (by show 2 < 1000; decide), ?_⟩
    have e11 : Ex HB (upd H10 x (.ins (A 68) dx (putF "slot_lengths" (.ref t2) (putF "slot_numbers" (.ref t1) (putF "size" (.int (sz_ : Nat)) []))))) := Ex.mut e10 hBx
    have hx11 := upd_same (H := H10) (a := x) (o := .ins (A 68) dx (putF "slot_lengths" (.ref t2) (putF "slot_numbers" (.ref t1) (putF "size" (.int (sz_ : Nat)) []))))
    have hu11 : (upd H10 x (.ins (A 68) dx (putF "slot_lengths" (.ref t2) (putF "slot_numbers" (.ref t1) (putF "size" (.int (sz_ : Nat)) []))))) t2 = some (.tup (nvs (qs.map fun g => g.2.length))) := by rw [upd_ne t2x]; exact hu2
    have ht11 : (upd H10 x (.ins (A 68) dx (putF "slot_lengths" (.ref t2) (putF "slot_numbers" (.ref t1) (putF "size" (.int (sz_ : Nat)) []))))) t1 = some (.frz o1 (.tup (qs.map fun g => V.int g.1))) := by rw [upd_ne t1x]; exact ht10
    generalize (upd H10 x (.ins (A 68) dx (putF "slot_lengths" (.ref t2) (putF "slot_numbers" (.ref t1) (putF "size" (.int (sz_ : Nat)) []))))) = H11 at e11 hx11 hu11 ht11 ⊢
    refine ⟨.ref b, rfl, .int (sz_ : Nat), rfl, b, ys, qs, sz_, rfl, e11 _ _ hbB, hSB.ex e11, hgS, s1, s8, fun d kas H12 e12 nd12 hd12 hrw => ?_⟩
    have hx12 := e12 _ _ hx11
    have dX : d ≠ x := (ne_of_none hx11 nd12).symm
    refine ⟨.ref x, rfl, x, A 68, dx, _, rfl, hx12, T.cl_Segment, T.n_Segment_rows, (by show 3 < 1000; decide), done d _ (fresh_back e11 nd12) dX (Ex.mut (e11.trans e12) hBx) ⟨dx, t1, t2, kas, upd_same, ⟨o1, od1, by rw [upd_ne t1x]; exact e12 _ _ ht11⟩, by rw [upd_ne t2x]; exact e12 _ _ hu11, by rw [upd_ne dX]; exact hd12, hrw.one, hrw.keys, fun p hp => ?_⟩⟩
    obtain ⟨dr, tt, bs, r1, r2, r3⟩ := hrw.row p hp
    have hx12 : H12 x = some (.ins (A 68) dx [("size", .int (sz_ : Nat)), ("slot_numbers", .ref t1), ("slot_lengths", .ref t2)]) := hx12
    have ne1 : ("size" : Str) ≠ "word" := by decide +kernel
    have ne2 : ("size" : Str) ≠ "first" := by decide +kernel
    have px : p.2 ≠ x := fun e => by
      rw [e, hx12] at r1
      exact ne1 (congrArg Prod.fst (List.cons.inj (HO.ins.inj (Option.some.inj r1)).2.2).1)
    refine ⟨dr, tt, bs, by rw [upd_ne px]; exact r1, by rw [upd_ne (ne_of r2 hx12 (by intro z; cases z))]; exact r2, r3.1, fun i c g => ?_⟩
    obtain ⟨db, hb⟩ := r3.2 i c g
    have cx : c ≠ x := fun e => by
      rw [e, hx12] at hb
      exact ne2 (congrArg Prod.fst (List.cons.inj (HO.ins.inj (Option.some.inj hb)).2.2).1)
    exact ⟨db, by rw [upd_ne cx]; exact hb⟩

/-! ### Segment: len, row, words; places_at -/
/-- pages by slots, as a segment keeps them -/
structure SegOk (s : Nat) (ps : List Pg) : Prop where
  pg : Pgs (ps.map (·.2))
  pos : 1 ≤ ps.length
  lo : 1 ≤ s
  hi : s ≤ 8
  num : ∀ g ∈ ps, 1 ≤ g.1 ∧ g.1 ≤ 9999
  inc : (ps.map (·.1)).Pairwise (· < ·)
theorem SegOk.few {s : Nat} {ps : List Pg} (h : SegOk s ps) : ps.length ≤ 60 := by
  have := h.pg.few
  rwa [List.length_map] at this
def spSLen (CS CR CB : Addr) : Sp := fun vs H Q _ => ∃ (x : Addr) (s : Nat) (ps : List Pg), vs = [.ref x] ∧ SegAt CS CR CB H x s ps ∧ Q (.int (ps.length : Nat)) H
set_option maxHeartbeats 4000000 in
theorem ok_slen (T : TX K mg A FD TK CC) : FnOk P w K mg base CX0 1 (A 96) (FD 96) ["self"] (spSLen (A 68) (A 59) (A 58)) := by
  refine T.f_Segment_len.ok (k := 0) sc_Segment_len (fun vs H Q E h => ?_) (fun cdv A' outer s H vs Q E hr h => ?_)
  · obtain ⟨x, s, ps, rfl, _⟩ := h
    rfl
  · obtain ⟨x, s, ps, rfl, ⟨d, dx, t1, t2, kas, h1, h2, h3, h4, h5⟩, q⟩ := h
    refine ⟨_, (pss_one (ps_ret (pe_callB (lenK (K := K) rfl) (by rfl) T.m_len (by decide +kernel) (pa_cons (fldK (K := K) rfl (pv 0) rfl) pa_nil)))), ?_⟩
    refine ⟨.ref x, rfl, x, A 68, dx, _, _, rfl, h1, T.cl_Segment, T.n_Segment_slot_numbers, rfl, t1, _, rfl, .inr h2.sq, ?_⟩
    rw [List.length_map]
    exact q
def spSNum (CS CR CB : Addr) : Sp := fun vs H Q _ => ∃ (x : Addr) (s : Nat) (ps : List Pg), vs = [.ref x] ∧ SegAt CS CR CB H x s ps ∧ RetL (ps.map fun g => V.int g.1) H Q
set_option maxHeartbeats 4000000 in
theorem ok_snums (T : TX K mg A FD TK CC) : FnOk P w K mg base CX0 1 (A 97) (FD 97) ["self"] (spSNum (A 68) (A 59) (A 58)) := by
  refine T.f_Segment_numbers.ok (k := 0) sc_Segment_numbers (fun vs H Q E h => ?_) (fun cdv A' outer s H vs Q E hr h => ?_)
  · obtain ⟨x, s, ps, rfl, _⟩ := h
    rfl
  · obtain ⟨x, s, ps, rfl, ⟨d, dx, t1, t2, kas, h1, h2, h3, h4, h5⟩, q⟩ := h
    refine ⟨_, (pss_one (ps_ret (pe_callTy (listK (K := K) rfl) (by rfl) T.m_list (by decide +kernel) (pa_cons (fldK (K := K) rfl (pv 0) rfl) pa_nil)))), ?_⟩
    exact ⟨.ref x, rfl, x, A 68, dx, _, _, rfl, h1, T.cl_Segment, T.n_Segment_slot_numbers, rfl, t1, _, rfl, .inr h2.sq, fun l nl => q l _ nl (Ex.new nl) upd_same⟩
def spSLens (CS CR CB : Addr) : Sp := fun vs H Q _ => ∃ (x : Addr) (s : Nat) (ps : List Pg), vs = [.ref x] ∧ SegAt CS CR CB H x s ps ∧ RetL (nvs (ps.map fun g => g.2.length)) H Q
set_option maxHeartbeats 4000000 in
theorem ok_slens (T : TX K mg A FD TK CC) : FnOk P w K mg base CX0 1 (A 98) (FD 98) ["self"] (spSLens (A 68) (A 59) (A 58)) := by
  refine T.f_Segment_lengths.ok (k := 0) sc_Segment_lengths (fun vs H Q E h => ?_) (fun cdv A' outer s H vs Q E hr h => ?_)
  · obtain ⟨x, s, ps, rfl, _⟩ := h
    rfl
  · obtain ⟨x, s, ps, rfl, ⟨d, dx, t1, t2, kas, h1, h2, h3, h4, h5⟩, q⟩ := h
    refine ⟨_, (pss_one (ps_ret (pe_callTy (listK (K := K) rfl) (by rfl) T.m_list (by decide +kernel) (pa_cons (fldK (K := K) rfl (pv 0) rfl) pa_nil)))), ?_⟩
    exact ⟨.ref x, rfl, x, A 68, dx, _, _, rfl, h1, T.cl_Segment, T.n_Segment_slot_lengths, rfl, t2, _, rfl, .inr (SqT.of h3), fun l nl => q l _ nl (Ex.new nl) upd_same⟩
/-- the row of any word -/
def spSRowA (CS CR CB : Addr) : Sp := fun vs H Q _ => ∃ (x : Addr) (s : Nat) (ps : List Pg) (k : Str), vs = [.ref x, .str k] ∧ SegAt CS CR CB H x s ps ∧ SegOk s ps ∧ isW k = true ∧
  ∀ (r : Addr) (H' : Hp), Ex H H' → RowAt CR CB H' r k s (ents k 0 (ps.map (·.2))) ((ps.map (·.2)).map List.length) → Q (.ref r) H'
set_option maxHeartbeats 4000000 in
theorem ok_srowA (T : TX K mg A FD TK CC) : FnOk P w K mg base CX0 12 (A 100) (FD 100) ["self", "word"] (spSRowA (A 68) (A 59) (A 58)) := by
  have G_check_word := (ok_check_word (P := P) (w := w) (base := base) T).mono (show 2 ≤ 11 by decide)
  have G_Segment_lengths := (ok_slens (P := P) (w := w) (base := base) T).mono (show 1 ≤ 11 by decide)
  have G_Row := (ok_rinit (P := P) (w := w) (base := base) T).mono (show 9 ≤ 10 by decide)
  have KB3_Row := kb_row T
  refine T.f_Segment_row.ok (k := 11) sc_Segment_row (fun vs H Q E h => ?_) (fun cdv A' outer s H vs Q E hr h => ?_)
  · obtain ⟨x, s, ps, k, rfl, _⟩ := h
    rfl
  · obtain ⟨x, s, ps, k, rfl, hS, ok, hw, q⟩ := h
    obtain ⟨d, dx, t1, t2, kas, h1, h2, h3, h4, h5⟩ := id hS
    refine ⟨_, (pss_cons (ps_expr (pe_call G_check_word hr (by rfl) T.g_check_word T.f_check_word.kp T.b_check_word .nil pass0 (pa_cons (pv 1) pa_nil)))
      (pss_cons (ps_if (pt_cmp (pc_din (hu_of hr) (pv 1) (fldK (K := K) rfl (pv 0) rfl)))
      (pss_one (ps_ret (pe_dget (hu_of hr) (fldK (K := K) rfl (pv 0) rfl) (pv 1) (fun _ _ => rfl))))
      pss_nil)
      (pss_one (ps_ret (pe_makeK T.M_Row G_Row hr (by rfl) T.k_Row KB3_Row pass0 (pa_cons (pv 1) (pa_cons (pe_lst pa_nil) (pa_cons (pe_meth0 (pv 0) T.cl_Segment T.M_Segment_lengths G_Segment_lengths hr T.b_Segment_lengths .nil pass0) pa_nil))) (pk_cons (fldK (K := K) rfl (pv 0) rfl) pk_nil)))))), ?_⟩
    refine ⟨.str k, rfl, k, rfl, hw, fun H1 e1 => ?_⟩
    by_cases hn : ents k 0 (ps.map (·.2)) = []
    · have hd : valV (DLk kas) (Sum.inr k) = none := by
        cases hv : valV (DLk kas) (Sum.inr k) with
        | none => rfl
        | some v =>
          obtain ⟨p, hp, e, _⟩ := dlk_val hv
          exact absurd hn ((h5.keys k).mp (List.mem_map.mpr ⟨p, hp, e⟩))
      refine ⟨.str k, rfl, .ref x, rfl, x, A 68, dx, _, _, rfl, e1 _ _ h1, T.cl_Segment, T.n_Segment_rows, rfl, d, none, rfl, .inl ⟨DLk kas, .inr k, .inl (e1 _ _ h4), rfl, hd.symm⟩, false, rfl, iteF ?_⟩
      refine ⟨.str k, rfl, by show 0 ≤ sizeLine; decide, fun l nl => ?_⟩
      have e2 := Ex.new (o := .lst []) nl
      have hl := upd_same (H := H1) (a := l) (o := .lst [])
      generalize (upd H1 l (.lst [])) = H2 at e2 hl ⊢
      have e12 := e1.trans e2
      refine ⟨.ref x, rfl, x, dx, _, rfl, e12 _ _ h1, rfl, x, s, ps, rfl, hS.ex e12, fun m H3 nm e3 hm => ?_⟩
      have e13 := e12.trans e3
      have few := ok.few
      refine ⟨.ref x, rfl, x, A 68, dx, _, _, rfl, e13 _ _ h1, T.cl_Segment, T.n_Segment_size, rfl, rfl, rfl, fun r rdx nr nrd _ => ?_⟩
      have hm' : H3 m = some (.lst (nvs ((ps.map (·.2)).map List.length))) := by rw [List.map_map]; exact hm
      have hR := ok.pg.row hw ok.lo ok.hi
      refine mk_row nr nrd (e3 _ _ hl) (es := ents k 0 (ps.map (·.2))) (by rw [hn]; exact ⟨rfl, fun i e g => by cases g⟩) hm' hR fun H4 e4 hr4 => ?_
      exact q r H4 (e13.trans e4) hr4
    · obtain ⟨p, hp, rfl⟩ := List.mem_map.mp ((h5.keys k).mpr hn)
      have hd := dlk_of hp h5.one
      refine ⟨.str p.1, rfl, .ref x, rfl, x, A 68, dx, _, _, rfl, e1 _ _ h1, T.cl_Segment, T.n_Segment_rows, rfl, d, some (.ref p.2), rfl, .inl ⟨DLk kas, .inr p.1, .inl (e1 _ _ h4), rfl, hd.symm⟩, true, rfl, iteT ?_⟩
      exact ⟨.ref x, rfl, x, A 68, dx, _, _, rfl, e1 _ _ h1, T.cl_Segment, T.n_Segment_rows, rfl, .str p.1, rfl, d, .ref p.2, rfl, .inl ⟨DLk kas, .inr p.1, .inl (e1 _ _ h4), rfl, hd.symm⟩, q p.2 H1 e1 ((h5.row p hp).ex e1)⟩

/-! ### sorted texts: one order only -/
theorem ltc_is : ∀ a b : List Nat, ltCps a b = decide (a < b)
  | [], [] => by simp [ltCps]
  | [], b :: r => by simp [ltCps]
  | a :: r, [] => by simp [ltCps]
  | a :: r, b :: q => by
    rw [ltCps, ltc_is r q]
    simp only [List.cons_lt_cons_iff, Bool.decide_or, Bool.decide_and]
    by_cases h : a = b
    · subst h
      simp
    · simp [h]
theorem rising_pw : ∀ (l : List Str) (p : Str), risingS p l = true → (p :: l).Pairwise fun a b => tl a ≤ tl b
  | [], p, _ => List.pairwise_singleton _ _
  | x :: r, p, h => by
    rw [risingS, Bool.and_eq_true] at h
    have ih := rising_pw r x h.2
    have hx : tl p ≤ tl x := by
      have h1 := h.1
      rw [ltc_is] at h1
      have : ¬ (tl x < tl p) := by simpa [tl] using h1
      exact List.not_lt.mp this
    refine List.pairwise_cons.mpr ⟨fun y hy => ?_, ih⟩
    rcases List.mem_cons.mp hy with rfl | hy
    · exact hx
    · exact List.le_trans hx ((List.pairwise_cons.mp ih).1 y hy)
theorem sorted_pw {l : List Str} (h : sortedS l = true) : l.Pairwise fun a b => tl a ≤ tl b := by
  cases l with
  | nil => exact .nil
  | cons x r => exact rising_pw r x h
theorem sorted_uniq {xs ys : List Str} (p : xs.Perm ys) (hx : sortedS xs = true) (hy : sortedS ys = true) : xs = ys :=
  p.eq_of_pairwise (fun a b _ _ h1 h2 => ext_tl (List.le_antisymm h1 h2)) (sorted_pw hx) (sorted_pw hy)

/-! ### _law_whole, _law_spots -/
def spLWhole : Sp := fun vs H Q _ => ∃ i : Int, vs = [.int i] ∧ Q (.bl true) H
set_option maxHeartbeats 4000000 in
theorem ok_l_whole (T : TX K mg A FD TK CC) : FnOk P w K mg base CX0 1 (A 79) (FD 79) ["_law_thing"] spLWhole := by
  refine T.f_l_whole.ok sc_l_whole (fun vs H Q E h => ?_) (fun cdv A' outer s H vs Q E hr h => ?_)
  · obtain ⟨v, rfl, _⟩ := h
    rfl
  · obtain ⟨i, rfl, q⟩ := h
    refine ⟨_, (pss_one (ps_ret (pe_and (pe_callB (isiK (K := K) rfl) (by rfl) T.m_isinstance (by decide +kernel) (pa_cons (pv 0) (pa_cons (pe_bltn (v := .ty "int") (by rfl) T.m_int (by decide +kernel) rfl) pa_nil))) (pe_one (pe_not (pe_callB (isiK (K := K) rfl) (by rfl) T.m_isinstance (by decide +kernel) (pa_cons (pv 0) (pa_cons (pe_bltn (v := .ty "bool") (by rfl) T.m_bool (by decide +kernel) rfl) pa_nil)))))))), ?_⟩
    refine ⟨.int i, rfl, .int i, .ty "int", .type "int", .type "int", true, rfl, .ty _, .base (.int i), kit_ty (by decide +kernel), true, rfl, ?_⟩
    exact ⟨.int i, rfl, .int i, .ty "bool", .type "int", .type "bool", false, rfl, .ty _, .base (.int i), kit_ty (by decide +kernel), false, rfl, q⟩
def spSpots : Sp := fun vs H Q _ => ∃ (h : Addr) (ws : List Str) (z : Str), vs = [.ref h, .str z] ∧ H h = some (.lst (ws.map V.str)) ∧ ws.length ≤ 120 ∧ RetL ((plc z 0 ws).map nV) H Q
set_option maxHeartbeats 4000000 in
theorem ok_l_spots (T : TX K mg A FD TK CC) : FnOk P w K mg base CX0 1 (A 77) (FD 77) ["_law_held", "_law_word"] spSpots := by
  refine T.f_l_spots.ok (k := 0) sc_l_spots (fun vs H Q E h => ?_) (fun cdv A' outer s H vs Q E hr h => ?_)
  · obtain ⟨p, ws, z, rfl, _⟩ := h
    rfl
  · obtain ⟨p, ws, z, rfl, hh, hl, q⟩ := h
    refine ⟨_, (pss_one (ps_ret (pe_lc (own := [("_law_at", 2)])  rfl sc_l_spots.nd (pi_range1 (by rfl) T.m_range (pa_cons (pe_callB (lenK (K := K) rfl) (by rfl) T.m_len (by decide +kernel) (pa_cons (pv 0) pa_nil)) pa_nil)) (blkOk_by (own := [("_law_at", 2)]) (N := N_l_spots) (sc := defScope (topS 77)) (by decide +kernel)) (fun _ _ _ _ _ => (pg_name (i := 2) sc_l_spots.nd rfl (Or.inl rfl))) (fun _ _ _ _ _ => (pts_one (pt_cmpR op_eq (pe_ix (ixLK (K := K) rfl) (pv 0) (pv 2) (fun _ _ => rfl)) (pv 1) (nomark _)))) (fun _ _ _ _ _ => (pv 2))))), ?_⟩
    refine ⟨.ref p, rfl, p, _, rfl, .inl (SqL.of hh), ((ws.map V.str).length : Int), rfl, by rw [List.length_map]; omega, by rw [List.length_map]; omega, fun D nD => ?_⟩
    refine lc_range (lo := 0) (n := ((ws.map V.str).length : Int).toNat) (fun i H' => Ex H H' ∧ H' D = some (.lst ((plc z 0 (ws.take i)).map nV))) ⟨Ex.new nD, upd_same⟩ (fun i H2 hi p => ?_) (fun H2 p => ?_)
    · obtain ⟨p1, p2⟩ := p
      rw [show ((ws.map V.str).length : Int).toNat = ws.length by rw [List.length_map]; rfl] at hi
      have g : ws[i]? = some ws[i] := List.getElem?_eq_getElem hi
      have st : plc z 0 (ws.take (i + 1)) = plc z 0 (ws.take i) ++ (if ws[i] = z then [i] else []) := by
        rw [List.take_add_one, g]
        show plc z 0 (ws.take i ++ [ws[i]]) = _
        rw [plc_snoc, List.length_take, Nat.zero_add, Nat.min_eq_left (by omega)]
      have ai : atI (ws.map V.str) ((0 : Int) + i) = some (.str ws[i]) := by
        rw [Int.zero_add]
        exact atI_nat (by rw [List.getElem?_map, g]; rfl)
      refine ⟨rfl, .ref p, rfl, .int ((0 : Int) + i), rfl, p, _, _, _, rfl, rfl, SqL.of (p1 _ _ hh), ai, .str z, rfl, rfl, _, rfl, ite2 (fun c => ?_) (fun c => ?_)⟩
      · have c : ws[i] = z := V.str.inj (of_decide_eq_true c)
        refine ⟨.int ((0 : Int) + i), rfl, _, p2, ?_, Ex.mut p1 nD, ?_⟩
        · rw [List.length_map]
          have := plc_len z (ws.take i) 0
          rw [List.length_take] at this
          exact sz_lt (by omega)
        · rw [upd_same, st, if_pos c, List.map_append, Int.zero_add]
          rfl
      · have c : ¬ ws[i] = z := fun e => c (decide_eq_true (congrArg V.str e))
        refine ⟨p1, ?_⟩
        rw [st, if_neg c, List.append_nil]
        exact p2
    · obtain ⟨p1, p2⟩ := p
      rw [show ((ws.map V.str).length : Int).toNat = ws.length by rw [List.length_map]; rfl, List.take_length] at p2
      exact q D H2 nD p1 p2

/-! ### _law_words: words of the kinds -/
theorem at_wordM {zs : List Str} {d : Int} (h0 : 0 ≤ d) (h1 : d < (zs.length : Int)) (hw : zs.all isW = true) : ∃ z : Str, atI (zs.map V.str) d = some (.str z) ∧ isW z = true ∧ z ∈ zs := by
  obtain ⟨j, rfl⟩ := Int.eq_ofNat_of_zero_le h0
  have hj : j < zs.length := by omega
  refine ⟨zs[j], atI_nat ?_, List.all_eq_true.mp hw _ (List.getElem_mem hj), List.getElem_mem hj⟩
  rw [List.getElem?_map, List.getElem?_eq_getElem hj]
  rfl
def spWordsM : Sp := fun vs H Q _ => ∃ (p kk : Addr) (zs : List Str) (c m : Nat), vs = [.ref p, .ref kk, .int (m : Int)] ∧ m ≤ 100 ∧ Pl H p c ∧ Kn H kk zs ∧ c < 900000 ∧ ∀ (l : Addr) (ys : List Str) (H' : Hp), l ≠ p → H l = none → H' l = some (.lst (ys.map V.str)) → ys.length ≤ m → ys.all isW = true → (∀ y ∈ ys, y ∈ zs) → Pl H' p (c + 1 + m) → Fx p H H' → Q (.ref l) H'
set_option maxHeartbeats 8000000 in
theorem ok_l_wordsM (T : TX K mg A FD TK CC) : FnOk P w K mg base CX0 2 (A 76) (FD 76) ["_law_pool_here", "_law_kinds_here", "_law_most"] spWordsM := by
  have G_l_take := ok_l_take (P := P) (w := w) (base := base) T
  refine T.f_l_words.ok (k := 1) sc_l_words (fun vs H Q E h => ?_) (fun cdv A' outer s H vs Q E hr h => ?_)
  · obtain ⟨p, kk, zs, c, m, rfl, _⟩ := h
    rfl
  · obtain ⟨p, kk, zs, c, m, rfl, hm, hp, hk, hc, q⟩ := h
    refine ⟨_, (pss_one (ps_ret (pe_lc (own := [("_law_k", 3)])  rfl sc_l_words.nd (pi_range1 (by rfl) T.m_range (pa_cons (pe_call G_l_take hr (by rfl) T.g_l_take T.f_l_take.kp T.b_l_take .nil pass0 (pa_cons (pv 0) (pa_cons (pe_op op_add (pv 2) pe_int) pa_nil))) pa_nil)) (blkOk_by (own := [("_law_k", 3)]) (N := N_l_words) (sc := defScope (topS 76)) (by decide +kernel)) (fun _ _ _ _ _ => (pg_name (i := 3) sc_l_words.nd rfl (Or.inl rfl))) (fun _ _ _ _ _ => pts_nil) (fun _ _ _ _ _ => (pe_ix (ixLK (K := K) rfl) (pv 1) (pe_call G_l_take hr (by rfl) T.g_l_take T.f_l_take.kp T.b_l_take .nil pass0 (pa_cons (pv 0) (pa_cons (pe_callB (lenK (K := K) rfl) (by rfl) T.m_len (by decide +kernel) (pa_cons (pv 1) pa_nil)) pa_nil))) (fun _ _ => rfl)))))), ?_⟩
    refine ⟨.ref p, rfl, .int (m : Int), rfl, (m : Int), 1, rfl, rfl, p, (m : Int) + 1, c, rfl, hp, by omega, by omega, by omega, fun n H2 n0 n1 hp2 f2 => ?_⟩
    refine ⟨n, rfl, by omega, by omega, fun D nD => ?_⟩
    have nDp := pool_ne hp2 nD
    have hk2 := hk.fx hp f2
    have nDk : D ≠ kk := (ne_of_none hk2.1 nD).symm
    refine lc_range (lo := 0) (n := n.toNat) (fun i H' => ∃ ys : List Str, ys.length = i ∧ ys.all isW = true ∧ (∀ y ∈ ys, y ∈ zs) ∧ H' D = some (.lst (ys.map V.str)) ∧ Pl H' p (c + 1 + i) ∧ Fx p H2 H') ⟨[], rfl, rfl, fun y h => (by cases h), upd_same, hp2.ex (Ex.new nD), Fx.ex (Ex.new nD)⟩ (fun i H3 hi pv => ?_) (fun H3 pv => ?_)
    · obtain ⟨ys, yl, y1, ym, hD, hp3, f3⟩ := pv
      have hk3 := hk2.fx hp2 f3
      refine ⟨rfl, .ref kk, rfl, .ref p, rfl, .ref kk, rfl, kk, _, rfl, .inl (SqL.of hk3.1), p, ((zs.map V.str).length : Int), c + 1 + i, rfl, hp3, ?_, ?_, by omega, fun e H4 e0 e1 hp4 f4 => ?_⟩
      · rw [List.length_map]
        have := hk3.2.1
        omega
      · rw [List.length_map]
        have := hk3.2.2.1
        omega
      rw [List.length_map] at e1
      have hk4 := hk3.fx hp3 f4
      obtain ⟨z, az, wz, mz⟩ := at_wordM e0 e1 hk3.2.2.2
      refine ⟨kk, _, e, .str z, rfl, rfl, SqL.of hk4.1, az, _, f4 _ _ nDp hD, ?_, ys ++ [z], ?_, ?_, fun y hy => ?_, ?_, ?_, ?_⟩
      · rw [List.length_map]
        exact sz_lt (by omega)
      · rw [List.length_append, yl]
        rfl
      · rw [List.all_append, y1, List.all_cons, wz]
        rfl
      · rcases List.mem_append.mp hy with h | h
        · exact ym y h
        · rw [List.mem_singleton.mp h]
          exact mz
      · rw [upd_same, List.map_append]
        rfl
      · exact pl_upd hp4 nDp
      · intro x o nx hx
        rw [upd_ne (ne_of_none hx nD)]
        exact f4 _ _ nx (f3 _ _ nx hx)
    · obtain ⟨ys, yl, y1, ym, hD, hp3, f3⟩ := pv
      exact q D ys H3 nDp (fx_free f2 hp2 nD) hD (by omega) y1 ym (hp3.mono (by omega)) (f2.trans f3)
/-! ### Segment(..) -/
theorem kb_segment (T : TX K mg A FD TK CC) : KBn K (FD 95) ["self", "pages", "size"] 2 ["size"] (fun us ws => us ++ ws) (fun vs zs => vs ++ zs) := by
  obtain ⟨oc, od, dV, kV, doc, pm, an, cdv, ct, osl, e, lk, hcd, hD, hK⟩ := T.f_Segment_init.ex
  rcases hD with ⟨_, rfl⟩ | ⟨e', _⟩
  · rw [e]
    rcases hK with e' | ⟨D, rfl, _⟩
    · cases e'
    · exact ⟨fun s us ws _ l1 l2 => match us, ws, l1, l2 with | [_, _], [_], _, _ => .of_eq rfl, fun r1 r2 => r1.append r2⟩
  · exact absurd rfl e'

theorem joinK {X : Cx} {K : PySem.W.Frag} {o e : Expr} {to te : TE} {apos pos : Pos} (h : X.K = K) (ho : L2.PE X o to) (he : L2.PE X e te) (hs : starEach [e] X.env = [(false, eval e X.env)] := by rfl) (hbase : attributeBase o "join" X.env (eval o X.env) = eval o X.env := by rfl) (hline : (apos.endLine == pos.line) = true := by rfl) :
    L2.PE X (.Call (.Attribute o "join" apos) [e] [] pos) (tM1 (fun x xs H Q => ∃ a p, ∃ ys : List Str, x = .str a ∧ xs = [.ref p] ∧ (SqL K H p (ys.map V.str) ∨ SqT K H p (ys.map V.str)) ∧
      (ys.map (·.length)).sum + ys.length * a.length ≤ 16777216 ∧ Q (.str (Txt.join a ys)) H) to te) := by
  subst h
  exact pe_join ho he hs hbase hline

/-! ### pairs of a number and a list of words on the heap -/
def PrA (N : Addr → Prop) (H : Hp) (v : V) (g : Pg) : Prop := ∃ a h : Addr, v = .ref a ∧ H a = some (.tup [.int g.1, .ref h]) ∧ H h = some (.lst (g.2.map V.str)) ∧ ¬ N h
def Prs (N : Addr → Prop) (H : Hp) (xs : List V) (gs : List Pg) : Prop := xs.length = gs.length ∧ ∀ (i : Nat) (g : Pg), gs[i]? = some g → ∃ v, xs[i]? = some v ∧ PrA N H v g
theorem PrA.mono {N : Addr → Prop} {H H' : Hp} {v : V} {g : Pg} (h : PrA N H v g) (k : ∀ c zs, H c = some (.tup zs) → H' c = some (.tup zs)) (k2 : ∀ c zs, ¬ N c → H c = some (.lst zs) → H' c = some (.lst zs)) : PrA N H' v g := by
  obtain ⟨a, h, e, h1, h2, h3⟩ := h
  exact ⟨a, h, e, k _ _ h1, k2 _ _ h3 h2, h3⟩
theorem Prs.mono {N : Addr → Prop} {H H' : Hp} {xs : List V} {gs : List Pg} (h : Prs N H xs gs) (k : ∀ c zs, H c = some (.tup zs) → H' c = some (.tup zs)) (k2 : ∀ c zs, ¬ N c → H c = some (.lst zs) → H' c = some (.lst zs)) : Prs N H' xs gs := ⟨h.1, fun i g q => by
  obtain ⟨v, h1, h2⟩ := h.2 i g q
  exact ⟨v, h1, h2.mono k k2⟩⟩
theorem Prs.less {N N' : Addr → Prop} {H : Hp} {xs : List V} {gs : List Pg} (h : Prs N H xs gs) (k : ∀ b, N' b → N b) : Prs N' H xs gs := ⟨h.1, fun i g q => by
  obtain ⟨v, h1, a, b, e, h2, h3, h4⟩ := h.2 i g q
  exact ⟨v, h1, a, b, e, h2, h3, fun z => h4 (k _ z)⟩⟩
theorem Prs.ex {N : Addr → Prop} {H H' : Hp} {xs : List V} {gs : List Pg} (h : Prs N H xs gs) (e : Ex H H') : Prs N H' xs gs := h.mono (fun c zs z => e _ _ z) fun c zs _ z => e _ _ z
theorem Prs.exN {N : Addr → Prop} {H H' : Hp} {xs : List V} {gs : List Pg} (h : Prs N H xs gs) (e : LamX.ExtN H H') : Prs N H' xs gs := h.mono (fun c zs z => tup_exN e z) fun c zs _ z => lst_exN e z
theorem Prs.fx {N : Addr → Prop} {H H' : Hp} {xs : List V} {gs : List Pg} {p : Addr} {c : Nat} (h : Prs N H xs gs) (hp : Pl H p c) (np : N p) (f : Fx p H H') : Prs N H' xs gs := h.mono (fun c zs z => f.tup hp z) fun c zs n z => f _ _ (fun e => n (by rw [e]; exact np)) z
theorem Prs.upl {N : Addr → Prop} {H : Hp} {xs ys : List V} {gs : List Pg} {D : Addr} {o : HO} (h : Prs N H xs gs) (nD : N D) (hD : H D = some (.lst ys)) : Prs N (upd H D o) xs gs := h.mono (fun c zs z => by rw [upd_ne (ne_of z hD (by intro z; cases z))]; exact z) fun c zs n z => by
  rw [upd_ne (fun e => n (by rw [e]; exact nD))]
  exact z
theorem Prs.snoc {N : Addr → Prop} {H : Hp} {xs : List V} {gs : List Pg} {v : V} {g : Pg} (h : Prs N H xs gs) (k : PrA N H v g) : Prs N H (xs ++ [v]) (gs ++ [g]) := by
  refine ⟨by rw [List.length_append, List.length_append, h.1]; rfl, fun i t q => ?_⟩
  rcases snoc_at q with q | ⟨rfl, rfl⟩
  · obtain ⟨c, h1, h2⟩ := h.2 i t q
    exact ⟨c, by rw [List.getElem?_append_left (List.getElem?_eq_some_iff.mp h1).1]; exact h1, h2⟩
  · exact ⟨v, by rw [← h.1, List.getElem?_append_right (Nat.le_refl _)]; simp, k⟩
theorem Prs.nil {N : Addr → Prop} {H : Hp} : Prs N H [] [] := ⟨rfl, fun i t g => by simp at g⟩
theorem Prs.set0 {N : Addr → Prop} {H : Hp} {v u : V} {xs : List V} {g k : Pg} {gs : List Pg} (h : Prs N H (v :: xs) (g :: gs)) (hu : PrA N H u k) : Prs N H (u :: xs) (k :: gs) := by
  refine ⟨h.1, fun i t q => ?_⟩
  cases i with
  | zero =>
    cases q
    exact ⟨u, rfl, hu⟩
  | succ i => exact h.2 (i + 1) t q
theorem Prs.mem {N : Addr → Prop} {H : Hp} {xs : List V} {gs : List Pg} (h : Prs N H xs gs) {i : Nat} {v : V} (hv : xs[i]? = some v) : ∃ g, gs[i]? = some g ∧ PrA N H v g := by
  have il := (List.getElem?_eq_some_iff.mp hv).1
  rw [h.1] at il
  obtain ⟨u, h1, h2⟩ := h.2 i _ (List.getElem?_eq_getElem il)
  rw [hv] at h1
  cases h1
  exact ⟨_, List.getElem?_eq_getElem il, h2⟩
def unS : V → Option Str
  | .str z => some z
  | _ => none
def prAt (H : Hp) : V → Pg
  | .ref a => match H a with
    | some (.tup [.int n, .ref h]) => match H h with
      | some (.lst ys) => (n, ys.filterMap unS)
      | _ => (0, [])
    | _ => (0, [])
  | _ => (0, [])
theorem PrA.at_ {N : Addr → Prop} {H : Hp} {v : V} {g : Pg} (h : PrA N H v g) : prAt H v = g := by
  obtain ⟨a, h, rfl, h1, h2, _⟩ := h
  unfold prAt
  dsimp only
  rw [h1]
  dsimp only
  rw [h2]
  dsimp only
  rw [List.filterMap_map]
  have : (unS ∘ V.str) = some := rfl
  rw [this, List.filterMap_some]
theorem Prs.map {N : Addr → Prop} {H : Hp} {xs : List V} {gs : List Pg} (h : Prs N H xs gs) : xs.map (prAt H) = gs := by
  refine List.ext_getElem? fun i => ?_
  rw [List.getElem?_map]
  cases g : gs[i]? with
  | none =>
    rw [List.getElem?_eq_none_iff] at g
    rw [List.getElem?_eq_none_iff.mpr (by rw [h.1]; exact g)]
    rfl
  | some t =>
    obtain ⟨v, h1, h2⟩ := h.2 i t g
    rw [h1, Option.map_some, h2.at_]
theorem sortNW_of {K : PySem.W.Frag} {N : Addr → Prop} {H : Hp} {a : Addr} {xs : List V} {gs : List Pg} {Q : V → Hp → Prop} (ha : H a = some (.lst xs)) (h : Prs N H xs gs) (nd : (gs.map (·.1)).Nodup)
    (q : ∀ (p : Addr) (ys : List V) (H' : Hp), H p = none → Ex H H' → H' p = some (.lst ys) → Prs N H' ys (sortPg gs) → Q (.ref p) H') : SrtK.rSortNW K [.ref a] H Q := by
  have at_ : ∀ v ∈ xs, ∃ i : Nat, xs[i]? = some v ∧ gs[i]? = some (prAt H v) ∧ PrA N H v (prAt H v) := fun v hv => by
    obtain ⟨i, hi⟩ := List.mem_iff_getElem?.mp hv
    obtain ⟨g, h1, h2⟩ := h.mem hi
    rw [h2.at_]
    exact ⟨i, hi, h1, h2⟩
  have bm : (SrtK.byKey (fun v => (prAt H v).1) xs).map (prAt H) = sortPg gs := by
    rw [← h.map]
    exact List.map_mergeSort fun x _ y _ => rfl
  refine ⟨a, xs, fun v => (prAt H v).1, fun v => (prAt H v).2, rfl, SqL.of ha, fun y hy => ?_, fun x hx y hy e => ?_, fun p np => q p _ _ np (Ex.new np) upd_same ?_⟩
  · obtain ⟨i, _, _, c, d, rfl, h1, h2, _⟩ := at_ y hy
    exact .tup (SqT.of h1) (.cons (.int _) (.cons (.lst (SqL.of h2) (dpS _)) .nil))
  · obtain ⟨i, h1, h2, _⟩ := at_ x hx
    obtain ⟨j, k1, k2, _⟩ := at_ y hy
    have g1 : (gs.map (·.1))[i]? = some (prAt H x).1 := by rw [List.getElem?_map, h2]; rfl
    have g2 : (gs.map (·.1))[j]? = some (prAt H y).1 := by rw [List.getElem?_map, k2]; rfl
    have e : (prAt H x).1 = (prAt H y).1 := e
    rw [← e, ← g1] at g2
    have := (List.getElem?_inj (List.getElem?_eq_some_iff.mp g1).1 nd).mp g2.symm
    subst this
    rw [h1] at k1
    exact Option.some.inj k1
  have e := Ex.new (o := .lst (SrtK.byKey (fun v => (prAt H v).1) xs)) np
  refine ⟨by rw [← bm, List.length_map], fun i t g => ?_⟩
  rw [← bm, List.getElem?_map] at g
  obtain ⟨v, hv, rfl⟩ := Option.map_eq_some_iff.mp g
  have hm : v ∈ xs := (List.mergeSort_perm xs _).mem_iff.mp (List.mem_of_getElem? hv)
  obtain ⟨_, _, _, h1⟩ := at_ v hm
  exact ⟨v, hv, h1.mono (fun c zs z => e _ _ z) fun c zs _ z => e _ _ z⟩
theorem sort_inc {gs : List Pg} (nd : (gs.map (·.1)).Nodup) : ((sortPg gs).map (·.1)).Pairwise (· < ·) := by
  have h1 : (sortPg gs).Pairwise fun a b => a.1 ≤ b.1 := (List.pairwise_mergeSort (le := fun a b : Pg => decide (a.1 ≤ b.1)) (fun a b c h1 h2 => decide_eq_true (Int.le_trans (of_decide_eq_true h1) (of_decide_eq_true h2))) (fun a b => by
    rcases Int.le_total a.1 b.1 with h | h
    · rw [decide_eq_true h]; rfl
    · rw [decide_eq_true h, Bool.or_true]) gs).imp fun h => of_decide_eq_true h
  have h2 : ((sortPg gs).map (·.1)).Nodup := (((List.mergeSort_perm gs _).map (·.1)).nodup_iff).mpr nd
  have h2 : (sortPg gs).Pairwise fun a b => a.1 ≠ b.1 := List.pairwise_map.mp h2
  exact List.pairwise_map.mpr ((h1.and h2).imp fun h => by have := h.1; have := h.2; omega)
theorem sort_self {gs : List Pg} (h : (gs.map (·.1)).Pairwise (· < ·)) : sortPg gs = gs := by
  refine List.mergeSort_of_pairwise ((List.pairwise_map.mp h).imp fun h => decide_eq_true (Int.le_of_lt h))
theorem sh_allM {α : Type} {f : α → PyData} {k : Nat} : ∀ {as : List α}, (∀ a ∈ as, PyData.canLay0 (f a) = true ∧ PyData.depth (f a) ≤ k) → PyData.canLayAll0 (as.map f) = true ∧ PyData.depthAll (as.map f) ≤ k
  | [], _ => ⟨rfl, Nat.zero_le _⟩
  | a :: r, h => by
    have i := sh_allM fun b hb => h b (List.mem_cons_of_mem _ hb)
    have j := h a (List.mem_cons_self ..)
    exact ⟨by rw [List.map_cons, PyData.canLayAll0, j.1, i.1]; rfl, by rw [List.map_cons, PyData.depthAll]; exact Nat.max_le.mpr ⟨j.2, i.2⟩⟩
theorem RowAt.exN {CR CB : Addr} {H H' : Hp} {r : Addr} {z : Str} {s : Nat} {es : List En} {ls : List Nat} (h : RowAt CR CB H r z s es ls) (e : LamX.ExtN H H') : RowAt CR CB H' r z s es ls := by
  obtain ⟨dx, t, bs, h1, h2, h3⟩ := h
  exact ⟨dx, t, bs, e _ _ h1 (by intro ps z; cases z), tup_exN e h2, h3.1, fun i b g => by
    obtain ⟨db, hb⟩ := h3.2 i b g
    exact ⟨db, e _ _ hb (by intro ps z; cases z)⟩⟩
theorem SegD.exN {CS CR CB : Addr} {H H' : Hp} {x d : Addr} {s : Nat} {ps : List Pg} (h : SegD CS CR CB H x d s ps) (e : LamX.ExtN H H') : SegD CS CR CB H' x d s ps := by
  obtain ⟨dx, t1, t2, kas, h1, h2, h3, h4, h5⟩ := h
  exact ⟨dx, t1, t2, kas, e _ _ h1 (by intro ps z; cases z), h2.of (fun o h => e _ _ h (by intro ps z; cases z)), tup_exN e h3, e _ _ h4 (by intro ps z; cases z), h5.one, h5.keys, fun p hp => (h5.row p hp).exN e⟩
theorem mk_seg {C CS CR CB : Addr} {Tt : List (Addr × Str)} {H : Hp} {x dx l : Addr} {xs : List V} {ps : List Pg} {s : Nat} {n : Int} {R : Hp → Prop} {E : XK} (en : n = (s : Int)) (nx : H x = none) (nd : H dx = none) (hl : H l = some (.lst xs)) (hP : PagesAt C H xs ps) (l1 : 1 ≤ ps.length) (hn : (ps.map (·.1)).Nodup) (hg : Pgs (ps.map (·.2))) (s1 : 1 ≤ s) (s8 : s ≤ 8) (T : LamX.Tabs Tt H)
    (q : ∀ (d : Addr) (H' : Hp), (∀ kvs, H d ≠ some (.dK kvs)) → LamX.ExtN H H' → LamX.Tabs Tt H' → SegD CS CR CB H' x d s (sortPg ps) → R H') : spSInit C CS CR CB Tt [.ref x, .ref l, .int n] (upd (upd H dx (.own x)) x (.ins CS dx [])) (fun v H2 => v = .non ∧ R H2) E := by
  subst en
  have e := ex2 (o := .own x) (u := .ins CS dx []) nx nd
  refine ⟨x, dx, l, xs, ps, s, rfl, upd_same, e _ _ hl, hP.ex e, l1, hn, hg, s1, s8, LamX.Tabs.ext T e, fun d H' n1 i t sg => ⟨rfl, q d H' (fun kvs h => n1 kvs (e _ _ h)) (fun c o h n => i c o (ne_of_none h nx) (e _ _ h) n) t sg⟩⟩
theorem tabs_upl {Tt : List (Addr × Str)} {H : Hp} {D : Addr} {xs : List V} {o : HO} (t : LamX.Tabs Tt H) (hD : H D = some (.lst xs)) : LamX.Tabs Tt (upd H D o) := fun q hq => by
  obtain ⟨ps, h1, h2, h3⟩ := t q hq
  refine ⟨ps, by rw [upd_ne (ne_of h1 hD (by intro z; cases z))]; exact h1, h2, fun pos cv hc => ?_⟩
  obtain ⟨c, e1, e2⟩ := h3 pos cv hc
  exact ⟨c, e1, by rw [upd_ne (ne_of e2 hD (by intro z; cases z))]; exact e2⟩
theorem PagesAt.fx {C : Addr} {H H' : Hp} {xs : List V} {ps : List Pg} {p : Addr} {c : Nat} (h : PagesAt C H xs ps) (f : Fx p H H') (hp : Pl H p c) : PagesAt C H' xs ps := ⟨h.1, fun i v g => by
  obtain ⟨q, t, h1, h2, h3⟩ := h.2 i v g
  exact ⟨q, t, h1, h2, h3.fx f hp⟩⟩
theorem PagesAt.upl {C : Addr} {H : Hp} {xs ys : List V} {ps : List Pg} {D : Addr} {o : HO} (h : PagesAt C H xs ps) (hD : H D = some (.lst ys)) : PagesAt C (upd H D o) xs ps := ⟨h.1, fun i v g => by
  obtain ⟨q, t, h1, h2, h3⟩ := h.2 i v g
  exact ⟨q, t, h1, h2, h3.upl hD⟩⟩
theorem PagesAt.snoc {C : Addr} {H : Hp} {xs : List V} {ps : List Pg} {p : Addr} {g : Pg} (h : PagesAt C H xs ps) (k : PageAt C H p g.1 g.2) : PagesAt C H (xs ++ [.ref p]) (ps ++ [g]) := by
  refine ⟨by rw [List.length_append, List.length_append, h.1]; rfl, fun i t q => ?_⟩
  rcases snoc_at q with q | ⟨rfl, rfl⟩
  · obtain ⟨c, g', h1, h2, h3⟩ := h.2 i t q
    exact ⟨c, g', h1, by rw [List.getElem?_append_left (List.getElem?_eq_some_iff.mp h2).1]; exact h2, h3⟩
  · exact ⟨p, g, rfl, by rw [h.1, List.getElem?_append_right (Nat.le_refl _)]; simp, k⟩

/-! ### _law_numbers -/
def spNums : Sp := fun vs H Q _ => ∃ (p : Addr) (c m : Nat), vs = [.ref p, .int (m : Nat)] ∧ m ≤ 60 ∧ Pl H p c ∧ c < 800000 ∧ ∀ (l : Addr) (ns : List Int) (H' : Hp), l ≠ p → H l = none → H' l = some (.lst (ns.map V.int)) → ns.length = m → ns.Nodup → (∀ n ∈ ns, 1 ≤ n ∧ n ≤ 9999) → Pl H' p (c + 1 + 3 * m) → Fx p H H' → Q (.ref l) H'
set_option maxHeartbeats 8000000 in
theorem ok_l_numbers (T : TX K mg A FD TK CC) : FnOk P w K mg base CX0 2 (A 78) (FD 78) ["_law_pool_here", "_law_many"] spNums := by
  have G_l_take := ok_l_take (P := P) (w := w) (base := base) T
  refine T.f_l_numbers.ok (k := 1) sc_l_numbers (fun vs H Q E h => ?_) (fun cdv A' outer s H vs Q E hr h => ?_)
  · obtain ⟨p, c, m, rfl, _⟩ := h
    rfl
  · obtain ⟨p, c, m, rfl, hm, hp, hc, q⟩ := h
    refine ⟨_, (pss_cons (ps_set (i := 2) sc_l_numbers.nd rfl (.inl rfl) (pe_lst pa_nil))
      (pss_cons (ps_set (i := 3) sc_l_numbers.nd rfl (.inl rfl) (pe_call G_l_take hr (by rfl) T.g_l_take T.f_l_take.kp T.b_l_take .nil pass0 (pa_cons (pv 0) (pa_cons pe_int pa_nil))))
      (pss_cons (ps_for PassesOwn.never rfl (pi_range1 (by rfl) T.m_range (pa_cons (pv 1) pa_nil)) (pg_name (i := 4) sc_l_numbers.nd rfl (.inl rfl))
      (pss_cons (ps_set (i := 3) sc_l_numbers.nd rfl (.inl rfl) (pe_op op_add (pe_op op_add (pv 3) pe_int) (pe_call G_l_take hr (by rfl) T.g_l_take T.f_l_take.kp T.b_l_take .nil pass0 (pa_cons (pv 0) (pa_cons (pe_ix (ixLK (K := K) rfl) (pe_lst (pa_cons pe_int (pa_cons pe_int (pa_cons pe_int (pa_cons pe_int pa_nil))))) (pe_call G_l_take hr (by rfl) T.g_l_take T.f_l_take.kp T.b_l_take .nil pass0 (pa_cons (pv 0) (pa_cons pe_int pa_nil))) (fun _ _ => rfl)) pa_nil)))))
      (pss_one (ps_expr (pe_bm PySem.F.plainAttrs_list PySem.F.slot_list_insert PySem.F.type_list_insert mt_insert (pv 2) (pa_cons (pe_call G_l_take hr (by rfl) T.g_l_take T.f_l_take.kp T.b_l_take .nil pass0 (pa_cons (pv 0) (pa_cons (pe_op op_add (pe_callB (lenK (K := K) rfl) (by rfl) T.m_len (by decide +kernel) (pa_cons (pv 2) pa_nil)) pe_int) pa_nil))) (pa_cons (pv 3) pa_nil)))))))
      (pss_one (ps_ret (pv 2)))))), ?_⟩
    refine ⟨by show 0 ≤ sizeLine; decide, fun L nL => ?_⟩
    have nLp := pool_ne hp nL
    have e1 := Ex.new (o := .lst []) nL
    have hL := upd_same (H := H) (a := L) (o := .lst [])
    have hp1 := pl_upd (o := .lst []) hp nLp
    generalize (upd H L (.lst [])) = H1 at e1 hL hp1 ⊢
    refine ⟨.ref p, rfl, p, 3, c, rfl, hp1, by decide, by decide, by omega, fun la H2 l0 l3 hp2 f2 => ?_⟩
    refine ⟨.int (m : Nat), rfl, (m : Nat), rfl, by omega, by omega, ?_⟩
    refine for_range (lo := 0) (n := (m : Int).toNat) (fun i σ' H' => ∃ (la : Int) (o4 : Option V) (ns : List Int), σ' = [some (.ref p), some (.int (m : Nat)), some (.ref L), some (.int la), o4] ∧ H' L = some (.lst (ns.map V.int)) ∧ ns.length = i ∧ ns.Nodup ∧ (∀ n ∈ ns, 1 ≤ n ∧ n ≤ la) ∧ 0 ≤ la ∧ la ≤ 2 + 150 * (i : Int) ∧ Pl H' p (c + 1 + 3 * i) ∧ Fx p H H') ⟨la, none, [], rfl, f2 _ _ nLp hL, rfl, List.nodup_nil, fun n h => (by cases h), l0, by omega, hp2, fun b o nb h => f2 _ _ nb (e1 _ _ h)⟩ (fun i σ' H' hi pv => ?_) (fun σ' H' pv => ?_)
    · obtain ⟨la, o4, ns, rfl, hN, nl, nd, nr, a0, a1, hp3, f3⟩ := pv
      have hi : i < m := hi
      refine ⟨.int la, rfl, la, 1, rfl, rfl, .ref p, rfl, by show 4 ≤ sizeLine; decide, fun D nD => ?_⟩
      have nDp := pool_ne hp3 nD
      have e4 := Ex.new (o := .lst [.int 3, .int 3, .int 40, .int 150]) nD
      have hp4 := pl_upd (o := .lst [.int 3, .int 3, .int 40, .int 150]) hp3 nDp
      have hD := upd_same (H := H') (a := D) (o := .lst [.int 3, .int 3, .int 40, .int 150])
      have hL4 := e4 _ _ hN
      generalize (upd H' D (.lst [.int 3, .int 3, .int 40, .int 150])) = H4 at e4 hp4 hD hL4 ⊢
      refine ⟨.ref p, rfl, p, 4, c + 1 + 3 * i, rfl, hp4, by decide, by decide, by omega, fun di H5 d0 d3 hp5 f5 => ?_⟩
      have hD5 := f5 _ _ nDp hD
      have hL5 := f5 _ _ nLp hL4
      obtain ⟨m0, hm1, hm2, hm3⟩ : ∃ m0 : Int, atI ([.int 3, .int 3, .int 40, .int 150] : List V) di = some (.int m0) ∧ 0 < m0 ∧ m0 ≤ 150 := by
        have : di = 0 ∨ di = 1 ∨ di = 2 ∨ di = 3 := by omega
        rcases this with rfl | rfl | rfl | rfl <;> exact ⟨_, rfl, by decide, by decide⟩
      refine ⟨D, _, di, .int m0, rfl, rfl, sq_of hD5, hm1, ?_⟩
      refine ⟨p, m0, c + 1 + 3 * i + 1, rfl, hp5, hm2, by omega, by omega, fun dd H6 dd0 dd1 hp6 f6 => ?_⟩
      have hL6 := f6 _ _ nLp hL5
      refine ⟨la + 1, dd, rfl, rfl, ?_⟩
      refine ⟨.ref L, rfl, .inl ⟨rfl, _, SqL.of hL6⟩, .ref p, rfl, .ref L, rfl, L, _, rfl, .inl (SqL.of hL6), _, 1, rfl, rfl, p, ((ns.map V.int).length : Int) + 1, c + 1 + 3 * i + 1 + 1, rfl, hp6, by omega, by rw [List.length_map]; omega, by omega, fun k H7 k0 k1 hp7 f7 => ?_⟩
      have hL7 := f7 _ _ nLp hL6
      rw [List.length_map] at k1
      refine ⟨.int (la + 1 + dd), rfl, L, ns.map V.int, k, .int (la + 1 + dd), rfl, rfl, hL7, by rw [List.length_map]; exact sz_lt (by omega), k0, by omega, ?_⟩
      have kt : k.toNat ≤ ns.length := by omega
      have hs : (ns.map V.int).take k.toNat ++ [V.int (la + 1 + dd)] ++ (ns.map V.int).drop k.toNat = (ns.take k.toNat ++ [la + 1 + dd] ++ ns.drop k.toNat).map V.int := by
        rw [List.map_append, List.map_append, List.map_take, List.map_drop]
        rfl
      have pm : (ns.take k.toNat ++ [la + 1 + dd] ++ ns.drop k.toNat).Perm ((la + 1 + dd) :: ns) := by
        rw [List.append_assoc, List.singleton_append]
        exact List.perm_middle.trans (by rw [List.take_append_drop])
      rw [hs]
      refine ⟨la + 1 + dd, some (.int (0 + (i : Int))), _, rfl, upd_same, by rw [pm.length_eq, List.length_cons, nl], pm.nodup_iff.mpr (List.nodup_cons.mpr ⟨fun h => by have := (nr _ h).2; omega, nd⟩), fun n hn => ?_, by omega, by push_cast; omega, ?_, ?_⟩
      · rcases List.mem_cons.mp (pm.mem_iff.mp hn) with rfl | hn
        · exact ⟨by omega, Int.le_refl _⟩
        · have := nr n hn
          omega
      · rw [show c + 1 + 3 * (i + 1) = c + 1 + 3 * i + 1 + 1 + 1 by omega]
        exact pl_upd hp7 nLp
      · intro b o nb h
        have hb : b ≠ L := fun e => by rw [e, nL] at h; cases h
        rw [upd_ne hb]
        exact f7 _ _ nb (f6 _ _ nb (f5 _ _ nb (e4 _ _ (f3 _ _ nb h))))
    · obtain ⟨la, o4, ns, rfl, hN, nl, nd, nr, a0, a1, hp3, f3⟩ := pv
      rw [show ((m : Int).toNat) = m from rfl] at nl a1 hp3
      exact ⟨.ref L, rfl, q L ns H' nLp nL hN nl nd (fun n hn => by have := nr n hn; omega) hp3 f3⟩

/-! ### Segment: words in order, slot_of, the row of what is no word -/
theorem nodup_sub : ∀ {ks zs : List Str}, ks.Nodup → (∀ k ∈ ks, k ∈ zs) → ks.length ≤ zs.length := fun n h => n.length_le_of_subset h
def spSWords27 (CS CR CB : Addr) : Sp := fun vs H Q _ => ∃ (x : Addr) (s : Nat) (ps : List Pg) (zs : List Str), vs = [.ref x] ∧ SegAt CS CR CB H x s ps ∧ zs.length ≤ 60 ∧ (∀ k, ents k 0 (ps.map (·.2)) ≠ [] → k ∈ zs) ∧
  ∀ (l : Addr) (ys : List Str) (H' : Hp), H l = none → Ex H H' → H' l = some (.lst (ys.map V.str)) → (∀ k, k ∈ ys ↔ ents k 0 (ps.map (·.2)) ≠ []) → ys.Nodup → sortedS ys = true → Q (.ref l) H'
set_option maxHeartbeats 4000000 in
theorem ok_swords (T : TX K mg A FD TK CC) : FnOk P w K mg base CX0 1 (A 99) (FD 99) ["self"] (spSWords27 (A 68) (A 59) (A 58)) := by
  refine T.f_Segment_words.ok (k := 0) sc_Segment_words (fun vs H Q E h => ?_) (fun cdv A' outer s H vs Q E hr h => ?_)
  · obtain ⟨x, s, ps, zs, rfl, _⟩ := h
    rfl
  · obtain ⟨x, s, ps, zs, rfl, ⟨d, dx, t1, t2, kas, h1, h2, h3, h4, h5⟩, zl, hz, q⟩ := h
    refine ⟨_, (pss_one (ps_ret (pe_callB (call_sortedD rfl) (by rfl) T.m_sorted (by decide +kernel) (pa_cons (fldK (K := K) rfl (pv 0) rfl) pa_nil)))), ?_⟩
    have kl : (kas.map (·.1)).length ≤ 60 := by
      have := nodup_sub h5.one (fun k hk => hz k ((h5.keys k).mp hk))
      omega
    refine ⟨.ref x, rfl, x, A 68, dx, _, _, rfl, h1, T.cl_Segment, T.n_Segment_rows, rfl, d, DLk kas, kas.map (·.1), rfl, .inl h4, ?_, by omega, fun ys p perm srt np => ?_⟩
    · unfold DLk
      rw [List.map_map, List.map_map]
      rfl
    · exact q p ys _ np (Ex.new np) upd_same (fun k => by rw [perm.mem_iff, h5.keys k]) (perm.nodup_iff.mpr h5.one) srt
/-- where a number stands among numbers -/
def sOf (ns : List Int) (z : Int) : List Nat := (List.range ns.length).filter fun i => decide (ns[i]? = some z)
def sVal : List Nat → V
  | [] => .non
  | i :: _ => .int (i : Nat)
theorem sOf_mem {ns : List Int} {z : Int} {i : Nat} : i ∈ sOf ns z ↔ ns[i]? = some z := by
  unfold sOf
  rw [List.mem_filter, List.mem_range, decide_eq_true_eq]
  exact ⟨fun h => h.2, fun h => ⟨(List.getElem?_eq_some_iff.mp h).1, h⟩⟩
theorem sOf_inc (ns : List Int) (z : Int) : (sOf ns z).Pairwise (· < ·) := List.pairwise_lt_range.filter _
theorem ints_flatV (ns : List Int) : (ns.map V.int).all flatV = true := List.all_eq_true.mpr fun v h => by
  obtain ⟨i, _, rfl⟩ := List.mem_map.mp h
  rfl
theorem inV_intsL (z : Int) (ns : List Int) : inV (V.int z) (ns.map V.int) = decide (z ∈ ns) := by
  induction ns with
  | nil => simp [inV]
  | cons m r ih =>
    have e : inV (V.int z) ((m :: r).map V.int) = (eqV (.int m) (.int z) || inV (V.int z) (r.map V.int)) := rfl
    rw [e, ih]
    by_cases h : m = z
    · subst h
      simp [eqV]
    · simp [eqV, h, Ne.symm h]
def spSlotOf (CS CR CB : Addr) : Sp := fun vs H Q _ => ∃ (x : Addr) (s : Nat) (ps : List Pg) (z : Int), vs = [.ref x, .int z] ∧ SegAt CS CR CB H x s ps ∧ ∀ H', Ex H H' → Q (sVal (sOf (ps.map (·.1)) z)) H'
set_option maxHeartbeats 4000000 in
theorem ok_slot_of (T : TX K mg A FD TK CC) : FnOk P w K mg base CX0 2 (A 101) (FD 101) ["self", "number"] (spSlotOf (A 68) (A 59) (A 58)) := by
  have G_is_whole := ok_is_whole (P := P) (w := w) (base := base) T
  refine T.f_Segment_slot_of.ok (k := 1) sc_Segment_slot_of (fun vs H Q E h => ?_) (fun cdv A' outer s H vs Q E hr h => ?_)
  · obtain ⟨x, s, ps, z, rfl, _⟩ := h
    rfl
  · obtain ⟨x, s, ps, z, rfl, ⟨d, dx, t1, t2, kas, h1, h2, h3, h4, h5⟩, q⟩ := h
    refine ⟨_, (pss_cons (ps_if (PW.pt (pw_or (pt_not (pt_val (pe_call G_is_whole hr (by rfl) T.g_is_whole T.f_is_whole.kp T.b_is_whole .nil pass0 (pa_cons (pv 1) pa_nil)))) (pw_or1 (pt_cmpR (notInK (K := K) rfl) (pv 1) (fldK (K := K) rfl (pv 0) rfl) (by rfl)))))
      (pss_one (ps_ret pe_non))
      pss_nil)
      (pss_one (ps_ret (TupIx.pe_bmT PySem.F.plainAttrs_tuple PySem.F.slot_tuple_index PySem.F.type_tuple_index TupIx.mt_indexI (fldK (K := K) rfl (pv 0) rfl) (pa_cons (pv 1) pa_nil))))), ?_⟩
    have em : (ps.map fun g => V.int g.1) = (ps.map (·.1)).map V.int := by rw [List.map_map]; rfl
    rw [em] at h2
    generalize ps.map (·.1) = ns at h2 q ⊢
    refine ⟨.int z, rfl, z, rfl, fun H1 e1 => ⟨true, rfl, ?_⟩⟩
    have h2' := h2.ex e1
    refine iteF ⟨.int z, rfl, .ref x, rfl, x, A 68, dx, _, _, rfl, e1 _ _ h1, T.cl_Segment, T.n_Segment_slot_numbers, rfl, t1, _, rfl, .inr h2'.sq, rfl, ints_flatV ns, _, rfl, ?_⟩
    rw [if_pos rfl, inV_intsL]
    cases hf : sOf ns z with
    | nil =>
      rw [hf] at q
      have no : z ∉ ns := fun m => by
        obtain ⟨i, hi⟩ := List.mem_iff_getElem?.mp m
        have := sOf_mem.mpr hi
        rw [hf] at this
        cases this
      rw [decide_eq_false no]
      exact iteT (q H1 e1)
    | cons j r =>
      rw [hf] at q
      have hj : ns[j]? = some z := sOf_mem.mp (by rw [hf]; exact List.mem_cons_self ..)
      have first : ∀ m, m < j → ns[m]? ≠ some z := fun m lt hm => by
        have hm' : m ∈ sOf ns z := sOf_mem.mpr hm
        have inc := sOf_inc ns z
        rw [hf] at hm' inc
        rcases List.mem_cons.mp hm' with rfl | hm'
        · omega
        · have := (List.pairwise_cons.mp inc).1 m hm'
          omega
      rw [decide_eq_true (List.mem_of_getElem? hj)]
      exact iteF ⟨.ref x, rfl, x, A 68, dx, _, _, rfl, e1 _ _ h1, T.cl_Segment, T.n_Segment_slot_numbers, rfl, ⟨t1, _, rfl, h2'⟩, .int z, rfl, t1, ns, z, j, rfl, rfl, h2'.sq, hj, first, q H1 e1⟩
def spSRowO (C : Addr) : Sp := fun vs H _ E => ∃ (x : Addr) (v : V), vs = [.ref x, v] ∧ Th H v ∧ wordV v = false ∧ RetE C H E
set_option maxHeartbeats 4000000 in
theorem ok_srowO (T : TX K mg A FD TK CC) : FnOk P w K mg base (L2.CX P w) 12 (A 100) (FD 100) ["self", "word"] (spSRowO (A 3)) := by
  have G_check_word := (ok_check_wordX (P := P) (w := w) (base := base) T).mono (show 2 ≤ 11 by decide)
  have G_Segment_lengths := (ok_slens (P := P) (w := w) (base := base) T).mono (show 1 ≤ 11 by decide)
  have G_Row := (ok_rinit (P := P) (w := w) (base := base) T).mono (show 9 ≤ 10 by decide)
  have KB3_Row := kb_row T
  refine T.f_Segment_row.okX (k := 11) sc_Segment_row (fun vs H Q E h => ?_) (fun cdv A' outer s H vs Q E hr h => ?_)
  · obtain ⟨x, v, rfl, _⟩ := h
    rfl
  · obtain ⟨x, v, rfl, hv, hw, qe⟩ := h
    refine ⟨_, (pss_cons (ps_expr (pe_call G_check_word hr (by rfl) T.g_check_word T.f_check_word.kp T.b_check_word .nil (passes_call (takes_of rfl rfl rfl rfl) (fun _ _ _ _ h => h)) (pa_cons (pv 1) pa_nil)))
      (pss_cons (ps_if (pt_cmp (pc_din (hu_of hr) (pv 1) (fldK (K := K) rfl (pv 0) rfl)))
      (pss_one (ps_ret (pe_dget (hu_of hr) (fldK (K := K) rfl (pv 0) rfl) (pv 1) (fun _ _ => rfl))))
      pss_nil)
      (pss_one (ps_ret (pe_makeK T.M_Row G_Row hr (by rfl) T.k_Row KB3_Row pass0 (pa_cons (pv 1) (pa_cons (pe_lst pa_nil) (pa_cons (pe_meth0 (pv 0) T.cl_Segment T.M_Segment_lengths G_Segment_lengths hr T.b_Segment_lengths .nil pass0) pa_nil))) (pk_cons (fldK (K := K) rfl (pv 0) rfl) pk_nil)))))), ?_⟩
    exact ⟨v, rfl, v, rfl, hv, fun z => Bool.noConfusion (hw.symm.trans z), fun _ => qe⟩

/-! ### _law_due_row -/
theorem strs_flat (l : List Str) : (l.map V.str).all flatV = true := List.all_eq_true.mpr fun v h => by
  obtain ⟨i, _, rfl⟩ := List.mem_map.mp h
  rfl
theorem inV_strs (z : Str) : ∀ l : List Str, inV (.str z) (l.map V.str) = decide (z ∈ l)
  | [] => by simp [inV]
  | m :: r => by
    have e : inV (V.str z) ((m :: r).map V.str) = (eqV (.str m) (.str z) || inV (V.str z) (r.map V.str)) := rfl
    rw [e, inV_strs z r]
    by_cases h : m = z
    · subst h
      simp [eqV]
    · simp [eqV, h, Ne.symm h]
def spDueRow (CR CB : Addr) : Sp := fun vs H Q _ => ∃ (N : Addr → Prop) (l : Addr) (xs : List V) (gs : List Pg) (z : Str) (s : Nat), vs = [.str z, .ref l, .int (s : Nat)] ∧ H l = some (.lst xs) ∧ Prs N H xs gs ∧ Pgs (gs.map (·.2)) ∧ isW z = true ∧ 1 ≤ s ∧ s ≤ 8 ∧
  ∀ (r : Addr) (H' : Hp), Ex H H' → RowAt CR CB H' r z s (ents z 0 (gs.map (·.2))) ((gs.map (·.2)).map List.length) → Q (.ref r) H'
set_option maxHeartbeats 8000000 in
theorem ok_l_due_row (T : TX K mg A FD TK CC) : FnOk P w K mg base CX0 12 (A 82) (FD 82) ["_law_word", "_law_some", "_law_wide"] (spDueRow (A 59) (A 58)) := by
  have G_l_spots := (ok_l_spots (P := P) (w := w) (base := base) T).mono (show 1 ≤ 11 by decide)
  have G_Row := (ok_rinit (P := P) (w := w) (base := base) T).mono (show 9 ≤ 10 by decide)
  have KB3_Row := kb_row T
  refine T.f_l_due_row.ok (k := 11) sc_l_due_row (fun vs H Q E h => ?_) (fun cdv A' outer s H vs Q E hr h => ?_)
  · obtain ⟨N, l, xs, gs, z, s, rfl, _⟩ := h
    rfl
  · obtain ⟨N, l, xs, gs, z, s, rfl, hl, hP, hg, hw, s1, s8, q⟩ := h
    refine ⟨_, (pss_cons (ps_setLc (i := 3) (own := [("_law_number", 5), ("_law_held", 6)])  rfl sc_l_due_row.nd rfl rfl (sw_true rfl rfl rfl (by decide +kernel)) (piLK (K := K) rfl (pv 1)) (blkOk_by (own := [("_law_number", 5), ("_law_held", 6)]) (N := N_l_due_row) (sc := defScope (topS 82)) (by decide +kernel)) (fun _ _ _ _ _ => (tupGK (K := K) (n := 2) rfl rfl (pgs_cons (pg_name (i := 5) sc_l_due_row.nd rfl (Or.inl rfl)) (pgs_cons (pg_name (i := 6) sc_l_due_row.nd rfl (Or.inl rfl)) pgs_nil)))) (fun _ _ _ _ _ => pts_nil) (fun _ _ _ _ _ => (pe_callB (lenK (K := K) rfl) (by rfl) T.m_len (by decide +kernel) (pa_cons (pv 6) pa_nil))))
      (pss_cons (ps_setLc (i := 4) (own := [("_law_slot", 7), ("_law_number", 5), ("_law_held", 6)])  rfl sc_l_due_row.nd rfl rfl (sw_true rfl rfl rfl (by decide +kernel)) (pi_enum (by rfl) T.m_enumerate (pa_cons (pv 1) pa_nil)) (blkOk_by (own := [("_law_slot", 7), ("_law_number", 5), ("_law_held", 6)]) (N := N_l_due_row) (sc := defScope (topS 82)) (by decide +kernel)) (fun _ _ _ _ _ => (tupGK (K := K) (n := 2) rfl rfl (pgs_cons (pg_name (i := 7) sc_l_due_row.nd rfl (Or.inl rfl)) (pgs_cons (tupGK (K := K) (n := 2) rfl rfl (pgs_cons (pg_name (i := 5) sc_l_due_row.nd rfl (Or.inl rfl)) (pgs_cons (pg_name (i := 6) sc_l_due_row.nd rfl (Or.inl rfl)) pgs_nil))) pgs_nil)))) (fun _ _ _ _ _ => (pts_one (pt_cmpR (inK (K := K) rfl) (pv 0) (pv 6) (by rfl)))) (fun _ _ _ _ _ => (pe_tup (pa_cons (pv 7) (pa_cons (pe_callTy (tupK (K := K) rfl) (by rfl) T.m_tuple (by decide +kernel) (pa_cons (pe_call G_l_spots hr (by rfl) T.g_l_spots T.f_l_spots.kp T.b_l_spots .nil pass0 (pa_cons (pv 6) (pa_cons (pv 0) pa_nil))) pa_nil)) pa_nil)))))
      (pss_one (ps_ret (pe_makeK T.M_Row G_Row hr (by rfl) T.k_Row KB3_Row pass0 (pa_cons (pv 0) (pa_cons (pv 4) (pa_cons (pv 3) pa_nil))) (pk_cons (pv 2) pk_nil)))))), ?_⟩
    have few := hg.few
    rw [List.length_map] at few
    have p120 : ∀ g ∈ gs, g.2.length ≤ 120 := fun g h => (hg.ok g.2 (List.mem_map.mpr ⟨g, h, rfl⟩)).1
    have xl : xs.length = gs.length := hP.1
    refine ⟨.ref l, rfl, l, rfl, ⟨_, SqL.of hl⟩, fun D nD => ?_⟩
    refine lc_list (K := K) (a := l) (xs := xs) (fun i H' => Ex H H' ∧ H' D = some (.lst (nvs (((gs.take i).map (·.2)).map List.length)))) ⟨Ex.new nD, upd_same⟩ (fun i H' _ p => SqL.of (p.1 _ _ hl)) (fun i v H1 hv p => ?_) (fun H1 p => ?_)
    · obtain ⟨e1, hD⟩ := p
      obtain ⟨g, gg, a, h, rfl, k1, k2, _⟩ := hP.mem hv
      refine ⟨a, _, rfl, SqT.of (e1 _ _ k1), rfl, _, _, rfl, _, _, rfl, rfl, rfl, .ref h, rfl, h, _, rfl, .inl (SqL.of (e1 _ _ k2)), _, hD, ?_, Ex.mut e1 nD, ?_⟩
      · unfold nvs
        rw [List.length_map, List.length_map, List.length_map, List.length_take]
        exact sz_lt (by omega)
      · rw [upd_same, List.take_add_one, gg, List.length_map]
        unfold nvs
        rw [List.map_append, List.map_append, List.map_append]
        rfl
    obtain ⟨e1, hD⟩ := p
    rw [xl, List.take_length] at hD
    have hl1 := e1 _ _ hl
    have hP1 := hP.ex e1
    refine ⟨.ref l, rfl, l, xs, rfl, SqL.of hl1, fun D2 nD2 => ?_⟩
    have eD2 := Ex.new (o := .lst []) nD2
    refine lc_it (walk_enum (K := K) (a := l) (xs := xs)) (fun j H' => Ex H1 H' ∧ ∃ us, H' D2 = some (.lst us) ∧ EnsA H' us (ents z 0 ((gs.take j).map (·.2)))) ⟨eD2, [], upd_same, rfl, fun i e g => by cases g⟩ (fun j H' _ p => SqL.of (p.1 _ _ hl1)) (fun j x H3 H4 hj p y => ?_) (fun H3 p => ?_)
    · obtain ⟨e3, us, hD3, hU⟩ := p
      obtain ⟨Tt, u1, u2, rfl, nTt, rfl, g1, g2⟩ := y
      cases g1
      obtain ⟨g, gg, b, h, rfl, k2, k3, _⟩ := hP1.mem g2
      have eT := Ex.new (o := .tup [V.int (j : Nat), .ref b]) nTt
      have hD4 := eT _ _ hD3
      have hU4 := hU.ex eT
      have e4 := e3.trans eT
      have gl := p120 g (List.mem_of_getElem? gg)
      have jl := (List.getElem?_eq_some_iff.mp gg).1
      have up : ents z 0 ((gs.take (j + 1)).map (·.2)) = ents z 0 ((gs.take j).map (·.2)) ++ (if plc z 0 g.2 = [] then [] else [(j, plc z 0 g.2)]) := by
        rw [List.take_add_one, gg, List.map_append]
        show ents z 0 (_ ++ [g.2]) = _
        rw [ents_snoc, List.length_map, List.length_take, Nat.zero_add, Nat.min_eq_left (by omega)]
      refine ⟨Tt, _, rfl, SqT.of upd_same, rfl, _, _, rfl, _, _, rfl, b, _, rfl, SqT.of (e4 _ _ k2), rfl, _, _, rfl, _, _, rfl, rfl, rfl, rfl, .str z, rfl, .ref h, rfl, h, g.2.map V.str, rfl, .inl (SqL.of (e4 _ _ k3)), rfl, strs_flat _, _, rfl, ?_⟩
      generalize (upd H3 Tt (.tup [V.int (j : Nat), .ref b])) = H5 at hD4 hU4 e4 ⊢
      rw [inV_strs, up]
      have ul := hU4.1
      have ef := ents_few z ((gs.take j).map (·.2)) 0
      rw [List.length_map, List.length_take] at ef
      by_cases c : z ∈ g.2
      · rw [decide_eq_true c, if_neg (plc_ne.mpr c)]
        refine iteT ⟨.int (j : Nat), rfl, .ref h, rfl, .str z, rfl, h, g.2, z, rfl, e4 _ _ k3, gl, fun sp H6 nsp e6 hsp => ⟨sp, _, rfl, .inl ⟨SqL.of hsp, fun ta nta => ?_⟩⟩⟩
        have e7 := Ex.new (o := .tup ((plc z 0 g.2).map nV)) nta
        have h7 := upd_same (H := H6) (a := ta) (o := .tup ((plc z 0 g.2).map nV))
        generalize (upd H6 ta (.tup ((plc z 0 g.2).map nV))) = H7 at e7 h7 ⊢
        refine ⟨by show 2 ≤ sizeLine; decide, fun t nt => ?_⟩
        have e8 := Ex.new (o := .tup [V.int (j : Nat), .ref ta]) nt
        have h8 := upd_same (H := H7) (a := t) (o := .tup [V.int (j : Nat), .ref ta])
        generalize (upd H7 t (.tup [V.int (j : Nat), .ref ta])) = H8 at e8 h8 ⊢
        have e58 := (e6.trans e7).trans e8
        have hD8 := e58 _ _ hD4
        refine ⟨us, hD8, ?_, Ex.mut (e4.trans e58) nD2, us ++ [.ref t], upd_same, ?_⟩
        · rw [ul]
          exact sz_lt (by omega)
        · exact ((hU4.ex e58).snoc (show EnA H8 t (j, plc z 0 g.2) from ⟨ta, h8, e8 _ _ (show H7 ta = some (.tup (nvs (plc z 0 g.2))) from h7)⟩)).mono fun b zs hb => by rw [upd_ne (ne_of hb hD8 (by intro z; cases z))]; exact hb
      · rw [decide_eq_false c, if_pos (Classical.byContradiction fun k => c (plc_ne.mp k)), List.append_nil]
        exact iteF ⟨e4, us, hD4, hU4⟩
    obtain ⟨e3, us, hD3, hU⟩ := p
    rw [xl, List.take_length] at hU
    refine ⟨.str z, rfl, .ref D2, rfl, .ref D, rfl, .int (s : Nat), rfl, rfl, rfl, fun r rdx nr nrd _ => ?_⟩
    exact mk_row nr nrd hD3 hU (e3 _ _ hD) (hg.row hw s1 s8) fun H4 e4 hr4 => q r H4 ((e1.trans e3).trans e4) hr4

/-! ### _law_right -/
def spRight27 (K : PySem.W.Frag) (CS CR CB : Addr) (Tt : List (Addr × Str)) : Sp := fun vs H Q _ => ∃ (N : Addr → Prop) (x l : Addr) (s : Nat) (gs : List Pg) (xs : List V) (zs : List Str), vs = [.ref x, .ref l, .int (s : Nat)] ∧ SegAt CS CR CB H x s gs ∧ SegOk s gs ∧ H l = some (.lst xs) ∧ Prs N H xs gs ∧ zs.length ≤ 60 ∧ (∀ g ∈ gs, g.2.length ≤ 60 ∧ ∀ y ∈ g.2, y ∈ zs) ∧ LamX.Tabs Tt H ∧
  ∀ H', LamX.ExtN H H' → LamX.Tabs Tt H' → Q (.bl true) H'
theorem ne_sameV {v : V} : (!decide (v = v)) = false := by rw [decide_eq_true rfl]; rfl
theorem dpI {K : PySem.W.Frag} {H : Hp} : ∀ ns : List Int, DpAll K H (ns.map V.int) (ns.map PyData.int)
  | [] => .nil
  | _ :: r => .cons (.int _) (dpI r)
theorem dp_app {K : PySem.W.Frag} {H : Hp} : ∀ {xs : List V} {ds : List PyData}, DpAll K H xs ds → ∀ {ys : List V} {es : List PyData}, DpAll K H ys es → DpAll K H (xs ++ ys) (ds ++ es)
  | _, _, .nil, _, _, k => k
  | _, _, .cons a b, _, _, k => .cons a (dp_app b k)
def iL (ns : List Int) : PyData := .list (ns.map PyData.int)
def sL (ns : List Str) : PyData := .list (ns.map PyData.str)
theorem layI : ∀ ns : List Int, PyData.canLayAll0 (ns.map PyData.int) = true ∧ PyData.depthAll (ns.map PyData.int) = 0
  | [] => ⟨rfl, rfl⟩
  | n :: r => by
    obtain ⟨a, b⟩ := layI r
    rw [List.map_cons, PyData.canLayAll0, PyData.depthAll, a, b, PyData.depth]
    exact ⟨rfl, rfl⟩
theorem layS : ∀ {ns : List Str}, ns.all isW = true → PyData.canLayAll0 (ns.map PyData.str) = true ∧ PyData.depthAll (ns.map PyData.str) = 0
  | [], _ => ⟨rfl, rfl⟩
  | z :: r, h => by
    rw [List.all_cons, Bool.and_eq_true] at h
    obtain ⟨a, b⟩ := layS h.2
    have c : PyData.canLay0 (.str z) = true := isW_ok h.1
    rw [List.map_cons, PyData.canLayAll0, PyData.depthAll, a, b, PyData.depth, c]
    exact ⟨rfl, rfl⟩
theorem shDue {ns ms : List Int} {ws : List Str} (h : PyData.canLayAll0 (ws.map PyData.str) = true ∧ PyData.depthAll (ws.map PyData.str) = 0) {es : List PyData} (he : PyData.canLayAll0 es = true ∧ PyData.depthAll es = 0) :
    SeqAt.shaped (.list [.list (ns.map PyData.int ++ es), .list (ms.map PyData.int ++ es), .list (ws.map PyData.str ++ es)]) = true := by
  have a1 : ∀ (as bs : List PyData), PyData.canLayAll0 as = true → PyData.canLayAll0 bs = true → PyData.canLayAll0 (as ++ bs) = true := fun as bs => by
    induction as with
    | nil => exact fun _ h => h
    | cons a r ih =>
      intro h1 h2
      rw [PyData.canLayAll0, Bool.and_eq_true] at h1
      rw [List.cons_append, PyData.canLayAll0, h1.1, ih h1.2 h2]
      rfl
  have a2 : ∀ (as bs : List PyData), PyData.depthAll as = 0 → PyData.depthAll bs = 0 → PyData.depthAll (as ++ bs) = 0 := fun as bs => by
    induction as with
    | nil => exact fun _ h => h
    | cons a r ih =>
      intro h1 h2
      rw [PyData.depthAll] at h1
      have h3 : PyData.depth a = 0 ∧ PyData.depthAll r = 0 := by omega
      rw [List.cons_append, PyData.depthAll, h3.1, ih h3.2 h2]
      rfl
  have e1 : PyData.canLay0 (.list [.list (ns.map PyData.int ++ es), .list (ms.map PyData.int ++ es), .list (ws.map PyData.str ++ es)]) = true := by
    rw [PyData.canLay0, PyData.canLayAll0, PyData.canLayAll0, PyData.canLayAll0, PyData.canLayAll0, PyData.canLay0, PyData.canLay0, PyData.canLay0, a1 _ _ (layI ns).1 he.1, a1 _ _ (layI ms).1 he.1, a1 _ _ h.1 he.1]
    rfl
  have e2 : PyData.depth (.list [.list (ns.map PyData.int ++ es), .list (ms.map PyData.int ++ es), .list (ws.map PyData.str ++ es)]) = 2 := by
    rw [PyData.depth, PyData.depthAll, PyData.depthAll, PyData.depthAll, PyData.depthAll, PyData.depth, PyData.depth, PyData.depth, a2 _ _ (layI ns).2 he.2, a2 _ _ (layI ms).2 he.2, a2 _ _ h.2 he.2]
    rfl
  unfold SeqAt.shaped
  rw [e1, e2]
  rfl
theorem eqv_shD {d : PyData} (h : SeqAt.shaped d = true) : PyData.eqv d d = true := SeqAt.eqv_refl d (SeqAt.canLay_of_shaped h)
theorem nvs_ints (ls : List Nat) : nvs ls = (ls.map fun n : Nat => (n : Int)).map V.int := by
  rw [List.map_map]
  rfl
theorem numsI (gs : List Pg) : (gs.map fun g => V.int g.1) = (gs.map (·.1)).map V.int := by
  rw [List.map_map]
  rfl
/-- three lists, each longer by a nought once it has been its turn -/
def Three (H : Hp) (a b c : Addr) (xs ys zs : List V) (j : Nat) : Prop := H a = some (.lst (xs ++ if 0 < j then [.int 0] else [])) ∧ H b = some (.lst (ys ++ if 1 < j then [.int 0] else [])) ∧ H c = some (.lst (zs ++ if 2 < j then [.int 0] else []))
theorem sVal_scal (l : List Nat) : scal (sVal l) (sVal l) = true := by
  cases l <;> rfl
set_option maxHeartbeats 64000000 in
theorem ok_l_right (T : TX K mg A FD TK CC) {Tt : List (Addr × Str)} {PR : Addr} (TBL : LamX.TabB base mg (CC 83) PR) (hmL : (PR, lamQ "_law_right") ∈ Tt) (huL : ∀ q ∈ Tt, q.1 = PR → q.2 = lamQ "_law_right") :
    FnOk P w K mg base CX0 15 (A 83) (FD 83) ["_law_segment", "_law_some", "_law_wide"] (spRight27 K (A 68) (A 59) (A 58) Tt) := by
  have G_Segment_numbers := (ok_snums (P := P) (w := w) (base := base) T).mono (show 1 ≤ 14 by decide)
  have G_Segment_lengths := (ok_slens (P := P) (w := w) (base := base) T).mono (show 1 ≤ 14 by decide)
  have G_Segment_words := (ok_swords (P := P) (w := w) (base := base) T).mono (show 1 ≤ 14 by decide)
  have G_Segment_len := (ok_slen (P := P) (w := w) (base := base) T).mono (show 1 ≤ 13 by decide)
  have G_Segment_row := (ok_srowA (P := P) (w := w) (base := base) T).mono (show 12 ≤ 14 by decide)
  have G_Segment_row_lam := (ok_srowO (P := P) (w := w) (base := base) T).mono (show 12 ≤ 12 by decide)
  have G_Segment_slot_of := (ok_slot_of (P := P) (w := w) (base := base) T).mono (show 2 ≤ 14 by decide)
  have G_l_whole := (ok_l_whole (P := P) (w := w) (base := base) T).mono (show 1 ≤ 14 by decide)
  have G_l_due_row := (ok_l_due_row (P := P) (w := w) (base := base) T).mono (show 12 ≤ 14 by decide)
  have G_Row_eq7 := (ok_req (P := P) (w := w) (base := base) T).mono (show 4 ≤ 13 by decide)
  have G_Row_entries := (ok_rentries (P := P) (w := w) (base := base) T).mono (show 4 ≤ 14 by decide)
  have G_Row_len := (ok_rlen (P := P) (w := w) (base := base) T).mono (show 1 ≤ 13 by decide)
  refine T.F_l_right.ok (k := 14) sc_l_right (fun vs H Q E h => ?_) (fun A' outer s H vs Q E hr h => ?_)
  · obtain ⟨N, x, l, s, gs, xs, zs, rfl, _⟩ := h
    rfl
  · obtain ⟨N, x, l, sz_, gs, xs, zs, rfl, hS, so, hl, hP, zl, hz, hT, q⟩ := h
    refine ⟨_, (pss_cons (ps_set (i := 3) sc_l_right.nd rfl (.inr rfl) (pe_lc (own := [("_law_number", 5), ("_law_held", 6)])  rfl sc_l_right.nd (piLK (K := K) rfl (pv 1)) (blkOk_by (own := [("_law_number", 5), ("_law_held", 6)]) (N := N_l_right) (sc := defScope (topS 83)) (by decide +kernel)) (fun _ _ _ _ _ => (tupGK (K := K) (n := 2) rfl rfl (pgs_cons (pg_name (i := 5) sc_l_right.nd rfl (Or.inl rfl)) (pgs_cons (pg_name (i := 6) sc_l_right.nd rfl (Or.inl rfl)) pgs_nil)))) (fun _ _ _ _ _ => pts_nil) (fun _ _ _ _ _ => (pv 5))))
      (pss_cons (ps_set (i := 4) sc_l_right.nd rfl (.inl rfl) (pe_lst (pa_cons (pv 3) (pa_cons (pe_lc (own := [("_law_number", 5), ("_law_held", 6)])  rfl sc_l_right.nd (piLK (K := K) rfl (pv 1)) (blkOk_by (own := [("_law_number", 5), ("_law_held", 6)]) (N := N_l_right) (sc := defScope (topS 83)) (by decide +kernel)) (fun _ _ _ _ _ => (tupGK (K := K) (n := 2) rfl rfl (pgs_cons (pg_name (i := 5) sc_l_right.nd rfl (Or.inl rfl)) (pgs_cons (pg_name (i := 6) sc_l_right.nd rfl (Or.inl rfl)) pgs_nil)))) (fun _ _ _ _ _ => pts_nil) (fun _ _ _ _ _ => (pe_callB (lenK (K := K) rfl) (by rfl) T.m_len (by decide +kernel) (pa_cons (pv 6) pa_nil)))) (pa_cons (pe_lst pa_nil) pa_nil)))))
      (pss_cons (ps_for PassesOwn.never rfl (piLK (K := K) rfl (pv 1)) (pg_tup rfl (pgs_cons (pg_name (i := 5) sc_l_right.nd rfl (.inr rfl)) (pgs_cons (pg_name (i := 6) sc_l_right.nd rfl (.inl rfl)) pgs_nil)))
      (pss_one (ps_asg (pe_op op_cat (pe_ix (ixLK (K := K) rfl) (pv 4) pe_int (fun _ _ => rfl)) (pv 6)) (pg_sub (pv 4) pe_int set_list))))
      (pss_cons (ps_asg (pe_callB (SxT.cr_sortX rfl) (by rfl) T.m_sorted (by decide +kernel) (pa_cons (pe_callTy (SxT.setLK (K := K) rfl rfl) (by rfl) T.m_set (by decide +kernel) (pa_cons (pe_ix (ixLK (K := K) rfl) (pv 4) pe_int (fun _ _ => rfl)) pa_nil)) pa_nil)) (pg_sub (pv 4) pe_int set_list))
      (pss_cons (ps_set (i := 7) sc_l_right.nd rfl (.inl rfl) (pe_lst pa_nil))
      (pss_cons (ps_for PassesOwn.never rfl (pi_range1 (by rfl) T.m_range (pa_cons pe_int pa_nil)) (pg_name (i := 8) sc_l_right.nd rfl (.inl rfl))
      (pss_cons (ps_set (i := 9) sc_l_right.nd rfl (.inl rfl) (pe_lst (pa_cons (pe_meth0 (pv 0) T.cl_Segment T.M_Segment_numbers G_Segment_numbers hr T.b_Segment_numbers .nil pass0) (pa_cons (pe_meth0 (pv 0) T.cl_Segment T.M_Segment_lengths G_Segment_lengths hr T.b_Segment_lengths .nil pass0) (pa_cons (pe_meth0 (pv 0) T.cl_Segment T.M_Segment_words G_Segment_words hr T.b_Segment_words .nil pass0) pa_nil)))))
      (pss_cons (ps_if (PW.pt (pw_or (pt_cmpR (neDK (K := K) rfl hr.units) (pv 9) (pv 4) (nomark _)) (pw_or1 (pt_not (pt_val (pe_callB (allK (K := K) rfl rfl) (by rfl) T.m_all (by decide +kernel) (pa_cons (pe_lc (own := [("_law_one", 10)])  rfl sc_l_right.nd (piLK (K := K) rfl (pe_op op_cat (pe_ix (ixLK (K := K) rfl) (pv 9) pe_int (fun _ _ => rfl)) (pe_ix (ixLK (K := K) rfl) (pv 9) pe_int (fun _ _ => rfl)))) (blkOk_by (own := [("_law_one", 10)]) (N := N_l_right) (sc := defScope (topS 83)) (by decide +kernel)) (fun _ _ _ _ _ => (pg_name (i := 10) sc_l_right.nd rfl (Or.inl rfl))) (fun _ _ _ _ _ => pts_nil) (fun _ _ _ _ _ => (pe_call G_l_whole hr (by rfl) T.g_l_whole T.f_l_whole.kp T.b_l_whole .nil pass0 (pa_cons (pv 10) pa_nil)))) pa_nil)))))))
      (pss_one (ps_ret pe_bl))
      pss_nil)
      (pss_cut (ps_if (PW.pt (pw_and (pt_cmpR (neDK (K := K) rfl hr.units) (pv 7) (pe_lst pa_nil) (nomark _)) (pw_and1 (pt_cmpR (neDK (K := K) rfl hr.units) (pv 7) (pe_lc (own := [("_law_one", 10)])  rfl sc_l_right.nd (piLK (K := K) rfl (pv 4)) (blkOk_by (own := [("_law_one", 10)]) (N := N_l_right) (sc := defScope (topS 83)) (by decide +kernel)) (fun _ _ _ _ _ => (pg_name (i := 10) sc_l_right.nd rfl (Or.inl rfl))) (fun _ _ _ _ _ => pts_nil) (fun _ _ _ _ _ => (pe_op op_cat (pv 10) (pe_lst (pa_cons pe_int pa_nil))))) (nomark _)))))
      (pss_one (ps_ret pe_bl))
      pss_nil)
      (pss_cons (ps_for PassesOwn.never rfl (piLK (K := K) rfl (pv 9)) (pg_name (i := 10) sc_l_right.nd rfl (.inl rfl))
      (pss_one (ps_expr (pe_bm PySem.F.plainAttrs_list PySem.F.slot_list_append PySem.F.type_list_append mt_append (pv 10) (pa_cons pe_int pa_nil)))))
      (pss_one (ps_set (i := 7) sc_l_right.nd rfl (.inl rfl) (pv 9))))))))
      (pss_cons (ps_if (PW.pt (pw_or (pt_cmpR op_ne (pe_callB (Own.cr_lenO G_Segment_len T.M_Segment_len T.b_Segment_len pass0 hr) (by rfl) T.m_len (by decide +kernel) (pa_cons (pv 0) pa_nil)) (pe_callB (lenK (K := K) rfl) (by rfl) T.m_len (by decide +kernel) (pa_cons (pv 1) pa_nil)) (nomark _)) (pw_or (pt_not (pt_val (pe_call G_l_whole hr (by rfl) T.g_l_whole T.f_l_whole.kp T.b_l_whole .nil pass0 (pa_cons (fldK (K := K) rfl (pv 0) rfl) pa_nil)))) (pw_or1 (pt_cmpR op_ne (fldK (K := K) rfl (pv 0) rfl) (pv 2) (nomark _))))))
      (pss_one (ps_ret pe_bl))
      pss_nil)
      (pss_cons (ps_for PassesOwn.never rfl (piLK (K := K) rfl (pe_op op_cat (pe_ix (ixLK (K := K) rfl) (pv 4) pe_int (fun _ _ => rfl)) (pe_lst (pa_cons pe_str (pa_cons pe_str (pa_cons pe_str pa_nil)))))) (pg_name (i := 11) sc_l_right.nd rfl (.inl rfl))
      (pss_cons (ps_par (by rfl) sc_l_right.nd (i := 12) (j := 13) rfl rfl (by decide) rfl rfl (pa_cons (pe_meth (pv 0) T.cl_Segment T.M_Segment_row G_Segment_row hr T.b_Segment_row .nil pass0 (pa_cons (pv 11) pa_nil)) (pa_cons (pe_call G_l_due_row hr (by rfl) T.g_l_due_row T.f_l_due_row.kp T.b_l_due_row .nil pass0 (pa_cons (pv 11) (pa_cons (pv 1) (pa_cons (pv 2) pa_nil)))) pa_nil)) (by rfl))
      (pss_one (ps_if (PW.pt (pw_or (pt_cmpR (Own.op_neO G_Row_eq7 T.M_Row_eq T.b_Row_eq pass0 hr T.neR T.moR (K := K) rfl) (pv 12) (pv 13) (nomark _)) (pw_or (pt_cmpR (neDK (K := K) rfl hr.units) (pe_meth0 (pv 12) T.cl_Row T.M_Row_entries G_Row_entries hr T.b_Row_entries .nil pass0) (pe_meth0 (pv 13) T.cl_Row T.M_Row_entries G_Row_entries hr T.b_Row_entries .nil pass0) (nomark _)) (pw_or1 (pt_cmpR op_ne (pe_callB (Own.cr_lenO G_Row_len T.M_Row_len T.b_Row_len pass0 hr) (by rfl) T.m_len (by decide +kernel) (pa_cons (pv 12) pa_nil)) (pe_callB (Own.cr_lenO G_Row_len T.M_Row_len T.b_Row_len pass0 hr) (by rfl) T.m_len (by decide +kernel) (pa_cons (pv 13) pa_nil)) (nomark _))))))
      (pss_one (ps_ret pe_bl))
      pss_nil))))
      (pss_cons (ps_for PassesOwn.never rfl (piLK (K := K) rfl (pe_op op_cat (pv 3) (pe_lst (pa_cons (pe_op op_add (pe_ix (ixLK (K := K) rfl) (pv 3) pe_int (fun _ _ => rfl)) pe_int) (pa_cons pe_int (pa_cons (pe_op op_add (pe_ix (ixLK (K := K) rfl) (pv 3) (pe_un un_neg pe_int) (fun _ _ => rfl)) pe_int) pa_nil)))))) (pg_name (i := 5) sc_l_right.nd rfl (.inr rfl))
      (pss_one (ps_if (pt_cmpR op_ne (pe_meth (pv 0) T.cl_Segment T.M_Segment_slot_of G_Segment_slot_of hr T.b_Segment_slot_of .nil pass0 (pa_cons (pv 5) pa_nil)) (pe_ix (ixLK (K := K) rfl) (pe_op op_cat (pe_lc (own := [("_law_slot", 15)])  rfl sc_l_right.nd (pi_range1 (by rfl) T.m_range (pa_cons (pe_callB (lenK (K := K) rfl) (by rfl) T.m_len (by decide +kernel) (pa_cons (pv 3) pa_nil)) pa_nil)) (blkOk_by (own := [("_law_slot", 15)]) (N := N_l_right) (sc := defScope (topS 83)) (by decide +kernel)) (fun _ _ _ _ _ => (pg_name (i := 15) sc_l_right.nd rfl (Or.inl rfl))) (fun _ _ _ _ _ => (pts_one (pt_cmpR op_eq (pe_ix (ixLK (K := K) rfl) (pv 3) (pv 15) (fun _ _ => rfl)) (pv 5) (nomark _)))) (fun _ _ _ _ _ => (pv 15))) (pe_lst (pa_cons pe_non pa_nil))) pe_int (fun _ _ => rfl)) (nomark _))
      (pss_one (ps_ret pe_bl))
      pss_nil)))
      (pss_cons (ps_for PassesOwn.never rfl (piTK (K := K) rfl (pe_tup (pa_cons pe_str (pa_cons pe_non (pa_cons pe_str (pa_cons pe_int pa_nil)))))) (pg_name (i := 14) sc_l_right.nd rfl (.inr rfl))
      (pss_one (ps_if (pt_cmpR op_ne (pe_how T TBL rfl hmL huL hr (LamX.lamS_by (sc := defScope (topS 83)) (by decide +kernel)) (fun _ _ _ _ E _ _ hr2 => (pe_meth (pv 0) T.cl_Segment T.M_Segment_row G_Segment_row_lam hr2 T.b_Segment_row .nil (passes_call (takes_of rfl rfl rfl rfl) (fun _ _ _ _ h => h)) (pa_cons (pv 14) pa_nil)))) pe_str (nomark _))
      (pss_one (ps_ret pe_bl))
      pss_nil)))
      (pss_one (ps_ret pe_bl)))))))))))), ?_⟩
    have few := so.few
    have pos := so.pos
    have xl : xs.length = gs.length := hP.1
    obtain ⟨d, dx, t1, t2, kas, hx, _⟩ := id hS
    generalize hns : gs.map (·.1) = ns
    have nl : ns.length = gs.length := by rw [← hns, List.length_map]
    generalize hls : (gs.map fun g => g.2.length) = ls
    have ll : ls.length = gs.length := by rw [← hls, List.length_map]
    -- numbers
    refine ⟨.ref l, rfl, l, rfl, ⟨_, SqL.of hl⟩, fun Dn nDn => ?_⟩
    refine lc_list (K := K) (a := l) (xs := xs) (fun i H' => Ex H H' ∧ H' Dn = some (.lst ((ns.take i).map V.int))) ⟨Ex.new nDn, upd_same⟩ (fun i H' _ p => SqL.of (p.1 _ _ hl)) (fun i v H1 hv p => ?_) (fun H1 p => ?_)
    · obtain ⟨e1, hD⟩ := p
      obtain ⟨g, gg, a, h, rfl, k1, k2, _⟩ := hP.mem hv
      have gn : ns[i]? = some g.1 := by rw [← hns, List.getElem?_map, gg]; rfl
      refine ⟨a, _, rfl, SqT.of (e1 _ _ k1), rfl, _, _, rfl, _, _, rfl, rfl, rfl, .int g.1, rfl, _, hD, ?_, Ex.mut e1 nDn, ?_⟩
      · rw [List.length_map, List.length_take]
        exact sz_lt (by omega)
      · rw [upd_same, List.take_add_one, gn, List.map_append]
        rfl
    obtain ⟨e1, hDn⟩ := p
    rw [xl, ← nl, List.take_length] at hDn
    -- due
    refine ⟨.ref Dn, rfl, .ref l, rfl, l, rfl, ⟨_, SqL.of (e1 _ _ hl)⟩, fun Dl nDl => ?_⟩
    refine lc_list (K := K) (a := l) (xs := xs) (fun i H' => Ex H1 H' ∧ H' Dl = some (.lst (nvs (ls.take i)))) ⟨Ex.new nDl, upd_same⟩ (fun i H' _ p => SqL.of (p.1 _ _ (e1 _ _ hl))) (fun i v H2 hv p => ?_) (fun H2 p => ?_)
    · obtain ⟨e2, hD⟩ := p
      obtain ⟨g, gg, a, h, rfl, k1, k2, _⟩ := hP.mem hv
      have e12 := e1.trans e2
      have gn : ls[i]? = some g.2.length := by rw [← hls, List.getElem?_map, gg]; rfl
      refine ⟨a, _, rfl, SqT.of (e12 _ _ k1), rfl, _, _, rfl, _, _, rfl, rfl, rfl, .ref h, rfl, h, _, rfl, .inl (SqL.of (e12 _ _ k2)), _, hD, ?_, Ex.mut e2 nDl, ?_⟩
      · unfold nvs
        rw [List.length_map, List.length_take]
        exact sz_lt (by omega)
      · rw [upd_same, List.take_add_one, gn, List.length_map]
        unfold nvs
        rw [List.map_append]
        rfl
    obtain ⟨e2, hDl⟩ := p
    rw [xl, ← ll, List.take_length] at hDl
    refine ⟨by show 0 ≤ sizeLine; decide, fun De nDe => ?_⟩
    have e3 := Ex.new (o := .lst []) nDe
    have hDe := upd_same (H := H2) (a := De) (o := .lst [])
    generalize upd H2 De (.lst []) = H3 at e3 hDe ⊢
    refine ⟨by show 3 ≤ sizeLine; decide, fun D nD => ?_⟩
    have e03 := (e1.trans e2).trans e3
    have hDn3 := e3 _ _ (e2 _ _ hDn)
    have hDl3 := e3 _ _ hDl
    have D0 : H D = none := fresh_back e03 nD
    -- the words
    refine ⟨.ref l, rfl, l, rfl, ⟨_, SqL.of ((e03.trans (Ex.new nD)) _ _ hl)⟩, ?_⟩
    refine for_list (K := K) (a := l) (xs := xs) (fun i σ' H' => ∃ (y5 y6 : Option V) (W : Addr), σ' = [some (.ref x), some (.ref l), some (.int (sz_ : Nat)), some (.ref Dn), some (.ref D), y5, y6, none, none, none, none, none, none, none, none, none] ∧ Ex H3 H' ∧ H' D = some (.lst [.ref Dn, .ref Dl, .ref W]) ∧ W ≠ D ∧ H' W = some (.lst ((((gs.take i).map (·.2)).flatten).map V.str))) ⟨none, none, De, rfl, Ex.new nD, upd_same, (ne_of_none hDe nD), by rw [upd_ne (ne_of_none hDe nD)]; exact hDe⟩ (fun i σ' H' _ p => by obtain ⟨_, _, _, _, e, _⟩ := p; exact SqL.of (e _ _ (e03 _ _ hl))) (fun i v σ' H' hv p => ?_) (fun σ' H' p => ?_)
    · obtain ⟨y5, y6, W, rfl, e4, hD4, WD, hW⟩ := p
      obtain ⟨g, gg, a, h, rfl, k1, k2, _⟩ := hP.mem hv
      have e04 := e03.trans e4
      have il := (List.getElem?_eq_some_iff.mp gg).1
      have fl : ∀ i, i ≤ gs.length → ((((gs.take i).map (·.2)).flatten).map V.str).length ≤ i * 60 := fun i => by
        induction i with
        | zero => intro _; simp
        | succ i ih =>
          intro hi
          have g' : gs[i]? = some (gs[i]'(by omega)) := List.getElem?_eq_getElem _
          rw [List.take_add_one, g', List.map_append, List.flatten_append, List.map_append, List.length_append]
          have := ih (by omega)
          have := (hz _ (List.mem_of_getElem? g')).1
          simp
          simp at *
          omega
      refine ⟨a, _, rfl, SqT.of (e04 _ _ k1), rfl, _, _, rfl, _, _, rfl, rfl, .ref D, rfl, D, _, 2, .ref W, rfl, rfl, SqL.of hD4, atI_nat (j := 2) rfl, .ref h, rfl, W, h, _, _, rfl, rfl, hW, e04 _ _ k2, ?_, fun V' nV' => ?_⟩
      · have := fl i (by omega)
        have := (hz g (List.mem_of_getElem? gg)).1
        rw [List.length_map (as := g.2)]
        have := sizeLine_eq
        omega
      have e5 := Ex.new (o := .lst (((((gs.take i).map (·.2)).flatten).map V.str) ++ g.2.map V.str)) nV'
      have hV := upd_same (H := H') (a := V') (o := .lst (((((gs.take i).map (·.2)).flatten).map V.str) ++ g.2.map V.str))
      generalize upd H' V' (.lst (((((gs.take i).map (·.2)).flatten).map V.str) ++ g.2.map V.str)) = H5 at e5 hV ⊢
      have hD5 := e5 _ _ hD4
      have VD : V' ≠ D := (ne_of_none hD4 nV').symm
      refine ⟨.ref D, rfl, D, _, 2, 2, rfl, rfl, hD5, rfl, _, _, V', rfl, Ex.mut (e4.trans e5) nD, upd_same, VD, ?_⟩
      rw [upd_ne VD, hV, List.take_add_one, gg, List.map_append, List.flatten_append, List.map_append]
      simp
    obtain ⟨y5, y6, W, rfl, e4, hD4, WD, hW⟩ := p
    rw [xl, List.take_length] at hW
    have mem : ∀ z ∈ (gs.map (·.2)).flatten, isW z = true ∧ z ∈ zs := fun z m => by
      obtain ⟨ws, hws, hzz⟩ := List.mem_flatten.mp m
      obtain ⟨g, hg, rfl⟩ := List.mem_map.mp hws
      exact ⟨List.all_eq_true.mp (so.pg.ok g.2 hws).2 z hzz, (hz g hg).2 z hzz⟩
    have Wl : ((gs.map (·.2)).flatten).length ≤ 3600 := by
      have : ∀ l : List Pg, (∀ g ∈ l, g.2.length ≤ 60) → ((l.map (·.2)).flatten).length ≤ l.length * 60 := fun l => by
        induction l with
        | nil => intro _; exact Nat.zero_le _
        | cons a r ih =>
          intro h
          rw [List.map_cons, List.flatten_cons, List.length_append, List.length_cons]
          have := ih fun g hg => h g (List.mem_cons_of_mem _ hg)
          have := h a (List.mem_cons_self ..)
          omega
      have := this gs fun g hg => (hz g hg).1
      omega
    have memE : ∀ k, k ∈ (gs.map (·.2)).flatten ↔ ents k 0 (gs.map (·.2)) ≠ [] := fun k => by
      rw [ents_ne, List.mem_flatten]
    generalize hWs : (gs.map (·.2)).flatten = Ws at hW mem Wl memE
    refine ⟨.ref D, rfl, D, _, 2, .ref W, rfl, rfl, SqL.of hD4, atI_nat (j := 2) rfl, W, Ws, rfl, SqL.of hW, by show _ + 1 < 4096; omega, fun pS xS ndS memS leS npS => ⟨pS, xS, rfl, upd_same, ?_, fun ys Wd perm srt nWd => ?_⟩⟩
    · have := nodup_sub ndS fun k hk => (mem k ((memS k).mp hk)).2
      omega
    have e6 := Ex.new (o := .lst (ys.map V.str)) nWd
    have hWd6 := upd_same (a := Wd) (o := .lst (ys.map V.str)) (H := upd H' pS (SxT.SetT P w pS xS))
    have WdD : Wd ≠ D := (ne_of_none (Ex.new (o := SxT.SetT P w pS xS) npS _ _ hD4) nWd).symm
    have e46 : Ex H' _ := Ex.trans (Ex.new (o := SxT.SetT P w pS xS) npS) e6
    obtain ⟨H6, hH6⟩ : ∃ H6, H6 = upd (upd H' pS (SxT.SetT P w pS xS)) Wd (.lst (ys.map V.str)) := ⟨_, rfl⟩
    change Ex H' (upd (upd H' pS (SxT.SetT P w pS xS)) Wd (.lst (ys.map V.str))) at e46
    show gSub (tVar 4) (tC (V.int 2)) rSetL (.ref Wd) _ (upd (upd H' pS (SxT.SetT P w pS xS)) Wd (.lst (ys.map V.str))) _
    rw [← hH6] at e46 hWd6 ⊢
    have hD6 := e46 _ _ hD4
    refine ⟨.ref D, rfl, D, _, 2, 2, rfl, rfl, hD6, rfl, ?_⟩
    have ysM : ∀ k, k ∈ ys ↔ ents k 0 (gs.map (·.2)) ≠ [] := fun k => by rw [perm.mem_iff, memS k, memE]
    have ysN : ys.Nodup := perm.nodup_iff.mpr ndS
    have ysW : ∀ k ∈ ys, isW k = true := fun k hk => (mem k ((memS k).mp (perm.mem_iff.mp hk))).1
    have ysl : ys.length ≤ 60 := Nat.le_trans (nodup_sub ysN (fun k hk => (mem k ((memS k).mp (perm.mem_iff.mp hk))).2)) zl
    have eR : Ex H (upd H6 D (.lst ([.ref Dn, .ref Dl, .ref W].set 2 (.ref Wd)))) := Ex.mut ((e03.trans e4).trans e46) D0
    have hDR := upd_same (H := H6) (a := D) (o := .lst ([.ref Dn, .ref Dl, .ref W].set 2 (.ref Wd)))
    have hWR : (upd H6 D (.lst ([.ref Dn, .ref Dl, .ref W].set 2 (.ref Wd)))) Wd = some (.lst (ys.map V.str)) := by rw [upd_ne WdD]; exact hWd6
    have DnD : Dn ≠ D := ne_of_none hDn3 nD
    have DlD : Dl ≠ D := ne_of_none hDl3 nD
    have hDnR : (upd H6 D (.lst ([.ref Dn, .ref Dl, .ref W].set 2 (.ref Wd)))) Dn = some (.lst (ns.map V.int)) := by rw [upd_ne DnD]; exact e46 _ _ (e4 _ _ hDn3)
    have hDlR : (upd H6 D (.lst ([.ref Dn, .ref Dl, .ref W].set 2 (.ref Wd)))) Dl = some (.lst (nvs ls)) := by rw [upd_ne DlD]; exact e46 _ _ (e4 _ _ hDl3)
    have hDR : (upd H6 D (.lst ([.ref Dn, .ref Dl, .ref W].set 2 (.ref Wd)))) D = some (.lst [.ref Dn, .ref Dl, .ref Wd]) := hDR
    generalize (upd H6 D (.lst ([.ref Dn, .ref Dl, .ref W].set 2 (.ref Wd)))) = HR at eR hDR hWR hDnR hDlR ⊢
    clear hH6 e1 e2 e3 e4 e6 e46 hD6 hWd6 nWd npS ndS memS leS perm mem memE hW hD4 hDe hDl hDn hDn3 hDl3 e03 nD nDe nDl nDn WdD DnD DlD D0 Wl
    have hSR := hS.ex eR
    have hlR := eR _ _ hl
    have hPR := hP.ex eR
    have hxR := eR _ _ hx
    have TR := LamX.Tabs.ext hT eR
    have shE : PyData.canLayAll0 ([] : List PyData) = true ∧ PyData.depthAll ([] : List PyData) = 0 := ⟨rfl, rfl⟩
    have sh0 : PyData.canLayAll0 [PyData.int 0] = true ∧ PyData.depthAll [PyData.int 0] = 0 := ⟨by decide +kernel, by decide +kernel⟩
    have shY : PyData.canLayAll0 (ys.map PyData.str) = true ∧ PyData.depthAll (ys.map PyData.str) = 0 := layS (List.all_eq_true.mpr ysW)
    generalize hli : (ls.map fun n : Nat => (n : Int)) = li
    have hnl : nvs ls = li.map V.int := by rw [nvs_ints, hli]
    rw [hnl] at hDlR
    have lil : li.length = gs.length := by rw [← hli, List.length_map, ll]
    refine ⟨by show 0 ≤ sizeLine; decide, fun A0 nA0 => ?_⟩
    have eA := Ex.new (o := .lst []) nA0
    have hA0 := upd_same (H := HR) (a := A0) (o := .lst [])
    generalize (upd HR A0 (.lst [])) = HA at eA hA0 ⊢
    -- told twice
    refine ⟨2, rfl, by decide, by decide, ?_⟩
    refine for_range (lo := 0) (n := 2) (fun t σ' H' => ∃ (ah : Addr) (y5 y6 y8 y9 y10 : Option V), σ' = [some (.ref x), some (.ref l), some (.int (sz_ : Nat)), some (.ref Dn), some (.ref D), y5, y6, some (.ref ah), y8, y9, y10, none, none, none, none, none] ∧ Ex HR H' ∧ (H' ah = some (.lst []) ∨ ∃ a b c : Addr, H' ah = some (.lst [.ref a, .ref b, .ref c]) ∧ Three H' a b c (ns.map V.int) (li.map V.int) (ys.map V.str) 3)) ⟨A0, y5, y6, none, none, none, rfl, eA, .inl hA0⟩ (fun t σ' H' ht pv => ?_) (fun σ' H' pv => ?_)
    · obtain ⟨ah, y5, y6, y8, y9, y10, rfl, eH, hah⟩ := pv
      refine ⟨.ref x, rfl, x, dx, _, rfl, eH _ _ hxR, rfl, x, sz_, gs, rfl, hSR.ex eH, fun tn H1 ntn e1 htn => ?_⟩
      have eH1 := eH.trans e1
      refine ⟨.ref x, rfl, x, dx, _, rfl, eH1 _ _ hxR, rfl, x, sz_, gs, rfl, hSR.ex eH1, fun tl H2 ntl e2 htl => ?_⟩
      have eH2 := eH1.trans e2
      refine ⟨.ref x, rfl, x, dx, _, rfl, eH2 _ _ hxR, rfl, x, sz_, gs, zs, rfl, hSR.ex eH2, zl, fun k hk => ?_, fun tw ys' H3 ntw e3 htw ysM' ysN' srt' => ⟨by show 3 ≤ sizeLine; decide, fun L nL => ?_⟩⟩
      · obtain ⟨ws, hws, hk⟩ := ents_ne.mp hk
        obtain ⟨g, hg, rfl⟩ := List.mem_map.mp hws
        exact (hz g hg).2 k hk
      have ey : ys' = ys := sorted_uniq ((List.perm_ext_iff_of_nodup ysN' ysN).mpr fun k => by rw [ysM', ysM]) srt' srt
      subst ey
      rw [numsI, hns] at htn
      rw [hls, hnl] at htl
      have eL := Ex.new (o := .lst [.ref tn, .ref tl, .ref tw]) nL
      have hL := upd_same (H := H3) (a := L) (o := .lst [.ref tn, .ref tl, .ref tw])
      have htn' := eL _ _ (e3 _ _ (e2 _ _ htn))
      have htl' := eL _ _ (e3 _ _ htl)
      have htw' := eL _ _ htw
      have n1 : tn ≠ tl := ne_of_none htn ntl
      have n2 : tn ≠ tw := ne_of_none (e2 _ _ htn) ntw
      have n3 : tl ≠ tw := ne_of_none htl ntw
      have n4 : tn ≠ L := ne_of_none (e3 _ _ (e2 _ _ htn)) nL
      have n5 : tl ≠ L := ne_of_none (e3 _ _ htl) nL
      have n6 : tw ≠ L := ne_of_none htw nL
      have b2 : H' tl = none := fresh_back e1 ntl
      have b3 : H' tw = none := fresh_back (e1.trans e2) ntw
      have b4 : H' L = none := fresh_back ((e1.trans e2).trans e3) nL
      have e04 : Ex H' (upd H3 L (.lst [.ref tn, .ref tl, .ref tw])) := ((e1.trans e2).trans e3).trans eL
      generalize (upd H3 L (.lst [.ref tn, .ref tl, .ref tw])) = H4 at hL htn' htl' htw' e04 ⊢
      clear e1 e2 e3 eL eH1 eH2 htn htl htw ntl ntw nL
      have b1 : H' tn = none := ntn
      have eH4 := eH.trans e04
      have sh := shDue (ns := ns) (ms := li) shY shE
      have dat : ∀ {H : Hp} {o a b c : Addr} {es : List PyData} {vs : List V}, H o = some (.lst [.ref a, .ref b, .ref c]) → H a = some (.lst (ns.map V.int ++ vs)) → H b = some (.lst (li.map V.int ++ vs)) → H c = some (.lst (ys'.map V.str ++ vs)) → DpAll K H vs es → Dp K H (.ref o) (.list [.list (ns.map PyData.int ++ es), .list (li.map PyData.int ++ es), .list (ys'.map PyData.str ++ es)]) := fun h0 h1 h2 h3 k =>
        .lst (SqL.of h0) (.cons (.lst (SqL.of h1) (dp_app (dpI _) k)) (.cons (.lst (SqL.of h2) (dp_app (dpI _) k)) (.cons (.lst (SqL.of h3) (dp_app (dpS _) k)) .nil)))
      refine ⟨.ref L, rfl, .ref D, rfl, _, _, dat (vs := []) (es := []) hL (by rw [List.append_nil]; exact htn') (by rw [List.append_nil]; exact htl') (by rw [List.append_nil]; exact htw') .nil, dat (vs := []) (es := []) (eH4 _ _ hDR) (by rw [List.append_nil]; exact eH4 _ _ hDnR) (by rw [List.append_nil]; exact eH4 _ _ hDlR) (by rw [List.append_nil]; exact eH4 _ _ hWR) .nil, sh, sh, _, rfl, ?_⟩
      rw [eqv_shD sh]
      refine ite2 (fun c => absurd c (by decide)) (fun _ => ?_)
      refine ⟨.ref L, rfl, L, _, 0, .ref tn, rfl, rfl, SqL.of hL, atI_nat (j := 0) rfl, .ref L, rfl, L, _, 1, .ref tl, rfl, rfl, SqL.of hL, atI_nat (j := 1) rfl, tn, tl, _, _, rfl, rfl, htn', htl', ?_, fun c nc => ⟨c, rfl, ⟨_, SqL.of upd_same⟩, fun Dz nDz => ?_⟩⟩
      · rw [List.length_map, List.length_map]
        have := sizeLine_eq
        omega
      have ec := Ex.new (o := .lst (ns.map V.int ++ li.map V.int)) nc
      have hc := upd_same (H := H4) (a := c) (o := .lst (ns.map V.int ++ li.map V.int))
      generalize (upd H4 c (.lst (ns.map V.int ++ li.map V.int))) = H5 at ec hc nDz ⊢
      rw [← List.map_append] at hc
      refine lc_list (K := K) (a := c) (xs := (ns ++ li).map V.int) (fun i H' => Ex H5 H' ∧ H' Dz = some (.lst ((List.replicate i true).map V.bl))) ⟨Ex.new nDz, upd_same⟩ (fun i H' _ p => SqL.of (p.1 _ _ hc)) (fun i v H6 hv p => ?_) (fun H6 p => ?_)
      · obtain ⟨p1, p2⟩ := p
        rw [List.getElem?_map] at hv
        obtain ⟨z, gz, rfl⟩ := Option.map_eq_some_iff.mp hv
        have il := (List.getElem?_eq_some_iff.mp gz).1
        rw [List.length_append] at il
        refine ⟨rfl, .int z, rfl, z, rfl, _, p2, ?_, Ex.mut p1 nDz, ?_⟩
        · rw [List.length_map, List.length_replicate]
          exact sz_lt (by omega)
        · rw [upd_same, List.replicate_succ', List.map_append]
          rfl
      obtain ⟨p1, p2⟩ := p
      have e : (List.replicate ((ns ++ li).map V.int).length true).all id = true := List.all_eq_true.mpr fun b hb => by rw [List.eq_of_mem_replicate hb]; rfl
      refine ⟨Dz, List.replicate ((ns ++ li).map V.int).length true, rfl, SqL.of p2, _, rfl, ?_⟩
      rw [e]
      refine ite2 (fun c => absurd c (by decide)) (fun _ => ?_)
      have e46 := ec.trans p1
      refine ⟨fun σ' H' => σ' = [some (.ref x), some (.ref l), some (.int (sz_ : Nat)), some (.ref Dn), some (.ref D), y5, y6, some (.ref ah), some (.int ((0 : Int) + t)), some (.ref L), y10, none, none, none, none, none] ∧ Ex H4 H', ?_, fun σ7 H7 ph => ?_⟩
      · have same : ∀ H', Ex H4 H' → ([some (V.ref x), some (.ref l), some (.int (sz_ : Nat)), some (.ref Dn), some (.ref D), y5, y6, some (.ref ah), some (.int ((0 : Int) + t)), some (.ref L), y10, none, none, none, none, none] : L2.St) = [some (.ref x), some (.ref l), some (.int (sz_ : Nat)), some (.ref Dn), some (.ref D), y5, y6, some (.ref ah), some (.int ((0 : Int) + t)), some (.ref L), y10, none, none, none, none, none] ∧ Ex H4 H' := fun H' e => ⟨rfl, e⟩
        refine ⟨.ref ah, rfl, by show 0 ≤ sizeLine; decide, fun z nz => ?_⟩
        have ez := Ex.new (o := .lst []) nz
        have hz0 := upd_same (H := H6) (a := z) (o := .lst [])
        generalize (upd H6 z (.lst [])) = H7 at ez hz0 ⊢
        have e47 := e46.trans ez
        have e07 := e04.trans e47
        have shN : SeqAt.shaped (.list []) = true := by decide +kernel
        rcases hah with hah | ⟨ta, tb, tc, hah, ha1, ha2, ha3⟩
        · refine ⟨_, _, .lst (SqL.of (e07 _ _ hah)) .nil, .lst (SqL.of hz0) .nil, shN, shN, _, rfl, ?_⟩
          rw [eqv_shD shN]
          exact ite2 (fun c => absurd c (by decide)) (fun _ => same H7 e47)
        · have ha1 : H' ta = some (.lst (ns.map V.int ++ [V.int 0])) := ha1
          have ha2 : H' tb = some (.lst (li.map V.int ++ [V.int 0])) := ha2
          have ha3 : H' tc = some (.lst (ys'.map V.str ++ [V.int 0])) := ha3
          have sh2 := shDue (ns := ns) (ms := li) shY sh0
          refine ⟨_, _, dat (vs := [.int 0]) (es := [.int 0]) (e07 _ _ hah) (e07 _ _ ha1) (e07 _ _ ha2) (e07 _ _ ha3) (.cons (.int 0) .nil), .lst (SqL.of hz0) .nil, sh2, shN, _, rfl, ?_⟩
          have ev : PyData.eqv (.list [.list (ns.map PyData.int ++ [PyData.int 0]), .list (li.map PyData.int ++ [PyData.int 0]), .list (ys'.map PyData.str ++ [PyData.int 0])]) (.list []) = false := by simp [PyData.eqv, PyData.eqvAll]
          rw [ev]
          refine ite2 (fun _ => ?_) (fun c => absurd rfl c)
          refine ⟨.ref ah, rfl, .ref D, rfl, D, rfl, ⟨_, SqL.of (eH4.trans e47 _ _ hDR)⟩, fun C nC => ?_⟩
          have eC := Ex.new (o := .lst []) nC
          have e48 := eH4.trans e47
          refine lc_list (K := K) (a := D) (xs := [.ref Dn, .ref Dl, .ref Wd]) (fun i H' => Ex H7 H' ∧ ∃ us : List Addr, us.length = i ∧ H' C = some (.lst (us.map V.ref)) ∧ ∀ (j : Nat) (u : Addr), us[j]? = some u → u ≠ C ∧ H' u = some (.lst (([ns.map V.int, li.map V.int, ys'.map V.str].getD j []) ++ [V.int 0]))) ⟨eC, [], rfl, upd_same, fun j u g => by simp at g⟩ (fun i H' _ p => SqL.of (p.1 _ _ (e48 _ _ hDR))) (fun i v H8 hv p => ?_) (fun H8 p => ?_)
          · obtain ⟨e8, us, ul, hC, hU⟩ := p
            have e88 := e48.trans e8
            obtain ⟨u, rfl, hu, hlen⟩ : ∃ u, v = .ref u ∧ H8 u = some (.lst ([ns.map V.int, li.map V.int, ys'.map V.str].getD i [])) ∧ ([ns.map V.int, li.map V.int, ys'.map V.str].getD i []).length ≤ 60 := by
              match i, hv with
              | 0, hv => cases hv; exact ⟨_, rfl, e88 _ _ hDnR, by show (ns.map V.int).length ≤ 60; rw [List.length_map]; omega⟩
              | 1, hv => cases hv; exact ⟨_, rfl, e88 _ _ hDlR, by show (li.map V.int).length ≤ 60; rw [List.length_map]; omega⟩
              | 2, hv => cases hv; exact ⟨_, rfl, e88 _ _ hWR, by show (ys'.map V.str).length ≤ 60; rw [List.length_map]; omega⟩
              | i + 3, hv => simp at hv
            generalize hcc : [ns.map V.int, li.map V.int, ys'.map V.str].getD i [] = cc at hu hlen
            refine ⟨rfl, .ref u, rfl, by show 1 ≤ sizeLine; decide, fun z nz => ?_⟩
            have e9 := Ex.new (o := .lst [V.int 0]) nz
            have h9 := upd_same (H := H8) (a := z) (o := .lst [V.int 0])
            generalize (upd H8 z (.lst [V.int 0])) = H9 at e9 h9 ⊢
            refine ⟨u, z, cc, _, rfl, rfl, e9 _ _ hu, h9, sz (by show cc.length + 1 ≤ 100000; omega), fun m nm => ?_⟩
            have e10 := Ex.new (o := .lst (cc ++ [V.int 0])) nm
            have h10 := upd_same (H := H9) (a := m) (o := .lst (cc ++ [V.int 0]))
            have hC10 := e10 _ _ (e9 _ _ hC)
            have mC : m ≠ C := (ne_of_none (e9 _ _ hC) nm).symm
            generalize (upd H9 m (.lst (cc ++ [V.int 0]))) = H10 at e10 h10 hC10 ⊢
            refine ⟨us.map V.ref, hC10, ?_, Ex.mut ((e8.trans e9).trans e10) nC, us ++ [m], by rw [List.length_append, ul]; rfl, ?_, fun j u' g => ?_⟩
            · have il := (List.getElem?_eq_some_iff.mp hv).1
              rw [List.length_map]
              exact sz_lt (by simp at il; omega)
            · rw [upd_same, List.map_append]
              rfl
            · rcases snoc_at g with g | ⟨rfl, rfl⟩
              · obtain ⟨k1, k2⟩ := hU j u' g
                exact ⟨k1, by rw [upd_ne k1]; exact e10 _ _ (e9 _ _ k2)⟩
              · rw [ul, hcc]
                exact ⟨mC, by rw [upd_ne mC]; exact h10⟩
          obtain ⟨e8, us, ul, hC, hU⟩ := p
          match us, ul with
          | [u0, u1, u2], _ =>
            obtain ⟨_, k0⟩ := hU 0 u0 rfl
            obtain ⟨_, k1⟩ := hU 1 u1 rfl
            obtain ⟨_, k2⟩ := hU 2 u2 rfl
            have e08 := e07.trans e8
            refine ⟨_, _, dat (vs := [.int 0]) (es := [.int 0]) (e08 _ _ hah) (e08 _ _ ha1) (e08 _ _ ha2) (e08 _ _ ha3) (.cons (.int 0) .nil), dat (vs := [.int 0]) (es := [.int 0]) hC k0 k1 k2 (.cons (.int 0) .nil), sh2, sh2, _, rfl, ?_⟩
            rw [eqv_shD sh2]
            exact ite2 (fun c => absurd c (by decide)) (fun _ => same H8 (e47.trans e8))
      · obtain ⟨rfl, e7⟩ := ph
        have e07 := e04.trans e7
        refine ⟨.ref L, rfl, L, rfl, ⟨_, SqL.of (e7 _ _ hL)⟩, ?_⟩
        refine for_list (K := K) (a := L) (xs := [.ref tn, .ref tl, .ref tw]) (fun j σ' H8 => ∃ y10 : Option V, σ' = [some (.ref x), some (.ref l), some (.int (sz_ : Nat)), some (.ref Dn), some (.ref D), y5, y6, some (.ref ah), some (.int ((0 : Int) + t)), some (.ref L), y10, none, none, none, none, none] ∧ Ex H' H8 ∧ H8 L = some (.lst [.ref tn, .ref tl, .ref tw]) ∧ Three H8 tn tl tw (ns.map V.int) (li.map V.int) (ys'.map V.str) j) ⟨_, rfl, e07, e7 _ _ hL, by show _ = some (HO.lst (_ ++ [])); rw [List.append_nil]; exact e7 _ _ htn', by show _ = some (HO.lst (_ ++ [])); rw [List.append_nil]; exact e7 _ _ htl', by show _ = some (HO.lst (_ ++ [])); rw [List.append_nil]; exact e7 _ _ htw'⟩ (fun j σ' H8 _ p => by obtain ⟨_, _, _, h, _⟩ := p; exact SqL.of h) (fun j v σ' H8 hv p => ?_) (fun σ' H8 p => ?_)
        · obtain ⟨y10', rfl, e8, hL8, k1, k2, k3⟩ := p
          match j, hv with
          | 0, hv =>
            cases hv
            have k1 : H8 tn = some (.lst (ns.map V.int)) := by rw [k1]; exact congrArg (fun z => some (HO.lst z)) (List.append_nil _)
            refine ⟨.ref tn, rfl, .inl ⟨rfl, _, SqL.of k1⟩, tn, _, _, rfl, rfl, k1, by rw [List.length_map]; exact sz_lt (by omega), _, rfl, Ex.mut e8 b1, by rw [upd_ne n4.symm]; exact hL8, upd_same, by rw [upd_ne n1.symm]; exact k2, by rw [upd_ne n2.symm]; exact k3⟩
          | 1, hv =>
            cases hv
            have k2 : H8 tl = some (.lst (li.map V.int)) := by rw [k2]; exact congrArg (fun z => some (HO.lst z)) (List.append_nil _)
            refine ⟨.ref tl, rfl, .inl ⟨rfl, _, SqL.of k2⟩, tl, _, _, rfl, rfl, k2, by rw [List.length_map]; exact sz_lt (by omega), _, rfl, Ex.mut e8 b2, by rw [upd_ne n5.symm]; exact hL8, by rw [upd_ne n1]; exact k1, upd_same, by rw [upd_ne n3.symm]; exact k3⟩
          | 2, hv =>
            cases hv
            have k3 : H8 tw = some (.lst (ys'.map V.str)) := by rw [k3]; exact congrArg (fun z => some (HO.lst z)) (List.append_nil _)
            refine ⟨.ref tw, rfl, .inl ⟨rfl, _, SqL.of k3⟩, tw, _, _, rfl, rfl, k3, by rw [List.length_map]; exact sz_lt (by omega), _, rfl, Ex.mut e8 b3, by rw [upd_ne n6.symm]; exact hL8, by rw [upd_ne n2]; exact k1, by rw [upd_ne n3]; exact k2, upd_same⟩
          | j + 3, hv => simp at hv
        · obtain ⟨y10', rfl, e8, hL8, k⟩ := p
          exact ⟨.ref L, rfl, L, _, _, _, _, _, rfl, eH.trans e8, .inr ⟨tn, tl, tw, hL8, k⟩⟩
    obtain ⟨ah, y5, y6, y8, y9, y10, rfl, eH, _⟩ := pv
    clear hA0 eA nA0
    -- how many, how wide
    have hS2 := hSR.ex eH
    have few2 : (gs.length : Int) ≤ 60 := by omega
    refine ⟨.ref x, rfl, x, dx, _, rfl, eH _ _ hxR, x, sz_, gs, rfl, hS2, (gs.length : Int), rfl, ⟨by omega, by omega⟩, .ref l, rfl, l, _, rfl, .inl (SqL.of (eH _ _ hlR)), rfl, _, rfl, ?_⟩
    rw [xl, decide_eq_true rfl]
    refine ite2 (fun c => absurd c (by decide)) (fun _ => ?_)
    obtain ⟨d2, dx2, u1, u2, kas2, hx2, _⟩ := id hS2
    refine ⟨.ref x, rfl, x, A 68, dx2, _, _, rfl, hx2, T.cl_Segment, T.n_Segment_size, rfl, _, rfl, _, rfl, ite2 (fun c => absurd c (by decide)) (fun _ => ?_)⟩
    refine ⟨.ref x, rfl, x, A 68, dx2, _, _, rfl, hx2, T.cl_Segment, T.n_Segment_size, rfl, .int (sz_ : Nat), rfl, rfl, _, rfl, ?_⟩
    rw [decide_eq_true rfl]
    refine ite2 (fun c => absurd c (by decide)) (fun _ => ?_)
    -- the rows
    have abc : ∀ z ∈ (["a", "zz", "ab"] : List Str), isW z = true := by decide +kernel
    refine ⟨.ref D, rfl, D, _, 2, .ref Wd, rfl, rfl, SqL.of (eH _ _ hDR), atI_nat (j := 2) rfl, by show 3 ≤ sizeLine; decide, fun c3 n3 => ?_⟩
    have e3 := Ex.new (o := .lst [.str "a", .str "zz", .str "ab"]) n3
    have h3 := upd_same (H := H') (a := c3) (o := .lst [.str "a", .str "zz", .str "ab"])
    generalize (upd H' c3 (.lst [.str "a", .str "zz", .str "ab"])) = H1 at e3 h3 ⊢
    refine ⟨Wd, c3, _, _, rfl, rfl, e3 _ _ (eH _ _ hWR), h3, by rw [List.length_map]; exact sz (by show _ + 3 ≤ 100000; omega), fun wl nwl => ⟨wl, rfl, ⟨_, SqL.of upd_same⟩, ?_⟩⟩
    have e4 := Ex.new (o := .lst (ys.map V.str ++ [.str "a", .str "zz", .str "ab"])) nwl
    have hw4 := upd_same (H := H1) (a := wl) (o := .lst (ys.map V.str ++ [.str "a", .str "zz", .str "ab"]))
    generalize (upd H1 wl (.lst (ys.map V.str ++ [.str "a", .str "zz", .str "ab"]))) = H2 at e4 hw4 ⊢
    have eH2 := (eH.trans e3).trans e4
    rw [show (ys.map V.str ++ [V.str "a", .str "zz", .str "ab"]) = (ys ++ ([("a" : Str), "zz", "ab"] : List Str)).map V.str by rw [List.map_append]; rfl] at hw4
    have allw : ∀ z ∈ ys ++ ([("a" : Str), "zz", "ab"] : List Str), isW z = true := fun z hz => (List.mem_append.mp hz).elim (ysW z) (abc z)
    refine for_list (K := K) (a := wl) (xs := (ys ++ ([("a" : Str), "zz", "ab"] : List Str)).map V.str) (fun j σ' H' => ∃ y11 y12 y13 : Option V, σ' = [some (.ref x), some (.ref l), some (.int (sz_ : Nat)), some (.ref Dn), some (.ref D), y5, y6, some (.ref ah), y8, y9, y10, y11, y12, y13, none, none] ∧ Ex H2 H') ⟨_, _, _, rfl, Ex.refl H2⟩ (fun j σ' H' _ p => by obtain ⟨_, _, _, _, e⟩ := p; exact SqL.of (e _ _ hw4)) (fun j v σ' H3 hv p => ?_) (fun σ' H3 p => ?_)
    · obtain ⟨y11, y12, y13, rfl, e5⟩ := p
      rw [List.getElem?_map] at hv
      obtain ⟨z, gz, rfl⟩ := Option.map_eq_some_iff.mp hv
      have hwz := allw z (List.mem_of_getElem? gz)
      have eH3 := eH2.trans e5
      have hRI := so.pg.row hwz so.lo so.hi
      refine ⟨.ref x, rfl, x, dx, _, rfl, eH3 _ _ hxR, rfl, .str z, rfl, x, sz_, gs, z, rfl, hSR.ex eH3, so, hwz, fun r H4 e6 hR => ?_⟩
      have eH4 := eH3.trans e6
      refine ⟨.str z, rfl, .ref l, rfl, .int (sz_ : Nat), rfl, N, l, xs, gs, z, sz_, rfl, eH4 _ _ hlR, hPR.ex eH4, so.pg, hwz, so.lo, so.hi, fun r2 H5 e7 hR2 => ⟨_, _, rfl, ?_⟩⟩
      have hR' := hR.ex e7
      obtain ⟨dr, tr, bs, hr1, _⟩ := id hR'
      obtain ⟨dr2, tr2, bs2, hr2, _⟩ := id hR2
      refine ⟨.ref r, rfl, .ref r2, rfl, r, dr, _, rfl, hr1, .inl ⟨r2, dr2, _, rfl, hr2⟩, r, z, sz_, _, _, .ref r2, rfl, hR', .inl ⟨r2, z, sz_, _, _, rfl, hR2, fun H6 e8 => ⟨true, ?_, _, rfl, iteF ?_⟩⟩⟩
      · rw [(rowEq_iff hRI.ens hRI.ens hRI.lo).mpr ⟨rfl, rfl, rfl, rfl⟩]
      refine ⟨.ref r, rfl, r, dr, _, rfl, e8 _ _ hr1, rfl, r, z, sz_, _, _, rfl, hR'.ex e8, hRI, fun l1 xs1 H7 _ e9 hl1 hE1 => ?_⟩
      have e89 := e8.trans e9
      refine ⟨.ref r2, rfl, r2, dr2, _, rfl, e89 _ _ hr2, rfl, r2, z, sz_, _, _, rfl, hR2.ex e89, hRI, fun l2 xs2 H8 _ e10 hl2 hE2 => ?_⟩
      refine ⟨_, _, .lst (SqL.of (e10 _ _ hl1)) (dpEs (hE1.ex e10)), .lst (SqL.of hl2) (dpEs hE2), shEs _, shEs _, _, rfl, ?_⟩
      rw [eqv_self (shEs _)]
      refine ite2 (fun c => absurd c (by decide)) (fun _ => ?_)
      have e8t := e89.trans e10
      have ef := hRI.ens.few
      refine ⟨.ref r, rfl, r, dr, _, rfl, e8t _ _ hr1, r, z, sz_, _, _, rfl, hR'.ex e8t, hRI, fun H9 e11 => ⟨_, rfl, ⟨by omega, by omega⟩, ?_⟩⟩
      refine ⟨.ref r2, rfl, r2, dr2, _, rfl, e11 _ _ (e8t _ _ hr2), r2, z, sz_, _, _, rfl, (hR2.ex e8t).ex e11, hRI, fun H10 e12 => ⟨_, rfl, ⟨by omega, by omega⟩, rfl, _, rfl, ?_⟩⟩
      rw [decide_eq_true rfl]
      exact ite2 (fun c => absurd c (by decide)) (fun _ => ⟨_, _, _, rfl, ((((e5.trans e6).trans e7).trans e8t).trans e11).trans e12⟩)
    obtain ⟨y11, y12, y13, rfl, e5⟩ := p
    have eH3 := eH2.trans e5
    clear hw4 h3 e3 e4 eH2 eH hS2 hx2 e5
    -- the slots
    have hDn3 := eH3 _ _ hDnR
    obtain ⟨n0, nr, en0⟩ : ∃ n0 nr, ns = n0 :: nr := by
      cases ns with
      | nil => exact absurd nl (by rw [List.length_nil]; omega)
      | cons a b => exact ⟨a, b, rfl⟩
    obtain ⟨ni, nz, en1⟩ : ∃ ni nz, ns = ni ++ [nz] := by
      have ne : ns ≠ [] := by rw [en0]; exact List.cons_ne_nil _ _
      exact ⟨ns.dropLast, ns.getLast ne, (List.dropLast_concat_getLast ne).symm⟩
    have at0 : atI (ns.map V.int) 0 = some (.int n0) := by rw [en0]; exact atI_nat (j := 0) rfl
    have at1 : atI (ns.map V.int) (-1) = some (.int nz) := by rw [en1, List.map_append]; exact atI_last _ _
    refine ⟨.ref Dn, rfl, .ref Dn, rfl, Dn, _, 0, .int n0, rfl, rfl, SqL.of hDn3, at0, n0, 1, rfl, rfl, .ref Dn, rfl, 1, rfl, Dn, _, -1, .int nz, rfl, rfl, SqL.of hDn3, at1, nz, 1, rfl, rfl, by show 3 ≤ sizeLine; decide, fun c3 n3 => ?_⟩
    have e4 := Ex.new (o := .lst [.int (n0 + 1), .int 9999, .int (nz + 1)]) n3
    have h4 := upd_same (H := H3) (a := c3) (o := .lst [.int (n0 + 1), .int 9999, .int (nz + 1)])
    generalize (upd H3 c3 (.lst [.int (n0 + 1), .int 9999, .int (nz + 1)])) = H4 at e4 h4 ⊢
    have eH4 := eH3.trans e4
    refine ⟨Dn, c3, _, _, rfl, rfl, e4 _ _ hDn3, h4, by rw [List.length_map]; exact sz (by show _ + 3 ≤ 100000; omega), fun wl nwl => ⟨wl, rfl, ⟨_, SqL.of upd_same⟩, ?_⟩⟩
    have e5 := Ex.new (o := .lst (ns.map V.int ++ [.int (n0 + 1), .int 9999, .int (nz + 1)])) nwl
    have hw5 := upd_same (H := H4) (a := wl) (o := .lst (ns.map V.int ++ [.int (n0 + 1), .int 9999, .int (nz + 1)]))
    generalize (upd H4 wl (.lst (ns.map V.int ++ [.int (n0 + 1), .int 9999, .int (nz + 1)]))) = H5 at e5 hw5 ⊢
    have eH5 := eH4.trans e5
    rw [show (ns.map V.int ++ [V.int (n0 + 1), .int 9999, .int (nz + 1)]) = (ns ++ [n0 + 1, 9999, nz + 1]).map V.int by rw [List.map_append]; rfl] at hw5
    refine for_list (K := K) (a := wl) (xs := (ns ++ [n0 + 1, 9999, nz + 1]).map V.int) (fun j σ' H' => ∃ y5 : Option V, σ' = [some (.ref x), some (.ref l), some (.int (sz_ : Nat)), some (.ref Dn), some (.ref D), y5, y6, some (.ref ah), y8, y9, y10, y11, y12, y13, none, none] ∧ Ex H5 H') ⟨_, rfl, Ex.refl H5⟩ (fun j σ' H' _ p => by obtain ⟨_, _, e⟩ := p; exact SqL.of (e _ _ hw5)) (fun j v σ' H6 hv p => ?_) (fun σ' H6 p => ?_)
    · obtain ⟨y5', rfl, e6⟩ := p
      rw [List.getElem?_map] at hv
      obtain ⟨z, gz, rfl⟩ := Option.map_eq_some_iff.mp hv
      have eH6 := eH5.trans e6
      refine ⟨.ref x, rfl, x, dx, _, rfl, eH6 _ _ hxR, rfl, .int z, rfl, x, sz_, gs, z, rfl, hSR.ex eH6, fun H7 e7 => ?_⟩
      rw [hns]
      have eH7 := eH6.trans e7
      have hDn7 := eH7 _ _ hDnR
      refine ⟨.ref Dn, rfl, Dn, _, rfl, .inl (SqL.of hDn7), ((ns.map V.int).length : Int), rfl, by rw [List.length_map]; omega, by rw [List.length_map]; omega, fun C nC => ?_⟩
      refine lc_range (lo := 0) (n := ((ns.map V.int).length : Int).toNat) (fun i H' => Ex H7 H' ∧ H' C = some (.lst ((((List.range i).filter fun i => decide (ns[i]? = some z))).map fun i : Nat => V.int (i : Nat)))) ⟨Ex.new nC, upd_same⟩ (fun i H8 hi p => ?_) (fun H8 p => ?_)
      · obtain ⟨e8, hC⟩ := p
        have il : i < ns.length := by rw [List.length_map] at hi; omega
        have gi : ns[i]? = some ns[i] := List.getElem?_eq_getElem il
        have ai : atI (ns.map V.int) ((0 : Int) + i) = some (.int ns[i]) := by
          rw [Int.zero_add]
          exact atI_nat (by rw [List.getElem?_map, gi]; rfl)
        refine ⟨rfl, .ref Dn, rfl, .int ((0 : Int) + i), rfl, Dn, _, _, _, rfl, rfl, SqL.of (e8 _ _ hDn7), ai, .int z, rfl, rfl, _, rfl, ite2 (fun c => ?_) (fun c => ?_)⟩
        · have c : ns[i] = z := V.int.inj (of_decide_eq_true c)
          refine ⟨.int ((0 : Int) + i), rfl, _, hC, ?_, Ex.mut e8 nC, ?_⟩
          · rw [List.length_map]
            have := List.length_filter_le (fun i => decide (ns[i]? = some z)) (List.range i)
            rw [List.length_range] at this
            exact sz_lt (by omega)
          · rw [upd_same, List.range_succ, List.filter_append, List.map_append, Int.zero_add, List.filter_cons_of_pos (by rw [gi, c]; exact decide_eq_true rfl)]
            rfl
        · have c : ¬ ns[i] = z := fun h => c (decide_eq_true (by rw [h]))
          refine ⟨e8, ?_⟩
          rw [hC, List.range_succ, List.filter_append, List.filter_cons_of_neg (by rw [gi]; simpa using c)]
          simp
      · obtain ⟨e8, hC⟩ := p
        rw [List.length_map] at hC
        have hC : H8 C = some (.lst ((sOf ns z).map fun i : Nat => V.int (i : Nat))) := hC
        have sl : (sOf ns z).length ≤ ns.length := by
          have := List.length_filter_le (fun i => decide (ns[i]? = some z)) (List.range ns.length)
          rwa [List.length_range] at this
        refine ⟨by show 1 ≤ sizeLine; decide, fun z1 nz1 => ?_⟩
        have e9 := Ex.new (o := .lst [V.non]) nz1
        have h9 := upd_same (H := H8) (a := z1) (o := .lst [V.non])
        generalize (upd H8 z1 (.lst [V.non])) = H9 at e9 h9 ⊢
        refine ⟨C, z1, _, _, rfl, rfl, e9 _ _ hC, h9, by rw [List.length_map]; exact sz (by show _ + 1 ≤ 100000; omega), fun m nm => ?_⟩
        have e10 := Ex.new (o := .lst (((sOf ns z).map fun i : Nat => V.int (i : Nat)) ++ [V.non])) nm
        have atm : atI (((sOf ns z).map fun i : Nat => V.int (i : Nat)) ++ [V.non]) 0 = some (sVal (sOf ns z)) := by
          cases sOf ns z with
          | nil => exact atI_nat (j := 0) rfl
          | cons a b => exact atI_nat (j := 0) rfl
        refine ⟨m, _, 0, sVal (sOf ns z), rfl, rfl, SqL.of upd_same, atm, sVal_scal _, _, rfl, ?_⟩
        rw [decide_eq_true rfl]
        exact ite2 (fun c => absurd c (by decide)) (fun _ => ⟨_, rfl, (((e6.trans e7).trans e8).trans e9).trans e10⟩)
    obtain ⟨y5', rfl, e6⟩ := p
    have eH6 := eH5.trans e6
    clear hw5 h4 e4 e5 eH4 eH5 e6 hDn3 eH3
    -- what is no word
    refine ⟨by show 4 ≤ sizeLine; decide, fun t nt => ⟨t, rfl, ⟨_, SqT.of upd_same⟩, ?_⟩⟩
    have eT := Ex.new (o := .tup [V.str "A", .non, .str "", .int 3]) nt
    have hT7 := upd_same (H := H6) (a := t) (o := .tup [V.str "A", .non, .str "", .int 3])
    have z7 : LamX.ExtN H (upd H6 t (.tup [V.str "A", .non, .str "", .int 3])) := LamX.ExtN.of ((eR.trans eH6).trans eT)
    have T7 : LamX.Tabs Tt (upd H6 t (.tup [V.str "A", .non, .str "", .int 3])) := LamX.Tabs.ext hT ((eR.trans eH6).trans eT)
    generalize (upd H6 t (.tup [V.str "A", .non, .str "", .int 3])) = H7 at hT7 z7 T7 ⊢
    refine for_tup (K := K) (xs := [V.str "A", .non, .str "", .int 3]) (fun k σ' H' => ∃ y14 : Option V, σ' = [some (.ref x), some (.ref l), some (.int (sz_ : Nat)), some (.ref Dn), some (.ref D), y5', y6, some (.ref ah), y8, y9, y10, y11, y12, y13, y14, none] ∧ LamX.ExtN H7 H' ∧ LamX.Tabs Tt H') ⟨_, rfl, LamX.ExtN.refl H7, T7⟩ (fun k σ' H' _ pv => by obtain ⟨_, _, e, _⟩ := pv; exact SqT.of (tup_exN e hT7)) (fun k v σ' H8 hv pv => ?_) (fun σ' H8 pv => ?_)
    · obtain ⟨y14, rfl, z8, T8⟩ := pv
      have odd : (∀ {H : Hp}, Th H v) ∧ wordV v = false := by
        match k, hv with
        | 0, hv => cases hv; exact ⟨.str _ (by decide +kernel), by decide +kernel⟩
        | 1, hv => cases hv; exact ⟨.non, rfl⟩
        | 2, hv => cases hv; exact ⟨.str _ (by decide +kernel), by decide +kernel⟩
        | 3, hv => cases hv; exact ⟨.int _, rfl⟩
        | k + 4, hv => simp at hv
      refine ⟨T8, fun J n1 S1 => ?_⟩
      have zz := (z7.trans z8).trans n1
      have hxJ := zz _ _ hx (by intro ps z; cases z)
      refine ⟨.ref x, rfl, x, dx, _, rfl, hxJ, rfl, v, rfl, x, v, rfl, odd.1, odd.2, fun H9 e9 => ?_⟩
      refine ⟨A 3, 14, "word", rfl, T.h_NoWord, rfl, (fun dd z => by cases z), fun H10 e10 => ?_⟩
      refine ⟨rfl, _, rfl, ?_⟩
      rw [ne_sameV]
      exact iteF ⟨_, rfl, (z8.trans n1).trans (LamX.ExtN.of (e9.trans e10)), LamX.Tabs.ext S1 (e9.trans e10)⟩
    · obtain ⟨y14, rfl, z8, T8⟩ := pv
      exact q H8 (z7.trans z8) T8

/-! ### the law -/
abbrev TabL27 (PS PR : Addr) : List (Addr × Str) := [(PS, lamQ "Segment.__init__"), (PR, lamQ "_law_right")]
def spLaw (K : PySem.W.Frag) (Tt : List (Addr × Str)) : Sp := fun vs H Q _ => ∃ (a : Addr) (ns : List Int), vs = [.ref a] ∧ SqL K H a (ns.map V.int) ∧ ns.length ≤ 63 ∧ LamX.Tabs Tt H ∧ ∀ H', Q (.bl true) H'
theorem maxmin6 (n : Nat) : 1 ≤ (if (if (n : Int) < 6 then (n : Int) else 6) > 1 then (if (n : Int) < 6 then (n : Int) else 6) else 1) ∧ (if (if (n : Int) < 6 then (n : Int) else 6) > 1 then (if (n : Int) < 6 then (n : Int) else 6) else 1) ≤ 6 := by
  constructor
  · split <;> split <;> omega
  · split <;> split <;> omega
theorem tnil_call {R : List V → Hp → VK → Prop} {σ : L2.St} {H : Hp} {v : V} {Q : VK} (h : R [v] H Q) : tNil σ H fun xs H2 => R (v :: xs) H2 Q := h
theorem bd_segment (T : TX K mg A FD TK CC) : ∃ ds, Vals [V.int 4] ds ∧ Binds K (FD 95) ["self", "pages", "size"] ds :=
  T.f_Segment_init.binds0 2 (by simp) rfl fun D doc pm an cdv ct us ks l1 l2 => match us, ks, l1, l2 with
    | [_, _], [_], _, _ => ⟨_, _, _, _, _, _, rfl, rfl, rfl⟩
theorem many27 {d e : Int} (d0 : 0 ≤ d) (d1 : d < 14) (e0 : 0 ≤ e) (e1 : e < 3) (b : Bool) : ∃ m : Nat, atI [V.int (1 + d), .int (58 + e)] (if b = true then 1 else 0) = some (.int (m : Nat)) ∧ 1 ≤ m ∧ m ≤ 60 := by
  cases b
  · exact ⟨(1 + d).toNat, by rw [show (((1 + d).toNat : Nat) : Int) = 1 + d by omega]; exact atI_nat (j := 0) rfl, by omega, by omega⟩
  · exact ⟨(58 + e).toNat, by rw [show (((58 + e).toNat : Nat) : Int) = 58 + e by omega]; exact atI_nat (j := 1) rfl, by omega, by omega⟩
theorem SegD.upl {CS CR CB : Addr} {H : Hp} {x d D : Addr} {s : Nat} {ps : List Pg} {ys : List V} {o : HO} (h : SegD CS CR CB H x d s ps) (hD : H D = some (.lst ys)) : SegD CS CR CB (upd H D o) x d s ps := by
  obtain ⟨dx, t1, t2, kas, h1, h2, h3, h4, h5⟩ := h
  exact ⟨dx, t1, t2, kas, by rw [upd_ne (ne_of h1 hD (by intro z; cases z))]; exact h1, h2.of (fun o h => by rw [upd_ne (ne_of h hD (by intro z; cases z))]; exact h), by rw [upd_ne (ne_of h3 hD (by intro z; cases z))]; exact h3, by rw [upd_ne (ne_of h4 hD (by intro z; cases z))]; exact h4, h5.one, h5.keys, fun p hp => (h5.row p hp).updL hD⟩
set_option maxHeartbeats 32000000 in
theorem ok_law (T : TX K mg A FD TK CC) {PS PR : Addr} (TBS : LamX.TabB base mg (CC 95) PS) (TBR : LamX.TabB base mg (CC 83) PR) (hne : PS ≠ PR) : FnOk P w K mg base CX0 16 (A 84) (FD 84) ["_law_script"] (spLaw K (TabL27 PS PR)) := by
  have G_l_pool := (ok_l_pool (P := P) (w := w) (base := base) T).mono (show 1 ≤ 15 by decide)
  have G_l_take := (ok_l_take (P := P) (w := w) (base := base) T).mono (show 1 ≤ 15 by decide)
  have G_l_kinds := (ok_l_kinds (P := P) (w := w) (base := base) T).mono (show 2 ≤ 15 by decide)
  have G_l_words := (ok_l_wordsM (P := P) (w := w) (base := base) T).mono (show 2 ≤ 15 by decide)
  have G_l_numbers := (ok_l_numbers (P := P) (w := w) (base := base) T).mono (show 2 ≤ 15 by decide)
  have G_Page := (ok_pinit (P := P) (w := w) (base := base) T).mono (show 5 ≤ 14 by decide)
  have hmS : (PS, lamQ "Segment.__init__") ∈ TabL27 PS PR := List.mem_cons_self ..
  have huS : ∀ q ∈ TabL27 PS PR, q.1 = PS → q.2 = lamQ "Segment.__init__" := fun q hq e => by
    rcases List.mem_cons.mp hq with rfl | hq
    · rfl
    · rw [List.mem_singleton.mp hq] at e
      exact absurd e.symm hne
  have hmR : (PR, lamQ "_law_right") ∈ TabL27 PS PR := List.mem_cons_of_mem _ (List.mem_cons_self ..)
  have huR : ∀ q ∈ TabL27 PS PR, q.1 = PR → q.2 = lamQ "_law_right" := fun q hq e => by
    rcases List.mem_cons.mp hq with rfl | hq
    · exact absurd e hne
    · rw [List.mem_singleton.mp hq]
  have G_Segment := (ok_sinit (P := P) (w := w) (base := base) T TBS hmS huS).mono (show 13 ≤ 14 by decide)
  have G_l_right := (ok_l_right (P := P) (w := w) (base := base) T TBR hmR huR).mono (show 15 ≤ 15 by decide)
  have KB1_Segment := kb_segment T
  obtain ⟨dss, R1_Segment, B1_Segment⟩ := bd_segment T
  obtain ⟨dsb, R2_Page, B2_Page⟩ := bindsP T
  refine T.f_law.ok (k := 15) sc_law (fun vs H Q E h => ?_) (fun cdv A' outer s H vs Q E hr h => ?_)
  · obtain ⟨a, ns, rfl, _⟩ := h
    rfl
  · obtain ⟨a, ns, rfl, hS, hn, hT, q⟩ := h
    refine ⟨_, (pss_cons (ps_for PassesOwn.never rfl (pi_range1 (by rfl) T.m_range (pa_cons (pe_callB (call_max2 rfl) (by rfl) T.m_max (by decide +kernel) (pa_cons pe_int (pa_cons (pe_callB (call_min2 rfl) (by rfl) T.m_min (by decide +kernel) (pa_cons pe_int (pa_cons (pe_callB (lenK (K := K) rfl) (by rfl) T.m_len (by decide +kernel) (pa_cons (pv 0) pa_nil)) pa_nil))) pa_nil))) pa_nil)) (pg_name (i := 1) sc_law.nd rfl (.inl rfl))
      (pss_cons (ps_set (i := 2) sc_law.nd rfl (.inr rfl) (pe_call G_l_pool hr (by rfl) T.g_l_pool T.f_l_pool.kp T.b_l_pool .nil pass0 (pa_cons (pv 0) (pa_cons (pv 1) pa_nil))))
      (pss_cons (ps_set (i := 3) sc_law.nd rfl (.inl rfl) (pe_call G_l_take hr (by rfl) T.g_l_take T.f_l_take.kp T.b_l_take .nil pass0 (pa_cons (pv 2) (pa_cons pe_int pa_nil))))
      (pss_cons (ps_set (i := 4) sc_law.nd rfl (.inr rfl) (pe_call G_l_kinds hr (by rfl) T.g_l_kinds T.f_l_kinds.kp T.b_l_kinds .nil pass0 (pa_cons (pv 2) pa_nil)))
      (pss_cut (ps_set (i := 5) sc_law.nd rfl (.inl rfl) (pe_ix (ixLK (K := K) rfl) (pe_lst (pa_cons (pe_op op_add pe_int (pe_call G_l_take hr (by rfl) T.g_l_take T.f_l_take.kp T.b_l_take .nil pass0 (pa_cons (pv 2) (pa_cons pe_int pa_nil)))) (pa_cons (pe_op op_add pe_int (pe_call G_l_take hr (by rfl) T.g_l_take T.f_l_take.kp T.b_l_take .nil pass0 (pa_cons (pv 2) (pa_cons pe_int pa_nil)))) pa_nil))) (pe_callTy call_int1 (by rfl) T.m_int (by decide +kernel) (pa_cons (pe_and (pe_cmpR op_eq (pv 3) pe_int (nomark _)) (pe_one (pe_cmpR op_eq (pv 1) pe_int (nomark _)))) pa_nil)) (fun _ _ => rfl)))
      (pss_cons (ps_setLc (i := 6) (own := [("_law_number", 10)])  rfl sc_law.nd rfl rfl (sw_true rfl rfl rfl (by decide +kernel)) (piLK (K := K) rfl (pe_call G_l_numbers hr (by rfl) T.g_l_numbers T.f_l_numbers.kp T.b_l_numbers .nil pass0 (pa_cons (pv 2) (pa_cons (pv 5) pa_nil)))) (blkOk_by (own := [("_law_number", 10)]) (N := N_law) (sc := defScope (topS 84)) (by decide +kernel)) (fun _ _ _ _ _ => (pg_name (i := 10) sc_law.nd rfl (Or.inl rfl))) (fun _ _ _ _ _ => pts_nil) (fun _ _ _ _ _ => (pe_tup (pa_cons (pv 10) (pa_cons (pe_call G_l_words hr (by rfl) T.g_l_words T.f_l_words.kp T.b_l_words .nil pass0 (pa_cons (pv 2) (pa_cons (pv 4) (pa_cons pe_int pa_nil)))) pa_nil)))))
      (pss_cons (ps_set (i := 7) sc_law.nd rfl (.inl rfl) (pe_op op_add pe_int (pe_call G_l_take hr (by rfl) T.g_l_take T.f_l_take.kp T.b_l_take .nil pass0 (pa_cons (pv 2) (pa_cons pe_int pa_nil)))))
      (pss_cons (ps_setLc (i := 8) (own := [("_law_number", 10), ("_law_held", 11)])  rfl sc_law.nd rfl rfl (sw_true rfl rfl rfl (by decide +kernel)) (piLK (K := K) rfl (pv 6)) (blkOk_by (own := [("_law_number", 10), ("_law_held", 11)]) (N := N_law) (sc := defScope (topS 84)) (by decide +kernel)) (fun _ _ _ _ _ => (tupGK (K := K) (n := 2) rfl rfl (pgs_cons (pg_name (i := 10) sc_law.nd rfl (Or.inl rfl)) (pgs_cons (pg_name (i := 11) sc_law.nd rfl (Or.inl rfl)) pgs_nil)))) (fun _ _ _ _ _ => pts_nil) (fun _ _ _ _ _ => (pe_make T.M_Page G_Page hr (by rfl) T.k_Page B2_Page R2_Page pass0 (pa_cons (pv 10) (pa_cons (joinK (K := K) rfl pe_str (pv 11)) pa_nil)))))
      (pss_cons (ps_set (i := 9) sc_law.nd rfl (.inl rfl) (pe_lst (pa_cons (pe_makeK T.M_Segment G_Segment hr (by rfl) T.k_Segment KB1_Segment pass0 (pa_cons (pv 8) pa_nil) (pk_cons (pv 7) pk_nil)) (pa_cons (pe_make T.M_Segment G_Segment hr (by rfl) T.k_Segment B1_Segment R1_Segment pass0 (pa_cons (pv 8) pa_nil)) pa_nil))))
      (pss_cons (ps_expr (pe_bm0 PySem.F.plainAttrs_list PySem.F.slot_list_reverse PySem.F.type_list_reverse mt_reverse (pv 8)))
      (pss_cons (ps_expr (pe_bm0 PySem.F.plainAttrs_list PySem.F.slot_list_pop PySem.F.type_list_pop mt_pop (pv 8)))
      (pss_cons (ps_set (i := 6) sc_law.nd rfl (.inl rfl) (pe_callB (SrtK.cr_sortNW hr.units) (by rfl) T.m_sorted (by decide +kernel) (pa_cons (pv 6) pa_nil)))
      (pss_one (ps_if (PW.pt (pw_or (pt_not (pt_val (pe_call G_l_right hr (by rfl) T.g_l_right T.f_l_right.kp T.b_l_right .nil pass0 (pa_cons (pe_ix (ixLK (K := K) rfl) (pv 9) pe_int (fun _ _ => rfl)) (pa_cons (pv 6) (pa_cons (pv 7) pa_nil)))))) (pw_or1 (pt_not (pt_val (pe_call G_l_right hr (by rfl) T.g_l_right T.f_l_right.kp T.b_l_right .nil pass0 (pa_cons (pe_ix (ixLK (K := K) rfl) (pv 9) pe_int (fun _ _ => rfl)) (pa_cons (pv 6) (pa_cons (pe_glob (v := .int 4) (by rfl) T.c_SIZE ⟨_, rfl⟩) pa_nil)))))))))
      (pss_one (ps_ret pe_bl))
      pss_nil))))))))))))))
      (pss_one (ps_ret pe_bl))), ?_⟩
    generalize hTt : TabL27 PS PR = Tt at *
    refine ⟨.ref a, rfl, a, _, rfl, .inl hS, 6, _, rfl, 1, _, rfl, (if (if ((ns.map V.int).length : Int) < 6 then ((ns.map V.int).length : Int) else 6) > 1 then (if ((ns.map V.int).length : Int) < 6 then ((ns.map V.int).length : Int) else 6) else 1), rfl, ?_, ?_, ?_⟩
    · have := maxmin6 (ns.map V.int).length
      omega
    · have := maxmin6 (ns.map V.int).length
      omega
    have hmm := maxmin6 (ns.map V.int).length
    generalize (if (if ((ns.map V.int).length : Int) < 6 then ((ns.map V.int).length : Int) else 6) > 1 then (if ((ns.map V.int).length : Int) < 6 then ((ns.map V.int).length : Int) else 6) else 1) = nn at hmm ⊢
    refine for_range (lo := 0) (n := nn.toNat) (fun i σ' H' => ∃ y1 y2 y3 y4 y5 y6 y7 y8 y9 : Option V, σ' = [some (.ref a), y1, y2, y3, y4, y5, y6, y7, y8, y9, none, none] ∧ LamX.ExtN H H' ∧ LamX.Tabs Tt H') ⟨none, none, none, none, none, none, none, none, none, rfl, LamX.ExtN.refl H, hT⟩ (fun i σ' H' hi pv => ?_) (fun σ' H' pv => q H')
    obtain ⟨y1, y2, y3, y4, y5, y6, y7, y8, y9, rfl, e0, T0⟩ := pv
    refine ⟨.ref a, rfl, .int ((0 : Int) + i), rfl, a, ns, i, ?_, sql_exN e0 hS, hn, by omega, fun p H1 np e1 hp1 => ?_⟩
    · show [V.ref a, V.int ((0 : Int) + i)] = [V.ref a, V.int (i : Int)]
      rw [Int.zero_add]
    have T1 := LamX.Tabs.ext T0 e1
    have zf : ∀ {A B : Hp}, LamX.ExtN H A → Fx p A B → LamX.ExtN H B := fun z f b o h n => f _ _ (fun e => by rw [e] at h; exact absurd (e0 _ _ h n) (by rw [np]; intro z; cases z)) (z b o h n)
    have z1 := e0.trans (LamX.ExtN.of e1)
    refine ⟨.ref p, rfl, p, 8, 0, rfl, hp1, by decide, by decide, by decide, fun so H2 so0 so1 hp2 f2 => ?_⟩
    refine ⟨.ref p, rfl, p, _, rfl, hp2, by decide, fun kk zs H3 nkk hk3 hp3 f3 => ?_⟩
    have T3 := tabs_fx (tabs_fx T1 hp1 f2) hp2 f3
    have z3 := zf (zf z1 f2) f3
    clear T1 z1 hp1 hp2 f2 f3 e1
    -- how many
    refine ⟨fun σ' H' => ∃ m : Nat, σ' = [some (.ref a), some (.int ((0 : Int) + i)), some (.ref p), some (.int so), some (.ref kk), some (.int (m : Nat)), y6, y7, y8, y9, none, none] ∧ 1 ≤ m ∧ m ≤ 60 ∧ Kn H' kk zs ∧ Pl H' p 40 ∧ LamX.ExtN H H' ∧ LamX.Tabs Tt H', ?_, ?_⟩
    · refine ⟨.ref p, rfl, p, 14, _, rfl, hp3, by decide, by decide, by decide, fun d4 H4 d40 d41 hp4 f4 => ⟨1, d4, rfl, rfl, .ref p, rfl, p, 3, _, rfl, hp4, by decide, by decide, by decide, fun d5 H5 d50 d51 hp5 f5 => ⟨58, d5, rfl, rfl, by show 2 ≤ sizeLine; decide, fun L nL => ?_⟩⟩⟩
      have eL := Ex.new (o := .lst [.int (1 + d4), .int (58 + d5)]) nL
      have hL := upd_same (H := H5) (a := L) (o := .lst [.int (1 + d4), .int (58 + d5)])
      have hk6 := ((hk3.fx hp3 f4).fx hp4 f5).ex eL
      have hp6 := hp5.ex eL
      have z6 := (zf (zf z3 f4) f5).trans (LamX.ExtN.of eL)
      have T6 := LamX.Tabs.ext (tabs_fx (tabs_fx T3 hp3 f4) hp4 f5) eL
      generalize (upd H5 L (.lst [.int (1 + d4), .int (58 + d5)])) = H6 at hL hk6 hp6 z6 T6 ⊢
      have fin : ∀ b : Bool, ∃ v : V, atI [V.int (1 + d4), .int (58 + d5)] (if b = true then 1 else 0) = some v ∧ ∃ m : Nat, v = .int (m : Nat) ∧ 1 ≤ m ∧ m ≤ 60 := fun b => let ⟨m, h1, h2, h3⟩ := many27 d40 d41 d50 d51 b; ⟨_, h1, m, rfl, h2, h3⟩
      have hp6 := hp6.mono (show _ ≤ 40 by omega)
      refine ⟨.int so, rfl, rfl, _, rfl, ite2 (fun c => ?_) (fun c => ?_)⟩
      · obtain ⟨v, av, m, rfl, m1, m2⟩ := fin (decide (V.int ((0 : Int) + i) = V.int 0))
        exact ⟨.int ((0 : Int) + i), rfl, rfl, .inr ⟨_, rfl, L, _, _, _, rfl, rfl, SqL.of hL, av, m, rfl, m1, m2, hk6, hp6, z6, T6⟩⟩
      · obtain ⟨v, av, m, rfl, m1, m2⟩ := fin false
        exact .inr ⟨_, rfl, L, _, _, _, rfl, rfl, SqL.of hL, av, m, rfl, m1, m2, hk6, hp6, z6, T6⟩
    rintro σ' H4 ⟨m, rfl, m1, m2, hk4, hp4, z4, T4⟩
    clear hk3 hp3 z3 T3
    refine ⟨.ref p, rfl, .int (m : Nat), rfl, p, _, m, rfl, m2, hp4, by decide, fun l nN H5 nlp nl hl ln ndN rN hp5 f5 => ?_⟩
    have hk5 := hk4.fx hp4 f5
    have T5 := tabs_fx T4 hp4 f5
    have z5 := zf z4 f5
    have hp5 := hp5.mono (show _ ≤ 300 by omega)
    clear hp4 hk4 T4 z4 f5
    refine ⟨l, rfl, ⟨_, SqL.of hl⟩, fun D nD => ?_⟩
    have nDp := pool_ne hp5 nD
    refine lc_list (K := K) (a := l) (xs := nN.map V.int) (fun i H' => ∃ (xs : List V) (gs : List Pg), H' D = some (.lst xs) ∧ Prs (fun b => b = p ∨ b = D) H' xs gs ∧ gs.map (·.1) = nN.take i ∧ (∀ g ∈ gs, g.2.length ≤ 14 ∧ g.2.all isW = true ∧ ∀ y ∈ g.2, y ∈ zs) ∧ Pl H' p (300 + 15 * i) ∧ Fx p H5 H') ⟨[], [], upd_same, Prs.nil, by simp, fun g h => (by cases h), hp5.ex (Ex.new nD), Fx.ex (Ex.new nD)⟩ (fun j H6 hj pv => ?_) (fun j v H6 hj pv => ?_) (fun H6 pv => ?_)
    · obtain ⟨xs, gs, _, _, _, _, _, f6⟩ := pv
      exact SqL.of (f6 _ _ nlp hl)
    · obtain ⟨xs, gs, hD, hP, gn, gw, hp6, f6⟩ := pv
      rw [List.getElem?_map] at hj
      obtain ⟨n, hn1, rfl⟩ := Option.map_eq_some_iff.mp hj
      have jl := (List.getElem?_eq_some_iff.mp hn1).1
      have hk6 := hk5.fx hp5 f6
      refine ⟨rfl, .int n, rfl, .ref p, rfl, .ref kk, rfl, p, kk, zs, 300 + 15 * j, 14, rfl, by decide, hp6, hk6, by omega, fun h ws H7 nhp nh hh lw ww wm hp7 f7 => ⟨by show 2 ≤ sizeLine; decide, fun b nb => ?_⟩⟩
      have hD7 := f7 _ _ nDp hD
      have nhD : h ≠ D := fun e => by rw [e, hD] at nh; cases nh
      have e8 := Ex.new (o := .tup [.int n, .ref h]) nb
      have hb8 := upd_same (H := H7) (a := b) (o := .tup [.int n, .ref h])
      have hP8 := (hP.fx hp6 (.inl rfl) f7).ex e8
      have hD8 := e8 _ _ hD7
      have hh8 := e8 _ _ hh
      have nbD : b ≠ D := fun e => by rw [e, hD7] at nb; cases nb
      have f8 : Fx p H5 (upd H7 b (.tup [.int n, .ref h])) := (f6.trans f7).trans (Fx.ex e8)
      have hp8 := hp7.ex e8
      generalize (upd H7 b (.tup [.int n, .ref h])) = H8 at *
      refine ⟨xs, hD8, ?_, xs ++ [.ref b], gs ++ [(n, ws)], upd_same, (hP8.upl (.inr rfl) hD8).snoc ⟨b, h, rfl, by rw [upd_ne nbD]; exact hb8, by rw [upd_ne nhD]; exact hh8, fun z => z.elim nhp nhD⟩, ?_, fun g hg => ?_, ?_, fun c o nc hc => ?_⟩
      · have := congrArg List.length gn
        rw [List.length_map, List.length_take] at this
        rw [hP.1]
        exact sz_lt (by omega)
      · rw [List.map_append, gn, List.take_add_one, hn1]
        rfl
      · rcases List.mem_append.mp hg with hg | hg
        · exact gw g hg
        · rw [List.mem_singleton.mp hg]
          exact ⟨lw, ww, wm⟩
      · exact (pl_upd hp8 nDp).mono (by omega)
      · rw [upd_ne (ne_of_none hc nD)]
        exact f8 _ _ nc hc
    obtain ⟨xs, gs, hD, hP, gn, gw, hp6, f6⟩ := pv
    rw [List.length_map] at gn hp6
    rw [List.take_length] at gn
    have hk6 := hk5.fx hp5 f6
    have T6 := tabs_fx T5 hp5 f6
    have z6 := zf z5 f6
    have hp6 := hp6.mono (show _ ≤ 2000 by omega)
    have gl : gs.length = m := by
      have := congrArg List.length gn
      rw [List.length_map] at this
      omega
    have gnd : (gs.map (·.1)).Nodup := by rw [gn]; exact ndN
    have gnum : ∀ g ∈ gs, 1 ≤ g.1 ∧ g.1 ≤ 9999 := fun g hg => rN _ (by rw [← gn]; exact List.mem_map.mpr ⟨g, hg, rfl⟩)
    have hP6 := hP.less (N' := fun b => b = p) fun b h => .inl h
    clear hp5 hk5 T5 z5 f6 nD nl nlp hl hP rN ndN gn
    refine ⟨.ref p, rfl, p, 8, 2000, rfl, hp6, by decide, by decide, by decide, fun wd H7 wd0 wd1 hp7 f7 => ⟨1, wd, rfl, rfl, ?_⟩⟩
    obtain ⟨wd, rfl⟩ := Int.eq_ofNat_of_zero_le wd0
    have hD7 := f7 _ _ nDp hD
    have hP7 := hP6.fx hp6 rfl f7
    have T7 := tabs_fx T6 hp6 f7
    have z7 := zf z6 f7
    have zl5 : zs.length ≤ 60 := by have := hk6.2.2.1; omega
    clear hD hP6 hk6 T6 z6 f7 hp6 hp7
    -- the pages
    refine ⟨.ref D, rfl, D, rfl, ⟨_, SqL.of hD7⟩, fun D2 nD2 => ?_⟩
    have hP7 : Prs (fun b => b = p ∨ b = D2) H7 xs gs := ⟨hP7.1, fun i g q => let ⟨v, h1, a, h, e, k1, k2, k3⟩ := hP7.2 i g q; ⟨v, h1, a, h, e, k1, k2, fun z => z.elim k3 (fun e => by rw [e, nD2] at k2; cases k2)⟩⟩
    refine lc_list (K := K) (a := D) (xs := xs) (fun j H' => Ex H7 H' ∧ ∃ ys, H' D2 = some (.lst ys) ∧ PagesAt (A 34) H' ys (gs.take j)) ⟨Ex.new nD2, [], upd_same, rfl, fun i v g => by simp at g⟩ (fun j H' _ p => SqL.of (p.1 _ _ hD7)) (fun j v H8 hj pv => ?_) (fun H8 pv => ?_)
    · obtain ⟨e8, ys, hD2, hPs⟩ := pv
      obtain ⟨g, hg, c, h, rfl, h1, h2, _⟩ := hP7.mem hj
      have gm := List.mem_of_getElem? hg
      have gd := gnum g gm
      obtain ⟨g1, g2, _⟩ := gw g gm
      refine ⟨c, _, rfl, SqT.of (e8 _ _ h1), rfl, _, _, rfl, _, _, rfl, rfl, rfl, .int g.1, rfl, ⟨_, rfl⟩, .ref h, rfl, " ", h, g.2, rfl, rfl, .inl (SqL.of (e8 _ _ h2)), jbound g2 (by omega), fun b dx nb ndx _ => mk_page nb ndx gd.1 gd.2 (by omega) g2 fun H9 x9 hPg => ?_⟩
      have jl := (List.getElem?_eq_some_iff.mp hg).1
      refine ⟨ys, x9 _ _ hD2, ?_, Ex.mut (e8.trans x9) nD2, ys ++ [.ref b], upd_same, ?_⟩
      · rw [hPs.1, List.length_take]
        exact sz_lt (by omega)
      · rw [List.take_add_one, hg]
        exact ((hPs.ex x9).snoc hPg).upl (x9 _ _ hD2)
    obtain ⟨e8, ys, hD2, hPs⟩ := pv
    rw [hP7.1, List.take_length] at hPs
    have hPg : Pgs (gs.map (·.2)) := ⟨by rw [List.length_map]; omega, fun ws hws => by
      obtain ⟨g, hg, rfl⟩ := List.mem_map.mp hws
      obtain ⟨g1, g2, _⟩ := gw g hg
      exact ⟨by omega, g2⟩⟩
    have T8 := LamX.Tabs.ext T7 e8
    have z8 := z7.trans (LamX.ExtN.of e8)
    have hD8 := e8 _ _ hD7
    have hP8 := hP7.ex e8
    have pos : 1 ≤ gs.length := by omega
    -- the segments
    refine ⟨.ref D2, rfl, .int (1 + (wd : Int)), rfl, rfl, rfl, fun x dx nx ndx _ => ?_⟩
    refine mk_seg (s := wd + 1) (by omega) nx ndx hD2 hPs pos gnd hPg (by omega) (by omega) T8 fun d1 H9 _ z9 T9 sg1 => ?_
    refine ⟨.ref D2, rfl, fun x2 dx2 nx2 ndx2 _ => ?_⟩
    have hD29 := lst_exN z9 hD2
    have hPs9 := hPs.exN z9
    refine mk_seg (s := 4) (by decide) nx2 ndx2 hD29 hPs9 pos gnd hPg (by decide) (by decide) T9 fun d2 H10 _ z10 T10 sg2 => ⟨by show 2 ≤ sizeLine; decide, fun L nL => ?_⟩
    have hD2a := lst_exN z10 hD29
    have eL := Ex.new (o := .lst [.ref x, .ref x2]) nL
    have hL := upd_same (H := H10) (a := L) (o := .lst [.ref x, .ref x2])
    have z9L := (z9.trans z10).trans (LamX.ExtN.of eL)
    have sg1 := (sg1.exN z10).ex eL
    have sg2 := sg2.ex eL
    have T11 := LamX.Tabs.ext T10 eL
    have z11 := z8.trans z9L
    have hD11 := lst_exN z9L hD8
    have hP11 := hP8.exN z9L
    have hD2b := eL _ _ hD2a
    have nD2L : D2 ≠ L := ne_of_none hD2a nL
    have hD2D : D2 ≠ D := fun e => by rw [e, hD7] at nD2; cases nD2
    generalize (upd H10 L (.lst [.ref x, .ref x2])) = H11 at hL sg1 sg2 T11 z11 hD11 hP11 hD2b ⊢
    have fr : ∀ b o, H b = some o → (∀ ps, o ≠ .tbl ps) → b ≠ D2 := fun b o h n e => by
      have := z7 b o h n
      rw [e, nD2] at this
      cases this
    have yl := hPs.1
    clear eL nL hD2a z9L T10 z10 hPs9 hD29 T9 z9 hPs hD2 T8 z8 hD8 hP8 hD7 hP7 e8 nx ndx nx2 ndx2
    -- the handed list is changed
    refine ⟨.ref D2, rfl, .inl ⟨rfl, _, SqL.of hD2b⟩, D2, _, rfl, rfl, hD2b, ?_⟩
    have hD2c := upd_same (H := H11) (a := D2) (o := .lst ys.reverse)
    have sg1c := sg1.upl (o := .lst ys.reverse) hD2b
    have sg2c := sg2.upl (o := .lst ys.reverse) hD2b
    have T12 := tabs_upl (o := .lst ys.reverse) T11 hD2b
    have hP12 := hP11.upl (o := .lst ys.reverse) (.inr rfl) hD2b
    have hD12 : (upd H11 D2 (.lst ys.reverse)) D = some (.lst xs) := by rw [upd_ne hD2D.symm]; exact hD11
    have hL12 : (upd H11 D2 (.lst ys.reverse)) L = some (.lst [.ref x, .ref x2]) := by rw [upd_ne nD2L.symm]; exact hL
    have z12 : LamX.ExtN H (upd H11 D2 (.lst ys.reverse)) := fun b o h n => by rw [upd_ne (fr b o h n)]; exact z11 b o h n
    generalize (upd H11 D2 (.lst ys.reverse)) = H12 at hD2c sg1c sg2c T12 hP12 hD12 hL12 z12 ⊢
    clear hL sg1 sg2 T11 z11 hD11 hP11 hD2b
    have rl : ys.reverse.length = gs.length := by rw [List.length_reverse]; exact yl
    have gy : ys.reverse[ys.reverse.length - 1]? = some (ys.reverse[ys.reverse.length - 1]'(by omega)) := List.getElem?_eq_getElem _
    refine ⟨.ref D2, rfl, .inl ⟨rfl, _, SqL.of hD2c⟩, D2, _, _, rfl, rfl, hD2c, gy, ?_⟩
    have sg1d := sg1c.upl (o := .lst ys.reverse.dropLast) hD2c
    have sg2d := sg2c.upl (o := .lst ys.reverse.dropLast) hD2c
    have T13 := tabs_upl (o := .lst ys.reverse.dropLast) T12 hD2c
    have hP13 := hP12.upl (o := .lst ys.reverse.dropLast) (.inr rfl) hD2c
    have hD13 : (upd H12 D2 (.lst ys.reverse.dropLast)) D = some (.lst xs) := by rw [upd_ne hD2D.symm]; exact hD12
    have hL13 : (upd H12 D2 (.lst ys.reverse.dropLast)) L = some (.lst [.ref x, .ref x2]) := by rw [upd_ne nD2L.symm]; exact hL12
    have z13 : LamX.ExtN H (upd H12 D2 (.lst ys.reverse.dropLast)) := fun b o h n => by rw [upd_ne (fr b o h n)]; exact z12 b o h n
    generalize (upd H12 D2 (.lst ys.reverse.dropLast)) = H13 at sg1d sg2d T13 hP13 hD13 hL13 z13 ⊢
    clear gy hD2c sg1c sg2c T12 hP12 hD12 hL12 z12
    refine ⟨.ref D, rfl, ?_⟩
    refine tnil_call (R := SrtK.rSortNW K) (v := .ref D) ?_
    refine sortNW_of hD13 hP13 gnd fun W qs_ H14 nW e14 hW hP14 => ?_
    have ok : ∀ s, 1 ≤ s → s ≤ 8 → SegOk s (sortPg gs) := fun s s1 s8 => ⟨Pgs.sort hPg, by rw [sort_len]; exact pos, s1, s8, fun g hg => gnum g (sort_mem.mp hg), sort_inc gnd⟩
    have hz : ∀ g ∈ sortPg gs, g.2.length ≤ 60 ∧ ∀ y ∈ g.2, y ∈ zs := fun g hg => by
      obtain ⟨g1, _, g3⟩ := gw g (sort_mem.mp hg)
      exact ⟨by omega, g3⟩
    have T14 := LamX.Tabs.ext T13 e14
    have z14 := z13.trans (LamX.ExtN.of e14)
    have hL14 := e14 _ _ hL13
    refine ⟨.ref L, rfl, L, _, 0, .ref x, rfl, rfl, SqL.of hL14, atI_nat (j := 0) rfl, .ref W, rfl, .int (1 + (wd : Int)), rfl, _, x, W, wd + 1, sortPg gs, qs_, zs, ?_, ⟨d1, sg1d.ex e14⟩, ok _ (by omega) (by omega), hW, hP14, zl5, hz, T14, fun H15 z15 T15 => ⟨true, rfl, iteF ?_⟩⟩
    · rw [show ((wd + 1 : Nat) : Int) = 1 + (wd : Int) by omega]
      rfl
    refine ⟨.ref L, rfl, L, _, 1, .ref x2, rfl, rfl, SqL.of (lst_exN z15 hL14), atI_nat (j := 1) rfl, .ref W, rfl, _, x2, W, 4, sortPg gs, qs_, zs, rfl, ⟨d2, (sg2d.ex e14).exN z15⟩, ok _ (by decide) (by decide), lst_exN z15 hW, hP14.exN z15, zl5, hz, T15, fun H16 z16 T16 => ⟨true, rfl, iteF ?_⟩⟩
    exact ⟨_, _, _, _, _, _, _, _, _, rfl, (z14.trans z15).trans z16, T16⟩

end
set_option maxHeartbeats 8000000 in
theorem all_mk {l : PySem.W.OpenLaw} {w : World} {K : PySem.W.Frag} {h : Heap} {mg : Str → Option Value} {fa : Addr} (X : K.In h) (G : h.Ns mainGlobals mg) (hfa : mg "law" = some (.ref fa))
    {f22 : Addr} {od22 an22 : Option Addr} {sl22 : Array (Option Value)} {oc22 kV22 dc22 pm22 cd22 ct22 : Value}
    (a22 : PySem.W.nsIn K mainGlobals "is_whole" = some (some (.ref f22))) (l22 : K.lookup f22 = some ⟨oc22, od22, .func (PySem.W.fnOf "is_whole" "is_whole" (defArgs (topS 22)) (defBody (topS 22)) (defScope (topS 22)) .none kV22 dc22 pm22 an22 cd22 ct22), sl22⟩) (c22 : PySem.W.codeIn K cd22 "is_whole" = true) (k22 : PySem.W.keepIn K (.ref f22) = true)
    {f23 : Addr} {od23 an23 : Option Addr} {sl23 : Array (Option Value)} {oc23 kV23 dc23 pm23 cd23 ct23 : Value}
    (a23 : PySem.W.nsIn K mainGlobals "is_within" = some (some (.ref f23))) (l23 : K.lookup f23 = some ⟨oc23, od23, .func (PySem.W.fnOf "is_within" "is_within" (defArgs (topS 23)) (defBody (topS 23)) (defScope (topS 23)) .none kV23 dc23 pm23 an23 cd23 ct23), sl23⟩) (c23 : PySem.W.codeIn K cd23 "is_within" = true) (k23 : PySem.W.keepIn K (.ref f23) = true)
    {f27 : Addr} {od27 an27 : Option Addr} {sl27 : Array (Option Value)} {oc27 kV27 dc27 pm27 cd27 ct27 : Value}
    (a27 : PySem.W.nsIn K mainGlobals "is_word" = some (some (.ref f27))) (l27 : K.lookup f27 = some ⟨oc27, od27, .func (PySem.W.fnOf "is_word" "is_word" (defArgs (topS 27)) (defBody (topS 27)) (defScope (topS 27)) .none kV27 dc27 pm27 an27 cd27 ct27), sl27⟩) (c27 : PySem.W.codeIn K cd27 "is_word" = true) (k27 : PySem.W.keepIn K (.ref f27) = true)
    {f28 : Addr} {od28 an28 : Option Addr} {sl28 : Array (Option Value)} {oc28 kV28 dc28 pm28 cd28 ct28 : Value}
    (a28 : PySem.W.nsIn K mainGlobals "are_words" = some (some (.ref f28))) (l28 : K.lookup f28 = some ⟨oc28, od28, .func (PySem.W.fnOf "are_words" "are_words" (defArgs (topS 28)) (defBody (topS 28)) (defScope (topS 28)) .none kV28 dc28 pm28 an28 cd28 ct28), sl28⟩) (c28 : PySem.W.codeIn K cd28 "are_words" = true) (k28 : PySem.W.keepIn K (.ref f28) = true)
    {f29 : Addr} {od29 an29 : Option Addr} {sl29 : Array (Option Value)} {oc29 kV29 dc29 pm29 cd29 ct29 : Value}
    (a29 : PySem.W.nsIn K mainGlobals "check_word" = some (some (.ref f29))) (l29 : K.lookup f29 = some ⟨oc29, od29, .func (PySem.W.fnOf "check_word" "check_word" (defArgs (topS 29)) (defBody (topS 29)) (defScope (topS 29)) .none kV29 dc29 pm29 an29 cd29 ct29), sl29⟩) (c29 : PySem.W.codeIn K cd29 "check_word" = true) (k29 : PySem.W.keepIn K (.ref f29) = true)
    {f30 : Addr} {od30 an30 : Option Addr} {sl30 : Array (Option Value)} {oc30 kV30 dc30 pm30 cd30 ct30 : Value}
    (a30 : PySem.W.nsIn K mainGlobals "words_of" = some (some (.ref f30))) (l30 : K.lookup f30 = some ⟨oc30, od30, .func (PySem.W.fnOf "words_of" "words_of" (defArgs (topS 30)) (defBody (topS 30)) (defScope (topS 30)) .none kV30 dc30 pm30 an30 cd30 ct30), sl30⟩) (c30 : PySem.W.codeIn K cd30 "words_of" = true) (k30 : PySem.W.keepIn K (.ref f30) = true)
    {f31 : Addr} {od31 an31 : Option Addr} {sl31 : Array (Option Value)} {oc31 kV31 dc31 pm31 cd31 ct31 : Value}
    (a31 : PySem.W.nsIn K mainGlobals "check_words" = some (some (.ref f31))) (l31 : K.lookup f31 = some ⟨oc31, od31, .func (PySem.W.fnOf "check_words" "check_words" (defArgs (topS 31)) (defBody (topS 31)) (defScope (topS 31)) .none kV31 dc31 pm31 an31 cd31 ct31), sl31⟩) (c31 : PySem.W.codeIn K cd31 "check_words" = true) (k31 : PySem.W.keepIn K (.ref f31) = true)
    {f35 : Addr} {od35 an35 : Option Addr} {sl35 : Array (Option Value)} {oc35 kV35 dc35 pm35 cd35 ct35 : Value}
    (a35 : PySem.W.nsIn K mainGlobals "check_page_number" = some (some (.ref f35))) (l35 : K.lookup f35 = some ⟨oc35, od35, .func (PySem.W.fnOf "check_page_number" "check_page_number" (defArgs (topS 35)) (defBody (topS 35)) (defScope (topS 35)) .none kV35 dc35 pm35 an35 cd35 ct35), sl35⟩) (c35 : PySem.W.codeIn K cd35 "check_page_number" = true) (k35 : PySem.W.keepIn K (.ref f35) = true)
    {f36 : Addr} {od36 an36 : Option Addr} {sl36 : Array (Option Value)} {oc36 kV36 dc36 pm36 cd36 ct36 : Value}
    (a36 : PySem.W.nsIn K mainGlobals "check_pages" = some (some (.ref f36))) (l36 : K.lookup f36 = some ⟨oc36, od36, .func (PySem.W.fnOf "check_pages" "check_pages" (defArgs (topS 36)) (defBody (topS 36)) (defScope (topS 36)) .none kV36 dc36 pm36 an36 cd36 ct36), sl36⟩) (c36 : PySem.W.codeIn K cd36 "check_pages" = true) (k36 : PySem.W.keepIn K (.ref f36) = true)
    {f40 : Addr} {od40 an40 : Option Addr} {sl40 : Array (Option Value)} {oc40 kV40 dc40 pm40 cd40 ct40 : Value}
    (a40 : PySem.W.nsIn K mainGlobals "is_count" = some (some (.ref f40))) (l40 : K.lookup f40 = some ⟨oc40, od40, .func (PySem.W.fnOf "is_count" "is_count" (defArgs (topS 40)) (defBody (topS 40)) (defScope (topS 40)) .none kV40 dc40 pm40 an40 cd40 ct40), sl40⟩) (c40 : PySem.W.codeIn K cd40 "is_count" = true) (k40 : PySem.W.keepIn K (.ref f40) = true)
    {f41 : Addr} {od41 an41 : Option Addr} {sl41 : Array (Option Value)} {oc41 kV41 dc41 pm41 cd41 ct41 : Value}
    (a41 : PySem.W.nsIn K mainGlobals "code" = some (some (.ref f41))) (l41 : K.lookup f41 = some ⟨oc41, od41, .func (PySem.W.fnOf "code" "code" (defArgs (topS 41)) (defBody (topS 41)) (defScope (topS 41)) .none kV41 dc41 pm41 an41 cd41 ct41), sl41⟩) (c41 : PySem.W.codeIn K cd41 "code" = true) (k41 : PySem.W.keepIn K (.ref f41) = true)
    {f42 : Addr} {od42 an42 : Option Addr} {sl42 : Array (Option Value)} {oc42 kV42 dc42 pm42 cd42 ct42 : Value}
    (a42 : PySem.W.nsIn K mainGlobals "code_all" = some (some (.ref f42))) (l42 : K.lookup f42 = some ⟨oc42, od42, .func (PySem.W.fnOf "code_all" "code_all" (defArgs (topS 42)) (defBody (topS 42)) (defScope (topS 42)) .none kV42 dc42 pm42 an42 cd42 ct42), sl42⟩) (c42 : PySem.W.codeIn K cd42 "code_all" = true) (k42 : PySem.W.keepIn K (.ref f42) = true)
    {f43 : Addr} {od43 an43 : Option Addr} {sl43 : Array (Option Value)} {oc43 kV43 dc43 pm43 cd43 ct43 : Value}
    (a43 : PySem.W.nsIn K mainGlobals "code_entries" = some (some (.ref f43))) (l43 : K.lookup f43 = some ⟨oc43, od43, .func (PySem.W.fnOf "code_entries" "code_entries" (defArgs (topS 43)) (defBody (topS 43)) (defScope (topS 43)) .none kV43 dc43 pm43 an43 cd43 ct43), sl43⟩) (c43 : PySem.W.codeIn K cd43 "code_entries" = true) (k43 : PySem.W.keepIn K (.ref f43) = true)
    {f44 : Addr} {od44 an44 : Option Addr} {sl44 : Array (Option Value)} {oc44 kV44 dc44 pm44 cd44 ct44 : Value}
    (a44 : PySem.W.nsIn K mainGlobals "decode_entries" = some (some (.ref f44))) (l44 : K.lookup f44 = some ⟨oc44, od44, .func (PySem.W.fnOf "decode_entries" "decode_entries" (defArgs (topS 44)) (defBody (topS 44)) (defScope (topS 44)) .none kV44 dc44 pm44 an44 cd44 ct44), sl44⟩) (c44 : PySem.W.codeIn K cd44 "decode_entries" = true) (k44 : PySem.W.keepIn K (.ref f44) = true)
    {f45 : Addr} {od45 an45 : Option Addr} {sl45 : Array (Option Value)} {oc45 kV45 dc45 pm45 cd45 ct45 : Value}
    (a45 : PySem.W.nsIn K mainGlobals "check_entries" = some (some (.ref f45))) (l45 : K.lookup f45 = some ⟨oc45, od45, .func (PySem.W.fnOf "check_entries" "check_entries" (defArgs (topS 45)) (defBody (topS 45)) (defScope (topS 45)) .none kV45 dc45 pm45 an45 cd45 ct45), sl45⟩) (c45 : PySem.W.codeIn K cd45 "check_entries" = true) (k45 : PySem.W.keepIn K (.ref f45) = true)
    {f46 : Addr} {od46 an46 : Option Addr} {sl46 : Array (Option Value)} {oc46 kV46 dc46 pm46 cd46 ct46 : Value}
    (a46 : PySem.W.nsIn K mainGlobals "is_entry" = some (some (.ref f46))) (l46 : K.lookup f46 = some ⟨oc46, od46, .func (PySem.W.fnOf "is_entry" "is_entry" (defArgs (topS 46)) (defBody (topS 46)) (defScope (topS 46)) .none kV46 dc46 pm46 an46 cd46 ct46), sl46⟩) (c46 : PySem.W.codeIn K cd46 "is_entry" = true) (k46 : PySem.W.keepIn K (.ref f46) = true)
    {f47 : Addr} {od47 an47 : Option Addr} {sl47 : Array (Option Value)} {oc47 kV47 dc47 pm47 cd47 ct47 : Value}
    (a47 : PySem.W.nsIn K mainGlobals "are_places" = some (some (.ref f47))) (l47 : K.lookup f47 = some ⟨oc47, od47, .func (PySem.W.fnOf "are_places" "are_places" (defArgs (topS 47)) (defBody (topS 47)) (defScope (topS 47)) .none kV47 dc47 pm47 an47 cd47 ct47), sl47⟩) (c47 : PySem.W.codeIn K cd47 "are_places" = true) (k47 : PySem.W.keepIn K (.ref f47) = true)
    {f48 : Addr} {od48 an48 : Option Addr} {sl48 : Array (Option Value)} {oc48 kV48 dc48 pm48 cd48 ct48 : Value}
    (a48 : PySem.W.nsIn K mainGlobals "first_fall" = some (some (.ref f48))) (l48 : K.lookup f48 = some ⟨oc48, od48, .func (PySem.W.fnOf "first_fall" "first_fall" (defArgs (topS 48)) (defBody (topS 48)) (defScope (topS 48)) .none kV48 dc48 pm48 an48 cd48 ct48), sl48⟩) (c48 : PySem.W.codeIn K cd48 "first_fall" = true) (k48 : PySem.W.keepIn K (.ref f48) = true)
    {f49 : Addr} {od49 an49 : Option Addr} {sl49 : Array (Option Value)} {oc49 kV49 dc49 pm49 cd49 ct49 : Value}
    (a49 : PySem.W.nsIn K mainGlobals "gaps_of" = some (some (.ref f49))) (l49 : K.lookup f49 = some ⟨oc49, od49, .func (PySem.W.fnOf "gaps_of" "gaps_of" (defArgs (topS 49)) (defBody (topS 49)) (defScope (topS 49)) .none kV49 dc49 pm49 an49 cd49 ct49), sl49⟩) (c49 : PySem.W.codeIn K cd49 "gaps_of" = true) (k49 : PySem.W.keepIn K (.ref f49) = true)
    {f50 : Addr} {od50 an50 : Option Addr} {sl50 : Array (Option Value)} {oc50 kV50 dc50 pm50 cd50 ct50 : Value}
    (a50 : PySem.W.nsIn K mainGlobals "risen" = some (some (.ref f50))) (l50 : K.lookup f50 = some ⟨oc50, od50, .func (PySem.W.fnOf "risen" "risen" (defArgs (topS 50)) (defBody (topS 50)) (defScope (topS 50)) .none kV50 dc50 pm50 an50 cd50 ct50), sl50⟩) (c50 : PySem.W.codeIn K cd50 "risen" = true) (k50 : PySem.W.keepIn K (.ref f50) = true)
    {f51 : Addr} {od51 an51 : Option Addr} {sl51 : Array (Option Value)} {oc51 kV51 dc51 pm51 cd51 ct51 : Value}
    (a51 : PySem.W.nsIn K mainGlobals "check_text" = some (some (.ref f51))) (l51 : K.lookup f51 = some ⟨oc51, od51, .func (PySem.W.fnOf "check_text" "check_text" (defArgs (topS 51)) (defBody (topS 51)) (defScope (topS 51)) .none kV51 dc51 pm51 an51 cd51 ct51), sl51⟩) (c51 : PySem.W.codeIn K cd51 "check_text" = true) (k51 : PySem.W.keepIn K (.ref f51) = true)
    {f52 : Addr} {od52 an52 : Option Addr} {sl52 : Array (Option Value)} {oc52 kV52 dc52 pm52 cd52 ct52 : Value}
    (a52 : PySem.W.nsIn K mainGlobals "read_number" = some (some (.ref f52))) (l52 : K.lookup f52 = some ⟨oc52, od52, .func (PySem.W.fnOf "read_number" "read_number" (defArgs (topS 52)) (defBody (topS 52)) (defScope (topS 52)) .none kV52 dc52 pm52 an52 cd52 ct52), sl52⟩) (c52 : PySem.W.codeIn K cd52 "read_number" = true) (k52 : PySem.W.keepIn K (.ref f52) = true)
    {f53 : Addr} {od53 an53 : Option Addr} {sl53 : Array (Option Value)} {oc53 kV53 dc53 pm53 cd53 ct53 : Value}
    (a53 : PySem.W.nsIn K mainGlobals "read_numbers" = some (some (.ref f53))) (l53 : K.lookup f53 = some ⟨oc53, od53, .func (PySem.W.fnOf "read_numbers" "read_numbers" (defArgs (topS 53)) (defBody (topS 53)) (defScope (topS 53)) .none kV53 dc53 pm53 an53 cd53 ct53), sl53⟩) (c53 : PySem.W.codeIn K cd53 "read_numbers" = true) (k53 : PySem.W.keepIn K (.ref f53) = true)
    {f60 : Addr} {od60 an60 : Option Addr} {sl60 : Array (Option Value)} {oc60 kV60 dc60 pm60 cd60 ct60 : Value}
    (a60 : PySem.W.nsIn K mainGlobals "check_lengths" = some (some (.ref f60))) (l60 : K.lookup f60 = some ⟨oc60, od60, .func (PySem.W.fnOf "check_lengths" "check_lengths" (defArgs (topS 60)) (defBody (topS 60)) (defScope (topS 60)) .none kV60 dc60 pm60 an60 cd60 ct60), sl60⟩) (c60 : PySem.W.codeIn K cd60 "check_lengths" = true) (k60 : PySem.W.keepIn K (.ref f60) = true)
    {f61 : Addr} {od61 an61 : Option Addr} {sl61 : Array (Option Value)} {oc61 kV61 dc61 pm61 cd61 ct61 : Value}
    (a61 : PySem.W.nsIn K mainGlobals "check_size" = some (some (.ref f61))) (l61 : K.lookup f61 = some ⟨oc61, od61, .func (PySem.W.fnOf "check_size" "check_size" (defArgs (topS 61)) (defBody (topS 61)) (defScope (topS 61)) .none kV61 dc61 pm61 an61 cd61 ct61), sl61⟩) (c61 : PySem.W.codeIn K cd61 "check_size" = true) (k61 : PySem.W.keepIn K (.ref f61) = true)
    {f62 : Addr} {od62 an62 : Option Addr} {sl62 : Array (Option Value)} {oc62 kV62 dc62 pm62 cd62 ct62 : Value}
    (a62 : PySem.W.nsIn K mainGlobals "check_fit" = some (some (.ref f62))) (l62 : K.lookup f62 = some ⟨oc62, od62, .func (PySem.W.fnOf "check_fit" "check_fit" (defArgs (topS 62)) (defBody (topS 62)) (defScope (topS 62)) .none kV62 dc62 pm62 an62 cd62 ct62), sl62⟩) (c62 : PySem.W.codeIn K cd62 "check_fit" = true) (k62 : PySem.W.keepIn K (.ref f62) = true)
    {f70 : Addr} {od70 an70 : Option Addr} {sl70 : Array (Option Value)} {oc70 kV70 dc70 pm70 cd70 ct70 : Value}
    (a70 : PySem.W.nsIn K mainGlobals "rows_of" = some (some (.ref f70))) (l70 : K.lookup f70 = some ⟨oc70, od70, .func (PySem.W.fnOf "rows_of" "rows_of" (defArgs (topS 70)) (defBody (topS 70)) (defScope (topS 70)) .none kV70 dc70 pm70 an70 cd70 ct70), sl70⟩) (c70 : PySem.W.codeIn K cd70 "rows_of" = true) (k70 : PySem.W.keepIn K (.ref f70) = true)
    {f71 : Addr} {od71 an71 : Option Addr} {sl71 : Array (Option Value)} {oc71 kV71 dc71 pm71 cd71 ct71 : Value}
    (a71 : PySem.W.nsIn K mainGlobals "places_by_word" = some (some (.ref f71))) (l71 : K.lookup f71 = some ⟨oc71, od71, .func (PySem.W.fnOf "places_by_word" "places_by_word" (defArgs (topS 71)) (defBody (topS 71)) (defScope (topS 71)) .none kV71 dc71 pm71 an71 cd71 ct71), sl71⟩) (c71 : PySem.W.codeIn K cd71 "places_by_word" = true) (k71 : PySem.W.keepIn K (.ref f71) = true)
    {f73 : Addr} {od73 an73 : Option Addr} {sl73 : Array (Option Value)} {oc73 kV73 dc73 pm73 cd73 ct73 : Value}
    (a73 : PySem.W.nsIn K mainGlobals "_law_pool" = some (some (.ref f73))) (l73 : K.lookup f73 = some ⟨oc73, od73, .func (PySem.W.fnOf "_law_pool" "_law_pool" (defArgs (topS 73)) (defBody (topS 73)) (defScope (topS 73)) .none kV73 dc73 pm73 an73 cd73 ct73), sl73⟩) (c73 : PySem.W.codeIn K cd73 "_law_pool" = true) (k73 : PySem.W.keepIn K (.ref f73) = true)
    {f74 : Addr} {od74 an74 : Option Addr} {sl74 : Array (Option Value)} {oc74 kV74 dc74 pm74 cd74 ct74 : Value}
    (a74 : PySem.W.nsIn K mainGlobals "_law_take" = some (some (.ref f74))) (l74 : K.lookup f74 = some ⟨oc74, od74, .func (PySem.W.fnOf "_law_take" "_law_take" (defArgs (topS 74)) (defBody (topS 74)) (defScope (topS 74)) .none kV74 dc74 pm74 an74 cd74 ct74), sl74⟩) (c74 : PySem.W.codeIn K cd74 "_law_take" = true) (k74 : PySem.W.keepIn K (.ref f74) = true)
    {f75 : Addr} {od75 an75 : Option Addr} {sl75 : Array (Option Value)} {oc75 kV75 dc75 pm75 cd75 ct75 : Value}
    (a75 : PySem.W.nsIn K mainGlobals "_law_kinds" = some (some (.ref f75))) (l75 : K.lookup f75 = some ⟨oc75, od75, .func (PySem.W.fnOf "_law_kinds" "_law_kinds" (defArgs (topS 75)) (defBody (topS 75)) (defScope (topS 75)) .none kV75 dc75 pm75 an75 cd75 ct75), sl75⟩) (c75 : PySem.W.codeIn K cd75 "_law_kinds" = true) (k75 : PySem.W.keepIn K (.ref f75) = true)
    {f76 : Addr} {od76 an76 : Option Addr} {sl76 : Array (Option Value)} {oc76 kV76 dc76 pm76 cd76 ct76 : Value}
    (a76 : PySem.W.nsIn K mainGlobals "_law_words" = some (some (.ref f76))) (l76 : K.lookup f76 = some ⟨oc76, od76, .func (PySem.W.fnOf "_law_words" "_law_words" (defArgs (topS 76)) (defBody (topS 76)) (defScope (topS 76)) .none kV76 dc76 pm76 an76 cd76 ct76), sl76⟩) (c76 : PySem.W.codeIn K cd76 "_law_words" = true) (k76 : PySem.W.keepIn K (.ref f76) = true)
    {f77 : Addr} {od77 an77 : Option Addr} {sl77 : Array (Option Value)} {oc77 kV77 dc77 pm77 cd77 ct77 : Value}
    (a77 : PySem.W.nsIn K mainGlobals "_law_spots" = some (some (.ref f77))) (l77 : K.lookup f77 = some ⟨oc77, od77, .func (PySem.W.fnOf "_law_spots" "_law_spots" (defArgs (topS 77)) (defBody (topS 77)) (defScope (topS 77)) .none kV77 dc77 pm77 an77 cd77 ct77), sl77⟩) (c77 : PySem.W.codeIn K cd77 "_law_spots" = true) (k77 : PySem.W.keepIn K (.ref f77) = true)
    {f78 : Addr} {od78 an78 : Option Addr} {sl78 : Array (Option Value)} {oc78 kV78 dc78 pm78 cd78 ct78 : Value}
    (a78 : PySem.W.nsIn K mainGlobals "_law_numbers" = some (some (.ref f78))) (l78 : K.lookup f78 = some ⟨oc78, od78, .func (PySem.W.fnOf "_law_numbers" "_law_numbers" (defArgs (topS 78)) (defBody (topS 78)) (defScope (topS 78)) .none kV78 dc78 pm78 an78 cd78 ct78), sl78⟩) (c78 : PySem.W.codeIn K cd78 "_law_numbers" = true) (k78 : PySem.W.keepIn K (.ref f78) = true)
    {f79 : Addr} {od79 an79 : Option Addr} {sl79 : Array (Option Value)} {oc79 kV79 dc79 pm79 cd79 ct79 : Value}
    (a79 : PySem.W.nsIn K mainGlobals "_law_whole" = some (some (.ref f79))) (l79 : K.lookup f79 = some ⟨oc79, od79, .func (PySem.W.fnOf "_law_whole" "_law_whole" (defArgs (topS 79)) (defBody (topS 79)) (defScope (topS 79)) .none kV79 dc79 pm79 an79 cd79 ct79), sl79⟩) (c79 : PySem.W.codeIn K cd79 "_law_whole" = true) (k79 : PySem.W.keepIn K (.ref f79) = true)
    {f80 : Addr} {od80 an80 : Option Addr} {sl80 : Array (Option Value)} {oc80 kV80 dc80 pm80 cd80 ct80 : Value}
    (a80 : PySem.W.nsIn K mainGlobals "_law_kind" = some (some (.ref f80))) (l80 : K.lookup f80 = some ⟨oc80, od80, .func (PySem.W.fnOf "_law_kind" "_law_kind" (defArgs (topS 80)) (defBody (topS 80)) (defScope (topS 80)) .none kV80 dc80 pm80 an80 cd80 ct80), sl80⟩) (c80 : PySem.W.codeIn K cd80 "_law_kind" = true) (k80 : PySem.W.keepIn K (.ref f80) = true)
    {f81 : Addr} {od81 an81 : Option Addr} {sl81 : Array (Option Value)} {oc81 kV81 dc81 pm81 cd81 ct81 : Value}
    (a81 : PySem.W.nsIn K mainGlobals "_law_how" = some (some (.ref f81))) (l81 : K.lookup f81 = some ⟨oc81, od81, .func (PySem.W.fnOf "_law_how" "_law_how" (defArgs (topS 81)) (defBody (topS 81)) (defScope (topS 81)) .none kV81 dc81 pm81 an81 cd81 ct81), sl81⟩) (c81 : PySem.W.codeIn K cd81 "_law_how" = true) (k81 : PySem.W.keepIn K (.ref f81) = true)
    {f82 : Addr} {od82 an82 : Option Addr} {sl82 : Array (Option Value)} {oc82 kV82 dc82 pm82 cd82 ct82 : Value}
    (a82 : PySem.W.nsIn K mainGlobals "_law_due_row" = some (some (.ref f82))) (l82 : K.lookup f82 = some ⟨oc82, od82, .func (PySem.W.fnOf "_law_due_row" "_law_due_row" (defArgs (topS 82)) (defBody (topS 82)) (defScope (topS 82)) .none kV82 dc82 pm82 an82 cd82 ct82), sl82⟩) (c82 : PySem.W.codeIn K cd82 "_law_due_row" = true) (k82 : PySem.W.keepIn K (.ref f82) = true)
    {f83 : Addr} {od83 an83 : Option Addr} {sl83 : Array (Option Value)} {oc83 kV83 dc83 pm83 ct83 : Value} {cc83 : Addr}
    (a83 : PySem.W.nsIn K mainGlobals "_law_right" = some (some (.ref f83))) (l83 : K.lookup f83 = some ⟨oc83, od83, .func (PySem.W.fnOf "_law_right" "_law_right" (defArgs (topS 83)) (defBody (topS 83)) (defScope (topS 83)) .none kV83 dc83 pm83 an83 (.ref cc83) ct83), sl83⟩) (c83 : PySem.W.codeIn K (.ref cc83) "_law_right" = true) (k83 : PySem.W.keepIn K (.ref f83) = true)
    {f84 : Addr} {od84 an84 : Option Addr} {sl84 : Array (Option Value)} {oc84 kV84 dc84 pm84 cd84 ct84 : Value}
    (a84 : PySem.W.nsIn K mainGlobals "law" = some (some (.ref f84))) (l84 : K.lookup f84 = some ⟨oc84, od84, .func (PySem.W.fnOf "law" "law" (defArgs (topS 84)) (defBody (topS 84)) (defScope (topS 84)) .none kV84 dc84 pm84 an84 cd84 ct84), sl84⟩) (c84 : PySem.W.codeIn K cd84 "law" = true) (k84 : PySem.W.keepIn K (.ref f84) = true)
    (z_ValueError : PySem.W.nsIn K mainGlobals "ValueError" = some none)
    (z_abs : PySem.W.nsIn K mainGlobals "abs" = some none)
    (z_all : PySem.W.nsIn K mainGlobals "all" = some none)
    (z_bool : PySem.W.nsIn K mainGlobals "bool" = some none)
    (z_divmod : PySem.W.nsIn K mainGlobals "divmod" = some none)
    (z_enumerate : PySem.W.nsIn K mainGlobals "enumerate" = some none)
    (z_int : PySem.W.nsIn K mainGlobals "int" = some none)
    (z_isinstance : PySem.W.nsIn K mainGlobals "isinstance" = some none)
    (z_len : PySem.W.nsIn K mainGlobals "len" = some none)
    (z_list : PySem.W.nsIn K mainGlobals "list" = some none)
    (z_max : PySem.W.nsIn K mainGlobals "max" = some none)
    (z_min : PySem.W.nsIn K mainGlobals "min" = some none)
    (z_range : PySem.W.nsIn K mainGlobals "range" = some none)
    (z_set : PySem.W.nsIn K mainGlobals "set" = some none)
    (z_sorted : PySem.W.nsIn K mainGlobals "sorted" = some none)
    (z_str : PySem.W.nsIn K mainGlobals "str" = some none)
    (z_sum : PySem.W.nsIn K mainGlobals "sum" = some none)
    (z_tuple : PySem.W.nsIn K mainGlobals "tuple" = some none)
    {tk25 : Tok} (e25 : PySem.W.nsIn K mainGlobals "MOST_LETTERS" = some (some (.int 12 tk25)))
    {tk26 : Tok} (e26 : PySem.W.nsIn K mainGlobals "MOST_WORDS" = some (some (.int 120 tk26)))
    {tk33 : Tok} (e33 : PySem.W.nsIn K mainGlobals "MOST_NUMBER" = some (some (.int 9999 tk33)))
    {tk38 : Tok} (e38 : PySem.W.nsIn K mainGlobals "DIGITS_AHEAD" = some (some (.str "ABCDEFGHIJKLMNOP" tk38)))
    {tk39 : Tok} (e39 : PySem.W.nsIn K mainGlobals "LAST_DIGITS" = some (some (.str "abcdefghijklmnop" tk39)))
    {tk55 : Tok} (e55 : PySem.W.nsIn K mainGlobals "SIZE" = some (some (.int 4 tk55)))
    {tk56 : Tok} (e56 : PySem.W.nsIn K mainGlobals "MOST_SIZE" = some (some (.int 8 tk56)))
    {tk57 : Tok} (e57 : PySem.W.nsIn K mainGlobals "MOST_LENGTHS" = some (some (.int 60 tk57)))
    {f2 : Addr} (a2 : PySem.W.nsIn K mainGlobals "Wrong" = some (some (.ref f2)))
    {f3 : Addr} (a3 : PySem.W.nsIn K mainGlobals "NoWord" = some (some (.ref f3)))
    {f4 : Addr} (a4 : PySem.W.nsIn K mainGlobals "NoText" = some (some (.ref f4)))
    {f5 : Addr} (a5 : PySem.W.nsIn K mainGlobals "NoNumber" = some (some (.ref f5)))
    {f6 : Addr} (a6 : PySem.W.nsIn K mainGlobals "NoSize" = some (some (.ref f6)))
    {f7 : Addr} (a7 : PySem.W.nsIn K mainGlobals "NoLengths" = some (some (.ref f7)))
    {f8 : Addr} (a8 : PySem.W.nsIn K mainGlobals "NoQuery" = some (some (.ref f8)))
    {f9 : Addr} (a9 : PySem.W.nsIn K mainGlobals "NoName" = some (some (.ref f9)))
    {f10 : Addr} (a10 : PySem.W.nsIn K mainGlobals "NoCode" = some (some (.ref f10)))
    {f11 : Addr} (a11 : PySem.W.nsIn K mainGlobals "NoRow" = some (some (.ref f11)))
    {f12 : Addr} (a12 : PySem.W.nsIn K mainGlobals "NoEntries" = some (some (.ref f12)))
    {f13 : Addr} (a13 : PySem.W.nsIn K mainGlobals "NoQueryText" = some (some (.ref f13)))
    {f14 : Addr} (a14 : PySem.W.nsIn K mainGlobals "NoPages" = some (some (.ref f14)))
    {f15 : Addr} (a15 : PySem.W.nsIn K mainGlobals "NoQueries" = some (some (.ref f15)))
    {f16 : Addr} (a16 : PySem.W.nsIn K mainGlobals "NoShelf" = some (some (.ref f16)))
    {f17 : Addr} (a17 : PySem.W.nsIn K mainGlobals "NoDeed" = some (some (.ref f17)))
    {f18 : Addr} (a18 : PySem.W.nsIn K mainGlobals "Taken" = some (some (.ref f18)))
    {f19 : Addr} (a19 : PySem.W.nsIn K mainGlobals "NoPlace" = some (some (.ref f19)))
    {f20 : Addr} (a20 : PySem.W.nsIn K mainGlobals "NoSlot" = some (some (.ref f20)))
    {f34 : Addr} (a34 : PySem.W.nsIn K mainGlobals "Page" = some (some (.ref f34)))
    {f58 : Addr} (a58 : PySem.W.nsIn K mainGlobals "Block" = some (some (.ref f58)))
    {f59 : Addr} (a59 : PySem.W.nsIn K mainGlobals "Row" = some (some (.ref f59)))
    {f64 : Addr} (a64 : PySem.W.nsIn K mainGlobals "Walker" = some (some (.ref f64)))
    {f68 : Addr} (a68 : PySem.W.nsIn K mainGlobals "Segment" = some (some (.ref f68)))
    (xx3 : PySem.W.excIn K f3 [.type "ValueError", .type "Exception", .type "BaseException", .type "object"] "ValueError.__new__" = true) (xk3 : PySem.W.keepIn K (.ref f3) = true) (xb3 : PySem.W.subIn K (.ref f3) (.type "BaseException") = some true) (xt3 : PySem.W.typeIn K (.ref f3) = some (.type "type"))
    (xh3 : plainB K ⟨[f10, f12, f14, f13, f11], f2, [f19, f20], [f10, f17, f12, f7, f9, f5, f14, f15, f8, f13, f11, f16, f6, f4, f3, f18]⟩ f3 14 = true)
    (pg34 : PySem.W.plainGet K f34 Str.empty = true) (hd34 : PySem.W.hasDictIn K f34 = true) (po34 : PySem.W.plainOver K f34 = true) (sa34 : PySem.W.findIn K (.ref f34) "__setattr__" = some (some (.builtin "object.__setattr__"))) (mk34 : PySem.W.makesIn K f34 = true) (kc34 : PySem.W.keepIn K (.ref f34) = true)
    (na34_number : PySem.W.findIn K (.ref f34) "number" = some none)
    (na34_in_turn : PySem.W.findIn K (.ref f34) "in_turn" = some none)
    (pg58 : PySem.W.plainGet K f58 Str.empty = true) (hd58 : PySem.W.hasDictIn K f58 = true) (po58 : PySem.W.plainOver K f58 = true) (sa58 : PySem.W.findIn K (.ref f58) "__setattr__" = some (some (.builtin "object.__setattr__"))) (mk58 : PySem.W.makesIn K f58 = true) (kc58 : PySem.W.keepIn K (.ref f58) = true)
    (na58_first : PySem.W.findIn K (.ref f58) "first" = some none)
    (na58_last : PySem.W.findIn K (.ref f58) "last" = some none)
    (na58_many : PySem.W.findIn K (.ref f58) "many" = some none)
    (na58_most : PySem.W.findIn K (.ref f58) "most" = some none)
    (na58_least : PySem.W.findIn K (.ref f58) "least" = some none)
    (na58_coded : PySem.W.findIn K (.ref f58) "coded" = some none)
    (pg59 : PySem.W.plainGet K f59 Str.empty = true) (hd59 : PySem.W.hasDictIn K f59 = true) (po59 : PySem.W.plainOver K f59 = true) (sa59 : PySem.W.findIn K (.ref f59) "__setattr__" = some (some (.builtin "object.__setattr__"))) (mk59 : PySem.W.makesIn K f59 = true) (kc59 : PySem.W.keepIn K (.ref f59) = true)
    (na59_word : PySem.W.findIn K (.ref f59) "word" = some none)
    (na59_size : PySem.W.findIn K (.ref f59) "size" = some none)
    (na59_cut : PySem.W.findIn K (.ref f59) "cut" = some none)
    (pg68 : PySem.W.plainGet K f68 Str.empty = true) (hd68 : PySem.W.hasDictIn K f68 = true) (po68 : PySem.W.plainOver K f68 = true) (sa68 : PySem.W.findIn K (.ref f68) "__setattr__" = some (some (.builtin "object.__setattr__"))) (mk68 : PySem.W.makesIn K f68 = true) (kc68 : PySem.W.keepIn K (.ref f68) = true)
    (na68_size : PySem.W.findIn K (.ref f68) "size" = some none)
    (na68_slot_numbers : PySem.W.findIn K (.ref f68) "slot_numbers" = some none)
    (na68_slot_lengths : PySem.W.findIn K (.ref f68) "slot_lengths" = some none)
    (na68_rows : PySem.W.findIn K (.ref f68) "rows" = some none)
    {f85 : Addr} {od85 an85 : Option Addr} {sl85 : Array (Option Value)} {oc85 kV85 dc85 pm85 cd85 ct85 : Value}
    (a85 : PySem.W.findIn K (.ref f34) "__init__" = some (some (.ref f85))) (i85 : PySem.W.isFn K (.ref f85) = true)
    {DT85 nd85 : Nat} {ocd85 : Value} {odd85 : Option Addr} {sld85 : Array (Option Value)} {td85_0 : Tok}
    (l85 : K.lookup f85 = some ⟨oc85, od85, .func (PySem.W.fnOf "__init__" "Page.__init__" (defArgs (inClass (topS 34) 0)) (defBody (inClass (topS 34) 0)) (defScope (inClass (topS 34) 0)) (.ref DT85) kV85 dc85 pm85 an85 cd85 ct85), sl85⟩) (c85 : PySem.W.codeIn K cd85 "Page.__init__" = true) (k85 : PySem.W.keepIn K (.ref f85) = true)
    (dt85 : K.lookup DT85 = some ⟨ocd85, odd85, .seq #[.str "" td85_0] nd85, sld85⟩)
    {f86 : Addr} {od86 an86 : Option Addr} {sl86 : Array (Option Value)} {oc86 kV86 dc86 pm86 cd86 ct86 : Value}
    (a86 : PySem.W.findIn K (.ref f34) "__len__" = some (some (.ref f86))) (i86 : PySem.W.isFn K (.ref f86) = true)
    (l86 : K.lookup f86 = some ⟨oc86, od86, .func (PySem.W.fnOf "__len__" "Page.__len__" (defArgs (inClass (topS 34) 2)) (defBody (inClass (topS 34) 2)) (defScope (inClass (topS 34) 2)) .none kV86 dc86 pm86 an86 cd86 ct86), sl86⟩) (c86 : PySem.W.codeIn K cd86 "Page.__len__" = true) (k86 : PySem.W.keepIn K (.ref f86) = true)
    {f87 : Addr} {od87 an87 : Option Addr} {sl87 : Array (Option Value)} {oc87 kV87 dc87 pm87 cd87 ct87 : Value}
    (a87 : PySem.W.findIn K (.ref f34) "words" = some (some (.ref f87))) (i87 : PySem.W.isFn K (.ref f87) = true)
    (l87 : K.lookup f87 = some ⟨oc87, od87, .func (PySem.W.fnOf "words" "Page.words" (defArgs (inClass (topS 34) 5)) (defBody (inClass (topS 34) 5)) (defScope (inClass (topS 34) 5)) .none kV87 dc87 pm87 an87 cd87 ct87), sl87⟩) (c87 : PySem.W.codeIn K cd87 "Page.words" = true) (k87 : PySem.W.keepIn K (.ref f87) = true)
    {f88 : Addr} {od88 an88 : Option Addr} {sl88 : Array (Option Value)} {oc88 kV88 dc88 pm88 cd88 ct88 : Value}
    (a88 : PySem.W.findIn K (.ref f58) "__init__" = some (some (.ref f88))) (i88 : PySem.W.isFn K (.ref f88) = true)
    (l88 : K.lookup f88 = some ⟨oc88, od88, .func (PySem.W.fnOf "__init__" "Block.__init__" (defArgs (inClass (topS 58) 0)) (defBody (inClass (topS 58) 0)) (defScope (inClass (topS 58) 0)) .none kV88 dc88 pm88 an88 cd88 ct88), sl88⟩) (c88 : PySem.W.codeIn K cd88 "Block.__init__" = true) (k88 : PySem.W.keepIn K (.ref f88) = true)
    {f89 : Addr} {od89 an89 : Option Addr} {sl89 : Array (Option Value)} {oc89 kV89 dc89 pm89 cd89 ct89 : Value}
    (a89 : PySem.W.findIn K (.ref f58) "__eq__" = some (some (.ref f89))) (i89 : PySem.W.isFn K (.ref f89) = true)
    (l89 : K.lookup f89 = some ⟨oc89, od89, .func (PySem.W.fnOf "__eq__" "Block.__eq__" (defArgs (inClass (topS 58) 1)) (defBody (inClass (topS 58) 1)) (defScope (inClass (topS 58) 1)) .none kV89 dc89 pm89 an89 cd89 ct89), sl89⟩) (c89 : PySem.W.codeIn K cd89 "Block.__eq__" = true) (k89 : PySem.W.keepIn K (.ref f89) = true)
    {f90 : Addr} {od90 an90 : Option Addr} {sl90 : Array (Option Value)} {oc90 kV90 dc90 pm90 cd90 ct90 : Value}
    (a90 : PySem.W.findIn K (.ref f58) "head" = some (some (.ref f90))) (i90 : PySem.W.isFn K (.ref f90) = true)
    (l90 : K.lookup f90 = some ⟨oc90, od90, .func (PySem.W.fnOf "head" "Block.head" (defArgs (inClass (topS 58) 3)) (defBody (inClass (topS 58) 3)) (defScope (inClass (topS 58) 3)) .none kV90 dc90 pm90 an90 cd90 ct90), sl90⟩) (c90 : PySem.W.codeIn K cd90 "Block.head" = true) (k90 : PySem.W.keepIn K (.ref f90) = true)
    {f91 : Addr} {od91 an91 : Option Addr} {sl91 : Array (Option Value)} {oc91 dc91 pm91 cd91 ct91 : Value} {DK91 : Addr}
    (a91 : PySem.W.findIn K (.ref f59) "__init__" = some (some (.ref f91))) (i91 : PySem.W.isFn K (.ref f91) = true)
    (l91 : K.lookup f91 = some ⟨oc91, od91, .func (PySem.W.fnOf "__init__" "Row.__init__" (defArgs (inClass (topS 59) 0)) (defBody (inClass (topS 59) 0)) (defScope (inClass (topS 59) 0)) .none (.ref DK91) dc91 pm91 an91 cd91 ct91), sl91⟩) (c91 : PySem.W.codeIn K cd91 "Row.__init__" = true) (k91 : PySem.W.keepIn K (.ref f91) = true)
    {tmk91_0 : Tok} (dk91_0 : PySem.W.nsIn K DK91 "size" = some (some (.int 4 tmk91_0)))
    {f92 : Addr} {od92 an92 : Option Addr} {sl92 : Array (Option Value)} {oc92 kV92 dc92 pm92 cd92 ct92 : Value}
    (a92 : PySem.W.findIn K (.ref f59) "__eq__" = some (some (.ref f92))) (i92 : PySem.W.isFn K (.ref f92) = true)
    (l92 : K.lookup f92 = some ⟨oc92, od92, .func (PySem.W.fnOf "__eq__" "Row.__eq__" (defArgs (inClass (topS 59) 1)) (defBody (inClass (topS 59) 1)) (defScope (inClass (topS 59) 1)) .none kV92 dc92 pm92 an92 cd92 ct92), sl92⟩) (c92 : PySem.W.codeIn K cd92 "Row.__eq__" = true) (k92 : PySem.W.keepIn K (.ref f92) = true)
    {f93 : Addr} {od93 an93 : Option Addr} {sl93 : Array (Option Value)} {oc93 kV93 dc93 pm93 cd93 ct93 : Value}
    (a93 : PySem.W.findIn K (.ref f59) "__len__" = some (some (.ref f93))) (i93 : PySem.W.isFn K (.ref f93) = true)
    (l93 : K.lookup f93 = some ⟨oc93, od93, .func (PySem.W.fnOf "__len__" "Row.__len__" (defArgs (inClass (topS 59) 2)) (defBody (inClass (topS 59) 2)) (defScope (inClass (topS 59) 2)) .none kV93 dc93 pm93 an93 cd93 ct93), sl93⟩) (c93 : PySem.W.codeIn K cd93 "Row.__len__" = true) (k93 : PySem.W.keepIn K (.ref f93) = true)
    {f94 : Addr} {od94 an94 : Option Addr} {sl94 : Array (Option Value)} {oc94 kV94 dc94 pm94 cd94 ct94 : Value}
    (a94 : PySem.W.findIn K (.ref f59) "entries" = some (some (.ref f94))) (i94 : PySem.W.isFn K (.ref f94) = true)
    (l94 : K.lookup f94 = some ⟨oc94, od94, .func (PySem.W.fnOf "entries" "Row.entries" (defArgs (inClass (topS 59) 4)) (defBody (inClass (topS 59) 4)) (defScope (inClass (topS 59) 4)) .none kV94 dc94 pm94 an94 cd94 ct94), sl94⟩) (c94 : PySem.W.codeIn K cd94 "Row.entries" = true) (k94 : PySem.W.keepIn K (.ref f94) = true)
    {f95 : Addr} {od95 an95 : Option Addr} {sl95 : Array (Option Value)} {oc95 dc95 pm95 ct95 : Value} {DK95 : Addr} {cc95 : Addr}
    (a95 : PySem.W.findIn K (.ref f68) "__init__" = some (some (.ref f95))) (i95 : PySem.W.isFn K (.ref f95) = true)
    (l95 : K.lookup f95 = some ⟨oc95, od95, .func (PySem.W.fnOf "__init__" "Segment.__init__" (defArgs (inClass (topS 68) 0)) (defBody (inClass (topS 68) 0)) (defScope (inClass (topS 68) 0)) .none (.ref DK95) dc95 pm95 an95 (.ref cc95) ct95), sl95⟩) (c95 : PySem.W.codeIn K (.ref cc95) "Segment.__init__" = true) (k95 : PySem.W.keepIn K (.ref f95) = true)
    {tmk95_0 : Tok} (dk95_0 : PySem.W.nsIn K DK95 "size" = some (some (.int 4 tmk95_0)))
    {f96 : Addr} {od96 an96 : Option Addr} {sl96 : Array (Option Value)} {oc96 kV96 dc96 pm96 cd96 ct96 : Value}
    (a96 : PySem.W.findIn K (.ref f68) "__len__" = some (some (.ref f96))) (i96 : PySem.W.isFn K (.ref f96) = true)
    (l96 : K.lookup f96 = some ⟨oc96, od96, .func (PySem.W.fnOf "__len__" "Segment.__len__" (defArgs (inClass (topS 68) 2)) (defBody (inClass (topS 68) 2)) (defScope (inClass (topS 68) 2)) .none kV96 dc96 pm96 an96 cd96 ct96), sl96⟩) (c96 : PySem.W.codeIn K cd96 "Segment.__len__" = true) (k96 : PySem.W.keepIn K (.ref f96) = true)
    {f97 : Addr} {od97 an97 : Option Addr} {sl97 : Array (Option Value)} {oc97 kV97 dc97 pm97 cd97 ct97 : Value}
    (a97 : PySem.W.findIn K (.ref f68) "numbers" = some (some (.ref f97))) (i97 : PySem.W.isFn K (.ref f97) = true)
    (l97 : K.lookup f97 = some ⟨oc97, od97, .func (PySem.W.fnOf "numbers" "Segment.numbers" (defArgs (inClass (topS 68) 3)) (defBody (inClass (topS 68) 3)) (defScope (inClass (topS 68) 3)) .none kV97 dc97 pm97 an97 cd97 ct97), sl97⟩) (c97 : PySem.W.codeIn K cd97 "Segment.numbers" = true) (k97 : PySem.W.keepIn K (.ref f97) = true)
    {f98 : Addr} {od98 an98 : Option Addr} {sl98 : Array (Option Value)} {oc98 kV98 dc98 pm98 cd98 ct98 : Value}
    (a98 : PySem.W.findIn K (.ref f68) "lengths" = some (some (.ref f98))) (i98 : PySem.W.isFn K (.ref f98) = true)
    (l98 : K.lookup f98 = some ⟨oc98, od98, .func (PySem.W.fnOf "lengths" "Segment.lengths" (defArgs (inClass (topS 68) 4)) (defBody (inClass (topS 68) 4)) (defScope (inClass (topS 68) 4)) .none kV98 dc98 pm98 an98 cd98 ct98), sl98⟩) (c98 : PySem.W.codeIn K cd98 "Segment.lengths" = true) (k98 : PySem.W.keepIn K (.ref f98) = true)
    {f99 : Addr} {od99 an99 : Option Addr} {sl99 : Array (Option Value)} {oc99 kV99 dc99 pm99 cd99 ct99 : Value}
    (a99 : PySem.W.findIn K (.ref f68) "words" = some (some (.ref f99))) (i99 : PySem.W.isFn K (.ref f99) = true)
    (l99 : K.lookup f99 = some ⟨oc99, od99, .func (PySem.W.fnOf "words" "Segment.words" (defArgs (inClass (topS 68) 5)) (defBody (inClass (topS 68) 5)) (defScope (inClass (topS 68) 5)) .none kV99 dc99 pm99 an99 cd99 ct99), sl99⟩) (c99 : PySem.W.codeIn K cd99 "Segment.words" = true) (k99 : PySem.W.keepIn K (.ref f99) = true)
    {f100 : Addr} {od100 an100 : Option Addr} {sl100 : Array (Option Value)} {oc100 kV100 dc100 pm100 cd100 ct100 : Value}
    (a100 : PySem.W.findIn K (.ref f68) "row" = some (some (.ref f100))) (i100 : PySem.W.isFn K (.ref f100) = true)
    (l100 : K.lookup f100 = some ⟨oc100, od100, .func (PySem.W.fnOf "row" "Segment.row" (defArgs (inClass (topS 68) 6)) (defBody (inClass (topS 68) 6)) (defScope (inClass (topS 68) 6)) .none kV100 dc100 pm100 an100 cd100 ct100), sl100⟩) (c100 : PySem.W.codeIn K cd100 "Segment.row" = true) (k100 : PySem.W.keepIn K (.ref f100) = true)
    {f101 : Addr} {od101 an101 : Option Addr} {sl101 : Array (Option Value)} {oc101 kV101 dc101 pm101 cd101 ct101 : Value}
    (a101 : PySem.W.findIn K (.ref f68) "slot_of" = some (some (.ref f101))) (i101 : PySem.W.isFn K (.ref f101) = true)
    (l101 : K.lookup f101 = some ⟨oc101, od101, .func (PySem.W.fnOf "slot_of" "Segment.slot_of" (defArgs (inClass (topS 68) 7)) (defBody (inClass (topS 68) 7)) (defScope (inClass (topS 68) 7)) .none kV101 dc101 pm101 an101 cd101 ct101), sl101⟩) (c101 : PySem.W.codeIn K cd101 "Segment.slot_of" = true) (k101 : PySem.W.keepIn K (.ref f101) = true)
    (ff_cs : PySem.W.specialIn K (.builtin "object.__class__") "__get__" = some (some (.builtin "getset_descriptor.__get__")))
    (ff_ct : PySem.W.takesIn K (.builtin "object.__class__") = some true)
    (ff_ciB : PySem.W.findIn K (.ref f58) "__class__" = some (some (.builtin "object.__class__")))
    (ff_moB : PySem.W.mroIn K f58 (.type "object") = some true)
    (ff_neB : PySem.W.findIn K (.ref f58) "__ne__" = some (some (.builtin "object.__ne__")))
    (ff_kB : PySem.W.kitOne K (.ref f58) (.ref f58) = some true)
    (ff_ciR : PySem.W.findIn K (.ref f59) "__class__" = some (some (.builtin "object.__class__")))
    (ff_moR : PySem.W.mroIn K f59 (.type "object") = some true)
    (ff_neR : PySem.W.findIn K (.ref f59) "__ne__" = some (some (.builtin "object.__ne__")))
    (ff_kR : PySem.W.kitOne K (.ref f59) (.ref f59) = some true)
    (ff_kRB : PySem.W.kitOne K (.ref f59) (.ref f58) = some false)
    (ff_ktB : PySem.W.kitOne K (.type "tuple") (.ref f58) = some false)
    (ff_nfRB : PySem.W.notFirst K f58 (.ref f59) = true)
    (ff_kNoneType : PySem.W.kitOne K (.type "NoneType") (.ref f59) = some false)
    (ff_kint : PySem.W.kitOne K (.type "int") (.ref f59) = some false)
    (ff_kstr : PySem.W.kitOne K (.type "str") (.ref f59) = some false)
    (ff_ktuple : PySem.W.kitOne K (.type "tuple") (.ref f59) = some false)
    (ff_klist : PySem.W.kitOne K (.type "list") (.ref f59) = some false)
    (ff_kbool : PySem.W.kitOne K (.type "bool") (.ref f59) = some false)
    (ff_ciP : PySem.W.findIn K (.ref f34) "__class__" = some (some (.builtin "object.__class__")))
    (ff_moP : PySem.W.mroIn K f34 (.type "object") = some true)
    (ff_kp : PySem.W.kitOne K (.ref f34) (.ref f34) = some true)
    {P95 : Addr} (tb95 : h.get? P95 = some (PySem.W.tabObj #[])) (tn95 : K.lookup P95 = none) (th95 : PySem.W.codeHdIn K cc95 P95 = true)
    {P83 : Addr} (tb83 : h.get? P83 = some (PySem.W.tabObj #[])) (tn83 : K.lookup P83 = none) (th83 : PySem.W.codeHdIn K cc83 P83 = true)
    (pne : P95 ≠ P83)
    : LamX.LawAtS l w K CX0 16 63 "_law_script" mg fa h := by
  have e := hfa.symm.trans (PySem.W.mg_of X G a84)
  cases e
  let A : Nat → Addr := fun i => ([0, 0, f2, f3, f4, f5, f6, f7, f8, f9, f10, f11, f12, f13, f14, f15, f16, f17, f18, f19, f20, 0, f22, f23, 0, 0, 0, f27, f28, f29, f30, f31, 0, 0, f34, f35, f36, 0, 0, 0, f40, f41, f42, f43, f44, f45, f46, f47, f48, f49, f50, f51, f52, f53, 0, 0, 0, 0, f58, f59, f60, f61, f62, 0, f64, 0, 0, 0, f68, 0, f70, f71, 0, f73, f74, f75, f76, f77, f78, f79, f80, f81, f82, f83, fa, f85, f86, f87, f88, f89, f90, f91, f92, f93, f94, f95, f96, f97, f98, f99, f100, f101] : List Addr).getD i 0
  let FD : Nat → FuncData := fun i => ([PySem.W.fnOf "law" "law" (defArgs (topS 84)) (defBody (topS 84)) (defScope (topS 84)) .none kV84 dc84 pm84 an84 cd84 ct84, PySem.W.fnOf "law" "law" (defArgs (topS 84)) (defBody (topS 84)) (defScope (topS 84)) .none kV84 dc84 pm84 an84 cd84 ct84, PySem.W.fnOf "law" "law" (defArgs (topS 84)) (defBody (topS 84)) (defScope (topS 84)) .none kV84 dc84 pm84 an84 cd84 ct84, PySem.W.fnOf "law" "law" (defArgs (topS 84)) (defBody (topS 84)) (defScope (topS 84)) .none kV84 dc84 pm84 an84 cd84 ct84, PySem.W.fnOf "law" "law" (defArgs (topS 84)) (defBody (topS 84)) (defScope (topS 84)) .none kV84 dc84 pm84 an84 cd84 ct84, PySem.W.fnOf "law" "law" (defArgs (topS 84)) (defBody (topS 84)) (defScope (topS 84)) .none kV84 dc84 pm84 an84 cd84 ct84, PySem.W.fnOf "law" "law" (defArgs (topS 84)) (defBody (topS 84)) (defScope (topS 84)) .none kV84 dc84 pm84 an84 cd84 ct84, PySem.W.fnOf "law" "law" (defArgs (topS 84)) (defBody (topS 84)) (defScope (topS 84)) .none kV84 dc84 pm84 an84 cd84 ct84, PySem.W.fnOf "law" "law" (defArgs (topS 84)) (defBody (topS 84)) (defScope (topS 84)) .none kV84 dc84 pm84 an84 cd84 ct84, PySem.W.fnOf "law" "law" (defArgs (topS 84)) (defBody (topS 84)) (defScope (topS 84)) .none kV84 dc84 pm84 an84 cd84 ct84, PySem.W.fnOf "law" "law" (defArgs (topS 84)) (defBody (topS 84)) (defScope (topS 84)) .none kV84 dc84 pm84 an84 cd84 ct84, PySem.W.fnOf "law" "law" (defArgs (topS 84)) (defBody (topS 84)) (defScope (topS 84)) .none kV84 dc84 pm84 an84 cd84 ct84, PySem.W.fnOf "law" "law" (defArgs (topS 84)) (defBody (topS 84)) (defScope (topS 84)) .none kV84 dc84 pm84 an84 cd84 ct84, PySem.W.fnOf "law" "law" (defArgs (topS 84)) (defBody (topS 84)) (defScope (topS 84)) .none kV84 dc84 pm84 an84 cd84 ct84, PySem.W.fnOf "law" "law" (defArgs (topS 84)) (defBody (topS 84)) (defScope (topS 84)) .none kV84 dc84 pm84 an84 cd84 ct84, PySem.W.fnOf "law" "law" (defArgs (topS 84)) (defBody (topS 84)) (defScope (topS 84)) .none kV84 dc84 pm84 an84 cd84 ct84, PySem.W.fnOf "law" "law" (defArgs (topS 84)) (defBody (topS 84)) (defScope (topS 84)) .none kV84 dc84 pm84 an84 cd84 ct84, PySem.W.fnOf "law" "law" (defArgs (topS 84)) (defBody (topS 84)) (defScope (topS 84)) .none kV84 dc84 pm84 an84 cd84 ct84, PySem.W.fnOf "law" "law" (defArgs (topS 84)) (defBody (topS 84)) (defScope (topS 84)) .none kV84 dc84 pm84 an84 cd84 ct84, PySem.W.fnOf "law" "law" (defArgs (topS 84)) (defBody (topS 84)) (defScope (topS 84)) .none kV84 dc84 pm84 an84 cd84 ct84, PySem.W.fnOf "law" "law" (defArgs (topS 84)) (defBody (topS 84)) (defScope (topS 84)) .none kV84 dc84 pm84 an84 cd84 ct84, PySem.W.fnOf "law" "law" (defArgs (topS 84)) (defBody (topS 84)) (defScope (topS 84)) .none kV84 dc84 pm84 an84 cd84 ct84, PySem.W.fnOf "is_whole" "is_whole" (defArgs (topS 22)) (defBody (topS 22)) (defScope (topS 22)) .none kV22 dc22 pm22 an22 cd22 ct22, PySem.W.fnOf "is_within" "is_within" (defArgs (topS 23)) (defBody (topS 23)) (defScope (topS 23)) .none kV23 dc23 pm23 an23 cd23 ct23, PySem.W.fnOf "law" "law" (defArgs (topS 84)) (defBody (topS 84)) (defScope (topS 84)) .none kV84 dc84 pm84 an84 cd84 ct84, PySem.W.fnOf "law" "law" (defArgs (topS 84)) (defBody (topS 84)) (defScope (topS 84)) .none kV84 dc84 pm84 an84 cd84 ct84, PySem.W.fnOf "law" "law" (defArgs (topS 84)) (defBody (topS 84)) (defScope (topS 84)) .none kV84 dc84 pm84 an84 cd84 ct84, PySem.W.fnOf "is_word" "is_word" (defArgs (topS 27)) (defBody (topS 27)) (defScope (topS 27)) .none kV27 dc27 pm27 an27 cd27 ct27, PySem.W.fnOf "are_words" "are_words" (defArgs (topS 28)) (defBody (topS 28)) (defScope (topS 28)) .none kV28 dc28 pm28 an28 cd28 ct28, PySem.W.fnOf "check_word" "check_word" (defArgs (topS 29)) (defBody (topS 29)) (defScope (topS 29)) .none kV29 dc29 pm29 an29 cd29 ct29, PySem.W.fnOf "words_of" "words_of" (defArgs (topS 30)) (defBody (topS 30)) (defScope (topS 30)) .none kV30 dc30 pm30 an30 cd30 ct30, PySem.W.fnOf "check_words" "check_words" (defArgs (topS 31)) (defBody (topS 31)) (defScope (topS 31)) .none kV31 dc31 pm31 an31 cd31 ct31, PySem.W.fnOf "law" "law" (defArgs (topS 84)) (defBody (topS 84)) (defScope (topS 84)) .none kV84 dc84 pm84 an84 cd84 ct84, PySem.W.fnOf "law" "law" (defArgs (topS 84)) (defBody (topS 84)) (defScope (topS 84)) .none kV84 dc84 pm84 an84 cd84 ct84, PySem.W.fnOf "law" "law" (defArgs (topS 84)) (defBody (topS 84)) (defScope (topS 84)) .none kV84 dc84 pm84 an84 cd84 ct84, PySem.W.fnOf "check_page_number" "check_page_number" (defArgs (topS 35)) (defBody (topS 35)) (defScope (topS 35)) .none kV35 dc35 pm35 an35 cd35 ct35, PySem.W.fnOf "check_pages" "check_pages" (defArgs (topS 36)) (defBody (topS 36)) (defScope (topS 36)) .none kV36 dc36 pm36 an36 cd36 ct36, PySem.W.fnOf "law" "law" (defArgs (topS 84)) (defBody (topS 84)) (defScope (topS 84)) .none kV84 dc84 pm84 an84 cd84 ct84, PySem.W.fnOf "law" "law" (defArgs (topS 84)) (defBody (topS 84)) (defScope (topS 84)) .none kV84 dc84 pm84 an84 cd84 ct84, PySem.W.fnOf "law" "law" (defArgs (topS 84)) (defBody (topS 84)) (defScope (topS 84)) .none kV84 dc84 pm84 an84 cd84 ct84, PySem.W.fnOf "is_count" "is_count" (defArgs (topS 40)) (defBody (topS 40)) (defScope (topS 40)) .none kV40 dc40 pm40 an40 cd40 ct40, PySem.W.fnOf "code" "code" (defArgs (topS 41)) (defBody (topS 41)) (defScope (topS 41)) .none kV41 dc41 pm41 an41 cd41 ct41, PySem.W.fnOf "code_all" "code_all" (defArgs (topS 42)) (defBody (topS 42)) (defScope (topS 42)) .none kV42 dc42 pm42 an42 cd42 ct42, PySem.W.fnOf "code_entries" "code_entries" (defArgs (topS 43)) (defBody (topS 43)) (defScope (topS 43)) .none kV43 dc43 pm43 an43 cd43 ct43, PySem.W.fnOf "decode_entries" "decode_entries" (defArgs (topS 44)) (defBody (topS 44)) (defScope (topS 44)) .none kV44 dc44 pm44 an44 cd44 ct44, PySem.W.fnOf "check_entries" "check_entries" (defArgs (topS 45)) (defBody (topS 45)) (defScope (topS 45)) .none kV45 dc45 pm45 an45 cd45 ct45, PySem.W.fnOf "is_entry" "is_entry" (defArgs (topS 46)) (defBody (topS 46)) (defScope (topS 46)) .none kV46 dc46 pm46 an46 cd46 ct46, PySem.W.fnOf "are_places" "are_places" (defArgs (topS 47)) (defBody (topS 47)) (defScope (topS 47)) .none kV47 dc47 pm47 an47 cd47 ct47, PySem.W.fnOf "first_fall" "first_fall" (defArgs (topS 48)) (defBody (topS 48)) (defScope (topS 48)) .none kV48 dc48 pm48 an48 cd48 ct48, PySem.W.fnOf "gaps_of" "gaps_of" (defArgs (topS 49)) (defBody (topS 49)) (defScope (topS 49)) .none kV49 dc49 pm49 an49 cd49 ct49, PySem.W.fnOf "risen" "risen" (defArgs (topS 50)) (defBody (topS 50)) (defScope (topS 50)) .none kV50 dc50 pm50 an50 cd50 ct50, PySem.W.fnOf "check_text" "check_text" (defArgs (topS 51)) (defBody (topS 51)) (defScope (topS 51)) .none kV51 dc51 pm51 an51 cd51 ct51, PySem.W.fnOf "read_number" "read_number" (defArgs (topS 52)) (defBody (topS 52)) (defScope (topS 52)) .none kV52 dc52 pm52 an52 cd52 ct52, PySem.W.fnOf "read_numbers" "read_numbers" (defArgs (topS 53)) (defBody (topS 53)) (defScope (topS 53)) .none kV53 dc53 pm53 an53 cd53 ct53, PySem.W.fnOf "law" "law" (defArgs (topS 84)) (defBody (topS 84)) (defScope (topS 84)) .none kV84 dc84 pm84 an84 cd84 ct84, PySem.W.fnOf "law" "law" (defArgs (topS 84)) (defBody (topS 84)) (defScope (topS 84)) .none kV84 dc84 pm84 an84 cd84 ct84, PySem.W.fnOf "law" "law" (defArgs (topS 84)) (defBody (topS 84)) (defScope (topS 84)) .none kV84 dc84 pm84 an84 cd84 ct84, PySem.W.fnOf "law" "law" (defArgs (topS 84)) (defBody (topS 84)) (defScope (topS 84)) .none kV84 dc84 pm84 an84 cd84 ct84, PySem.W.fnOf "law" "law" (defArgs (topS 84)) (defBody (topS 84)) (defScope (topS 84)) .none kV84 dc84 pm84 an84 cd84 ct84, PySem.W.fnOf "law" "law" (defArgs (topS 84)) (defBody (topS 84)) (defScope (topS 84)) .none kV84 dc84 pm84 an84 cd84 ct84, PySem.W.fnOf "check_lengths" "check_lengths" (defArgs (topS 60)) (defBody (topS 60)) (defScope (topS 60)) .none kV60 dc60 pm60 an60 cd60 ct60, PySem.W.fnOf "check_size" "check_size" (defArgs (topS 61)) (defBody (topS 61)) (defScope (topS 61)) .none kV61 dc61 pm61 an61 cd61 ct61, PySem.W.fnOf "check_fit" "check_fit" (defArgs (topS 62)) (defBody (topS 62)) (defScope (topS 62)) .none kV62 dc62 pm62 an62 cd62 ct62, PySem.W.fnOf "law" "law" (defArgs (topS 84)) (defBody (topS 84)) (defScope (topS 84)) .none kV84 dc84 pm84 an84 cd84 ct84, PySem.W.fnOf "law" "law" (defArgs (topS 84)) (defBody (topS 84)) (defScope (topS 84)) .none kV84 dc84 pm84 an84 cd84 ct84, PySem.W.fnOf "law" "law" (defArgs (topS 84)) (defBody (topS 84)) (defScope (topS 84)) .none kV84 dc84 pm84 an84 cd84 ct84, PySem.W.fnOf "law" "law" (defArgs (topS 84)) (defBody (topS 84)) (defScope (topS 84)) .none kV84 dc84 pm84 an84 cd84 ct84, PySem.W.fnOf "law" "law" (defArgs (topS 84)) (defBody (topS 84)) (defScope (topS 84)) .none kV84 dc84 pm84 an84 cd84 ct84, PySem.W.fnOf "law" "law" (defArgs (topS 84)) (defBody (topS 84)) (defScope (topS 84)) .none kV84 dc84 pm84 an84 cd84 ct84, PySem.W.fnOf "law" "law" (defArgs (topS 84)) (defBody (topS 84)) (defScope (topS 84)) .none kV84 dc84 pm84 an84 cd84 ct84, PySem.W.fnOf "rows_of" "rows_of" (defArgs (topS 70)) (defBody (topS 70)) (defScope (topS 70)) .none kV70 dc70 pm70 an70 cd70 ct70, PySem.W.fnOf "places_by_word" "places_by_word" (defArgs (topS 71)) (defBody (topS 71)) (defScope (topS 71)) .none kV71 dc71 pm71 an71 cd71 ct71, PySem.W.fnOf "law" "law" (defArgs (topS 84)) (defBody (topS 84)) (defScope (topS 84)) .none kV84 dc84 pm84 an84 cd84 ct84, PySem.W.fnOf "_law_pool" "_law_pool" (defArgs (topS 73)) (defBody (topS 73)) (defScope (topS 73)) .none kV73 dc73 pm73 an73 cd73 ct73, PySem.W.fnOf "_law_take" "_law_take" (defArgs (topS 74)) (defBody (topS 74)) (defScope (topS 74)) .none kV74 dc74 pm74 an74 cd74 ct74, PySem.W.fnOf "_law_kinds" "_law_kinds" (defArgs (topS 75)) (defBody (topS 75)) (defScope (topS 75)) .none kV75 dc75 pm75 an75 cd75 ct75, PySem.W.fnOf "_law_words" "_law_words" (defArgs (topS 76)) (defBody (topS 76)) (defScope (topS 76)) .none kV76 dc76 pm76 an76 cd76 ct76, PySem.W.fnOf "_law_spots" "_law_spots" (defArgs (topS 77)) (defBody (topS 77)) (defScope (topS 77)) .none kV77 dc77 pm77 an77 cd77 ct77, PySem.W.fnOf "_law_numbers" "_law_numbers" (defArgs (topS 78)) (defBody (topS 78)) (defScope (topS 78)) .none kV78 dc78 pm78 an78 cd78 ct78, PySem.W.fnOf "_law_whole" "_law_whole" (defArgs (topS 79)) (defBody (topS 79)) (defScope (topS 79)) .none kV79 dc79 pm79 an79 cd79 ct79, PySem.W.fnOf "_law_kind" "_law_kind" (defArgs (topS 80)) (defBody (topS 80)) (defScope (topS 80)) .none kV80 dc80 pm80 an80 cd80 ct80, PySem.W.fnOf "_law_how" "_law_how" (defArgs (topS 81)) (defBody (topS 81)) (defScope (topS 81)) .none kV81 dc81 pm81 an81 cd81 ct81, PySem.W.fnOf "_law_due_row" "_law_due_row" (defArgs (topS 82)) (defBody (topS 82)) (defScope (topS 82)) .none kV82 dc82 pm82 an82 cd82 ct82, PySem.W.fnOf "_law_right" "_law_right" (defArgs (topS 83)) (defBody (topS 83)) (defScope (topS 83)) .none kV83 dc83 pm83 an83 (.ref cc83) ct83, PySem.W.fnOf "law" "law" (defArgs (topS 84)) (defBody (topS 84)) (defScope (topS 84)) .none kV84 dc84 pm84 an84 cd84 ct84, PySem.W.fnOf "__init__" "Page.__init__" (defArgs (inClass (topS 34) 0)) (defBody (inClass (topS 34) 0)) (defScope (inClass (topS 34) 0)) (.ref DT85) kV85 dc85 pm85 an85 cd85 ct85, PySem.W.fnOf "__len__" "Page.__len__" (defArgs (inClass (topS 34) 2)) (defBody (inClass (topS 34) 2)) (defScope (inClass (topS 34) 2)) .none kV86 dc86 pm86 an86 cd86 ct86, PySem.W.fnOf "words" "Page.words" (defArgs (inClass (topS 34) 5)) (defBody (inClass (topS 34) 5)) (defScope (inClass (topS 34) 5)) .none kV87 dc87 pm87 an87 cd87 ct87, PySem.W.fnOf "__init__" "Block.__init__" (defArgs (inClass (topS 58) 0)) (defBody (inClass (topS 58) 0)) (defScope (inClass (topS 58) 0)) .none kV88 dc88 pm88 an88 cd88 ct88, PySem.W.fnOf "__eq__" "Block.__eq__" (defArgs (inClass (topS 58) 1)) (defBody (inClass (topS 58) 1)) (defScope (inClass (topS 58) 1)) .none kV89 dc89 pm89 an89 cd89 ct89, PySem.W.fnOf "head" "Block.head" (defArgs (inClass (topS 58) 3)) (defBody (inClass (topS 58) 3)) (defScope (inClass (topS 58) 3)) .none kV90 dc90 pm90 an90 cd90 ct90, PySem.W.fnOf "__init__" "Row.__init__" (defArgs (inClass (topS 59) 0)) (defBody (inClass (topS 59) 0)) (defScope (inClass (topS 59) 0)) .none (.ref DK91) dc91 pm91 an91 cd91 ct91, PySem.W.fnOf "__eq__" "Row.__eq__" (defArgs (inClass (topS 59) 1)) (defBody (inClass (topS 59) 1)) (defScope (inClass (topS 59) 1)) .none kV92 dc92 pm92 an92 cd92 ct92, PySem.W.fnOf "__len__" "Row.__len__" (defArgs (inClass (topS 59) 2)) (defBody (inClass (topS 59) 2)) (defScope (inClass (topS 59) 2)) .none kV93 dc93 pm93 an93 cd93 ct93, PySem.W.fnOf "entries" "Row.entries" (defArgs (inClass (topS 59) 4)) (defBody (inClass (topS 59) 4)) (defScope (inClass (topS 59) 4)) .none kV94 dc94 pm94 an94 cd94 ct94, PySem.W.fnOf "__init__" "Segment.__init__" (defArgs (inClass (topS 68) 0)) (defBody (inClass (topS 68) 0)) (defScope (inClass (topS 68) 0)) .none (.ref DK95) dc95 pm95 an95 (.ref cc95) ct95, PySem.W.fnOf "__len__" "Segment.__len__" (defArgs (inClass (topS 68) 2)) (defBody (inClass (topS 68) 2)) (defScope (inClass (topS 68) 2)) .none kV96 dc96 pm96 an96 cd96 ct96, PySem.W.fnOf "numbers" "Segment.numbers" (defArgs (inClass (topS 68) 3)) (defBody (inClass (topS 68) 3)) (defScope (inClass (topS 68) 3)) .none kV97 dc97 pm97 an97 cd97 ct97, PySem.W.fnOf "lengths" "Segment.lengths" (defArgs (inClass (topS 68) 4)) (defBody (inClass (topS 68) 4)) (defScope (inClass (topS 68) 4)) .none kV98 dc98 pm98 an98 cd98 ct98, PySem.W.fnOf "words" "Segment.words" (defArgs (inClass (topS 68) 5)) (defBody (inClass (topS 68) 5)) (defScope (inClass (topS 68) 5)) .none kV99 dc99 pm99 an99 cd99 ct99, PySem.W.fnOf "row" "Segment.row" (defArgs (inClass (topS 68) 6)) (defBody (inClass (topS 68) 6)) (defScope (inClass (topS 68) 6)) .none kV100 dc100 pm100 an100 cd100 ct100, PySem.W.fnOf "slot_of" "Segment.slot_of" (defArgs (inClass (topS 68) 7)) (defBody (inClass (topS 68) 7)) (defScope (inClass (topS 68) 7)) .none kV101 dc101 pm101 an101 cd101 ct101] : List FuncData).getD i (PySem.W.fnOf "law" "law" (defArgs (topS 84)) (defBody (topS 84)) (defScope (topS 84)) .none kV84 dc84 pm84 an84 cd84 ct84)
  let TK : Nat → Tok := fun i => ([0, 0, 0, 0, 0, 0, 0, 0, 0, 0, 0, 0, 0, 0, 0, 0, 0, 0, 0, 0, 0, 0, 0, 0, 0, tk25, tk26, 0, 0, 0, 0, 0, 0, tk33, 0, 0, 0, 0, tk38, tk39, 0, 0, 0, 0, 0, 0, 0, 0, 0, 0, 0, 0, 0, 0, 0, tk55, tk56, tk57] : List Tok).getD i 0
  let CC : Nat → Addr := fun i => ([0, 0, 0, 0, 0, 0, 0, 0, 0, 0, 0, 0, 0, 0, 0, 0, 0, 0, 0, 0, 0, 0, 0, 0, 0, 0, 0, 0, 0, 0, 0, 0, 0, 0, 0, 0, 0, 0, 0, 0, 0, 0, 0, 0, 0, 0, 0, 0, 0, 0, 0, 0, 0, 0, 0, 0, 0, 0, 0, 0, 0, 0, 0, 0, 0, 0, 0, 0, 0, 0, 0, 0, 0, 0, 0, 0, 0, 0, 0, 0, 0, 0, 0, cc83, 0, 0, 0, 0, 0, 0, 0, 0, 0, 0, 0, cc95, 0, 0, 0, 0, 0, 0] : List Addr).getD i 0
  have T : TX K mg A FD TK CC := {
    f_is_whole := fun_mk (st := topS 22) l22 c22 k22
    b_is_whole := (fun_mk (st := topS 22) l22 c22 k22).binds (ps := ["thing"]) fun _ _ _ _ _ _ us hl => match us, hl with | [_], _ => rfl
    g_is_whole := PySem.W.mg_of X G a22
    f_is_within := fun_mk (st := topS 23) l23 c23 k23
    b_is_within := (fun_mk (st := topS 23) l23 c23 k23).binds (ps := ["thing", "least", "most"]) fun _ _ _ _ _ _ us hl => match us, hl with | [_, _, _], _ => rfl
    g_is_within := PySem.W.mg_of X G a23
    f_is_word := fun_mk (st := topS 27) l27 c27 k27
    b_is_word := (fun_mk (st := topS 27) l27 c27 k27).binds (ps := ["thing"]) fun _ _ _ _ _ _ us hl => match us, hl with | [_], _ => rfl
    g_is_word := PySem.W.mg_of X G a27
    f_are_words := fun_mk (st := topS 28) l28 c28 k28
    b_are_words := (fun_mk (st := topS 28) l28 c28 k28).binds (ps := ["things"]) fun _ _ _ _ _ _ us hl => match us, hl with | [_], _ => rfl
    g_are_words := PySem.W.mg_of X G a28
    f_check_word := fun_mk (st := topS 29) l29 c29 k29
    b_check_word := (fun_mk (st := topS 29) l29 c29 k29).binds (ps := ["word"]) fun _ _ _ _ _ _ us hl => match us, hl with | [_], _ => rfl
    g_check_word := PySem.W.mg_of X G a29
    f_words_of := fun_mk (st := topS 30) l30 c30 k30
    b_words_of := (fun_mk (st := topS 30) l30 c30 k30).binds (ps := ["text"]) fun _ _ _ _ _ _ us hl => match us, hl with | [_], _ => rfl
    g_words_of := PySem.W.mg_of X G a30
    f_check_words := fun_mk (st := topS 31) l31 c31 k31
    b_check_words := (fun_mk (st := topS 31) l31 c31 k31).binds (ps := ["words"]) fun _ _ _ _ _ _ us hl => match us, hl with | [_], _ => rfl
    g_check_words := PySem.W.mg_of X G a31
    f_check_page_number := fun_mk (st := topS 35) l35 c35 k35
    b_check_page_number := (fun_mk (st := topS 35) l35 c35 k35).binds (ps := ["number"]) fun _ _ _ _ _ _ us hl => match us, hl with | [_], _ => rfl
    g_check_page_number := PySem.W.mg_of X G a35
    f_check_pages := fun_mk (st := topS 36) l36 c36 k36
    g_check_pages := PySem.W.mg_of X G a36
    f_is_count := fun_mk (st := topS 40) l40 c40 k40
    b_is_count := (fun_mk (st := topS 40) l40 c40 k40).binds (ps := ["thing"]) fun _ _ _ _ _ _ us hl => match us, hl with | [_], _ => rfl
    g_is_count := PySem.W.mg_of X G a40
    f_code := fun_mk (st := topS 41) l41 c41 k41
    b_code := (fun_mk (st := topS 41) l41 c41 k41).binds (ps := ["number"]) fun _ _ _ _ _ _ us hl => match us, hl with | [_], _ => rfl
    g_code := PySem.W.mg_of X G a41
    f_code_all := fun_mk (st := topS 42) l42 c42 k42
    b_code_all := (fun_mk (st := topS 42) l42 c42 k42).binds (ps := ["numbers"]) fun _ _ _ _ _ _ us hl => match us, hl with | [_], _ => rfl
    g_code_all := PySem.W.mg_of X G a42
    f_code_entries := fun_mk (st := topS 43) l43 c43 k43
    b_code_entries := (fun_mk (st := topS 43) l43 c43 k43).binds (ps := ["entries"]) fun _ _ _ _ _ _ us hl => match us, hl with | [_], _ => rfl
    g_code_entries := PySem.W.mg_of X G a43
    f_decode_entries := fun_mk (st := topS 44) l44 c44 k44
    b_decode_entries := (fun_mk (st := topS 44) l44 c44 k44).binds (ps := ["text"]) fun _ _ _ _ _ _ us hl => match us, hl with | [_], _ => rfl
    g_decode_entries := PySem.W.mg_of X G a44
    f_check_entries := fun_mk (st := topS 45) l45 c45 k45
    b_check_entries := (fun_mk (st := topS 45) l45 c45 k45).binds (ps := ["entries"]) fun _ _ _ _ _ _ us hl => match us, hl with | [_], _ => rfl
    g_check_entries := PySem.W.mg_of X G a45
    f_is_entry := fun_mk (st := topS 46) l46 c46 k46
    b_is_entry := (fun_mk (st := topS 46) l46 c46 k46).binds (ps := ["thing"]) fun _ _ _ _ _ _ us hl => match us, hl with | [_], _ => rfl
    g_is_entry := PySem.W.mg_of X G a46
    f_are_places := fun_mk (st := topS 47) l47 c47 k47
    b_are_places := (fun_mk (st := topS 47) l47 c47 k47).binds (ps := ["thing"]) fun _ _ _ _ _ _ us hl => match us, hl with | [_], _ => rfl
    g_are_places := PySem.W.mg_of X G a47
    f_first_fall := fun_mk (st := topS 48) l48 c48 k48
    b_first_fall := (fun_mk (st := topS 48) l48 c48 k48).binds (ps := ["things"]) fun _ _ _ _ _ _ us hl => match us, hl with | [_], _ => rfl
    g_first_fall := PySem.W.mg_of X G a48
    f_gaps_of := fun_mk (st := topS 49) l49 c49 k49
    b_gaps_of := (fun_mk (st := topS 49) l49 c49 k49).binds (ps := ["numbers"]) fun _ _ _ _ _ _ us hl => match us, hl with | [_], _ => rfl
    g_gaps_of := PySem.W.mg_of X G a49
    f_risen := fun_mk (st := topS 50) l50 c50 k50
    b_risen := (fun_mk (st := topS 50) l50 c50 k50).binds (ps := ["gaps"]) fun _ _ _ _ _ _ us hl => match us, hl with | [_], _ => rfl
    g_risen := PySem.W.mg_of X G a50
    f_check_text := fun_mk (st := topS 51) l51 c51 k51
    b_check_text := (fun_mk (st := topS 51) l51 c51 k51).binds (ps := ["text"]) fun _ _ _ _ _ _ us hl => match us, hl with | [_], _ => rfl
    g_check_text := PySem.W.mg_of X G a51
    f_read_number := fun_mk (st := topS 52) l52 c52 k52
    b_read_number := (fun_mk (st := topS 52) l52 c52 k52).binds (ps := ["text", "start"]) fun _ _ _ _ _ _ us hl => match us, hl with | [_, _], _ => rfl
    g_read_number := PySem.W.mg_of X G a52
    f_read_numbers := fun_mk (st := topS 53) l53 c53 k53
    b_read_numbers := (fun_mk (st := topS 53) l53 c53 k53).binds (ps := ["text", "at", "many"]) fun _ _ _ _ _ _ us hl => match us, hl with | [_, _, _], _ => rfl
    g_read_numbers := PySem.W.mg_of X G a53
    f_check_lengths := fun_mk (st := topS 60) l60 c60 k60
    b_check_lengths := (fun_mk (st := topS 60) l60 c60 k60).binds (ps := ["lengths"]) fun _ _ _ _ _ _ us hl => match us, hl with | [_], _ => rfl
    g_check_lengths := PySem.W.mg_of X G a60
    f_check_size := fun_mk (st := topS 61) l61 c61 k61
    b_check_size := (fun_mk (st := topS 61) l61 c61 k61).binds (ps := ["size"]) fun _ _ _ _ _ _ us hl => match us, hl with | [_], _ => rfl
    g_check_size := PySem.W.mg_of X G a61
    f_check_fit := fun_mk (st := topS 62) l62 c62 k62
    b_check_fit := (fun_mk (st := topS 62) l62 c62 k62).binds (ps := ["entries", "lengths"]) fun _ _ _ _ _ _ us hl => match us, hl with | [_, _], _ => rfl
    g_check_fit := PySem.W.mg_of X G a62
    f_rows_of := fun_mk (st := topS 70) l70 c70 k70
    b_rows_of := (fun_mk (st := topS 70) l70 c70 k70).binds (ps := ["pages", "size"]) fun _ _ _ _ _ _ us hl => match us, hl with | [_, _], _ => rfl
    g_rows_of := PySem.W.mg_of X G a70
    f_places_by_word := fun_mk (st := topS 71) l71 c71 k71
    b_places_by_word := (fun_mk (st := topS 71) l71 c71 k71).binds (ps := ["page"]) fun _ _ _ _ _ _ us hl => match us, hl with | [_], _ => rfl
    g_places_by_word := PySem.W.mg_of X G a71
    f_l_pool := fun_mk (st := topS 73) l73 c73 k73
    b_l_pool := (fun_mk (st := topS 73) l73 c73 k73).binds (ps := ["_law_script", "_law_at"]) fun _ _ _ _ _ _ us hl => match us, hl with | [_, _], _ => rfl
    g_l_pool := PySem.W.mg_of X G a73
    f_l_take := fun_mk (st := topS 74) l74 c74 k74
    b_l_take := (fun_mk (st := topS 74) l74 c74 k74).binds (ps := ["_law_pool_here", "_law_many"]) fun _ _ _ _ _ _ us hl => match us, hl with | [_, _], _ => rfl
    g_l_take := PySem.W.mg_of X G a74
    f_l_kinds := fun_mk (st := topS 75) l75 c75 k75
    b_l_kinds := (fun_mk (st := topS 75) l75 c75 k75).binds (ps := ["_law_pool_here"]) fun _ _ _ _ _ _ us hl => match us, hl with | [_], _ => rfl
    g_l_kinds := PySem.W.mg_of X G a75
    f_l_words := fun_mk (st := topS 76) l76 c76 k76
    b_l_words := (fun_mk (st := topS 76) l76 c76 k76).binds (ps := ["_law_pool_here", "_law_kinds_here", "_law_most"]) fun _ _ _ _ _ _ us hl => match us, hl with | [_, _, _], _ => rfl
    g_l_words := PySem.W.mg_of X G a76
    f_l_spots := fun_mk (st := topS 77) l77 c77 k77
    b_l_spots := (fun_mk (st := topS 77) l77 c77 k77).binds (ps := ["_law_held", "_law_word"]) fun _ _ _ _ _ _ us hl => match us, hl with | [_, _], _ => rfl
    g_l_spots := PySem.W.mg_of X G a77
    f_l_numbers := fun_mk (st := topS 78) l78 c78 k78
    b_l_numbers := (fun_mk (st := topS 78) l78 c78 k78).binds (ps := ["_law_pool_here", "_law_many"]) fun _ _ _ _ _ _ us hl => match us, hl with | [_, _], _ => rfl
    g_l_numbers := PySem.W.mg_of X G a78
    f_l_whole := fun_mk (st := topS 79) l79 c79 k79
    b_l_whole := (fun_mk (st := topS 79) l79 c79 k79).binds (ps := ["_law_thing"]) fun _ _ _ _ _ _ us hl => match us, hl with | [_], _ => rfl
    g_l_whole := PySem.W.mg_of X G a79
    f_l_kind := fun_mk (st := topS 80) l80 c80 k80
    b_l_kind := (fun_mk (st := topS 80) l80 c80 k80).binds (ps := ["_law_e"]) fun _ _ _ _ _ _ us hl => match us, hl with | [_], _ => rfl
    g_l_kind := PySem.W.mg_of X G a80
    f_l_how := fun_mk (st := topS 81) l81 c81 k81
    b_l_how := (fun_mk (st := topS 81) l81 c81 k81).binds (ps := ["_law_deed"]) fun _ _ _ _ _ _ us hl => match us, hl with | [_], _ => rfl
    g_l_how := PySem.W.mg_of X G a81
    f_l_due_row := fun_mk (st := topS 82) l82 c82 k82
    b_l_due_row := (fun_mk (st := topS 82) l82 c82 k82).binds (ps := ["_law_word", "_law_some", "_law_wide"]) fun _ _ _ _ _ _ us hl => match us, hl with | [_, _, _], _ => rfl
    g_l_due_row := PySem.W.mg_of X G a82
    F_l_right := ⟨⟨oc83, od83, kV83, dc83, pm83, an83, ct83, sl83, rfl, l83, c83⟩, k83⟩
    f_l_right := fun_mk (st := topS 83) l83 c83 k83
    b_l_right := (fun_mk (st := topS 83) l83 c83 k83).binds (ps := ["_law_segment", "_law_some", "_law_wide"]) fun _ _ _ _ _ _ us hl => match us, hl with | [_, _, _], _ => rfl
    g_l_right := PySem.W.mg_of X G a83
    f_law := fun_mk (st := topS 84) l84 c84 k84
    b_law := (fun_mk (st := topS 84) l84 c84 k84).binds (ps := ["_law_script"]) fun _ _ _ _ _ _ us hl => match us, hl with | [_], _ => rfl
    g_law := PySem.W.mg_of X G a84
    m_ValueError := PySem.W.mg_none_of X G z_ValueError
    m_abs := PySem.W.mg_none_of X G z_abs
    m_all := PySem.W.mg_none_of X G z_all
    m_bool := PySem.W.mg_none_of X G z_bool
    m_divmod := PySem.W.mg_none_of X G z_divmod
    m_enumerate := PySem.W.mg_none_of X G z_enumerate
    m_int := PySem.W.mg_none_of X G z_int
    m_isinstance := PySem.W.mg_none_of X G z_isinstance
    m_len := PySem.W.mg_none_of X G z_len
    m_list := PySem.W.mg_none_of X G z_list
    m_max := PySem.W.mg_none_of X G z_max
    m_min := PySem.W.mg_none_of X G z_min
    m_range := PySem.W.mg_none_of X G z_range
    m_set := PySem.W.mg_none_of X G z_set
    m_sorted := PySem.W.mg_none_of X G z_sorted
    m_str := PySem.W.mg_none_of X G z_str
    m_sum := PySem.W.mg_none_of X G z_sum
    m_tuple := PySem.W.mg_none_of X G z_tuple
    c_MOST_LETTERS := PySem.W.mg_of X G e25
    c_MOST_WORDS := PySem.W.mg_of X G e26
    c_MOST_NUMBER := PySem.W.mg_of X G e33
    c_DIGITS_AHEAD := PySem.W.mg_of X G e38
    c_LAST_DIGITS := PySem.W.mg_of X G e39
    c_SIZE := PySem.W.mg_of X G e55
    c_MOST_SIZE := PySem.W.mg_of X G e56
    c_MOST_LENGTHS := PySem.W.mg_of X G e57
    k_Wrong := PySem.W.mg_of X G a2
    k_NoWord := PySem.W.mg_of X G a3
    k_NoText := PySem.W.mg_of X G a4
    k_NoNumber := PySem.W.mg_of X G a5
    k_NoSize := PySem.W.mg_of X G a6
    k_NoLengths := PySem.W.mg_of X G a7
    k_NoQuery := PySem.W.mg_of X G a8
    k_NoName := PySem.W.mg_of X G a9
    k_NoCode := PySem.W.mg_of X G a10
    k_NoRow := PySem.W.mg_of X G a11
    k_NoEntries := PySem.W.mg_of X G a12
    k_NoQueryText := PySem.W.mg_of X G a13
    k_NoPages := PySem.W.mg_of X G a14
    k_NoQueries := PySem.W.mg_of X G a15
    k_NoShelf := PySem.W.mg_of X G a16
    k_NoDeed := PySem.W.mg_of X G a17
    k_Taken := PySem.W.mg_of X G a18
    k_NoPlace := PySem.W.mg_of X G a19
    k_NoSlot := PySem.W.mg_of X G a20
    k_Page := PySem.W.mg_of X G a34
    k_Block := PySem.W.mg_of X G a58
    k_Row := PySem.W.mg_of X G a59
    k_Walker := PySem.W.mg_of X G a64
    k_Segment := PySem.W.mg_of X G a68
    cl_Page := ⟨pg34, hd34, po34, sa34⟩
    n_Page_number := na34_number
    n_Page_in_turn := na34_in_turn
    cl_Block := ⟨pg58, hd58, po58, sa58⟩
    n_Block_first := na58_first
    n_Block_last := na58_last
    n_Block_many := na58_many
    n_Block_most := na58_most
    n_Block_least := na58_least
    n_Block_coded := na58_coded
    cl_Row := ⟨pg59, hd59, po59, sa59⟩
    n_Row_word := na59_word
    n_Row_size := na59_size
    n_Row_cut := na59_cut
    cl_Segment := ⟨pg68, hd68, po68, sa68⟩
    n_Segment_size := na68_size
    n_Segment_slot_numbers := na68_slot_numbers
    n_Segment_slot_lengths := na68_slot_lengths
    n_Segment_rows := na68_rows
    f_Page_init := ⟨⟨oc85, od85, .ref DT85, kV85, dc85, pm85, an85, cd85, ct85, sl85, rfl, l85, c85, .inr ⟨by simp, DT85, _, [_], nd85, rfl, dt85, rfl, (.cons ⟨_, rfl⟩ .nil)⟩, .inl rfl⟩, k85⟩
    M_Page := ⟨mk34, a85, i85, kc34⟩
    f_Page_len := fun_mk (st := inClass (topS 34) 2) l86 c86 k86
    b_Page_len := (fun_mk (st := inClass (topS 34) 2) l86 c86 k86).binds (ps := ["self"]) fun _ _ _ _ _ _ us hl => match us, hl with | [_], _ => rfl
    M_Page_len := ⟨a86, i86, k86⟩
    f_Page_words := fun_mk (st := inClass (topS 34) 5) l87 c87 k87
    b_Page_words := (fun_mk (st := inClass (topS 34) 5) l87 c87 k87).binds (ps := ["self"]) fun _ _ _ _ _ _ us hl => match us, hl with | [_], _ => rfl
    M_Page_words := ⟨a87, i87, k87⟩
    f_Block_init := fun_mk (st := inClass (topS 58) 0) l88 c88 k88
    b_Block_init := (fun_mk (st := inClass (topS 58) 0) l88 c88 k88).binds (ps := ["self", "entries", "lengths"]) fun _ _ _ _ _ _ us hl => match us, hl with | [_, _, _], _ => rfl
    M_Block := ⟨mk58, a88, i88, kc58⟩
    f_Block_eq := fun_mk (st := inClass (topS 58) 1) l89 c89 k89
    b_Block_eq := (fun_mk (st := inClass (topS 58) 1) l89 c89 k89).binds (ps := ["self", "other"]) fun _ _ _ _ _ _ us hl => match us, hl with | [_, _], _ => rfl
    M_Block_eq := ⟨a89, i89, k89⟩
    f_Block_head := fun_mk (st := inClass (topS 58) 3) l90 c90 k90
    b_Block_head := (fun_mk (st := inClass (topS 58) 3) l90 c90 k90).binds (ps := ["self"]) fun _ _ _ _ _ _ us hl => match us, hl with | [_], _ => rfl
    M_Block_head := ⟨a90, i90, k90⟩
    f_Row_init := ⟨⟨oc91, od91, .none, .ref DK91, dc91, pm91, an91, cd91, ct91, sl91, rfl, l91, c91, .inl ⟨rfl, rfl⟩, .inr ⟨DK91, rfl, fun q hq => by
        simp only [List.mem_cons, List.not_mem_nil, or_false] at hq
        subst hq
        exact ⟨_, dk91_0, ⟨_, rfl⟩⟩⟩⟩, k91⟩
    M_Row := ⟨mk59, a91, i91, kc59⟩
    f_Row_eq := fun_mk (st := inClass (topS 59) 1) l92 c92 k92
    b_Row_eq := (fun_mk (st := inClass (topS 59) 1) l92 c92 k92).binds (ps := ["self", "other"]) fun _ _ _ _ _ _ us hl => match us, hl with | [_, _], _ => rfl
    M_Row_eq := ⟨a92, i92, k92⟩
    f_Row_len := fun_mk (st := inClass (topS 59) 2) l93 c93 k93
    b_Row_len := (fun_mk (st := inClass (topS 59) 2) l93 c93 k93).binds (ps := ["self"]) fun _ _ _ _ _ _ us hl => match us, hl with | [_], _ => rfl
    M_Row_len := ⟨a93, i93, k93⟩
    f_Row_entries := fun_mk (st := inClass (topS 59) 4) l94 c94 k94
    b_Row_entries := (fun_mk (st := inClass (topS 59) 4) l94 c94 k94).binds (ps := ["self"]) fun _ _ _ _ _ _ us hl => match us, hl with | [_], _ => rfl
    M_Row_entries := ⟨a94, i94, k94⟩
    f_Segment_init := ⟨⟨oc95, od95, .none, .ref DK95, dc95, pm95, an95, (.ref cc95), ct95, sl95, rfl, l95, c95, .inl ⟨rfl, rfl⟩, .inr ⟨DK95, rfl, fun q hq => by
        simp only [List.mem_cons, List.not_mem_nil, or_false] at hq
        subst hq
        exact ⟨_, dk95_0, ⟨_, rfl⟩⟩⟩⟩, k95⟩
    F_Segment_init := ⟨⟨oc95, od95, .none, .ref DK95, dc95, pm95, an95, ct95, sl95, rfl, l95, c95⟩, k95⟩
    M_Segment := ⟨mk68, a95, i95, kc68⟩
    f_Segment_len := fun_mk (st := inClass (topS 68) 2) l96 c96 k96
    b_Segment_len := (fun_mk (st := inClass (topS 68) 2) l96 c96 k96).binds (ps := ["self"]) fun _ _ _ _ _ _ us hl => match us, hl with | [_], _ => rfl
    M_Segment_len := ⟨a96, i96, k96⟩
    f_Segment_numbers := fun_mk (st := inClass (topS 68) 3) l97 c97 k97
    b_Segment_numbers := (fun_mk (st := inClass (topS 68) 3) l97 c97 k97).binds (ps := ["self"]) fun _ _ _ _ _ _ us hl => match us, hl with | [_], _ => rfl
    M_Segment_numbers := ⟨a97, i97, k97⟩
    f_Segment_lengths := fun_mk (st := inClass (topS 68) 4) l98 c98 k98
    b_Segment_lengths := (fun_mk (st := inClass (topS 68) 4) l98 c98 k98).binds (ps := ["self"]) fun _ _ _ _ _ _ us hl => match us, hl with | [_], _ => rfl
    M_Segment_lengths := ⟨a98, i98, k98⟩
    f_Segment_words := fun_mk (st := inClass (topS 68) 5) l99 c99 k99
    b_Segment_words := (fun_mk (st := inClass (topS 68) 5) l99 c99 k99).binds (ps := ["self"]) fun _ _ _ _ _ _ us hl => match us, hl with | [_], _ => rfl
    M_Segment_words := ⟨a99, i99, k99⟩
    f_Segment_row := fun_mk (st := inClass (topS 68) 6) l100 c100 k100
    b_Segment_row := (fun_mk (st := inClass (topS 68) 6) l100 c100 k100).binds (ps := ["self", "word"]) fun _ _ _ _ _ _ us hl => match us, hl with | [_, _], _ => rfl
    M_Segment_row := ⟨a100, i100, k100⟩
    f_Segment_slot_of := fun_mk (st := inClass (topS 68) 7) l101 c101 k101
    b_Segment_slot_of := (fun_mk (st := inClass (topS 68) 7) l101 c101 k101).binds (ps := ["self", "number"]) fun _ _ _ _ _ _ us hl => match us, hl with | [_, _], _ => rfl
    M_Segment_slot_of := ⟨a101, i101, k101⟩
    x_NoWord := xx3
    kc_NoWord := xk3
    br_NoWord := xb3
    ty_NoWord := xt3
    h_NoWord := plain_of xh3
    cs := ff_cs
    ct := ff_ct
    ciB := ff_ciB
    moB := ff_moB
    neB := ff_neB
    kB := ff_kB
    ciR := ff_ciR
    moR := ff_moR
    neR := ff_neR
    kR := ff_kR
    kRB := ff_kRB
    ktB := ff_ktB
    nfRB := ff_nfRB
    kNoneType := ff_kNoneType
    kint := ff_kint
    kstr := ff_kstr
    ktuple := ff_ktuple
    klist := ff_klist
    kbool := ff_kbool
    ciP := ff_ciP
    moP := ff_moP
    kp := ff_kp }
  refine ⟨FD 84, [(cc95, P95), (cc83, P83)], spLaw K [(P95, lamQ "Segment.__init__"), (P83, lamQ "_law_right")], (fun p hp => by
      simp only [List.mem_cons, List.not_mem_nil, or_false] at hp
      rcases hp with rfl | rfl
      · exact tb95
      · exact tb83), (fun p hp => by
      simp only [List.mem_cons, List.not_mem_nil, or_false] at hp
      rcases hp with rfl | rfl
      · exact tn95
      · exact tn83), (fun p hp => by
      simp only [List.mem_cons, List.not_mem_nil, or_false] at hp
      rcases hp with rfl | rfl
      · exact PySem.W.codeHd_of_K X th95
      · exact PySem.W.codeHd_of_K X th83), fun s v => .of_eq rfl, fun H a ns hl _ hT hS => ⟨a, ns, rfl, hS, hl, ?_, fun _ => rfl⟩, fun base _ _ hB => ok_law T (hB (cc95, P95) (by simp)) (hB (cc83, P83) (by simp)) pne⟩
  intro p hp
  simp only [List.mem_cons, List.not_mem_nil, or_false] at hp
  rcases hp with rfl | rfl
  · exact LamX.TabS.nil (hT (cc95, P95) (by simp))
  · exact LamX.TabS.nil (hT (cc83, P83) (by simp))
set_option maxHeartbeats 0 in
theorem hmk {w : World} {K : PySem.W.Frag} {h : Heap} {mg : Str → Option Value} {fa : Addr} (X : K.In h) (G : h.Ns mainGlobals mg) (hfa : mg "law" = some (.ref fa)) (c : HX.SaysY hts hfn hfs h K) : LamX.LawAtS PySem.Challenge.rw_blocksearch_k27_segments_told w K CX0 16 63 "_law_script" mg fa h := by
  obtain ⟨oc22, od22, dc22, pm22, an22, ct22, sl22, l22, c22⟩ := c.def_ 0 (d := hd22)
  obtain ⟨oc23, od23, dc23, pm23, an23, ct23, sl23, l23, c23⟩ := c.def_ 1 (d := hd23)
  obtain ⟨oc27, od27, dc27, pm27, an27, ct27, sl27, l27, c27⟩ := c.def_ 2 (d := hd27)
  obtain ⟨oc28, od28, dc28, pm28, an28, ct28, sl28, l28, c28⟩ := c.def_ 3 (d := hd28)
  obtain ⟨oc29, od29, dc29, pm29, an29, ct29, sl29, l29, c29⟩ := c.def_ 4 (d := hd29)
  obtain ⟨oc30, od30, dc30, pm30, an30, ct30, sl30, l30, c30⟩ := c.def_ 5 (d := hd30)
  obtain ⟨oc31, od31, dc31, pm31, an31, ct31, sl31, l31, c31⟩ := c.def_ 6 (d := hd31)
  obtain ⟨oc35, od35, dc35, pm35, an35, ct35, sl35, l35, c35⟩ := c.def_ 7 (d := hd35)
  obtain ⟨oc36, od36, dc36, pm36, an36, ct36, sl36, l36, c36⟩ := c.def_ 8 (d := hd36)
  obtain ⟨oc40, od40, dc40, pm40, an40, ct40, sl40, l40, c40⟩ := c.def_ 9 (d := hd40)
  obtain ⟨oc41, od41, dc41, pm41, an41, ct41, sl41, l41, c41⟩ := c.def_ 10 (d := hd41)
  obtain ⟨oc42, od42, dc42, pm42, an42, ct42, sl42, l42, c42⟩ := c.def_ 11 (d := hd42)
  obtain ⟨oc43, od43, dc43, pm43, an43, ct43, sl43, l43, c43⟩ := c.def_ 12 (d := hd43)
  obtain ⟨oc44, od44, dc44, pm44, an44, ct44, sl44, l44, c44⟩ := c.def_ 13 (d := hd44)
  obtain ⟨oc45, od45, dc45, pm45, an45, ct45, sl45, l45, c45⟩ := c.def_ 14 (d := hd45)
  obtain ⟨oc46, od46, dc46, pm46, an46, ct46, sl46, l46, c46⟩ := c.def_ 15 (d := hd46)
  obtain ⟨oc47, od47, dc47, pm47, an47, ct47, sl47, l47, c47⟩ := c.def_ 16 (d := hd47)
  obtain ⟨oc48, od48, dc48, pm48, an48, ct48, sl48, l48, c48⟩ := c.def_ 17 (d := hd48)
  obtain ⟨oc49, od49, dc49, pm49, an49, ct49, sl49, l49, c49⟩ := c.def_ 18 (d := hd49)
  obtain ⟨oc50, od50, dc50, pm50, an50, ct50, sl50, l50, c50⟩ := c.def_ 19 (d := hd50)
  obtain ⟨oc51, od51, dc51, pm51, an51, ct51, sl51, l51, c51⟩ := c.def_ 20 (d := hd51)
  obtain ⟨oc52, od52, dc52, pm52, an52, ct52, sl52, l52, c52⟩ := c.def_ 21 (d := hd52)
  obtain ⟨oc53, od53, dc53, pm53, an53, ct53, sl53, l53, c53⟩ := c.def_ 22 (d := hd53)
  obtain ⟨oc60, od60, dc60, pm60, an60, ct60, sl60, l60, c60⟩ := c.def_ 23 (d := hd60)
  obtain ⟨oc61, od61, dc61, pm61, an61, ct61, sl61, l61, c61⟩ := c.def_ 24 (d := hd61)
  obtain ⟨oc62, od62, dc62, pm62, an62, ct62, sl62, l62, c62⟩ := c.def_ 25 (d := hd62)
  obtain ⟨oc70, od70, dc70, pm70, an70, ct70, sl70, l70, c70⟩ := c.def_ 26 (d := hd70)
  obtain ⟨oc71, od71, dc71, pm71, an71, ct71, sl71, l71, c71⟩ := c.def_ 27 (d := hd71)
  obtain ⟨oc73, od73, dc73, pm73, an73, ct73, sl73, l73, c73⟩ := c.def_ 28 (d := hd73)
  obtain ⟨oc74, od74, dc74, pm74, an74, ct74, sl74, l74, c74⟩ := c.def_ 29 (d := hd74)
  obtain ⟨oc75, od75, dc75, pm75, an75, ct75, sl75, l75, c75⟩ := c.def_ 30 (d := hd75)
  obtain ⟨oc76, od76, dc76, pm76, an76, ct76, sl76, l76, c76⟩ := c.def_ 31 (d := hd76)
  obtain ⟨oc77, od77, dc77, pm77, an77, ct77, sl77, l77, c77⟩ := c.def_ 32 (d := hd77)
  obtain ⟨oc78, od78, dc78, pm78, an78, ct78, sl78, l78, c78⟩ := c.def_ 33 (d := hd78)
  obtain ⟨oc79, od79, dc79, pm79, an79, ct79, sl79, l79, c79⟩ := c.def_ 34 (d := hd79)
  obtain ⟨oc80, od80, dc80, pm80, an80, ct80, sl80, l80, c80⟩ := c.def_ 35 (d := hd80)
  obtain ⟨oc81, od81, dc81, pm81, an81, ct81, sl81, l81, c81⟩ := c.def_ 36 (d := hd81)
  obtain ⟨oc82, od82, dc82, pm82, an82, ct82, sl82, l82, c82⟩ := c.def_ 37 (d := hd82)
  obtain ⟨oc83, od83, dc83, pm83, an83, ct83, sl83, l83, c83⟩ := c.def_ 38 (d := hd83)
  obtain ⟨oc84, od84, dc84, pm84, an84, ct84, sl84, l84, c84⟩ := c.def_ 39 (d := hd84)
  obtain ⟨t_e25, e25⟩ := HX.litInt (c.fact 3 8)
  obtain ⟨t_e26, e26⟩ := HX.litInt (c.fact 3 9)
  obtain ⟨t_e33, e33⟩ := HX.litInt (c.fact 3 10)
  obtain ⟨t_e38, e38⟩ := HX.litStr (c.fact 3 11)
  obtain ⟨t_e39, e39⟩ := HX.litStr (c.fact 3 12)
  obtain ⟨t_e55, e55⟩ := HX.litInt (c.fact 3 13)
  obtain ⟨t_e56, e56⟩ := HX.litInt (c.fact 3 14)
  obtain ⟨t_e57, e57⟩ := HX.litInt (c.fact 3 15)
  obtain ⟨oc85, od85, dc85, pm85, an85, ct85, sl85, l85, c85⟩ := c.def_ 40 (d := hd85)
  obtain ⟨ocd85, odd85, usd85, nd85, sld85, dt85, vsd85⟩ := HX.seqB_ok (c.fact 5 27)
  obtain _ | ⟨⟨td85_0, rfl⟩, vsd85⟩ := vsd85
  cases vsd85
  obtain ⟨oc86, od86, dc86, pm86, an86, ct86, sl86, l86, c86⟩ := c.def_ 41 (d := hd86)
  obtain ⟨oc87, od87, dc87, pm87, an87, ct87, sl87, l87, c87⟩ := c.def_ 42 (d := hd87)
  obtain ⟨oc88, od88, dc88, pm88, an88, ct88, sl88, l88, c88⟩ := c.def_ 43 (d := hd88)
  obtain ⟨oc89, od89, dc89, pm89, an89, ct89, sl89, l89, c89⟩ := c.def_ 44 (d := hd89)
  obtain ⟨oc90, od90, dc90, pm90, an90, ct90, sl90, l90, c90⟩ := c.def_ 45 (d := hd90)
  obtain ⟨oc91, od91, dc91, pm91, an91, ct91, sl91, l91, c91⟩ := c.def_ 46 (d := hd91)
  obtain ⟨t_dk91_0, dk91_0⟩ := HX.litInt (c.fact 6 16)
  obtain ⟨oc92, od92, dc92, pm92, an92, ct92, sl92, l92, c92⟩ := c.def_ 47 (d := hd92)
  obtain ⟨oc93, od93, dc93, pm93, an93, ct93, sl93, l93, c93⟩ := c.def_ 48 (d := hd93)
  obtain ⟨oc94, od94, dc94, pm94, an94, ct94, sl94, l94, c94⟩ := c.def_ 49 (d := hd94)
  obtain ⟨oc95, od95, dc95, pm95, an95, ct95, sl95, l95, c95⟩ := c.def_ 50 (d := hd95)
  obtain ⟨t_dk95_0, dk95_0⟩ := HX.litInt (c.fact 6 29)
  obtain ⟨oc96, od96, dc96, pm96, an96, ct96, sl96, l96, c96⟩ := c.def_ 51 (d := hd96)
  obtain ⟨oc97, od97, dc97, pm97, an97, ct97, sl97, l97, c97⟩ := c.def_ 52 (d := hd97)
  obtain ⟨oc98, od98, dc98, pm98, an98, ct98, sl98, l98, c98⟩ := c.def_ 53 (d := hd98)
  obtain ⟨oc99, od99, dc99, pm99, an99, ct99, sl99, l99, c99⟩ := c.def_ 54 (d := hd99)
  obtain ⟨oc100, od100, dc100, pm100, an100, ct100, sl100, l100, c100⟩ := c.def_ 55 (d := hd100)
  obtain ⟨oc101, od101, dc101, pm101, an101, ct101, sl101, l101, c101⟩ := c.def_ 56 (d := hd101)
  refine all_mk (l := PySem.Challenge.rw_blocksearch_k27_segments_told) (w := w) X G hfa (a22 := HX.refB_ok (c.fact 0 0)) (l22 := l22) (c22 := c22) (k22 := (c.fact 0 1)) (a23 := HX.refB_ok (c.fact 0 2)) (l23 := l23) (c23 := c23) (k23 := (c.fact 0 3)) (a27 := HX.refB_ok (c.fact 0 4)) (l27 := l27) (c27 := c27) (k27 := (c.fact 0 5)) (a28 := HX.refB_ok (c.fact 0 6)) (l28 := l28) (c28 := c28) (k28 := (c.fact 0 7)) (a29 := HX.refB_ok (c.fact 0 8)) (l29 := l29) (c29 := c29) (k29 := (c.fact 0 9)) (a30 := HX.refB_ok (c.fact 0 10)) (l30 := l30) (c30 := c30) (k30 := (c.fact 0 11)) (a31 := HX.refB_ok (c.fact 0 12)) (l31 := l31) (c31 := c31) (k31 := (c.fact 0 13)) (a35 := HX.refB_ok (c.fact 0 14)) (l35 := l35) (c35 := c35) (k35 := (c.fact 0 15)) (a36 := HX.refB_ok (c.fact 0 16)) (l36 := l36) (c36 := c36) (k36 := (c.fact 0 17)) (a40 := HX.refB_ok (c.fact 0 18)) (l40 := l40) (c40 := c40) (k40 := (c.fact 0 19)) (a41 := HX.refB_ok (c.fact 0 20)) (l41 := l41) (c41 := c41) (k41 := (c.fact 0 21)) (a42 := HX.refB_ok (c.fact 0 22)) (l42 := l42) (c42 := c42) (k42 := (c.fact 0 23)) (a43 := HX.refB_ok (c.fact 0 24)) (l43 := l43) (c43 := c43) (k43 := (c.fact 0 25)) (a44 := HX.refB_ok (c.fact 0 26)) (l44 := l44) (c44 := c44) (k44 := (c.fact 0 27)) (a45 := HX.refB_ok (c.fact 0 28)) (l45 := l45) (c45 := c45) (k45 := (c.fact 0 29)) (a46 := HX.refB_ok (c.fact 1 0)) (l46 := l46) (c46 := c46) (k46 := (c.fact 1 1)) (a47 := HX.refB_ok (c.fact 1 2)) (l47 := l47) (c47 := c47) (k47 := (c.fact 1 3)) (a48 := HX.refB_ok (c.fact 1 4)) (l48 := l48) (c48 := c48) (k48 := (c.fact 1 5)) (a49 := HX.refB_ok (c.fact 1 6)) (l49 := l49) (c49 := c49) (k49 := (c.fact 1 7)) (a50 := HX.refB_ok (c.fact 1 8)) (l50 := l50) (c50 := c50) (k50 := (c.fact 1 9)) (a51 := HX.refB_ok (c.fact 1 10)) (l51 := l51) (c51 := c51) (k51 := (c.fact 1 11)) (a52 := HX.refB_ok (c.fact 1 12)) (l52 := l52) (c52 := c52) (k52 := (c.fact 1 13)) (a53 := HX.refB_ok (c.fact 1 14)) (l53 := l53) (c53 := c53) (k53 := (c.fact 1 15)) (a60 := HX.refB_ok (c.fact 1 16)) (l60 := l60) (c60 := c60) (k60 := (c.fact 1 17)) (a61 := HX.refB_ok (c.fact 1 18)) (l61 := l61) (c61 := c61) (k61 := (c.fact 1 19)) (a62 := HX.refB_ok (c.fact 1 20)) (l62 := l62) (c62 := c62) (k62 := (c.fact 1 21)) (a70 := HX.refB_ok (c.fact 1 22)) (l70 := l70) (c70 := c70) (k70 := (c.fact 1 23)) (a71 := HX.refB_ok (c.fact 1 24)) (l71 := l71) (c71 := c71) (k71 := (c.fact 1 25)) (a73 := HX.refB_ok (c.fact 1 26)) (l73 := l73) (c73 := c73) (k73 := (c.fact 1 27)) (a74 := HX.refB_ok (c.fact 1 28)) (l74 := l74) (c74 := c74) (k74 := (c.fact 1 29)) (a75 := HX.refB_ok (c.fact 2 0)) (l75 := l75) (c75 := c75) (k75 := (c.fact 2 1)) (a76 := HX.refB_ok (c.fact 2 2)) (l76 := l76) (c76 := c76) (k76 := (c.fact 2 3)) (a77 := HX.refB_ok (c.fact 2 4)) (l77 := l77) (c77 := c77) (k77 := (c.fact 2 5)) (a78 := HX.refB_ok (c.fact 2 6)) (l78 := l78) (c78 := c78) (k78 := (c.fact 2 7)) (a79 := HX.refB_ok (c.fact 2 8)) (l79 := l79) (c79 := c79) (k79 := (c.fact 2 9)) (a80 := HX.refB_ok (c.fact 2 10)) (l80 := l80) (c80 := c80) (k80 := (c.fact 2 11)) (a81 := HX.refB_ok (c.fact 2 12)) (l81 := l81) (c81 := c81) (k81 := (c.fact 2 13)) (a82 := HX.refB_ok (c.fact 2 14)) (l82 := l82) (c82 := c82) (k82 := (c.fact 2 15)) (a83 := HX.refB_ok (c.fact 2 16)) (l83 := l83) (c83 := c83) (k83 := (c.fact 2 17)) (a84 := HX.refB_ok (c.fact 2 18)) (l84 := l84) (c84 := c84) (k84 := (c.fact 2 19)) (z_ValueError := HX.noB_ok (c.fact 2 20)) (z_abs := HX.noB_ok (c.fact 2 21)) (z_all := HX.noB_ok (c.fact 2 22)) (z_bool := HX.noB_ok (c.fact 2 23)) (z_divmod := HX.noB_ok (c.fact 2 24)) (z_enumerate := HX.noB_ok (c.fact 2 25)) (z_int := HX.noB_ok (c.fact 2 26)) (z_isinstance := HX.noB_ok (c.fact 2 27)) (z_len := HX.noB_ok (c.fact 2 28)) (z_list := HX.noB_ok (c.fact 2 29)) (z_max := HX.noB_ok (c.fact 3 0)) (z_min := HX.noB_ok (c.fact 3 1)) (z_range := HX.noB_ok (c.fact 3 2)) (z_set := HX.noB_ok (c.fact 3 3)) (z_sorted := HX.noB_ok (c.fact 3 4)) (z_str := HX.noB_ok (c.fact 3 5)) (z_sum := HX.noB_ok (c.fact 3 6)) (z_tuple := HX.noB_ok (c.fact 3 7)) (e25 := e25) (e26 := e26) (e33 := e33) (e38 := e38) (e39 := e39) (e55 := e55) (e56 := e56) (e57 := e57) (a2 := HX.refB_ok (c.fact 3 16)) (a3 := HX.refB_ok (c.fact 3 17)) (a4 := HX.refB_ok (c.fact 3 18)) (a5 := HX.refB_ok (c.fact 3 19)) (a6 := HX.refB_ok (c.fact 3 20)) (a7 := HX.refB_ok (c.fact 3 21)) (a8 := HX.refB_ok (c.fact 3 22)) (a9 := HX.refB_ok (c.fact 3 23)) (a10 := HX.refB_ok (c.fact 3 24)) (a11 := HX.refB_ok (c.fact 3 25)) (a12 := HX.refB_ok (c.fact 3 26)) (a13 := HX.refB_ok (c.fact 3 27)) (a14 := HX.refB_ok (c.fact 3 28)) (a15 := HX.refB_ok (c.fact 3 29)) (a16 := HX.refB_ok (c.fact 4 0)) (a17 := HX.refB_ok (c.fact 4 1)) (a18 := HX.refB_ok (c.fact 4 2)) (a19 := HX.refB_ok (c.fact 4 3)) (a20 := HX.refB_ok (c.fact 4 4)) (a34 := HX.refB_ok (c.fact 4 5)) (a58 := HX.refB_ok (c.fact 4 6)) (a59 := HX.refB_ok (c.fact 4 7)) (a64 := HX.refB_ok (c.fact 4 8)) (a68 := HX.refB_ok (c.fact 4 9)) (xx3 := (c.fact 4 10)) (xk3 := (c.fact 4 11)) (xb3 := of_decide_eq_true (c.fact 4 12)) (xt3 := of_decide_eq_true (c.fact 4 13)) (xh3 := (c.fact 4 14)) (pg34 := (c.fact 4 15)) (hd34 := (c.fact 4 16)) (po34 := (c.fact 4 17)) (sa34 := He.eqO_ok (c.fact 4 18)) (mk34 := (c.fact 4 19)) (kc34 := (c.fact 4 20)) (na34_number := HX.noB_ok (c.fact 4 21)) (na34_in_turn := HX.noB_ok (c.fact 4 22)) (pg58 := (c.fact 4 23)) (hd58 := (c.fact 4 24)) (po58 := (c.fact 4 25)) (sa58 := He.eqO_ok (c.fact 4 26)) (mk58 := (c.fact 4 27)) (kc58 := (c.fact 4 28)) (na58_first := HX.noB_ok (c.fact 4 29)) (na58_last := HX.noB_ok (c.fact 5 0)) (na58_many := HX.noB_ok (c.fact 5 1)) (na58_most := HX.noB_ok (c.fact 5 2)) (na58_least := HX.noB_ok (c.fact 5 3)) (na58_coded := HX.noB_ok (c.fact 5 4)) (pg59 := (c.fact 5 5)) (hd59 := (c.fact 5 6)) (po59 := (c.fact 5 7)) (sa59 := He.eqO_ok (c.fact 5 8)) (mk59 := (c.fact 5 9)) (kc59 := (c.fact 5 10)) (na59_word := HX.noB_ok (c.fact 5 11)) (na59_size := HX.noB_ok (c.fact 5 12)) (na59_cut := HX.noB_ok (c.fact 5 13)) (pg68 := (c.fact 5 14)) (hd68 := (c.fact 5 15)) (po68 := (c.fact 5 16)) (sa68 := He.eqO_ok (c.fact 5 17)) (mk68 := (c.fact 5 18)) (kc68 := (c.fact 5 19)) (na68_size := HX.noB_ok (c.fact 5 20)) (na68_slot_numbers := HX.noB_ok (c.fact 5 21)) (na68_slot_lengths := HX.noB_ok (c.fact 5 22)) (na68_rows := HX.noB_ok (c.fact 5 23)) (a85 := HX.refB_ok (c.fact 5 24)) (i85 := (c.fact 5 25)) (l85 := l85) (c85 := c85) (k85 := (c.fact 5 26)) (dt85 := dt85) (a86 := HX.refB_ok (c.fact 5 28)) (i86 := (c.fact 5 29)) (l86 := l86) (c86 := c86) (k86 := (c.fact 6 0)) (a87 := HX.refB_ok (c.fact 6 1)) (i87 := (c.fact 6 2)) (l87 := l87) (c87 := c87) (k87 := (c.fact 6 3)) (a88 := HX.refB_ok (c.fact 6 4)) (i88 := (c.fact 6 5)) (l88 := l88) (c88 := c88) (k88 := (c.fact 6 6)) (a89 := HX.refB_ok (c.fact 6 7)) (i89 := (c.fact 6 8)) (l89 := l89) (c89 := c89) (k89 := (c.fact 6 9)) (a90 := HX.refB_ok (c.fact 6 10)) (i90 := (c.fact 6 11)) (l90 := l90) (c90 := c90) (k90 := (c.fact 6 12)) (a91 := HX.refB_ok (c.fact 6 13)) (i91 := (c.fact 6 14)) (l91 := l91) (c91 := c91) (k91 := (c.fact 6 15)) (dk91_0 := dk91_0) (a92 := HX.refB_ok (c.fact 6 17)) (i92 := (c.fact 6 18)) (l92 := l92) (c92 := c92) (k92 := (c.fact 6 19)) (a93 := HX.refB_ok (c.fact 6 20)) (i93 := (c.fact 6 21)) (l93 := l93) (c93 := c93) (k93 := (c.fact 6 22)) (a94 := HX.refB_ok (c.fact 6 23)) (i94 := (c.fact 6 24)) (l94 := l94) (c94 := c94) (k94 := (c.fact 6 25)) (a95 := HX.refB_ok (c.fact 6 26)) (i95 := (c.fact 6 27)) (l95 := l95) (c95 := c95) (k95 := (c.fact 6 28)) (dk95_0 := dk95_0) (a96 := HX.refB_ok (c.fact 7 0)) (i96 := (c.fact 7 1)) (l96 := l96) (c96 := c96) (k96 := (c.fact 7 2)) (a97 := HX.refB_ok (c.fact 7 3)) (i97 := (c.fact 7 4)) (l97 := l97) (c97 := c97) (k97 := (c.fact 7 5)) (a98 := HX.refB_ok (c.fact 7 6)) (i98 := (c.fact 7 7)) (l98 := l98) (c98 := c98) (k98 := (c.fact 7 8)) (a99 := HX.refB_ok (c.fact 7 9)) (i99 := (c.fact 7 10)) (l99 := l99) (c99 := c99) (k99 := (c.fact 7 11)) (a100 := HX.refB_ok (c.fact 7 12)) (i100 := (c.fact 7 13)) (l100 := l100) (c100 := c100) (k100 := (c.fact 7 14)) (a101 := HX.refB_ok (c.fact 7 15)) (i101 := (c.fact 7 16)) (l101 := l101) (c101 := c101) (k101 := (c.fact 7 17)) (ff_cs := of_decide_eq_true (c.fact 7 18)) (ff_ct := of_decide_eq_true (c.fact 7 19)) (ff_ciB := of_decide_eq_true (c.fact 7 20)) (ff_moB := of_decide_eq_true (c.fact 7 21)) (ff_neB := of_decide_eq_true (c.fact 7 22)) (ff_kB := of_decide_eq_true (c.fact 7 23)) (ff_ciR := of_decide_eq_true (c.fact 7 24)) (ff_moR := of_decide_eq_true (c.fact 7 25)) (ff_neR := of_decide_eq_true (c.fact 7 26)) (ff_kR := of_decide_eq_true (c.fact 7 27)) (ff_kRB := of_decide_eq_true (c.fact 7 28)) (ff_ktB := of_decide_eq_true (c.fact 7 29)) (ff_nfRB := (c.fact 8 0)) (ff_kNoneType := of_decide_eq_true (c.fact 8 1)) (ff_kint := of_decide_eq_true (c.fact 8 2)) (ff_kstr := of_decide_eq_true (c.fact 8 3)) (ff_ktuple := of_decide_eq_true (c.fact 8 4)) (ff_klist := of_decide_eq_true (c.fact 8 5)) (ff_kbool := of_decide_eq_true (c.fact 8 6)) (ff_ciP := of_decide_eq_true (c.fact 8 7)) (ff_moP := of_decide_eq_true (c.fact 8 8)) (ff_kp := of_decide_eq_true (c.fact 8 9)) (tb95 := (c.empty 801 (by decide))) (tn95 := (c.out 801 (by decide))) (th95 := (c.fact 8 10)) (tb83 := (c.empty 959 (by decide))) (tn83 := (c.out 959 (by decide))) (th83 := (c.fact 8 11)) (pne := (by decide))
end K27
open PySem PySem.W PySem.Calls PyProof.Rows
set_option maxHeartbeats 0 in
theorem PySem.Challenge.cw_blocksearch_k27_segments_told_holds : PySem.Challenge.rw_blocksearch_k27_segments_told.Holds := by
  w_on; o_law
  refine HandSHeadRun.head_any (r := OpenLaw.row PySem.Challenge.rw_blocksearch_k27_segments_told) (q := view (OpenLaw.row PySem.Challenge.rw_blocksearch_k27_segments_told).prog [84]) (H := K27.hk) (ob := K27.hob) (M := 17168) (loose := K27.hloose) (d := HandSHeadRun.topDef (OpenLaw.row PySem.Challenge.rw_blocksearch_k27_segments_told).prog 84) (kwd := []) K27.hob_eq (by kernel_rfl) (fun s => by kernel_rfl) K27.hrun (by kernel_rfl) (by kernel_rfl) (by kernel_rfl) (by rfl) (by first | assumption | decide +kernel) (by decide +kernel) ⟨rfl, rfl, rfl, rfl, rfl, by decide +kernel⟩ ?hw ?hc
  case hw => w_witness2
  case hc =>
    refine LamX.walk_ofTsE (l := PySem.Challenge.rw_blocksearch_k27_segments_told) (n := 63) (k := 16) (x := "_law_script") (CX := fun _ => L2.CX0) rfl (by decide) (by kernel_rfl) ⟨rfl, by decide, by decide⟩ ?F (fun _ _ _ _ _ z => z)
    intro w mg fa h Y G hmg0
    obtain ⟨K, KX, c⟩ := Y
    have hmg : mg ("law" : PySem.Str) = some (.ref fa) := by
      have e : (HandSHeadRun.topDef (OpenLaw.row PySem.Challenge.rw_blocksearch_k27_segments_told).prog 84).name = ("law" : PySem.Str) := by kernel_rfl
      rw [← e]
      exact hmg0
    exact ⟨K, KX, K27.hmk KX G hmg c⟩

