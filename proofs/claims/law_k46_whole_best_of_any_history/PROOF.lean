import PyProof.Rows.All
import Wide.All
import OpenK.AllK
import Wide.FinOn
import HandS.ForMost
import HandS.Defaults
import HandS.IsInst
import HandS.Walk
import HandS.Evl
import HandS.More
import HandS.Wide
import HandS.MakeKw
import HandS.Codes
import HandS.Style
import HandS.OwnEq
import HandS.Star
import HandS.Zip
import HandS.Walk
import HandS.Deep
import HandS.Remove
import KE.DataFind
import KE.KCallOwn
import PySem.Challenge.RW_blocksearch_k46_whole_best_of_any_histor
set_option Elab.async false
set_option linter.all false
set_option maxRecDepth 100000
/-! words of my own: the drawn pool, heaps that grow beside it, small facts -/
namespace My
open PySem PySem.Spec PyProof.Rows L2 Evl

/-- the pool at p: three ints, at most c draws mixed so far -/
def Pl (H : Hp) (p : Addr) (c : Nat) : Prop := ∃ (g b : Int) (k : Nat), H p = some (.lst [.int g, .int b, .int (k : Int)]) ∧ 0 ≤ g ∧ 0 ≤ b ∧ b < 1237940039285380274899124224 ∧ k ≤ c
/-- all but p stays -/
def Fx (p : Addr) (H H' : Hp) : Prop := ∀ a o, a ≠ p → H a = some o → H' a = some o
theorem Fx.refl (p : Addr) (H : Hp) : Fx p H H := fun _ _ _ h => h
theorem Fx.trans {p : Addr} {H H1 H2 : Hp} (a : Fx p H H1) (b : Fx p H1 H2) : Fx p H H2 := fun x o n h => b x o n (a x o n h)
theorem Fx.ex {p : Addr} {H H' : Hp} (e : Ex H H') : Fx p H H' := fun a o _ h => e a o h
theorem Fx.upd {p : Addr} {H : Hp} {o : HO} : Fx p H (L2.upd H p o) := fun a u n h => by
  rw [upd_ne n]
  exact h
theorem Pl.mono {H : Hp} {p : Addr} {c c' : Nat} (h : Pl H p c) (l : c ≤ c') : Pl H p c' := by
  obtain ⟨g, b, k, h1, h2, h3, h4, h5⟩ := h
  exact ⟨g, b, k, h1, h2, h3, h4, Nat.le_trans h5 l⟩
theorem Pl.ex {H H' : Hp} {p : Addr} {c : Nat} (h : Pl H p c) (e : Ex H H') : Pl H' p c := by
  obtain ⟨g, b, k, h1, h2⟩ := h
  exact ⟨g, b, k, e _ _ h1, h2⟩
theorem Pl.some {H : Hp} {p : Addr} {c : Nat} (h : Pl H p c) : ∃ xs, H p = some (.lst xs) := by
  obtain ⟨g, b, k, h1, _⟩ := h
  exact ⟨_, h1⟩
/-- what is free behind was free ahead -/
theorem fx_free {p a : Addr} {H H' : Hp} {c : Nat} (f : Fx p H H') (h : Pl H' p c) (e : H' a = none) : H a = none := by
  cases q : H a with
  | none => rfl
  | some o =>
    have n : a ≠ p := fun z => by
      obtain ⟨xs, hx⟩ := h.some
      rw [z, hx] at e
      cases e
    rw [f a o n q] at e
    cases e
/-- a tuple is not the pool -/
theorem Fx.tup {p a : Addr} {H H' : Hp} {xs : List V} {c : Nat} (f : Fx p H H') (hp : Pl H p c) (h : H a = some (.tup xs)) : H' a = some (.tup xs) := by
  obtain ⟨ys, hy⟩ := hp.some
  exact f a _ (ne_of h hy (by intro z; cases z)) h
theorem Fx.sqt {K : PySem.W.Frag} {p a : Addr} {H H' : Hp} {xs : List V} {c : Nat} (f : Fx p H H') (hp : Pl H p c) (h : SqT K H a xs) : SqT K H' a xs := by
  obtain ⟨ys, hy⟩ := hp.some
  rcases h with (h | ⟨o, h⟩) | h
  · exact .inl (.inl (f a _ (ne_of h hy (by intro z; cases z)) h))
  · exact .inl (.inr ⟨o, f a _ (ne_of h hy (by intro z; cases z)) h⟩)
  · exact .inr h
theorem Fx.lst {p a : Addr} {H H' : Hp} {xs : List V} (f : Fx p H H') (n : a ≠ p) (h : H a = some (.lst xs)) : H' a = some (.lst xs) := f a _ n h
theorem ex_upd {H : Hp} {p : Addr} {o : HO} (h : H p = none) : Ex H (L2.upd H p o) := Ex.new h
theorem ret_v {v : V} {H : Hp} {Q : VK} (q : RetV v H Q) : Q v H := q H (Ex.refl H)
theorem sz {n : Nat} (h : n ≤ 100000) : n ≤ sizeLine := sz_of h
theorem natAbs_lt {z : Int} {n : Nat} (h0 : 0 ≤ z) (h : z < (n : Int)) : z.natAbs < n := by omega
/-- a * b ≤ A * B -/
theorem mul_le {a b A B : Int} (h0 : 0 ≤ a) (h1 : a ≤ A) (h2 : 0 ≤ b) (h3 : b ≤ B) : a * b ≤ A * B := Int.mul_le_mul h1 h3 h2 (Int.le_trans h0 h1)
theorem mul_nn {a b : Int} (h0 : 0 ≤ a) (h1 : 0 ≤ b) : 0 ≤ a * b := Int.mul_nonneg h0 h1
/-! the rules with the written part said, for blocks of comprehensions -/
section
variable {X : Cx} {K : PySem.W.Frag}
theorem lenK (h : X.K = K) : CallR X (.builtin "len") (rLenS K) := by subst h; exact call_len_seq
theorem listK (h : X.K = K) : CallR X (.type "list") (rListS K) := by subst h; exact call_list_of
def rTupS (K : PySem.W.Frag) : List V → Hp → VK → Prop := fun xs H Q => ∃ p ys, xs = [.ref p] ∧ ((SqL K H p ys ∧ ∀ l, H l = none → Q (.ref l) (L2.upd H l (.tup ys))) ∨ (SqT K H p ys ∧ Q (.ref p) H))
theorem tupK (h : X.K = K) : CallR X (.type "tuple") (rTupS K) := by subst h; exact call_tuple_of
theorem ixLK (h : X.K = K) : IxR X (rIxL K) := by subst h; exact ix_list
theorem ixTK (h : X.K = K) : IxR X (rIxT K) := by subst h; exact ix_tup
theorem slLK (h : X.K = K) : SlR X (rSlL K) := by subst h; exact sl_list
theorem slTK (h : X.K = K) : SlR X (rSlT K) := by subst h; exact sl_tup
theorem catTK (h : X.K = K) : OpR X (binaryOp .Add) (rCatT K) := by subst h; exact op_catT
theorem inK (h : X.K = K) : OpR X (compareOp .In) (rIn K false) := by subst h; exact op_in_seq
theorem notInK (h : X.K = K) : OpR X (compareOp .NotIn) (rIn K true) := by subst h; exact op_notIn_seq
theorem isiK (h : X.K = K) : CallR X (.builtin "isinstance") (rIsi K) := by subst h; exact call_isi
theorem isiTK (h : X.K = K) : CallR X (.builtin "isinstance") (rIsiT K) := by subst h; exact call_isiT
theorem allK (h : X.K = K) (hc : X.calm = true) : CallR X (.builtin "all") (rAll K) := by subst h; exact cr_all hc
theorem anyK (h : X.K = K) (hc : X.calm = true) : CallR X (.builtin "any") (rAny K) := by subst h; exact cr_any hc
theorem sumK (h : X.K = K) (hc : X.calm = true) : CallR X (.builtin "sum") (rSum K) := by subst h; exact cr_sum hc
theorem maxK (h : X.K = K) (hc : X.calm = true) : CallR X (.builtin "max") (rMax K) := by subst h; exact cr_max hc
theorem minK (h : X.K = K) (hc : X.calm = true) : CallR X (.builtin "min") (rMin K) := by subst h; exact cr_min hc
theorem fldK {e : Expr} {f : Str} {pos : Pos} {ta : TE} (h : X.K = K) (he : PE X e ta) (hb : attributeBase e f X.env (eval e X.env) = eval e X.env) : PE X (.Attribute e f pos) (tFld K ta f) := by subst h; exact pe_fld he hb
theorem tupGK {es : List Expr} {k : Nat} {t : TGs} {n : Nat} {pos : Pos} (h : X.K = K) (hc : X.calm = true) (hg : PGs X es t) (hn : (assignEach es X.env).length = n := by rfl) (hst : (assignEach es X.env).findIdx? (·.1) = none := by rfl) : PG X (.Tuple es k pos) (gTup K n t) := by subst h; exact pg_tup hc hg hn hst
theorem eqDK (h : X.K = K) (hu : X.A.units + 64 < cLine) : OpR X (compareOp .Eq) (rEqD K) := by subst h; exact op_eqD hu
theorem neDK (h : X.K = K) (hu : X.A.units + 64 < cLine) : OpR X (compareOp .NotEq) (rNeD K) := by subst h; exact op_neD hu
theorem indexK (h : X.K = K) : MtR X "list.index" (rIndex K) := by subst h; exact mt_index
theorem piOr {tg e : Expr} {w1 w2 : TI} (h1 : PI X tg e w1) (h2 : PI X tg e w2) : PI X tg e (fun σ H R => w1 σ H R ∨ w2 σ H R) := ⟨fun pins s σ H R I h => h.elim (fun h => h1.run pins s σ H R I h) (fun h => h2.run pins s σ H R I h)⟩
theorem piLK {tg l : Expr} {tl : TE} (h : X.K = K) (hl : PE X l tl) : PI X tg l (iList K tl) := by subst h; exact pi_list hl
theorem piTK {tg l : Expr} {tl : TE} (h : X.K = K) (hl : PE X l tl) : PI X tg l (iTup K tl) := by subst h; exact pi_tup hl
end
end My
/-! ==, !=, len, str, repr of an instance of the program's own class, by its own def -/
namespace Own
open PySem PySem.Spec PyProof.Rows L2
section
variable {X : Cx} {K : PySem.W.Frag} {pins : List (Addr × Obj)} {s : Shared} {σ : L2.St} {H : Hp} {CX : CXT} {C f : Addr} {fd : FuncData} {ps : List Str} {sp : Sp} {E : XK} {n : Nat}
/-- the def at f is run on us, somewhere below the running body -/
theorem run_own {A : Around} {vs : List V} {us : List Value} {Q : VK} (F : FnOk X.prog X.w X.K X.mg X.base CX n f fd ps sp) (hb : Binds X.K fd ps []) (hx : Passes CX X E) (sb : Sub X n A) (I : Inv X pins σ H s) (r : Vals vs us) (h : sp vs H Q E) :
    wpAny (model X.prog X.w) A (call (.ref f) us) (EP X pins σ Q) X.xe s := by
  have e0 : Env0 X.prog X.w X.K X.mg X.base A X.stack s H := by
    have e := I.env0
    exact ⟨by rw [sb.fr]; exact e.frames, e.mod, e.bs, e.bsz, e.funs, e.frf, e.hok, e.bare⟩
  have hl := F.len _ _ _ _ h
  have hl2 := r.length
  refine wpAny_call (codeAny_mono (F.run A X.stack s H ⟨us, []⟩ us vs _ E sb.room e0 (by
    have z := hb s us I.kIn (by simp; omega)
    simpa using z) r h) fun q s' hq => ?_)
  cases q with
  | error e => exact hx pins σ H s e s' I hq
  | ok fl =>
    cases fl with
    | ret w => exact I.after hq
    | next => exact False.elim hq
    | brk => exact False.elim hq
    | cont => exact False.elim hq
/-- len(o) -/
def rLenO (C : Addr) (sp : Sp) (E : XK) : List V → Hp → VK → Prop := fun xs H Q => ∃ a dx fs, xs = [.ref a] ∧ H a = some (.ins C dx fs) ∧ sp [.ref a] H (fun v H' => ∃ i : Int, v = .int i ∧ (0 ≤ i ∧ i < 2 ^ 63) ∧ Q (.int i) H') E
theorem cr_lenO (F : FnOk X.prog X.w X.K X.mg X.base CX n f fd ps sp) (m : Meth X.K C "__len__" f) (hb : Binds X.K fd ps []) (hx : Passes CX X E) (hr : Room (n + 1) X.A) : CallR X (.builtin "len") (rLenO C sp E) := by
  intro pins s σ H xs us Q I r h
  obtain ⟨a, dx, fs, rfl, ha, h⟩ := h
  cases r with
  | cons r1 rr =>
    cases rr
    cases r1
    obtain ⟨mA, J, _⟩ := ins_get I.hok ha
    obtain ⟨od, J, _⟩ := J.look
    obtain ⟨mm, hF⟩ := I.fr
    refine PySem.W.len_K hF I.ok.mod.kin J m.at_ m.fn (wpAny_mono (run_own F hb hx ⟨hr.in1, rfl⟩ I (vs := [.ref a]) (.cons rfl .nil) h) (fun v s' q => ?_) fun _ _ z => z)
    obtain ⟨z, H', I', rz, i, rfl, hi, q⟩ := q
    obtain ⟨t, rfl⟩ := rz
    exact ⟨hi, .int i, H', I'.tok _, ⟨_, rfl⟩, q⟩
/-- repr(o), str(o) -/
def rStrO (C : Addr) (sp : Sp) (E : XK) : List V → Hp → VK → Prop := fun xs H Q => ∃ a dx fs, xs = [.ref a] ∧ H a = some (.ins C dx fs) ∧ sp [.ref a] H (fun v H' => ∃ z : Str, v = .str z ∧ Q (.str z) H') E
theorem cr_reprO (F : FnOk X.prog X.w X.K X.mg X.base CX n f fd ps sp) (m : Meth X.K C "__repr__" f) (hb : Binds X.K fd ps []) (hx : Passes CX X E) (hr : Room (n + 1) X.A) : CallR X (.builtin "repr") (rStrO C sp E) := by
  intro pins s σ H xs us Q I r h
  obtain ⟨a, dx, fs, rfl, ha, h⟩ := h
  cases r with
  | cons r1 rr =>
    cases rr
    cases r1
    obtain ⟨mA, J, _⟩ := ins_get I.hok ha
    obtain ⟨od, J, _⟩ := J.look
    obtain ⟨mm, hF⟩ := I.fr
    refine PySem.W.repr_K hr.in1.units0 hF I.ok.mod.kin J m.at_ m.fn (wpAny_mono (run_own F hb hx ⟨hr.in1, rfl⟩ I (vs := [.ref a]) (.cons rfl .nil) h) (fun v s' q => ?_) fun _ _ z => z)
    obtain ⟨z, H', I', rz, y, rfl, q⟩ := q
    obtain ⟨t, rfl⟩ := rz
    exact ⟨.str y, H', I', ⟨_, rfl⟩, q⟩
theorem cr_strO (F : FnOk X.prog X.w X.K X.mg X.base CX n f fd ps sp) (m : Meth X.K C "__str__" f) (hb : Binds X.K fd ps []) (hx : Passes CX X E) (hr : Room (n + 2) X.A) : CallR X (.type "str") (rStrO C sp E) := by
  intro pins s σ H xs us Q I r h
  obtain ⟨a, dx, fs, rfl, ha, h⟩ := h
  cases r with
  | cons r1 rr =>
    cases rr
    cases r1
    obtain ⟨mA, J, _⟩ := ins_get I.hok ha
    obtain ⟨od, J, _⟩ := J.look
    refine PySem.W.kso_call hr.in1.in1.units0 I.kIn J m.at_ m.fn (wpAny_mono (run_own F hb hx ⟨hr.in1.in1, rfl⟩ I (vs := [.ref a]) (.cons rfl .nil) h) (fun v s' q => ?_) fun _ _ z => z)
    obtain ⟨z, H', I', rz, y, rfl, q⟩ := q
    obtain ⟨t, rfl⟩ := rz
    exact ⟨.str y, H', I', ⟨_, rfl⟩, q⟩
/-- x == y by x's own def: y is an instance of the same class, or of a type that doesn't go first -/
def OthK (K : PySem.W.Frag) (C : Addr) (H : Hp) (y : V) : Prop := (∃ b dy gs, y = .ref b ∧ H b = some (.ins C dy gs)) ∨ ∃ T, TyX K H y (.type T) ∧ PySem.W.notFirst K C (.type T) = true
def rEqO (K : PySem.W.Frag) (C : Addr) (sp : Sp) (E : XK) : R2 := fun x y H Q => ∃ a dx fs, x = .ref a ∧ H a = some (.ins C dx fs) ∧ OthK K C H y ∧ sp [x, y] H (fun v H' => ∃ b : Bool, v = .bl b ∧ Q (.bl b) H') E
theorem oth_looks {y : V} {u : Value} (I : Inv X pins σ H s) (ry : RelV y u) (h : OthK X.K C H y) : ∃ tb, PySem.W.Looks (model X.prog X.w) s.heap (typeOf u) tb ∧ PySem.W.notFirst X.K C tb = true := by
  rcases h with ⟨b, dy, gs, rfl, hb⟩ | ⟨T, ty, nf⟩
  · cases ry
    obtain ⟨mB, J, _⟩ := ins_get I.hok hb
    obtain ⟨od, J, _⟩ := J.look
    exact ⟨_, J.type, by simp [PySem.W.notFirst]⟩
  · obtain ⟨P, Z, p, _⟩ := kit_of I ry ty
    exact ⟨_, Z.ty _ _ I.kIn p, nf⟩
theorem op_eqO (F : FnOk X.prog X.w X.K X.mg X.base CX n f fd ps sp) (m : Meth X.K C "__eq__" f) (hb : Binds X.K fd ps []) (hx : Passes CX X E) (hr : Room n X.A) (hK : X.K = K) : OpR X (compareOp .Eq) (rEqO K C sp E) := by
  subst hK
  intro pins s σ H x y v u Q I rx ry h
  obtain ⟨a, dx, fs, rfl, ha, ho, h⟩ := h
  cases rx
  obtain ⟨mA, J, _⟩ := ins_get I.hok ha
  obtain ⟨od, J, _⟩ := J.look
  obtain ⟨mm, hF⟩ := I.fr
  obtain ⟨tb, ht, hn⟩ := oth_looks I ry ho
  show wpAny (model X.prog X.w) X.A (richCompare .Eq (.ref a) u) (EP X pins σ Q) X.xe s
  refine PySem.W.cmp_K (op := .Eq) hr.units0 hF I.ok.mod.kin J ht hn m.at_ m.fn (wpAny_mono (run_own F hb hx ⟨hr, rfl⟩ I (vs := [.ref a, y]) (.cons rfl (.cons ry .nil)) h) (fun v s' q => ?_) fun _ _ z => z)
  obtain ⟨z, H', I', rz, b, rfl, q⟩ := q
  cases rz
  exact ⟨.bl b, H', I', rfl, q⟩
section
variable {M : Model} {prog : Program} {w : World} {A : Around} {E : Value → Shared → Prop} {s : Shared} {x : Addr} {ox : Obj} {od : Option Obj}
theorem ifBound_ne {args : List Value} {Q : Option Value → Shared → Prop} (Z : K.In s.heap) (I : PySem.W.InstAt s.heap x ox C od) (hs : PySem.W.findIn K (.ref C) "__ne__" = some (some (.builtin "object.__ne__")))
    (h : wpAny M A (call (.builtin "object.__ne__") (.ref x :: args)) (fun v => Q (some v)) E s) : wpAny M A (callSpecialIfBound? (.ref x) "__ne__" args) Q E s := by
  have fin : wpAny M A (call (.builtin "object.__ne__") ([.ref x] ++ args) >>= fun v => pure (some v)) Q E s := wpAny_bind (wpAny_mono h (fun v s' z => wpAny_pure z) fun _ _ z => z)
  simp only [callSpecialIfBound?, bindSpecialIfBound?]
  refine wpAny_holding (wpAny_bind (wpAny_bind (wpAny_bind (I.type.here ((PySem.W.looks_findIn Z hs).here (wpAny_bind (wpAny_askSetting (wpAny_ite ?_))))))))
  split
  · exact wpAny_bind (wpAny_of_eq (F.cmp_object.ne.bind _) (wpAny_pure fin))
  · exact wpAny_tryCatch (wpAny_bind (wpAny_of_eq (F.cmp_object.ne.bind _) (wpAny_pure fin)))
theorem call_ne {u : Value} {f : Addr} {Q : Value → Shared → Prop} (hu : A.in1.units < cLine) (Z : K.In s.heap) (I : PySem.W.InstAt s.heap x ox C od) (hm : PySem.W.mroIn K C (.type "object") = some true) (hs : PySem.W.findIn K (.ref C) "__eq__" = some (some (.ref f))) (hf : PySem.W.isFn K (.ref f) = true)
    (h : wpAny (model prog w) A.in1 (call (.ref f) [.ref x, u]) (fun v s' => ∃ b, v = .bool b ∧ Q (.bool (!b)) s') E s) : wpAny (model prog w) A (call (.builtin "object.__ne__") [.ref x, u]) Q E s := by
  refine wpAny_call (codeAny_call_builtin F.cmp_object.ne.plain F.cmpEntry_ne (PySem.W.check_slot F.cmpKind_ne F.cmpSplit_ne (I.type.andThen (PySem.W.looks_mroIn Z hm)) (F.cmpArgs_ne _ _) ?_))
  unfold Builtin.«object.__ne__»
  refine wpAny_bind (m := slotArgs "__ne__" 1 _) (wpAny_pure ?_)
  refine wpAny_bind (wpAny_cRoomFor hu ?_)
  refine wpAny_bind (m := callSpecialIfBound? (.ref x) (Str.ofString "__eq__") _) (PySem.W.ifBound_K Z I hs hf (wpAny_mono h (fun v s' z => ?_) fun _ _ z => z))
  obtain ⟨b, rfl, q⟩ := z
  exact wpAny_bind (wpAny_truthy_bool (wpAny_pure q))
end
/-- x != y by x's own == -/
def rNeO (K : PySem.W.Frag) (C : Addr) (sp : Sp) (E : XK) : R2 := fun x y H Q => ∃ a dx fs, x = .ref a ∧ H a = some (.ins C dx fs) ∧ OthK K C H y ∧ sp [x, y] H (fun v H' => ∃ b : Bool, v = .bl b ∧ Q (.bl (!b)) H') E
theorem op_neO (F : FnOk X.prog X.w X.K X.mg X.base CX n f fd ps sp) (m : Meth X.K C "__eq__" f) (hb : Binds X.K fd ps []) (hx : Passes CX X E) (hr : Room (n + 1) X.A) (hne : PySem.W.findIn X.K (.ref C) "__ne__" = some (some (.builtin "object.__ne__"))) (hm : PySem.W.mroIn X.K C (.type "object") = some true) (hK : X.K = K) : OpR X (compareOp .NotEq) (rNeO K C sp E) := by
  subst hK
  intro pins s σ H x y v u Q I rx ry h
  obtain ⟨a, dx, fs, rfl, ha, ho, h⟩ := h
  cases rx
  obtain ⟨mA, J, _⟩ := ins_get I.hok ha
  obtain ⟨od, J, _⟩ := J.look
  obtain ⟨tb, ht, hn⟩ := oth_looks I ry ho
  have one : wpAny (model X.prog X.w) X.A (tryCompare (.ref a) "__ne__" u) (fun r s' => ∃ v, r = some v ∧ EP X pins σ Q v s') X.xe s := by
    unfold tryCompare
    refine wpAny_bind (ifBound_ne I.kIn J hne (call_ne hr.in1.units0 I.kIn J hm m.at_ m.fn (wpAny_mono (run_own F hb hx ⟨hr.in1, rfl⟩ I (vs := [.ref a, y]) (.cons rfl (.cons ry .nil)) h) (fun v s' q => ?_) fun _ _ z => z)))
    obtain ⟨z, H', I', rz, b, rfl, q⟩ := q
    cases rz
    exact ⟨b, rfl, wpAny_pure ⟨_, rfl, .bl (!b), H', I', rfl, q⟩⟩
  show wpAny (model X.prog X.w) X.A (richCompare .NotEq (.ref a) u) (EP X pins σ Q) X.xe s
  unfold richCompare
  simp only [oneThing_ref]
  refine wpAny_holding (wpAny_bind (wpAny_cRoomFor hr.units0 (wpAny_bind (J.type.here (wpAny_bind (ht.here ?_))))))
  split
  · rename_i q
    have e : PySem.W.subIn X.K tb (.ref C) = some false := by
      rcases Bool.or_eq_true_iff.mp hn with e | e
      · rw [beq_iff_eq.mp e] at q; simp at q
      · exact beq_iff_eq.mp e
    refine wpAny_bind ((PySem.W.looks_subIn I.kIn e).here ?_)
    simp only [Bool.false_eq_true, if_false]
    refine wpAny_bind (wpAny_mono one (fun r s' z => ?_) fun _ _ e => e)
    obtain ⟨v, rfl, hq⟩ := z
    exact wpAny_pure hq
  · refine wpAny_bind (wpAny_pure ?_)
    simp only [Bool.false_eq_true, if_false]
    refine wpAny_bind (wpAny_mono one (fun r s' z => ?_) fun _ _ e => e)
    obtain ⟨v, rfl, hq⟩ := z
    exact wpAny_pure hq
/-- a built-in type doesn't go first -/
theorem nf {T : String} {ts : List Value} (e : fastBuiltinMro T = some ts) (h : ts.all (fun t => match t with | .type _ => true | _ => false) = true) : PySem.W.notFirst K C (.type T) = true := by
  have z : PySem.W.subIn K (.type T) (.ref C) = some false := by
    show (fastBuiltinMro T).map (·.contains (.ref C)) = some false
    rw [e]
    refine congrArg some (Bool.eq_false_iff.mpr fun q => ?_)
    have := List.all_eq_true.mp h _ (List.contains_iff_mem.mp q)
    exact absurd this (by simp)
  unfold PySem.W.notFirst
  rw [z]
  simp
end
end Own
/-! l.remove(x), the items data of any depth -/
namespace RemD
open PySem PySem.Spec PyProof.Rows L2
def rRemD (K : PySem.W.Frag) : V → List V → Hp → VK → Prop := fun x xs H Q => ∃ (a : Addr) (y : V) (d : PyData) (vs : List V) (ds : List PyData) (j : Nat) (z : PyData), x = V.ref a ∧ xs = [y] ∧ H a = some (.lst vs) ∧ DpAll K H vs ds ∧ Dp K H y d ∧
  SeqAt.shaped (.list ds) = true ∧ SeqAt.shaped d = true ∧ ds[j]? = some z ∧ PyData.eqv z d = true ∧ (∀ (m : Nat) (z' : PyData), m < j → ds[m]? = some z' → PyData.eqv z' d = false) ∧ Q .non (upd H a (.lst (vs.eraseIdx j)))
set_option maxHeartbeats 2000000 in
theorem mt_removeD {X : Cx} {K : PySem.W.Frag} (hK : X.K = K) (hu : X.A.units + 65 < cLine) : MtR X "list.remove" (rRemD K) := by
  subst hK
  intro pins s σ H x xs v us Q I rx rxs h
  obtain ⟨a, y, d, vs, ds, j, z, rfl, rfl, hl, ha, hy, sl, sd, hz, hzj, hno, q⟩ := h
  cases rx
  cases rxs with
  | cons ry rt =>
    rename_i uy ut; cases rt
    obtain ⟨bs, r1⟩ := Dp.reads I d y uy hy ry
    have cl : PyData.canLayAll0 ds = true := SeqAt.canLay_of_shaped sl
    have rm : X.A.units + 1 + min (PyData.depthAll ds) d.depth < cLine := room_in_shaped sd hu
    obtain ⟨zz, its, n, r, hlen, e0⟩ := I.lstM hl
    obtain ⟨as, h4⟩ := Dp.readsAll I ds _ its ha r
    have ln : its.length = ds.length := SeqAt.ReadsAll.length ds its as h4
    have mp : its.map (SeqAt.readOf s.heap) = ds := SeqAt.readsAll_map ds its as cl h4
    have jd : j < ds.length := (List.getElem?_eq_some_iff.mp hz).1
    have jl : j < its.toArray.size := by rw [List.size_toArray, ln]; exact jd
    have rd : ∀ (m : Nat) (hm : m < its.toArray.size) (z' : PyData), ds[m]? = some z' → SeqAt.readOf s.heap its.toArray[m] = z' := fun m hm z' hz' => by
      have hm' : m < its.length := by simpa using hm
      rw [← mp, List.getElem?_map, List.getElem?_eq_getElem hm'] at hz'
      simpa using hz'
    refine call_meets PySem.F.slot_list_remove ⟨_, e0, rfl⟩ PySem.F.entry_list_remove (PySem.F.args_list_remove_2 _ _) (SeqAt.list_removeAt a its.toArray n none #[] uy (fun u => PyData.eqv (SeqAt.readOf s.heap u) d) j jl (by show PyData.eqv (SeqAt.readOf s.heap its.toArray[j]) d = true; rw [rd j jl z hz]; exact hzj) (fun m hm mj => ?_) (by rw [List.size_toArray]; omega)) ⟨e0, SeqAt.items_eqAt (vs := its.toArray) (show ReadsAll s.heap its.toArray.toList ds as from h4) r1 cl (SeqAt.canLay_of_shaped sd) rm, ?_⟩
    · have md : m < ds.length := by omega
      show PyData.eqv (SeqAt.readOf s.heap its.toArray[m]) d = false
      rw [rd m hm _ (List.getElem?_eq_getElem md)]
      exact hno m _ mj (List.getElem?_eq_getElem md)
    · have r2 : Vals (vs.eraseIdx j) (its.eraseIdx j) := r.eraseIdx j
      refine ⟨.non, _, I.lset (its' := its.eraseIdx j) (t' := s.toks) hl e0 ?_ r2 ?_, rfl, q⟩
      · show its.toArray.eraseIdxIfInBounds j = (its.eraseIdx j).toArray
        rw [List.eraseIdxIfInBounds_toArray]
      · have := List.length_eraseIdx_le vs j
        omega
end RemD
namespace K46
open PySem PySem.Spec PyProof.Rows L2 Evl My
def topS (i : Nat) : Stmt := PySem.Challenge.pw_blocksearch_k46_whole_best_of_any_histor.main.body.getD i (.Pass ⟨0, 0, 0, 0⟩)
abbrev N_is_whole : List Str := ["thing"]
theorem sc_is_whole : FnScope N_is_whole ["thing"] (defScope (topS 8)) := ⟨rfl, rfl, rfl, by decide +kernel, rfl, by decide +kernel, by decide +kernel⟩
abbrev N_is_within : List Str := ["thing", "least", "most"]
theorem sc_is_within : FnScope N_is_within ["thing", "least", "most"] (defScope (topS 9)) := ⟨rfl, rfl, rfl, by decide +kernel, rfl, by decide +kernel, by decide +kernel⟩
abbrev N_check_page_number : List Str := ["number"]
theorem sc_check_page_number : FnScope N_check_page_number ["number"] (defScope (topS 12)) := ⟨rfl, rfl, rfl, by decide +kernel, rfl, by decide +kernel, by decide +kernel⟩
abbrev N_ratio_of : List Str := ["top", "bottom", "ratio"]
theorem sc_ratio_of : FnScope N_ratio_of ["top", "bottom"] (defScope (topS 18)) := ⟨rfl, rfl, rfl, by decide +kernel, rfl, by decide +kernel, by decide +kernel⟩
abbrev N_lowest : List Str := ["top", "bottom", "divisor", "rest"]
theorem sc_lowest : FnScope N_lowest ["top", "bottom"] (defScope (topS 19)) := ⟨rfl, rfl, rfl, by decide +kernel, rfl, by decide +kernel, by decide +kernel⟩
abbrev N_check_figures : List Str := ["number"]
theorem sc_check_figures : FnScope N_check_figures ["number"] (defScope (topS 20)) := ⟨rfl, rfl, rfl, by decide +kernel, rfl, by decide +kernel, by decide +kernel⟩
abbrev N_is_ahead : List Str := ["number", "ratio", "held", "held_number", "held_ratio"]
theorem sc_is_ahead : FnScope N_is_ahead ["number", "ratio", "held"] (defScope (topS 26)) := ⟨rfl, rfl, rfl, by decide +kernel, rfl, by decide +kernel, by decide +kernel⟩
abbrev N_l_purse : List Str := ["_law_script", "_law_at", "_law_cell", "_law_great"]
theorem sc_l_purse : FnScope N_l_purse ["_law_script", "_law_at"] (defScope (topS 28)) := ⟨rfl, rfl, rfl, by decide +kernel, rfl, by decide +kernel, by decide +kernel⟩
abbrev N_l_take : List Str := ["_law_purse_here", "_law_many", "_law_digit", "_law_one"]
theorem sc_l_take : FnScope N_l_take ["_law_purse_here", "_law_many"] (defScope (topS 29)) := ⟨rfl, rfl, rfl, by decide +kernel, rfl, by decide +kernel, by decide +kernel⟩
abbrev N_l_low : List Str := ["_law_upper", "_law_lower", "_law_one", "_law_other"]
theorem sc_l_low : FnScope N_l_low ["_law_upper", "_law_lower"] (defScope (topS 30)) := ⟨rfl, rfl, rfl, by decide +kernel, rfl, by decide +kernel, by decide +kernel⟩
abbrev N_l_less : List Str := ["_law_one", "_law_other"]
theorem sc_l_less : FnScope N_l_less ["_law_one", "_law_other"] (defScope (topS 31)) := ⟨rfl, rfl, rfl, by decide +kernel, rfl, by decide +kernel, by decide +kernel⟩
abbrev N_l_is_ratio : List Str := ["_law_told", "_law_due", "_law_number"]
theorem sc_l_is_ratio : FnScope N_l_is_ratio ["_law_told", "_law_due"] (defScope (topS 32)) := ⟨rfl, rfl, rfl, by decide +kernel, rfl, by decide +kernel, by decide +kernel⟩
abbrev N_l_best : List Str := ["_law_ranked", "_law_nth", "_law_left", "_law_got", "_law_best_here", "_law_one"]
theorem sc_l_best : FnScope N_l_best ["_law_ranked", "_law_nth"] (defScope (topS 33)) := ⟨rfl, rfl, rfl, by decide +kernel, rfl, by decide +kernel, by decide +kernel⟩
abbrev N_l_is_best : List Str := ["_law_told", "_law_due", "_law_one", "_law_other"]
theorem sc_l_is_best : FnScope N_l_is_best ["_law_told", "_law_due"] (defScope (topS 34)) := ⟨rfl, rfl, rfl, by decide +kernel, rfl, by decide +kernel, by decide +kernel⟩
abbrev N_law : List Str := ["_law_script", "_law_at", "_law_purse_here", "_law_nth", "_law_got", "_law_turn", "_law_number", "_law_pairs", "_law_due", "_law_one", "_law_other", "_law_third", "_law_pair", "_law_turned", "_law_held", "_law_some"]
theorem sc_law : FnScope N_law ["_law_script"] (defScope (topS 35)) := ⟨rfl, rfl, rfl, by decide +kernel, rfl, by decide +kernel, by decide +kernel⟩
abbrev N_Ratio_init : List Str := ["self", "top", "bottom"]
theorem sc_Ratio_init : FnScope N_Ratio_init ["self", "top", "bottom"] (defScope (inClass (topS 17) 0)) := ⟨rfl, rfl, rfl, by decide +kernel, rfl, by decide +kernel, by decide +kernel⟩
abbrev N_Ratio_eq : List Str := ["self", "other"]
theorem sc_Ratio_eq : FnScope N_Ratio_eq ["self", "other"] (defScope (inClass (topS 17) 1)) := ⟨rfl, rfl, rfl, by decide +kernel, rfl, by decide +kernel, by decide +kernel⟩
abbrev N_Ratio_is_less : List Str := ["self", "other"]
theorem sc_Ratio_is_less : FnScope N_Ratio_is_less ["self", "other"] (defScope (inClass (topS 17) 6)) := ⟨rfl, rfl, rfl, by decide +kernel, rfl, by decide +kernel, by decide +kernel⟩
abbrev N_Best_init : List Str := ["self", "k"]
theorem sc_Best_init : FnScope N_Best_init ["self", "k"] (defScope (inClass (topS 25) 0)) := ⟨rfl, rfl, rfl, by decide +kernel, rfl, by decide +kernel, by decide +kernel⟩
abbrev N_Best_eq : List Str := ["self", "other"]
theorem sc_Best_eq : FnScope N_Best_eq ["self", "other"] (defScope (inClass (topS 25) 1)) := ⟨rfl, rfl, rfl, by decide +kernel, rfl, by decide +kernel, by decide +kernel⟩
abbrev N_Best_put : List Str := ["self", "number", "ratio", "at", "one", "held"]
theorem sc_Best_put : FnScope N_Best_put ["self", "number", "ratio"] (defScope (inClass (topS 25) 4)) := ⟨rfl, rfl, rfl, by decide +kernel, rfl, by decide +kernel, by decide +kernel⟩
abbrev N_Best_told : List Str := ["self"]
theorem sc_Best_told : FnScope N_Best_told ["self"] (defScope (inClass (topS 25) 6)) := ⟨rfl, rfl, rfl, by decide +kernel, rfl, by decide +kernel, by decide +kernel⟩
abbrev N_Best_place_for : List Str := ["self", "number", "ratio", "held", "worth", "one"]
theorem sc_Best_place_for : FnScope N_Best_place_for ["self", "number", "ratio"] (defScope (inClass (topS 25) 8)) := ⟨rfl, rfl, rfl, by decide +kernel, rfl, by decide +kernel, by decide +kernel⟩
/-- what the top has left: A the defs' places, FD their data, TK the constants' tokens -/
structure TX (K : PySem.W.Frag) (mg : Str → Option Value) (A : Nat → Addr) (FD : Nat → FuncData) (TK : Nat → Tok) : Prop where
  f_is_whole : Fun K "is_whole" "is_whole" (topS 8) (A 8) (FD 8)
  b_is_whole : Binds K (FD 8) ["thing"] []
  g_is_whole : mg "is_whole" = some (.ref (A 8))
  f_is_within : Fun K "is_within" "is_within" (topS 9) (A 9) (FD 9)
  b_is_within : Binds K (FD 9) ["thing", "least", "most"] []
  g_is_within : mg "is_within" = some (.ref (A 9))
  f_check_page_number : Fun K "check_page_number" "check_page_number" (topS 12) (A 12) (FD 12)
  b_check_page_number : Binds K (FD 12) ["number"] []
  g_check_page_number : mg "check_page_number" = some (.ref (A 12))
  f_ratio_of : Fun K "ratio_of" "ratio_of" (topS 18) (A 18) (FD 18)
  b_ratio_of : Binds K (FD 18) ["top", "bottom"] []
  g_ratio_of : mg "ratio_of" = some (.ref (A 18))
  f_lowest : Fun K "lowest" "lowest" (topS 19) (A 19) (FD 19)
  b_lowest : Binds K (FD 19) ["top", "bottom"] []
  g_lowest : mg "lowest" = some (.ref (A 19))
  f_check_figures : Fun K "check_figures" "check_figures" (topS 20) (A 20) (FD 20)
  b_check_figures : Binds K (FD 20) ["number"] []
  g_check_figures : mg "check_figures" = some (.ref (A 20))
  f_is_ahead : Fun K "is_ahead" "is_ahead" (topS 26) (A 26) (FD 26)
  b_is_ahead : Binds K (FD 26) ["number", "ratio", "held"] []
  g_is_ahead : mg "is_ahead" = some (.ref (A 26))
  f_l_purse : Fun K "_law_purse" "_law_purse" (topS 28) (A 28) (FD 28)
  b_l_purse : Binds K (FD 28) ["_law_script", "_law_at"] []
  g_l_purse : mg "_law_purse" = some (.ref (A 28))
  f_l_take : Fun K "_law_take" "_law_take" (topS 29) (A 29) (FD 29)
  b_l_take : Binds K (FD 29) ["_law_purse_here", "_law_many"] []
  g_l_take : mg "_law_take" = some (.ref (A 29))
  f_l_low : Fun K "_law_low" "_law_low" (topS 30) (A 30) (FD 30)
  b_l_low : Binds K (FD 30) ["_law_upper", "_law_lower"] []
  g_l_low : mg "_law_low" = some (.ref (A 30))
  f_l_less : Fun K "_law_less" "_law_less" (topS 31) (A 31) (FD 31)
  b_l_less : Binds K (FD 31) ["_law_one", "_law_other"] []
  g_l_less : mg "_law_less" = some (.ref (A 31))
  f_l_is_ratio : Fun K "_law_is_ratio" "_law_is_ratio" (topS 32) (A 32) (FD 32)
  b_l_is_ratio : Binds K (FD 32) ["_law_told", "_law_due"] []
  g_l_is_ratio : mg "_law_is_ratio" = some (.ref (A 32))
  f_l_best : Fun K "_law_best" "_law_best" (topS 33) (A 33) (FD 33)
  b_l_best : Binds K (FD 33) ["_law_ranked", "_law_nth"] []
  g_l_best : mg "_law_best" = some (.ref (A 33))
  f_l_is_best : Fun K "_law_is_best" "_law_is_best" (topS 34) (A 34) (FD 34)
  b_l_is_best : Binds K (FD 34) ["_law_told", "_law_due"] []
  g_l_is_best : mg "_law_is_best" = some (.ref (A 34))
  f_law : Fun K "law" "law" (topS 35) (A 35) (FD 35)
  b_law : Binds K (FD 35) ["_law_script"] []
  g_law : mg "law" = some (.ref (A 35))
  m_abs : mg "abs" = none
  m_bool : mg "bool" = none
  m_int : mg "int" = none
  m_isinstance : mg "isinstance" = none
  m_len : mg "len" = none
  m_list : mg "list" = none
  m_max : mg "max" = none
  m_min : mg "min" = none
  m_range : mg "range" = none
  m_tuple : mg "tuple" = none
  m_zip : mg "zip" = none
  c_MOST_NUMBER : mg "MOST_NUMBER" = some (.int 9999 (TK 11))
  c_TOO_GREAT : mg "TOO_GREAT" = some (.int 1000000000000000000000000000000000000000000000000000000000000000000000000000000000000000000000000000000000000000000000000000000000000000000000000000000000000000000000000000000000000000000000000000000000000000000000000000000000000000000000000000000000000000000000000000000000000000000000000000000000000 (TK 14))
  c_FIGURES_AT_ONCE : mg "FIGURES_AT_ONCE" = some (.int 60 (TK 15))
  c_ONE_BEYOND : mg "ONE_BEYOND" = some (.int 1000000000000000000000000000000000000000000000000000000000000 (TK 16))
  c_MANY : mg "MANY" = some (.int 10 (TK 23))
  c_MOST : mg "MOST" = some (.int 200 (TK 24))
  k_Wrong : mg "Wrong" = some (.ref (A 2))
  k_NoNumber : mg "NoNumber" = some (.ref (A 3))
  k_NoSize : mg "NoSize" = some (.ref (A 4))
  k_NoRatio : mg "NoRatio" = some (.ref (A 5))
  k_Held : mg "Held" = some (.ref (A 6))
  k_Ratio : mg "Ratio" = some (.ref (A 17))
  k_Best : mg "Best" = some (.ref (A 25))
  cl_Ratio : Cls K (A 17)
  n_Ratio_top : NoAttr K (A 17) "top"
  n_Ratio_bottom : NoAttr K (A 17) "bottom"
  cl_Best : Cls K (A 25)
  n_Best_k : NoAttr K (A 25) "k"
  n_Best_held : NoAttr K (A 25) "held"
  f_Ratio_init : FunD K "__init__" "Ratio.__init__" (defArgs (inClass (topS 17) 0)) (defBody (inClass (topS 17) 0)) (defScope (inClass (topS 17) 0)) [.int 1] [] (A 36) (FD 36)
  M_Ratio : Mk K (A 17) (A 36)
  f_Ratio_eq : Fun K "__eq__" "Ratio.__eq__" (inClass (topS 17) 1) (A 37) (FD 37)
  b_Ratio_eq : Binds K (FD 37) ["self", "other"] []
  M_Ratio_eq : Meth K (A 17) "__eq__" (A 37)
  f_Ratio_is_less : Fun K "is_less" "Ratio.is_less" (inClass (topS 17) 6) (A 38) (FD 38)
  b_Ratio_is_less : Binds K (FD 38) ["self", "other"] []
  M_Ratio_is_less : Meth K (A 17) "is_less" (A 38)
  f_Best_init : FunD K "__init__" "Best.__init__" (defArgs (inClass (topS 25) 0)) (defBody (inClass (topS 25) 0)) (defScope (inClass (topS 25) 0)) [.int 10] [] (A 39) (FD 39)
  M_Best : Mk K (A 25) (A 39)
  f_Best_eq : Fun K "__eq__" "Best.__eq__" (inClass (topS 25) 1) (A 40) (FD 40)
  b_Best_eq : Binds K (FD 40) ["self", "other"] []
  M_Best_eq : Meth K (A 25) "__eq__" (A 40)
  f_Best_put : Fun K "put" "Best.put" (inClass (topS 25) 4) (A 41) (FD 41)
  b_Best_put : Binds K (FD 41) ["self", "number", "ratio"] []
  M_Best_put : Meth K (A 25) "put" (A 41)
  f_Best_told : Fun K "told" "Best.told" (inClass (topS 25) 6) (A 42) (FD 42)
  b_Best_told : Binds K (FD 42) ["self"] []
  M_Best_told : Meth K (A 25) "told" (A 42)
  f_Best_place_for : Fun K "place_for" "Best.place_for" (inClass (topS 25) 8) (A 43) (FD 43)
  b_Best_place_for : Binds K (FD 43) ["self", "number", "ratio"] []
  M_Best_place_for : Meth K (A 25) "place_for" (A 43)
  ci : PySem.W.findIn K (.ref (A 17)) "__class__" = some (some (.builtin "object.__class__"))
  cs : PySem.W.specialIn K (.builtin "object.__class__") "__get__" = some (some (.builtin "getset_descriptor.__get__"))
  ct : PySem.W.takesIn K (.builtin "object.__class__") = some true
  cm : PySem.W.mroIn K (A 17) (.type "object") = some true
  kr : PySem.W.kitOne K (.ref (A 17)) (.ref (A 17)) = some true
  ciB : PySem.W.findIn K (.ref (A 25)) "__class__" = some (some (.builtin "object.__class__"))
  moB : PySem.W.mroIn K (A 25) (.type "object") = some true
  neB : PySem.W.findIn K (.ref (A 25)) "__ne__" = some (some (.builtin "object.__ne__"))
  kb : PySem.W.kitOne K (.ref (A 25)) (.ref (A 25)) = some true
section
variable {P : Program} {w : World} {K : PySem.W.Frag} {mg : Str → Option Value} {base : Heap} {A : Nat → Addr} {FD : Nat → FuncData} {TK : Nat → Tok}
/-! ### great numbers, fields as targets -/
theorem op_fdivWN {X : Cx} : OpR X (binaryOp .FloorDiv) (rI (fun _ j => j ≠ 0 ∧ j.natAbs.log2 < 9000) fun i j => .int (i.fdiv j)) := opI fun _ _ _ _ _ _ _ hc q => floordiv_int hc.1 q (.inl (PyProof.noPylong_of_log2 hc.2))
theorem op_powW {X : Cx} : OpR X (binaryOp .Pow) (rI (fun i j => 0 ≤ j ∧ j ≤ 1000 ∧ i.natAbs < 2 ^ 10000) fun i j => .int (i ^ j.toNat)) := opI fun i j _ _ _ _ _ hc q => by
  obtain ⟨h1, h2, h3⟩ := hc
  refine pow_int h1 ?_ q
  have hb := PyProof.Rows.intBits_le h3
  have e : (Builtin.Int.intBits i : Int) * j ≤ 10000 * 1000 := Int.mul_le_mul (by omega) h2 h1 (by decide)
  exact Int.le_trans e (by decide)
/-- o.f = .. as a target -/
def gFld (K : PySem.W.Frag) (ta : TE) (f : Str) : TG := fun v σ H Q => ta σ H fun x H2 => ∃ a C dx fs, x = .ref a ∧ H2 a = some (.ins C dx fs) ∧ Cls K C ∧ NoAttr K C f ∧ fs.length < 1000 ∧ Q σ (upd H2 a (.ins C dx (putF f v fs)))
theorem pg_fld {X : Cx} {o : Expr} {ta : TE} {f : Str} {pos : Pos} (ha : PE X o ta) : PG X (.Attribute o f pos) (gFld X.K ta f) := by
  refine ⟨fun pins s σ H v u Q I r h => ?_⟩
  rw [PySem.assign_Attribute]
  refine wpAny_bind (wpAny_holding (thn (ha.run pins s σ H _ I h) fun ov s1 ⟨x, H1, I1, rx, a, C, dx, fs, ex, ea, c, n, l, q⟩ => ?_))
  subst ex
  obtain rfl : ov = Value.ref a := rx
  refine wpAny_bind (wpAny_standAt (wpAny_bind (wpAny_holding (setattr_ok I1 ea c n l r fun s2 I2 => ?_))))
  exact wpAny_release ⟨σ, _, I2, q⟩
theorem lt2 {z : Int} {n m : Nat} (h : z.natAbs < 2 ^ n) (l : n ≤ m) : z.natAbs < 2 ^ m := Nat.lt_of_lt_of_le h (Nat.pow_le_pow_right (by decide) l)
theorem add2 {x y : Int} {n : Nat} (h : x.natAbs < 2 ^ n) (h' : y.natAbs < 2 ^ n) : (x + y).natAbs < 2 ^ (n + 1) := by
  rw [Nat.pow_succ]
  omega
theorem mul2 {x y : Int} {n m : Nat} (h : x.natAbs < 2 ^ n) (h' : y.natAbs < 2 ^ m) : (x * y).natAbs < 2 ^ (n + m) := wide_lt h h'
theorem log9 {z : Int} {n : Nat} (h : z.natAbs < 2 ^ n) (h0 : 0 < n) (l : n ≤ 9000) : z.natAbs.log2 < 9000 := Nat.lt_of_lt_of_le (PySem.Flt.log2_lt_of h0 h) l
theorem cmul2 {x y : Int} {n m : Nat} (h : x.natAbs < 2 ^ n) (h' : y.natAbs < 2 ^ m) (l : n + m ≤ 900000) : CMulW x y := wide_mul (lt2 h (Nat.le_succ n)) (lt2 h' (Nat.le_succ m)) (by omega) (by omega) (by omega)

/-! ### lowest terms -/
def gd (t b : Int) : Int := if b < 0 then -((Nat.gcd t.natAbs b.natAbs : Nat) : Int) else ((Nat.gcd t.natAbs b.natAbs : Nat) : Int)
def lwT (t b : Int) : Int := t.fdiv (gd t b)
def lwB (t b : Int) : Int := b.fdiv (gd t b)
/-- in lowest terms -/
def Nm (t b : Int) : Prop := 0 < b ∧ Nat.gcd t.natAbs b.natAbs = 1
theorem gcd_pos {t b : Int} (h : b ≠ 0) : 0 < Nat.gcd t.natAbs b.natAbs := Nat.gcd_pos_of_pos_right _ (by omega)
theorem gd_ne {t b : Int} (h : b ≠ 0) : gd t b ≠ 0 := by
  have := gcd_pos (t := t) h
  unfold gd
  split <;> omega
theorem gd_abs (t b : Int) : (gd t b).natAbs = Nat.gcd t.natAbs b.natAbs := by
  unfold gd
  split <;> omega
theorem gd_le {t b : Int} {n : Nat} (h : b ≠ 0) (hb : b.natAbs < 2 ^ n) : (gd t b).natAbs < 2 ^ n := by
  rw [gd_abs]
  exact Nat.lt_of_le_of_lt (Nat.gcd_le_right _ (by omega)) hb
theorem gd_dvd_t (t b : Int) : gd t b ∣ t := by
  rw [← Int.natAbs_dvd_natAbs, gd_abs]
  exact Nat.gcd_dvd_left ..
theorem gd_dvd_b (t b : Int) : gd t b ∣ b := by
  rw [← Int.natAbs_dvd_natAbs, gd_abs]
  exact Nat.gcd_dvd_right ..
theorem lw_mul_t {t b : Int} : lwT t b * gd t b = t := by
  unfold lwT
  exact Int.fdiv_mul_cancel (gd_dvd_t t b)
theorem lw_mul_b {t b : Int} : lwB t b * gd t b = b := by
  unfold lwB
  exact Int.fdiv_mul_cancel (gd_dvd_b t b)
theorem abs_le_of_mul {x g y : Int} (h : x * g = y) (hg : g ≠ 0) : x.natAbs ≤ y.natAbs := by
  rw [← h, Int.natAbs_mul]
  exact Nat.le_mul_of_pos_right _ (by omega)
theorem lwT_le {t b : Int} (h : b ≠ 0) : (lwT t b).natAbs ≤ t.natAbs := abs_le_of_mul lw_mul_t (gd_ne h)
theorem lwB_le {t b : Int} (h : b ≠ 0) : (lwB t b).natAbs ≤ b.natAbs := abs_le_of_mul lw_mul_b (gd_ne h)
theorem lw_nm {t b : Int} (h : b ≠ 0) : Nm (lwT t b) (lwB t b) := by
  have ht := lw_mul_t (t := t) (b := b)
  have hb := lw_mul_b (t := t) (b := b)
  have hg := gd_ne (t := t) h
  constructor
  · have p : (0 : Int) < ((Nat.gcd t.natAbs b.natAbs : Nat) : Int) := by have := gcd_pos (t := t) h; omega
    generalize lwB t b = y at hb
    unfold gd at hb
    generalize ((Nat.gcd t.natAbs b.natAbs : Nat) : Int) = g at hb p
    refine Int.lt_of_not_ge fun z => ?_
    have z1 : y * g ≤ 0 := Int.mul_nonpos_of_nonpos_of_nonneg z (Int.le_of_lt p)
    split at hb
    · have : y * -g = -(y * g) := Int.mul_neg ..
      omega
    · omega
  · have e : Nat.gcd t.natAbs b.natAbs = Nat.gcd (lwT t b).natAbs (lwB t b).natAbs * (gd t b).natAbs := by
      rw [← Nat.gcd_mul_right, ← Int.natAbs_mul, ← Int.natAbs_mul, ht, hb]
    rw [gd_abs] at e
    have p := gcd_pos (t := t) h
    exact Nat.eq_of_mul_eq_mul_right p (by rw [← e, Nat.one_mul])
theorem nm_gd {t b : Int} (h : Nm t b) : gd t b = 1 := by
  unfold gd
  rw [h.2, if_neg (by have := h.1; omega)]
  rfl
theorem nm_t {t b : Int} (h : Nm t b) : lwT t b = t := by
  unfold lwT
  rw [nm_gd h, Int.fdiv_one]
theorem nm_b {t b : Int} (h : Nm t b) : lwB t b = b := by
  unfold lwB
  rw [nm_gd h, Int.fdiv_one]
theorem nm_neg {t b : Int} (h : Nm t b) : Nm (0 - t) b := ⟨h.1, by rw [show (0 - t).natAbs = t.natAbs by omega]; exact h.2⟩

/-! ### _law_take of a purse -/
def spTake : Sp := fun vs H Q _ => ∃ (p : Addr) (m : Int) (c : Nat), vs = [.ref p, .int m] ∧ Pl H p c ∧ 0 < m ∧ m < 18446744073709551616 ∧ c < 1000000 ∧
  ∀ (d : Int) (H' : Hp), 0 ≤ d → d < m → Pl H' p (c + 1) → Fx p H H' → Q (.int d) H'
set_option maxHeartbeats 4000000 in
theorem ok_l_take (T : TX K mg A FD TK) : FnOk P w K mg base CX0 1 (A 29) (FD 29) ["_law_purse_here", "_law_many"] spTake := by
  refine T.f_l_take.ok sc_l_take (fun vs H Q E h => ?_) (fun cdv A' outer s H vs Q E hr h => ?_)
  · obtain ⟨p, m, c, rfl, _⟩ := h
    rfl
  · obtain ⟨p, m, c, rfl, ⟨g, b, k, hp, hg, hb, hb2, hk⟩, hm, hm2, hc, q⟩ := h
    refine ⟨_, (pss_cons (ps_if (pt_cmpR op_gt (pe_ix (ixLK (K := K) rfl) (pv 0) pe_int (fun _ _ => rfl)) pe_int (nomark _))
      (pss_cons (ps_set (i := 2) sc_l_take.nd rfl (.inl rfl) (pe_op op_mod (pe_ix (ixLK (K := K) rfl) (pv 0) pe_int (fun _ _ => rfl)) (pv 1)))
      (pss_cons (ps_asg (pe_op op_fdivW (pe_ix (ixLK (K := K) rfl) (pv 0) pe_int (fun _ _ => rfl)) (pv 1)) (pg_sub (pv 0) pe_int set_list))
      (pss_one (ps_ret (pv 2)))))
      pss_nil)
      (pss_cons (ps_asg (pe_op op_add (pe_ix (ixLK (K := K) rfl) (pv 0) pe_int (fun _ _ => rfl)) pe_int) (pg_sub (pv 0) pe_int set_list))
      (pss_cons (ps_set (i := 3) sc_l_take.nd rfl (.inl rfl) (pe_op op_mod (pe_op op_powW (pe_op op_add (pe_ix (ixLK (K := K) rfl) (pv 0) pe_int (fun _ _ => rfl)) (pe_op op_mulW (pe_op op_mulW pe_int (pe_ix (ixLK (K := K) rfl) (pv 0) pe_int (fun _ _ => rfl))) (pe_ix (ixLK (K := K) rfl) (pv 0) pe_int (fun _ _ => rfl)))) pe_int) pe_int))
      (pss_one (ps_ret (pe_op op_mod (pe_op op_fdivW (pe_op op_mod (pe_op op_add (pe_op op_mulW (pv 3) (pe_op op_add (pv 3) pe_int)) (pe_ix (ixLK (K := K) rfl) (pv 0) pe_int (fun _ _ => rfl))) pe_int) pe_int) (pv 1))))))), ?_⟩
    refine ⟨.ref p, rfl, p, _, 0, .int g, rfl, rfl, SqL.of hp, atI_nat (j := 0) rfl, g, 0, rfl, rfl, _, rfl, ite2 (fun e => ?_) (fun e => ?_)⟩
    · refine ⟨.ref p, rfl, p, _, 0, .int g, rfl, rfl, SqL.of hp, atI_nat (j := 0) rfl, .int m, rfl, g, m, rfl, rfl, hm, ?_⟩
      refine ⟨.ref p, rfl, p, _, 0, .int g, rfl, rfl, SqL.of hp, atI_nat (j := 0) rfl, .int m, rfl, g, m, rfl, rfl, wide_div (b := 64) hm (by omega) (by decide) (by decide), .ref p, rfl, p, _, 0, 0, rfl, rfl, hp, rfl, ?_⟩
      refine ⟨.int (g % m), rfl, ?_⟩
      exact q _ _ (Int.emod_nonneg _ (by omega)) (Int.emod_lt_of_pos _ hm) ⟨g / m, b, k, upd_same, Int.ediv_nonneg hg (by omega), hb, hb2, by omega⟩ Fx.upd
    · have hp1 : (upd H p (.lst [.int g, .int b, .int ((k : Int) + 1)])) p = some (.lst [.int g, .int b, .int ((k : Int) + 1)]) := upd_same
      refine ⟨.ref p, rfl, p, _, 2, .int k, rfl, rfl, SqL.of hp, atI_nat (j := 2) rfl, k, 1, rfl, rfl, .ref p, rfl, p, _, 2, 2, rfl, rfl, hp, rfl, ?_⟩
      have t0 : (0 : Int) ≤ (k : Int) + 1 := by omega
      have t1 : (k : Int) + 1 ≤ 1000000 := by omega
      have s1 : 0 ≤ 50021 * ((k : Int) + 1) ∧ 50021 * ((k : Int) + 1) ≤ 50021000000 := by omega
      have s2 : 0 ≤ 50021 * ((k : Int) + 1) * ((k : Int) + 1) := mul_nn s1.1 t0
      have s3 : 50021 * ((k : Int) + 1) * ((k : Int) + 1) ≤ 50021000000 * 1000000 := mul_le s1.1 s1.2 t0 t1
      have b1 : (b + 50021 * ((k : Int) + 1) * ((k : Int) + 1)).natAbs < 2 ^ 100 := natAbs_lt (by omega) (by omega)
      refine ⟨.ref p, rfl, p, _, 1, .int b, rfl, rfl, SqL.of hp1, atI_nat (j := 1) rfl, .ref p, rfl, p, _, 2, .int ((k : Int) + 1), rfl, rfl, SqL.of hp1, atI_nat (j := 2) rfl, 50021, (k : Int) + 1, rfl, rfl, cmul2 (n := 20) (m := 20) (by decide) (by omega) (by decide), .ref p, rfl, p, _, 2, .int ((k : Int) + 1), rfl, rfl, SqL.of hp1, atI_nat (j := 2) rfl, 50021 * ((k : Int) + 1), (k : Int) + 1, rfl, rfl, cmul2 (n := 40) (m := 20) (by omega) (by omega) (by decide),
        b, 50021 * ((k : Int) + 1) * ((k : Int) + 1), rfl, rfl, b + 50021 * ((k : Int) + 1) * ((k : Int) + 1), 2, rfl, rfl, ⟨by decide, by decide, lt2 b1 (by decide)⟩,
        _, 2305843009213693951, rfl, rfl, (show (0 : Int) < 2305843009213693951 by decide), ?_⟩
      have o0 : 0 ≤ (b + 50021 * ((k : Int) + 1) * ((k : Int) + 1)) ^ Int.toNat 2 % 2305843009213693951 := Int.emod_nonneg _ (by decide)
      have o1 : (b + 50021 * ((k : Int) + 1) * ((k : Int) + 1)) ^ Int.toNat 2 % 2305843009213693951 < 2305843009213693951 := Int.emod_lt_of_pos _ (by decide)
      dsimp only
      generalize (b + 50021 * ((k : Int) + 1) * ((k : Int) + 1)) ^ Int.toNat 2 % 2305843009213693951 = one at o0 o1 ⊢
      refine ⟨.int one, rfl, .int one, rfl, one, 3, rfl, rfl, one, one + 3, rfl, rfl, cmul2 (n := 64) (m := 64) (by omega) (by omega) (by decide), .ref p, rfl, p, _, 2, .int ((k : Int) + 1), rfl, rfl, SqL.of hp1, atI_nat (j := 2) rfl, _, _, rfl, rfl, _, 998244353, rfl, rfl, (show (0 : Int) < 998244353 by decide), _, 7, rfl, rfl, wide_div (b := 64) (by decide) (by decide) (by decide) (by decide), .int m, rfl, _, m, rfl, rfl, hm, ?_⟩
      exact q _ _ (Int.emod_nonneg _ (by omega)) (Int.emod_lt_of_pos _ hm) ⟨g, b, k + 1, upd_same, hg, hb, hb2, by omega⟩ Fx.upd

/-! ### _law_purse -/
def spPurse (K : PySem.W.Frag) : Sp := fun vs H Q _ => ∃ (a : Addr) (ns : List Int) (j : Nat), vs = [.ref a, .int (j : Int)] ∧ SqL K H a (ns.map V.int) ∧ ns.length ≤ 63 ∧ j ≤ 1000 ∧
  ∀ (p : Addr) (H' : Hp), H p = none → Ex H H' → Pl H' p 0 → Q (.ref p) H'
set_option maxHeartbeats 4000000 in
theorem ok_l_purse (T : TX K mg A FD TK) : FnOk P w K mg base CX0 1 (A 28) (FD 28) ["_law_script", "_law_at"] (spPurse K) := by
  refine T.f_l_purse.ok sc_l_purse (fun vs H Q E h => ?_) (fun cdv A' outer s H vs Q E hr h => ?_)
  · obtain ⟨a, ns, j, rfl, _⟩ := h
    rfl
  · obtain ⟨a, ns, j, rfl, hS, hn, hj, q⟩ := h
    refine ⟨_, (pss_cons (ps_set (i := 2) sc_l_purse.nd rfl (.inl rfl) pe_int)
      (pss_cut (ps_if (pt_cmpR op_lt (pv 1) (pe_callB (lenK (K := K) rfl) (by rfl) T.m_len (by decide +kernel) (pa_cons (pv 0) pa_nil)) (nomark _))
      (pss_one (ps_set (i := 2) sc_l_purse.nd rfl (.inl rfl) (pe_ix (ixLK (K := K) rfl) (pv 0) (pv 1) (fun _ _ => rfl))))
      pss_nil)
      (pss_cons (ps_set (i := 3) sc_l_purse.nd rfl (.inl rfl) (pe_op op_mul (pe_callB call_abs (by rfl) T.m_abs (by decide +kernel) (pa_cons (pv 2) pa_nil)) (pe_callTy call_int1 (by rfl) T.m_int (by decide +kernel) (pa_cons (pe_cmpR op_ge (pe_callB call_abs (by rfl) T.m_abs (by decide +kernel) (pa_cons (pv 2) pa_nil)) (pe_op op_pow pe_int pe_int) (nomark _)) pa_nil))))
      (pss_one (ps_ret (pe_lst (pa_cons (pv 3) (pa_cons (pe_op op_add (pe_op op_add (pe_op op_mul (pe_op op_mod (pv 2) (pe_op op_pow pe_int pe_int)) pe_int) (pe_op op_mul pe_int (pv 1))) pe_int) (pa_cons pe_int pa_nil))))))))), ?_⟩
    refine ⟨fun σ' H' => H' = H ∧ ∃ z : Int, σ' = [some (.ref a), some (.int (j : Int)), some (.int z), none], ?_, ?_⟩
    · refine ⟨.int (j : Int), rfl, .ref a, rfl, a, _, rfl, .inl hS, _, _, rfl, rfl, _, rfl, ite2 (fun e => ?_) (fun e => ?_)⟩
      · have e0 : (j : Int) < ((ns.map V.int).length : Int) := of_decide_eq_true e
        have e1 : j < ns.length := by
          rw [List.length_map] at e0
          omega
        refine ⟨.ref a, rfl, .int (j : Int), rfl, a, _, _, .int ns[j], rfl, rfl, hS, atI_nat (j := j) ?_, rfl, ns[j], rfl⟩
        rw [List.getElem?_map, List.getElem?_eq_getElem e1]
        rfl
      · exact ⟨rfl, 0, rfl⟩
    · rintro σ' H' ⟨rfl, z, rfl⟩
      have f0 : 0 ≤ (if z < 0 then -z else z) := by split <;> omega
      refine ⟨.int z, rfl, z, rfl, .int z, rfl, z, rfl, ?_⟩
      generalize (if z < 0 then -z else z) = far at f0 ⊢
      refine ⟨10, 18, rfl, rfl, ⟨by decide, by decide, by decide⟩, far, _, rfl, rfl, .inr ⟨_, rfl, ?_⟩⟩
      generalize hd : decide ((10 : Int) ^ Int.toNat 18 ≤ far) = big
      refine ⟨far, _, rfl, rfl, .inr ⟨?_, ?_⟩, ?_⟩
      · cases big <;> decide
      · cases big <;> decide
      have m0 : 0 ≤ z % (10 ^ Int.toNat 18) := Int.emod_nonneg _ (by decide)
      have m1 : z % (10 ^ Int.toNat 18) < (10 ^ Int.toNat 18) := Int.emod_lt_of_pos _ (by decide)
      refine ⟨.int (far * b2i big), rfl, .int z, rfl, 10, 18, rfl, rfl, ⟨by decide, by decide, by decide⟩, z, _, rfl, rfl, (show (0 : Int) < 10 ^ Int.toNat 18 by decide), ?_⟩
      dsimp only
      generalize z % (10 ^ Int.toNat 18) = y at m0 m1 ⊢
      have m2 : y < 1000000000000000000 := m1
      refine ⟨y, 1000003, rfl, rfl, .inl ⟨by omega, by omega⟩, .int (j : Int), rfl, 7919, (j : Int), rfl, rfl, .inl ⟨by decide, by decide⟩, _, _, rfl, rfl, _, 17, rfl, rfl, (by show 3 ≤ sizeLine; decide), fun p np => ?_⟩
      refine q p _ np (ex_upd np) ⟨_, _, 0, upd_same, ?_, ?_, ?_, Nat.le_refl _⟩
      · cases big
        · show (0 : Int) ≤ far * 0
          omega
        · show (0 : Int) ≤ far * 1
          omega
      · omega
      · omega

/-! ### lowest terms, the program's and the law's -/
def spLow : Sp := fun vs H Q _ => ∃ t b : Int, vs = [.int t, .int b] ∧ b ≠ 0 ∧ t.natAbs < 2 ^ 4000 ∧ b.natAbs < 2 ^ 4000 ∧ ∀ l, H l = none → Q (.ref l) (upd H l (.tup [.int (lwT t b), .int (lwB t b)]))
theorem absI (z : Int) : (if z < 0 then -z else z) = ((z.natAbs : Nat) : Int) := by split <;> omega
/-- the fourth name's number -/
def mu3 : L2.St → Hp → Nat := fun σ _ => match σ with
  | [_, _, _, some (.int r)] => r.toNat
  | _ => 0
theorem gcd_step (d r : Nat) (h : 0 < r) : Nat.gcd r (d % r) = Nat.gcd d r := by
  rw [Nat.gcd_comm d r, Nat.gcd_rec r d, Nat.gcd_comm]
set_option maxHeartbeats 4000000 in
theorem ok_lowest (T : TX K mg A FD TK) : FnOk P w K mg base CX0 1 (A 19) (FD 19) ["top", "bottom"] spLow := by
  refine T.f_lowest.ok sc_lowest (fun vs H Q E h => ?_) (fun cdv A' outer s H vs Q E hr h => ?_)
  · obtain ⟨t, b, rfl, _⟩ := h
    rfl
  · obtain ⟨t, b, rfl, hb, ht, hb2, q⟩ := h
    refine ⟨_, (pss_cons (ps_par (by rfl) sc_lowest.nd (i := 2) (j := 3) rfl rfl (by decide) rfl rfl (pa_cons (pe_callB call_abs (by rfl) T.m_abs (by decide +kernel) (pa_cons (pv 1) pa_nil)) (pa_cons (pe_callB call_abs (by rfl) T.m_abs (by decide +kernel) (pa_cons (pv 0) pa_nil)) pa_nil)) (by rfl))
      (pss_cons (ps_while PassesOwn.never (pt_cmpR op_gt (pv 3) pe_int (nomark _))
      (pss_one (ps_par (by rfl) sc_lowest.nd (i := 2) (j := 3) rfl rfl (by decide) rfl rfl (pa_cons (pv 3) (pa_cons (pe_op op_mod (pv 2) (pv 3)) pa_nil)) (by rfl))))
      (pss_cons (ps_if (pt_cmpR op_lt (pv 1) pe_int (nomark _))
      (pss_one (ps_set (i := 2) sc_lowest.nd rfl (.inl rfl) (pe_un un_neg (pv 2))))
      pss_nil)
      (pss_one (ps_ret (pe_tup (pa_cons (pe_op op_fdivWN (pv 0) (pv 2)) (pa_cons (pe_op op_fdivWN (pv 1) (pv 2)) pa_nil)))))))), ?_⟩
    refine ⟨.int b, rfl, b, rfl, .int t, rfl, t, rfl, _, _, rfl, ?_⟩
    rw [absI, absI]
    refine while_by (fun σ' H' => H' = H ∧ ∃ d r : Nat, σ' = [some (.int t), some (.int b), some (.int (d : Int)), some (.int (r : Int))] ∧ Nat.gcd d r = Nat.gcd t.natAbs b.natAbs) mu3 ⟨rfl, _, _, rfl, Nat.gcd_comm ..⟩ (fun σ' H' p => ?_) (fun σ' H' Q Q' m h => ?_)
    · obtain ⟨rfl, d, r, rfl, hg⟩ := p
      refine ⟨.int r, rfl, r, 0, rfl, rfl, _, rfl, ite2 (fun e => ?_) (fun e => ?_)⟩
      · have e0 : (0 : Int) < (r : Int) := of_decide_eq_true e
        refine ⟨.int r, rfl, .int d, rfl, .int r, rfl, d, r, rfl, rfl, e0, _, _, rfl, ⟨rfl, r, d % r, ?_, ?_⟩, ?_⟩
        · rw [Int.natCast_emod]; rfl
        · rw [gcd_step d r (by omega), hg]
        · show ((d : Int) % (r : Int)).toNat < (r : Int).toNat
          have := Int.emod_lt_of_pos (d : Int) e0
          omega
      · have e0 : ¬ (0 : Int) < (r : Int) := fun z => e (decide_eq_true z)
        have r0 : r = 0 := by omega
        subst r0
        rw [Nat.gcd_zero_right] at hg
        subst hg
        refine ⟨.int b, rfl, b, 0, rfl, rfl, _, rfl, ite2 (fun e => ?_) (fun e => ?_)⟩
        · have e1 : b < 0 := of_decide_eq_true e
          have eg : gd t b = -((Nat.gcd t.natAbs b.natAbs : Nat) : Int) := by unfold gd; rw [if_pos e1]
          refine ⟨.int _, rfl, _, rfl, .int t, rfl, .int _, rfl, t, _, rfl, rfl, ?_, .int b, rfl, .int _, rfl, b, _, rfl, rfl, ?_, by show 2 ≤ sizeLine; decide, fun l nl => ?_⟩
          · rw [← eg]; exact ⟨gd_ne hb, log9 (gd_le hb hb2) (by decide) (by decide)⟩
          · rw [← eg]; exact ⟨gd_ne hb, log9 (gd_le hb hb2) (by decide) (by decide)⟩
          · rw [← eg]; exact q l nl
        · have e1 : ¬ b < 0 := fun z => e (decide_eq_true z)
          have eg : gd t b = ((Nat.gcd t.natAbs b.natAbs : Nat) : Int) := by unfold gd; rw [if_neg e1]
          refine ⟨.int t, rfl, .int _, rfl, t, _, rfl, rfl, ?_, .int b, rfl, .int _, rfl, b, _, rfl, rfl, ?_, by show 2 ≤ sizeLine; decide, fun l nl => ?_⟩
          · rw [← eg]; exact ⟨gd_ne hb, log9 (gd_le hb hb2) (by decide) (by decide)⟩
          · rw [← eg]; exact ⟨gd_ne hb, log9 (gd_le hb hb2) (by decide) (by decide)⟩
          · rw [← eg]; exact q l nl
    · obtain ⟨v, hv, i, j, e1, e2, k, hk, hq⟩ := h
      exact ⟨v, hv, i, j, e1, e2, k, hk, m _ _ hq⟩
set_option maxHeartbeats 4000000 in
theorem ok_l_low (T : TX K mg A FD TK) : FnOk P w K mg base CX0 1 (A 30) (FD 30) ["_law_upper", "_law_lower"] spLow := by
  refine T.f_l_low.ok sc_l_low (fun vs H Q E h => ?_) (fun cdv A' outer s H vs Q E hr h => ?_)
  · obtain ⟨t, b, rfl, _⟩ := h
    rfl
  · obtain ⟨t, b, rfl, hb, ht, hb2, q⟩ := h
    refine ⟨_, (pss_cons (ps_par (by rfl) sc_l_low.nd (i := 2) (j := 3) rfl rfl (by decide) rfl rfl (pa_cons (pe_callB call_abs (by rfl) T.m_abs (by decide +kernel) (pa_cons (pv 0) pa_nil)) (pa_cons (pe_callB call_abs (by rfl) T.m_abs (by decide +kernel) (pa_cons (pv 1) pa_nil)) pa_nil)) (by rfl))
      (pss_cons (ps_while PassesOwn.never (pt_cmpR op_gt (pv 3) pe_int (nomark _))
      (pss_one (ps_par (by rfl) sc_l_low.nd (i := 2) (j := 3) rfl rfl (by decide) rfl rfl (pa_cons (pv 3) (pa_cons (pe_op op_mod (pv 2) (pv 3)) pa_nil)) (by rfl))))
      (pss_cons (ps_if (pt_cmpR op_lt (pv 1) pe_int (nomark _))
      (pss_one (ps_set (i := 2) sc_l_low.nd rfl (.inl rfl) (pe_op op_sub pe_int (pv 2))))
      pss_nil)
      (pss_one (ps_ret (pe_tup (pa_cons (pe_op op_fdivWN (pv 0) (pv 2)) (pa_cons (pe_op op_fdivWN (pv 1) (pv 2)) pa_nil)))))))), ?_⟩
    refine ⟨.int t, rfl, t, rfl, .int b, rfl, b, rfl, _, _, rfl, ?_⟩
    rw [absI, absI]
    refine while_by (fun σ' H' => H' = H ∧ ∃ d r : Nat, σ' = [some (.int t), some (.int b), some (.int (d : Int)), some (.int (r : Int))] ∧ Nat.gcd d r = Nat.gcd t.natAbs b.natAbs) mu3 ⟨rfl, _, _, rfl, rfl⟩ (fun σ' H' p => ?_) (fun σ' H' Q Q' m h => ?_)
    · obtain ⟨rfl, d, r, rfl, hg⟩ := p
      refine ⟨.int r, rfl, r, 0, rfl, rfl, _, rfl, ite2 (fun e => ?_) (fun e => ?_)⟩
      · have e0 : (0 : Int) < (r : Int) := of_decide_eq_true e
        refine ⟨.int r, rfl, .int d, rfl, .int r, rfl, d, r, rfl, rfl, e0, _, _, rfl, ⟨rfl, r, d % r, ?_, ?_⟩, ?_⟩
        · rw [Int.natCast_emod]; rfl
        · rw [gcd_step d r (by omega), hg]
        · show ((d : Int) % (r : Int)).toNat < (r : Int).toNat
          have := Int.emod_lt_of_pos (d : Int) e0
          omega
      · have e0 : ¬ (0 : Int) < (r : Int) := fun z => e (decide_eq_true z)
        have r0 : r = 0 := by omega
        subst r0
        rw [Nat.gcd_zero_right] at hg
        subst hg
        refine ⟨.int b, rfl, b, 0, rfl, rfl, _, rfl, ite2 (fun e => ?_) (fun e => ?_)⟩
        · have e1 : b < 0 := of_decide_eq_true e
          have eg : gd t b = 0 - ((Nat.gcd t.natAbs b.natAbs : Nat) : Int) := by unfold gd; rw [if_pos e1]; omega
          refine ⟨.int _, rfl, 0, _, rfl, rfl, .int t, rfl, .int _, rfl, t, _, rfl, rfl, ?_, .int b, rfl, .int _, rfl, b, _, rfl, rfl, ?_, by show 2 ≤ sizeLine; decide, fun l nl => ?_⟩
          · rw [← eg]; exact ⟨gd_ne hb, log9 (gd_le hb hb2) (by decide) (by decide)⟩
          · rw [← eg]; exact ⟨gd_ne hb, log9 (gd_le hb hb2) (by decide) (by decide)⟩
          · rw [← eg]; exact q l nl
        · have e1 : ¬ b < 0 := fun z => e (decide_eq_true z)
          have eg : gd t b = ((Nat.gcd t.natAbs b.natAbs : Nat) : Int) := by unfold gd; rw [if_neg e1]
          refine ⟨.int t, rfl, .int _, rfl, t, _, rfl, rfl, ?_, .int b, rfl, .int _, rfl, b, _, rfl, rfl, ?_, by show 2 ≤ sizeLine; decide, fun l nl => ?_⟩
          · rw [← eg]; exact ⟨gd_ne hb, log9 (gd_le hb hb2) (by decide) (by decide)⟩
          · rw [← eg]; exact ⟨gd_ne hb, log9 (gd_le hb hb2) (by decide) (by decide)⟩
          · rw [← eg]; exact q l nl
    · obtain ⟨v, hv, i, j, e1, e2, k, hk, hq⟩ := h
      exact ⟨v, hv, i, j, e1, e2, k, hk, m _ _ hq⟩

/-! ### Ratio -/
/-- a ratio at a: top and bottom -/
def Rt (C : Addr) (H : Hp) (a : Addr) (t b : Int) : Prop := ∃ dx, H a = some (.ins C dx [("top", .int t), ("bottom", .int b)])
theorem Rt.ex {C : Addr} {H H' : Hp} {a : Addr} {t b : Int} (h : Rt C H a t b) (e : Ex H H') : Rt C H' a t b := by
  obtain ⟨dx, h⟩ := h
  exact ⟨dx, e _ _ h⟩
theorem Rt.fx {C : Addr} {H H' : Hp} {a p : Addr} {t b : Int} {c : Nat} (h : Rt C H a t b) (hp : Pl H p c) (f : Fx p H H') : Rt C H' a t b := by
  obtain ⟨dx, h⟩ := h
  obtain ⟨xs, hx⟩ := hp.some
  exact ⟨dx, f _ _ (ne_of h hx (by intro z; cases z)) h⟩
/-- all but x stays -/
def ExI (x : Addr) (H H' : Hp) : Prop := ∀ b o, b ≠ x → H b = some o → H' b = some o
abbrev tooG : Int := 1000000000000000000000000000000000000000000000000000000000000000000000000000000000000000000000000000000000000000000000000000000000000000000000000000000000000000000000000000000000000000000000000000000000000000000000000000000000000000000000000000000000000000000000000000000000000000000000000000000000000
def spFigs : Sp := fun vs H Q _ => ∃ z : Int, vs = [.int z] ∧ z.natAbs < 2 ^ 990 ∧ Q .non H
theorem tooG_lt : 2 ^ 990 < tooG.natAbs := by decide +kernel
def spWholeI : Sp := fun vs H Q _ => ∃ z : Int, vs = [.int z] ∧ Q (.bl true) H
set_option maxHeartbeats 4000000 in
theorem ok_is_wholeI (T : TX K mg A FD TK) : FnOk P w K mg base CX0 1 (A 8) (FD 8) ["thing"] spWholeI := by
  refine T.f_is_whole.ok sc_is_whole (fun vs H Q E h => ?_) (fun cdv A' outer s H vs Q E hr h => ?_)
  · obtain ⟨z, rfl, _⟩ := h
    rfl
  · obtain ⟨i, rfl, q⟩ := h
    refine ⟨_, (pss_one (ps_ret (pe_and (pe_callB (isiK (K := K) rfl) (by rfl) T.m_isinstance (by decide +kernel) (pa_cons (pv 0) (pa_cons (pe_bltn (v := .ty "int") (by rfl) T.m_int (by decide +kernel) rfl) pa_nil))) (pe_one (pe_not (pe_callB (isiK (K := K) rfl) (by rfl) T.m_isinstance (by decide +kernel) (pa_cons (pv 0) (pa_cons (pe_bltn (v := .ty "bool") (by rfl) T.m_bool (by decide +kernel) rfl) pa_nil)))))))), ?_⟩
    refine ⟨.int i, rfl, .int i, .ty "int", .type "int", .type "int", true, rfl, .ty _, .base (.int i), kit_ty (by decide +kernel), true, rfl, ?_⟩
    exact ⟨.int i, rfl, .int i, .ty "bool", .type "int", .type "bool", false, rfl, .ty _, .base (.int i), kit_ty (by decide +kernel), false, rfl, q⟩
set_option maxHeartbeats 4000000 in
theorem ok_check_figures (T : TX K mg A FD TK) : FnOk P w K mg base CX0 2 (A 20) (FD 20) ["number"] spFigs := by
  have G_is_whole := ok_is_wholeI (P := P) (w := w) (base := base) T
  refine T.f_check_figures.ok (k := 1) sc_check_figures (fun vs H Q E h => ?_) (fun cdv A' outer s H vs Q E hr h => ?_)
  · obtain ⟨z, rfl, _⟩ := h
    rfl
  · obtain ⟨z, rfl, hz, q⟩ := h
    refine ⟨_, (pss_one (ps_if (PW.pt (pw_or (pt_not (pt_val (pe_call G_is_whole hr (by rfl) T.g_is_whole T.f_is_whole.kp T.b_is_whole .nil pass0 (pa_cons (pv 0) pa_nil)))) (pw_or1 (pt_cmpR op_ge (pe_callB call_abs (by rfl) T.m_abs (by decide +kernel) (pa_cons (pv 0) pa_nil)) (pe_glob (v := .int 1000000000000000000000000000000000000000000000000000000000000000000000000000000000000000000000000000000000000000000000000000000000000000000000000000000000000000000000000000000000000000000000000000000000000000000000000000000000000000000000000000000000000000000000000000000000000000000000000000000000000) (by rfl) T.c_TOO_GREAT ⟨_, rfl⟩) (nomark _)))))
      (pss_one ps_never)
      pss_nil)), ?_⟩
    refine ⟨.int z, rfl, z, rfl, true, rfl, .int z, rfl, z, rfl, ?_⟩
    have l := tooG_lt
    rw [absI]
    refine ⟨_, _, rfl, rfl, false, ?_, q⟩
    refine congrArg V.bl (decide_eq_false fun z => ?_)
    have : tooG ≤ _ := z
    omega
def spInit (C : Addr) : Sp := fun vs H Q _ => ∃ (x dx : Addr) (t b : Int), vs = [.ref x, .int t, .int b] ∧ H x = some (.ins C dx []) ∧ b ≠ 0 ∧ t.natAbs < 2 ^ 990 ∧ b.natAbs < 2 ^ 990 ∧
  ∀ H', ExI x H H' → Rt C H' x (lwT t b) (lwB t b) → Q .non H'
set_option maxHeartbeats 4000000 in
theorem ok_init (T : TX K mg A FD TK) : FnOk P w K mg base CX0 3 (A 36) (FD 36) ["self", "top", "bottom"] (spInit (A 17)) := by
  have G_check_figures := ok_check_figures (P := P) (w := w) (base := base) T
  have G_lowest := (ok_lowest (P := P) (w := w) (base := base) T).mono (show 1 ≤ 2 by decide)
  refine T.f_Ratio_init.ok (k := 2) sc_Ratio_init (fun vs H Q E h => ?_) (fun cdv A' outer s H vs Q E hr h => ?_)
  · obtain ⟨x, dx, t, b, rfl, _⟩ := h
    rfl
  · obtain ⟨x, dx, t, b, rfl, hx, hb, ht, hb2, q⟩ := h
    refine ⟨_, (pss_cons (ps_expr (pe_call G_check_figures hr (by rfl) T.g_check_figures T.f_check_figures.kp T.b_check_figures .nil pass0 (pa_cons (pv 1) pa_nil)))
      (pss_cons (ps_expr (pe_call G_check_figures hr (by rfl) T.g_check_figures T.f_check_figures.kp T.b_check_figures .nil pass0 (pa_cons (pv 2) pa_nil)))
      (pss_cons (ps_if (pt_cmpR op_eq (pv 2) pe_int (nomark _))
      (pss_one ps_never)
      pss_nil)
      (pss_one (ps_asg (pe_call G_lowest hr (by rfl) T.g_lowest T.f_lowest.kp T.b_lowest .nil pass0 (pa_cons (pv 1) (pa_cons (pv 2) pa_nil))) (pg_tup rfl (pgs_cons (pg_fld (pv 0)) (pgs_cons (pg_fld (pv 0)) pgs_nil)))))))), ?_⟩
    refine ⟨.int t, rfl, t, rfl, ht, .int b, rfl, b, rfl, hb2, .int b, rfl, rfl, _, rfl, ?_⟩
    rw [show decide (V.int b = V.int 0) = false from decide_eq_false fun z => hb (V.int.inj z)]
    refine ⟨.int t, rfl, .int b, rfl, t, b, rfl, hb, lt2 ht (by decide), lt2 hb2 (by decide), fun l nl => ?_⟩
    have nlx : x ≠ l := ne_of_none hx nl
    have hx1 : (upd H l (.tup [.int (lwT t b), .int (lwB t b)])) x = some (.ins (A 17) dx []) := by rw [upd_ne nlx]; exact hx
    refine ⟨l, _, rfl, SqT.of upd_same, rfl, _, _, rfl, .ref x, rfl, x, A 17, dx, [], rfl, hx1, T.cl_Ratio, T.n_Ratio_top, (by show 0 < 1000; decide), ?_⟩
    refine ⟨_, _, rfl, .ref x, rfl, x, A 17, dx, _, rfl, upd_same, T.cl_Ratio, T.n_Ratio_bottom, (by show 1 < 1000; decide), rfl, ?_⟩
    refine q _ (fun c o nc h => ?_) ⟨dx, upd_same⟩
    rw [upd_ne nc, upd_ne nc, upd_ne (ne_of_none h nl)]
    exact h
def RetR (C : Addr) (t b : Int) (H : Hp) (Q : VK) : Prop := ∀ (a : Addr) (H' : Hp), H a = none → Ex H H' → Rt C H' a t b → Q (.ref a) H'
/-- what comes of Ratio(t, b) -/
theorem mk_ratio {C : Addr} {H : Hp} {x dx : Addr} {t b : Int} {R : Hp → Prop} {E : XK} (nx : H x = none) (ndx : H dx = none) (hb : b ≠ 0) (ht : t.natAbs < 2 ^ 990) (hb2 : b.natAbs < 2 ^ 990) (q : ∀ H', Ex H H' → Rt C H' x (lwT t b) (lwB t b) → R H') :
    spInit C [.ref x, .int t, .int b] (upd (upd H dx (.own x)) x (.ins C dx [])) (fun v H2 => v = .non ∧ R H2) E := by
  refine ⟨x, dx, t, b, rfl, upd_same, hb, ht, hb2, fun H' i r => ⟨rfl, q H' (fun c o h => ?_) r⟩⟩
  refine i c o (ne_of_none h nx) ?_
  rw [upd_ne (ne_of_none h nx), upd_ne (ne_of_none h ndx)]
  exact h
theorem bindsR (T : TX K mg A FD TK) : (∃ ds, Vals ([] : List V) ds ∧ Binds K (FD 36) ["self", "top", "bottom"] ds) ∧ (∃ ds, Vals [V.int 1] ds ∧ Binds K (FD 36) ["self", "top", "bottom"] ds) := by
  obtain ⟨ds2, R2, B2⟩ := T.f_Ratio_init.binds1 (ps := ["self", "top", "bottom"]) 3 1 (by simp) rfl (fun _ _ _ _ _ _ _ us its hl1 hl2 => match us, its, hl1, hl2 with | [_, _, _], [_], _, _ => ⟨_, rfl, rfl⟩)
  obtain ⟨ds1, R1, B1⟩ := T.f_Ratio_init.binds1 (ps := ["self", "top", "bottom"]) 2 0 (by simp) rfl (fun _ _ _ _ _ _ _ us its hl1 hl2 => match us, its, hl1, hl2 with | [_, _], [_], _, _ => ⟨_, rfl, rfl⟩)
  exact ⟨⟨ds2, R2, B2⟩, ⟨ds1, R1, B1⟩⟩
def spLess (C : Addr) : Sp := fun vs H Q _ => ∃ (a c : Addr) (t b u d : Int), vs = [.ref a, .ref c] ∧ Rt C H a t b ∧ Rt C H c u d ∧ t.natAbs < 2 ^ 1900 ∧ b.natAbs < 2 ^ 1900 ∧ u.natAbs < 2 ^ 1900 ∧ d.natAbs < 2 ^ 1900 ∧ Q (.bl (decide (t * d < u * b))) H
set_option maxHeartbeats 4000000 in
theorem ok_is_less (T : TX K mg A FD TK) : FnOk P w K mg base CX0 1 (A 38) (FD 38) ["self", "other"] (spLess (A 17)) := by
  refine T.f_Ratio_is_less.ok sc_Ratio_is_less (fun vs H Q E h => ?_) (fun cdv A' outer s H vs Q E hr h => ?_)
  · obtain ⟨a, c, t, b, u, d, rfl, _⟩ := h
    rfl
  · obtain ⟨a, c, t, b, u, d, rfl, ⟨da, ha⟩, ⟨dc, hc⟩, ht, hb, hu, hd, q⟩ := h
    refine ⟨_, (pss_one (ps_ret (pe_cmpR op_lt (pe_op op_mulW (fldK (K := K) rfl (pv 0) rfl) (fldK (K := K) rfl (pv 1) rfl)) (pe_op op_mulW (fldK (K := K) rfl (pv 1) rfl) (fldK (K := K) rfl (pv 0) rfl)) (nomark _)))), ?_⟩
    refine ⟨.ref a, rfl, a, _, da, _, _, rfl, ha, T.cl_Ratio, T.n_Ratio_top, rfl, .ref c, rfl, c, _, dc, _, _, rfl, hc, T.cl_Ratio, T.n_Ratio_bottom, rfl, t, d, rfl, rfl, cmul2 ht hd (by decide), ?_⟩
    exact ⟨.ref c, rfl, c, _, dc, _, _, rfl, hc, T.cl_Ratio, T.n_Ratio_top, rfl, .ref a, rfl, a, _, da, _, _, rfl, ha, T.cl_Ratio, T.n_Ratio_bottom, rfl, u, b, rfl, rfl, cmul2 hu hb (by decide), _, _, rfl, rfl, q⟩

/-! ### ratio_of -/
def spRatioOf (C : Addr) : Sp := fun vs H Q _ => ∃ t b : Int, vs = [.int t, .int b] ∧ b ≠ 0 ∧ t.natAbs < 2 ^ 4000 ∧ b.natAbs < 2 ^ 4000 ∧ RetR C (lwT t b) (lwB t b) H Q
set_option maxHeartbeats 4000000 in
theorem ok_ratio_of (T : TX K mg A FD TK) : FnOk P w K mg base CX0 5 (A 18) (FD 18) ["top", "bottom"] (spRatioOf (A 17)) := by
  have G_Ratio := ok_init (P := P) (w := w) (base := base) T
  have G_lowest := (ok_lowest (P := P) (w := w) (base := base) T).mono (show 1 ≤ 4 by decide)
  obtain ⟨_, ds1, R1_Ratio, B1_Ratio⟩ := bindsR T
  refine T.f_ratio_of.ok (k := 4) sc_ratio_of (fun vs H Q E h => ?_) (fun cdv A' outer s H vs Q E hr h => ?_)
  · obtain ⟨t, b, rfl, _⟩ := h
    rfl
  · obtain ⟨t, b, rfl, hb, ht, hb2, q⟩ := h
    refine ⟨_, (pss_cons (ps_set (i := 2) sc_ratio_of.nd rfl (.inl rfl) (pe_make T.M_Ratio G_Ratio hr (by rfl) T.k_Ratio B1_Ratio R1_Ratio pass0 (pa_cons pe_int pa_nil)))
      (pss_cons (ps_asg (pe_call G_lowest hr (by rfl) T.g_lowest T.f_lowest.kp T.b_lowest .nil pass0 (pa_cons (pv 0) (pa_cons (pv 1) pa_nil))) (pg_tup rfl (pgs_cons (pg_fld (pv 2)) (pgs_cons (pg_fld (pv 2)) pgs_nil))))
      (pss_one (ps_ret (pv 2))))), ?_⟩
    refine fun a dx na ndx _ => mk_ratio (t := 0) (b := 1) na ndx (by decide) (by decide) (by decide) fun H1 e1 hr1 => ?_
    obtain ⟨da, ha⟩ := hr1
    refine ⟨.int t, rfl, .int b, rfl, t, b, rfl, hb, ht, hb2, fun l nl => ?_⟩
    have ha1 : (upd H1 l (.tup [.int (lwT t b), .int (lwB t b)])) a = some (.ins (A 17) da [("top", .int (lwT 0 1)), ("bottom", .int (lwB 0 1))]) := by rw [upd_ne (ne_of_none ha nl)]; exact ha
    refine ⟨l, _, rfl, SqT.of upd_same, rfl, _, _, rfl, .ref a, rfl, a, A 17, da, _, rfl, ha1, T.cl_Ratio, T.n_Ratio_top, (by show 2 < 1000; decide), ?_⟩
    refine ⟨_, _, rfl, .ref a, rfl, a, A 17, da, _, rfl, upd_same, T.cl_Ratio, T.n_Ratio_bottom, (by show 2 < 1000; decide), rfl, ?_⟩
    refine ⟨.ref a, rfl, q a _ na (fun c o h => ?_) ⟨da, upd_same⟩⟩
    have nc : c ≠ a := ne_of_none h na
    rw [upd_ne nc, upd_ne nc, upd_ne (ne_of_none (e1 _ _ h) nl)]
    exact e1 _ _ h

/-! ### == of ratios that are alike -/
def EqR (C : Addr) (a b : Addr) (H : Hp) : Prop := ∃ t d, Rt C H a t d ∧ Rt C H b t d
set_option maxHeartbeats 4000000 in
theorem ok_eq (T : TX K mg A FD TK) : FnOk P w K mg base CX0 1 (A 37) (FD 37) ["self", "other"] (spEq (EqR (A 17))) := by
  refine T.f_Ratio_eq.ok sc_Ratio_eq (fun vs H Q E h => ?_) (fun cdv A' outer s H vs Q E hr h => ?_)
  · obtain ⟨a, b, rfl, _⟩ := h
    rfl
  · obtain ⟨a, b, rfl, ⟨t, d, ⟨da, ha⟩, ⟨db, hb⟩⟩, q⟩ := h
    refine ⟨_, (pss_one (ps_ret (pe_and (pe_callB (isiK (K := K) rfl) (by rfl) T.m_isinstance (by decide +kernel) (pa_cons (pv 1) (pa_cons (pe_glob (v := .ref (A 17)) (by rfl) T.k_Ratio rfl) pa_nil))) (pe_and (pe_cmpR op_eq (fldK (K := K) rfl (pv 0) rfl) (fldK (K := K) rfl (pv 1) rfl) (nomark _)) (pe_one (pe_cmpR op_eq (fldK (K := K) rfl (pv 0) rfl) (fldK (K := K) rfl (pv 1) rfl) (nomark _))))))), ?_⟩
    refine ⟨.ref b, rfl, .ref b, .ref (A 17), _, .ref (A 17), true, rfl, .own _, .base (.ins hb T.cl_Ratio T.ci T.cs T.ct T.cm), T.kr, true, rfl, ?_⟩
    refine ⟨.ref a, rfl, a, _, da, _, _, rfl, ha, T.cl_Ratio, T.n_Ratio_top, rfl, .ref b, rfl, b, _, db, _, _, rfl, hb, T.cl_Ratio, T.n_Ratio_top, rfl, rfl, true, congrArg V.bl (decide_eq_true rfl), ?_⟩
    refine ⟨.ref a, rfl, a, _, da, _, _, rfl, ha, T.cl_Ratio, T.n_Ratio_bottom, rfl, .ref b, rfl, b, _, db, _, _, rfl, hb, T.cl_Ratio, T.n_Ratio_bottom, rfl, rfl, ?_⟩
    rw [show decide (V.int d = V.int d) = true from decide_eq_true rfl]
    exact q H Ext.rfl'

/-! ### the law's reckoning -/
theorem pairS (t b : Int) : SeqAt.shaped (.tuple [.int t, .int b]) = true := by
  unfold SeqAt.shaped
  simp [PyData.canLay0, PyData.canLayAll0, PyData.depth, PyData.depthAll]
theorem pairE (t b : Int) : PyData.eqv (.tuple [.int t, .int b]) (.tuple [.int t, .int b]) = true := SeqAt.eqv_refl _ (SeqAt.canLay_of_shaped (pairS t b))
/-- two tuples of two numbers -/
def spTwoT (K : PySem.W.Frag) (B : Nat) (W : Int → Int → Int → Int → Hp → VK → Prop) : Sp := fun vs H Q _ => ∃ (a c : Addr) (t b u d : Int), vs = [.ref a, .ref c] ∧ SqT K H a [.int t, .int b] ∧ SqT K H c [.int u, .int d] ∧ t.natAbs < 2 ^ B ∧ b.natAbs < 2 ^ B ∧ u.natAbs < 2 ^ B ∧ d.natAbs < 2 ^ B ∧ W t b u d H Q
set_option maxHeartbeats 4000000 in
theorem ok_l_less (T : TX K mg A FD TK) : FnOk P w K mg base CX0 1 (A 31) (FD 31) ["_law_one", "_law_other"] (spTwoT K 1900 fun t b u d H Q => Q (.bl (decide (t * d < u * b))) H) := by
  refine T.f_l_less.ok sc_l_less (fun vs H Q E h => ?_) (fun cdv A' outer s H vs Q E hr h => ?_)
  · obtain ⟨a, c, t, b, u, d, rfl, _⟩ := h
    rfl
  · obtain ⟨a, c, t, b, u, d, rfl, ha, hc, ht, hb, hu, hd, q⟩ := h
    refine ⟨_, (pss_one (ps_ret (pe_cmpR op_lt (pe_op op_mulW (pe_ix (ixTK (K := K) rfl) (pv 0) pe_int (fun _ _ => rfl)) (pe_ix (ixTK (K := K) rfl) (pv 1) pe_int (fun _ _ => rfl))) (pe_op op_mulW (pe_ix (ixTK (K := K) rfl) (pv 1) pe_int (fun _ _ => rfl)) (pe_ix (ixTK (K := K) rfl) (pv 0) pe_int (fun _ _ => rfl))) (nomark _)))), ?_⟩
    refine ⟨.ref a, rfl, a, _, 0, _, rfl, rfl, ha, atI_nat (j := 0) rfl, .ref c, rfl, c, _, 1, _, rfl, rfl, hc, atI_nat (j := 1) rfl, t, d, rfl, rfl, cmul2 ht hd (by decide), ?_⟩
    exact ⟨.ref c, rfl, c, _, 0, _, rfl, rfl, hc, atI_nat (j := 0) rfl, .ref a, rfl, a, _, 1, _, rfl, rfl, ha, atI_nat (j := 1) rfl, u, b, rfl, rfl, cmul2 hu hb (by decide), _, _, rfl, rfl, q⟩
def spIsRatio (K : PySem.W.Frag) (C : Addr) : Sp := fun vs H Q _ => ∃ (a c : Addr) (t b : Int), vs = [.ref a, .ref c] ∧ Rt C H a t b ∧ SqT K H c [.int t, .int b] ∧ ∀ H', Ex H H' → Q (.bl true) H'
set_option maxHeartbeats 4000000 in
theorem ok_l_is_ratio (T : TX K mg A FD TK) : FnOk P w K mg base CX0 1 (A 32) (FD 32) ["_law_told", "_law_due"] (spIsRatio K (A 17)) := by
  refine T.f_l_is_ratio.ok sc_l_is_ratio (fun vs H Q E h => ?_) (fun cdv A' outer s H vs Q E hr h => ?_)
  · obtain ⟨a, c, t, b, rfl, _⟩ := h
    rfl
  · obtain ⟨a, c, t, b, rfl, ⟨da, ha⟩, hc, q⟩ := h
    refine ⟨_, (pss_cons (ps_for PassesOwn.never rfl (piTK (K := K) rfl (pe_tup (pa_cons (fldK (K := K) rfl (pv 0) rfl) (pa_cons (fldK (K := K) rfl (pv 0) rfl) pa_nil)))) (pg_name (i := 2) sc_l_is_ratio.nd rfl (.inl rfl))
      (pss_one (ps_if (PW.pt (pw_or (pt_not (pt_val (pe_callB (isiK (K := K) rfl) (by rfl) T.m_isinstance (by decide +kernel) (pa_cons (pv 2) (pa_cons (pe_bltn (v := .ty "int") (by rfl) T.m_int (by decide +kernel) rfl) pa_nil))))) (pw_or1 (pt_val (pe_callB (isiK (K := K) rfl) (by rfl) T.m_isinstance (by decide +kernel) (pa_cons (pv 2) (pa_cons (pe_bltn (v := .ty "bool") (by rfl) T.m_bool (by decide +kernel) rfl) pa_nil)))))))
      (pss_one (ps_ret pe_bl))
      pss_nil)))
      (pss_one (ps_ret (pe_cmpR (eqDK (K := K) rfl hr.units) (pe_tup (pa_cons (fldK (K := K) rfl (pv 0) rfl) (pa_cons (fldK (K := K) rfl (pv 0) rfl) pa_nil))) (pv 1) (nomark _))))), ?_⟩
    refine ⟨.ref a, rfl, a, _, da, _, _, rfl, ha, T.cl_Ratio, T.n_Ratio_top, rfl, .ref a, rfl, a, _, da, _, _, rfl, ha, T.cl_Ratio, T.n_Ratio_bottom, rfl, by show 2 ≤ sizeLine; decide, fun p np => ?_⟩
    refine ⟨p, rfl, ⟨_, SqT.of upd_same⟩, ?_⟩
    have e1 : Ex H (upd H p (.tup [.int t, .int b])) := Ex.new np
    refine for_tup (K := K) (xs := [.int t, .int b]) (fun i σ' H' => ∃ y : Option V, σ' = [some (.ref a), some (.ref c), y] ∧ Ex (upd H p (.tup [.int t, .int b])) H') ⟨none, rfl, Ex.refl _⟩ (fun i σ' H' _ pv => ?_) (fun i x σ' H' gx pv => ?_) (fun σ' H' pv => ?_)
    · obtain ⟨y, _, e2⟩ := pv
      exact SqT.of (e2 _ _ upd_same)
    · obtain ⟨y, rfl, e2⟩ := pv
      obtain ⟨z, rfl⟩ : ∃ z : Int, x = .int z := by
        have hx := List.mem_of_getElem? gx
        simp only [List.mem_cons, List.not_mem_nil, or_false] at hx
        rcases hx with rfl | rfl
        · exact ⟨_, rfl⟩
        · exact ⟨_, rfl⟩
      refine ⟨.int z, rfl, .int z, .ty "int", .type "int", .type "int", true, rfl, .ty _, .base (.int z), kit_ty (by decide +kernel), true, rfl, ?_⟩
      exact ⟨.int z, rfl, .int z, .ty "bool", .type "int", .type "bool", false, rfl, .ty _, .base (.int z), kit_ty (by decide +kernel), false, rfl, some (.int z), rfl, e2⟩
    · obtain ⟨y, rfl, e2⟩ := pv
      have e3 := e1.trans e2
      refine ⟨.ref a, rfl, a, _, da, _, _, rfl, e3 _ _ ha, T.cl_Ratio, T.n_Ratio_top, rfl, .ref a, rfl, a, _, da, _, _, rfl, e3 _ _ ha, T.cl_Ratio, T.n_Ratio_bottom, rfl, by show 2 ≤ sizeLine; decide, fun p2 np2 => ?_⟩
      have e4 := e3.trans (Ex.new (o := .tup [.int t, .int b]) np2)
      refine ⟨.ref c, rfl, _, _, .tup (SqT.of upd_same) (.cons (.int t) (.cons (.int b) .nil)), .tup (ex_t e4 hc) (.cons (.int t) (.cons (.int b) .nil)), pairS t b, pairS t b, ?_⟩
      rw [pairE]
      exact q _ e4

/-! ### the best -/
/-- an entry: a number, a top, a bottom -/
abbrev En := Int × Int × Int
def aheadB (x y : En) : Bool := decide (y.2.1 * x.2.2 < x.2.1 * y.2.2) || ((decide (y.2.1 = x.2.1) && decide (y.2.2 = x.2.2)) && decide (x.1 < y.1))
def spWithinI : Sp := fun vs H Q _ => ∃ i lo hi : Int, vs = [.int i, .int lo, .int hi] ∧ lo ≤ i ∧ i ≤ hi ∧ Q (.bl true) H
set_option maxHeartbeats 4000000 in
theorem ok_is_within (T : TX K mg A FD TK) : FnOk P w K mg base CX0 2 (A 9) (FD 9) ["thing", "least", "most"] spWithinI := by
  have G_is_whole := ok_is_wholeI (P := P) (w := w) (base := base) T
  refine T.f_is_within.ok (k := 1) sc_is_within (fun vs H Q E h => ?_) (fun cdv A' outer s H vs Q E hr h => ?_)
  · obtain ⟨i, lo, hi, rfl, _⟩ := h
    rfl
  · obtain ⟨i, lo, hi, rfl, l1, l2, q⟩ := h
    refine ⟨_, (pss_one (ps_ret (pe_and (pe_call G_is_whole hr (by rfl) T.g_is_whole T.f_is_whole.kp T.b_is_whole .nil pass0 (pa_cons (pv 0) pa_nil)) (pe_one (pe_chain op_le op_le (pv 1) (pv 0) (pv 2)))))), ?_⟩
    refine ⟨.int i, rfl, i, rfl, true, rfl, .int lo, rfl, .int i, rfl, lo, i, rfl, rfl, true, congrArg V.bl (decide_eq_true l1), .int hi, rfl, i, hi, rfl, rfl, ?_⟩
    show Q (.bl (decide (i ≤ hi))) H
    rw [decide_eq_true l2]
    exact q
def spCheckN : Sp := fun vs H Q _ => ∃ n : Int, vs = [.int n] ∧ 1 ≤ n ∧ n ≤ 9999 ∧ Q .non H
set_option maxHeartbeats 4000000 in
theorem ok_check_page_number (T : TX K mg A FD TK) : FnOk P w K mg base CX0 3 (A 12) (FD 12) ["number"] spCheckN := by
  have G_is_within := ok_is_within (P := P) (w := w) (base := base) T
  refine T.f_check_page_number.ok (k := 2) sc_check_page_number (fun vs H Q E h => ?_) (fun cdv A' outer s H vs Q E hr h => ?_)
  · obtain ⟨n, rfl, _⟩ := h
    rfl
  · obtain ⟨n, rfl, l1, l2, q⟩ := h
    refine ⟨_, (pss_one (ps_if (pt_not (pt_val (pe_call G_is_within hr (by rfl) T.g_is_within T.f_is_within.kp T.b_is_within .nil pass0 (pa_cons (pv 0) (pa_cons pe_int (pa_cons (pe_glob (v := .int 9999) (by rfl) T.c_MOST_NUMBER ⟨_, rfl⟩) pa_nil))))))
      (pss_one ps_never)
      pss_nil)), ?_⟩
    exact ⟨.int n, rfl, n, 1, 9999, rfl, l1, l2, true, rfl, q⟩
def spEqR (C : Addr) : Sp := fun vs H Q _ => ∃ (a c : Addr) (t b u d : Int), vs = [.ref a, .ref c] ∧ Rt C H a t b ∧ Rt C H c u d ∧ Q (.bl (decide (t = u) && decide (b = d))) H
set_option maxHeartbeats 4000000 in
theorem ok_eqR (T : TX K mg A FD TK) : FnOk P w K mg base CX0 1 (A 37) (FD 37) ["self", "other"] (spEqR (A 17)) := by
  refine T.f_Ratio_eq.ok sc_Ratio_eq (fun vs H Q E h => ?_) (fun cdv A' outer s H vs Q E hr h => ?_)
  · obtain ⟨a, c, t, b, u, d, rfl, _⟩ := h
    rfl
  · obtain ⟨a, c, t, b, u, d, rfl, ⟨da, ha⟩, ⟨db, hb⟩, q⟩ := h
    refine ⟨_, (pss_one (ps_ret (pe_and (pe_callB (isiK (K := K) rfl) (by rfl) T.m_isinstance (by decide +kernel) (pa_cons (pv 1) (pa_cons (pe_glob (v := .ref (A 17)) (by rfl) T.k_Ratio rfl) pa_nil))) (pe_and (pe_cmpR op_eq (fldK (K := K) rfl (pv 0) rfl) (fldK (K := K) rfl (pv 1) rfl) (nomark _)) (pe_one (pe_cmpR op_eq (fldK (K := K) rfl (pv 0) rfl) (fldK (K := K) rfl (pv 1) rfl) (nomark _))))))), ?_⟩
    refine ⟨.ref c, rfl, .ref c, .ref (A 17), _, .ref (A 17), true, rfl, .own _, .base (.ins hb T.cl_Ratio T.ci T.cs T.ct T.cm), T.kr, true, rfl, ?_⟩
    have e1 : decide (V.int t = V.int u) = decide (t = u) := by by_cases h : t = u <;> simp [h]
    have e2 : decide (V.int b = V.int d) = decide (b = d) := by by_cases h : b = d <;> simp [h]
    refine ⟨.ref a, rfl, a, _, da, _, _, rfl, ha, T.cl_Ratio, T.n_Ratio_top, rfl, .ref c, rfl, c, _, db, _, _, rfl, hb, T.cl_Ratio, T.n_Ratio_top, rfl, rfl, decide (t = u), congrArg V.bl e1, ?_⟩
    by_cases h : t = u
    · rw [decide_eq_true h] at q ⊢
      refine ⟨.ref a, rfl, a, _, da, _, _, rfl, ha, T.cl_Ratio, T.n_Ratio_bottom, rfl, .ref c, rfl, c, _, db, _, _, rfl, hb, T.cl_Ratio, T.n_Ratio_bottom, rfl, rfl, ?_⟩
      rw [e2]
      exact q
    · rw [decide_eq_false h] at q ⊢
      exact q
def spAhead (K : PySem.W.Frag) (C : Addr) : Sp := fun vs H Q _ => ∃ (r h q : Addr) (x y : En), vs = [.int x.1, .ref r, .ref h] ∧ Rt C H r x.2.1 x.2.2 ∧ SqT K H h [.int y.1, .ref q] ∧ Rt C H q y.2.1 y.2.2 ∧ x.2.1.natAbs < 2 ^ 1900 ∧ x.2.2.natAbs < 2 ^ 1900 ∧ y.2.1.natAbs < 2 ^ 1900 ∧ y.2.2.natAbs < 2 ^ 1900 ∧ Q (.bl (aheadB x y)) H
set_option maxHeartbeats 4000000 in
theorem ok_is_ahead (T : TX K mg A FD TK) : FnOk P w K mg base CX0 2 (A 26) (FD 26) ["number", "ratio", "held"] (spAhead K (A 17)) := by
  have G_Ratio_eq := ok_eqR (P := P) (w := w) (base := base) T
  have G_Ratio_is_less := ok_is_less (P := P) (w := w) (base := base) T
  refine T.f_is_ahead.ok (k := 1) sc_is_ahead (fun vs H Q E h => ?_) (fun cdv A' outer s H vs Q E hr h => ?_)
  · obtain ⟨r, h, q, x, y, rfl, _⟩ := h
    rfl
  · obtain ⟨r, h, q, x, y, rfl, hr1, hh, ⟨dq, hq⟩, b1, b2, b3, b4, fin⟩ := h
    refine ⟨_, (pss_cons (ps_asg (pv 2) (pg_tup rfl (pgs_cons (pg_name (i := 3) sc_is_ahead.nd rfl (.inl rfl)) (pgs_cons (pg_name (i := 4) sc_is_ahead.nd rfl (.inl rfl)) pgs_nil))))
      (pss_one (ps_ret (pe_or (pe_meth (pv 4) T.cl_Ratio T.M_Ratio_is_less G_Ratio_is_less hr T.b_Ratio_is_less .nil pass0 (pa_cons (pv 1) pa_nil)) (pe_one (pe_and (pe_cmpR (Own.op_eqO G_Ratio_eq T.M_Ratio_eq T.b_Ratio_eq pass0 hr (K := K) rfl) (pv 4) (pv 1) (nomark _)) (pe_one (pe_cmpR op_lt (pv 0) (pv 3) (nomark _))))))))), ?_⟩
    obtain ⟨dr, hr2⟩ := hr1
    refine ⟨.ref h, rfl, h, _, rfl, hh, rfl, _, _, rfl, _, _, rfl, rfl, .ref q, rfl, q, dq, _, rfl, hq, rfl, .ref r, rfl, q, r, _, _, _, _, rfl, ⟨dq, hq⟩, ⟨dr, hr2⟩, b3, b4, b1, b2, _, rfl, ?_⟩
    unfold aheadB at fin
    cases z : decide (y.2.1 * x.2.2 < x.2.1 * y.2.2) with
    | true =>
      rw [z, Bool.true_or] at fin
      exact fin
    | false =>
      rw [z, Bool.false_or] at fin
      refine ⟨.ref q, rfl, .ref r, rfl, q, dq, _, rfl, hq, .inl ⟨r, dr, _, rfl, hr2⟩, q, r, _, _, _, _, rfl, ⟨dq, hq⟩, ⟨dr, hr2⟩, _, rfl, _, rfl, ?_⟩
      cases z2 : (decide (y.2.1 = x.2.1) && decide (y.2.2 = x.2.2)) with
      | true =>
        rw [z2, Bool.true_and] at fin
        exact ⟨.int x.1, rfl, .int y.1, rfl, _, _, rfl, rfl, fin⟩
      | false =>
        rw [z2, Bool.false_and] at fin
        exact fin

/-! ### the order of entries; the first k of all -/
theorem mul_pos' {a b : Int} (h : 0 < a) (h' : 0 < b) : 0 < a * b := Int.mul_pos h h'
/-- x goes ahead of y -/
def Ah (x y : En) : Prop := aheadB x y = true
/-- a fair entry -/
def EnOk (x : En) : Prop := 1 ≤ x.1 ∧ x.1 ≤ 9999 ∧ Nm x.2.1 x.2.2 ∧ x.2.1.natAbs < 2 ^ 40 ∧ x.2.2.natAbs < 2 ^ 40
theorem ah_iff {x y : En} : Ah x y ↔ y.2.1 * x.2.2 < x.2.1 * y.2.2 ∨ (y.2.1 = x.2.1 ∧ y.2.2 = x.2.2 ∧ x.1 < y.1) := by
  unfold Ah aheadB
  simp only [Bool.or_eq_true, Bool.and_eq_true, decide_eq_true_eq, and_assoc]
/-- two ratios in lowest terms of like worth are alike -/
theorem nm_eq {t b u d : Int} (h : Nm t b) (h' : Nm u d) (e : t * d = u * b) : t = u ∧ b = d := by
  have hb := h.1
  have hd := h'.1
  have e2 : t.natAbs * d.natAbs = u.natAbs * b.natAbs := by rw [← Int.natAbs_mul, ← Int.natAbs_mul, e]
  have c1 : Nat.Coprime b.natAbs t.natAbs := by rw [Nat.coprime_comm]; exact h.2
  have c2 : Nat.Coprime d.natAbs u.natAbs := by rw [Nat.coprime_comm]; exact h'.2
  have d1 : b.natAbs ∣ d.natAbs := c1.dvd_of_dvd_mul_left (by rw [e2]; exact Nat.dvd_mul_left ..)
  have d2 : d.natAbs ∣ b.natAbs := c2.dvd_of_dvd_mul_left (by rw [← e2]; exact Nat.dvd_mul_left ..)
  have eb : b.natAbs = d.natAbs := Nat.dvd_antisymm d1 d2
  have eb' : b = d := by omega
  subst eb'
  exact ⟨Int.eq_of_mul_eq_mul_right (by omega) e, rfl⟩
theorem ah_irrefl (x : En) : ¬ Ah x x := by
  rw [ah_iff]
  omega
theorem ah_trans {x y z : En} (hx : EnOk x) (hy : EnOk y) (hz : EnOk z) (h : Ah x y) (h' : Ah y z) : Ah x z := by
  rw [ah_iff] at *
  obtain ⟨n1, t1, b1⟩ := x
  obtain ⟨n2, t2, b2⟩ := y
  obtain ⟨n3, t3, b3⟩ := z
  simp only at *
  have p1 : 0 < b1 := hx.2.2.1.1
  have p2 : 0 < b2 := hy.2.2.1.1
  have p3 : 0 < b3 := hz.2.2.1.1
  rcases h with h | ⟨e1, e2, h⟩
  · rcases h' with h' | ⟨e3, e4, h'⟩
    · left
      have a1 : t3 * b2 * b1 < t2 * b3 * b1 := Int.mul_lt_mul_of_pos_right h' p1
      have a2 : t2 * b1 * b3 < t1 * b2 * b3 := Int.mul_lt_mul_of_pos_right h p3
      have r1 : t2 * b3 * b1 = t2 * b1 * b3 := by rw [Int.mul_assoc, Int.mul_assoc, Int.mul_comm b3 b1]
      have r2 : t3 * b2 * b1 = t3 * b1 * b2 := by rw [Int.mul_assoc, Int.mul_assoc, Int.mul_comm b2 b1]
      have r3 : t1 * b2 * b3 = t1 * b3 * b2 := by rw [Int.mul_assoc, Int.mul_assoc, Int.mul_comm b2 b3]
      have a3 : t3 * b1 * b2 < t1 * b3 * b2 := by omega
      exact Int.lt_of_mul_lt_mul_right a3 (Int.le_of_lt p2)
    · left
      rw [e3, e4]
      exact h
  · rcases h' with h' | ⟨e3, e4, h'⟩
    · left
      rw [← e1, ← e2]
      exact h'
    · right
      exact ⟨by omega, by omega, by omega⟩
theorem ah_total {x y : En} (hx : EnOk x) (hy : EnOk y) (n : x.1 ≠ y.1) : Ah x y ∨ Ah y x := by
  rw [ah_iff, ah_iff]
  rcases Int.lt_trichotomy (y.2.1 * x.2.2) (x.2.1 * y.2.2) with h | h | h
  · exact .inl (.inl h)
  · obtain ⟨e1, e2⟩ := nm_eq hy.2.2.1 hx.2.2.1 h
    rcases Int.lt_or_gt_of_ne n with l | l
    · exact .inl (.inr ⟨e1, e2, l⟩)
    · exact .inr (.inr ⟨e1.symm, e2.symm, l⟩)
  · exact .inr (.inl h)
theorem ah_asymm {x y : En} (hx : EnOk x) (hy : EnOk y) (h : Ah x y) : ¬ Ah y x := fun z => ah_irrefl x (ah_trans hx hy hx h z)
/-- fair entries of unlike numbers -/
def Fair (L : List En) : Prop := (∀ x ∈ L, EnOk x) ∧ L.Pairwise fun x y => x.1 ≠ y.1
/-- in order -/
def Ordd (L : List En) : Prop := L.Pairwise Ah
/-- as the program puts it: behind all that it isn't ahead of -/
def plc (x : En) (S : List En) : Nat := (S.filter fun y => !aheadB x y).length
def ins (x : En) (S : List En) : List En := S.take (plc x S) ++ [x] ++ S.drop (plc x S)
/-- in an ordered list those that x isn't ahead of come first -/
theorem ins_eq : ∀ {S : List En} {x : En}, (∀ y ∈ S, EnOk y) → EnOk x → Ordd S → (∀ y ∈ S, x.1 ≠ y.1) → (∀ y ∈ S.take (plc x S), Ah y x) ∧ ∀ y ∈ S.drop (plc x S), Ah x y
  | [], x, _, _, _, _ => ⟨fun y h => by simp at h, fun y h => by simp at h⟩
  | y :: S, x, h, hx, ho, hn => by
    have ho' := List.pairwise_cons.mp ho
    have hy := h y (List.mem_cons_self ..)
    have ih := ins_eq (S := S) (x := x) (fun z hz => h z (List.mem_cons_of_mem _ hz)) hx ho'.2 (fun z hz => hn z (List.mem_cons_of_mem _ hz))
    cases q : aheadB x y with
    | false =>
      have e : plc x (y :: S) = plc x S + 1 := by unfold plc; rw [List.filter_cons]; simp [q]
      rw [e, List.take_succ_cons, List.drop_succ_cons]
      refine ⟨fun z hz => ?_, ih.2⟩
      rcases List.mem_cons.mp hz with rfl | hz
      · rcases ah_total hx hy (hn z (List.mem_cons_self ..)) with a | a
        · rw [show aheadB x z = true from a] at q; cases q
        · exact a
      · exact ih.1 z hz
    | true =>
      have all : ∀ z ∈ S, aheadB x z = true := fun z hz => ah_trans hx hy (h z (List.mem_cons_of_mem _ hz)) q (ho'.1 z hz)
      have e : plc x (y :: S) = 0 := by
        unfold plc
        rw [List.filter_cons]
        simp only [q, Bool.not_true, Bool.false_eq_true, if_false]
        rw [List.filter_eq_nil_iff.mpr (fun z hz => by simp [all z hz])]
        rfl
      rw [e]
      refine ⟨fun z hz => by simp at hz, fun z hz => ?_⟩
      rcases List.mem_cons.mp hz with rfl | hz
      · exact q
      · exact all z hz
theorem plc_le (x : En) (S : List En) : plc x S ≤ S.length := List.length_filter_le ..
theorem ins_perm (x : En) (S : List En) : (ins x S).Perm (x :: S) := by
  unfold ins
  have e : S = S.take (plc x S) ++ S.drop (plc x S) := (List.take_append_drop ..).symm
  conv => rhs; rw [e]
  rw [List.append_assoc]
  exact List.perm_middle
theorem ins_ord {S : List En} {x : En} (h : ∀ y ∈ S, EnOk y) (hx : EnOk x) (ho : Ordd S) (hn : ∀ y ∈ S, x.1 ≠ y.1) : Ordd (ins x S) := by
  have q := ins_eq h hx ho hn
  have e : S = S.take (plc x S) ++ S.drop (plc x S) := (List.take_append_drop ..).symm
  have ho2 : Ordd (S.take (plc x S) ++ S.drop (plc x S)) := by rw [← e]; exact ho
  have p := List.pairwise_append.mp ho2
  unfold ins Ordd
  rw [List.append_assoc]
  refine List.pairwise_append.mpr ⟨p.1, List.pairwise_cons.mpr ⟨q.2, p.2.1⟩, fun a ha b hb => ?_⟩
  rcases List.mem_cons.mp hb with rfl | hb
  · exact q.1 a ha
  · exact p.2.2 a ha b hb
/-- all of them, put one behind another -/
def srt (L : List En) : List En := L.foldl (fun S x => ins x S) []
theorem srt_snoc (L : List En) (x : En) : srt (L ++ [x]) = ins x (srt L) := by
  unfold srt
  rw [List.foldl_append]
  rfl
theorem fair_perm {A B : List En} (p : A.Perm B) (h : Fair A) : Fair B := ⟨fun x hx => h.1 x (p.mem_iff.mpr hx), (p.pairwise_iff (fun h => Ne.symm h)).mp h.2⟩
theorem fold_all : ∀ (L S : List En), Ordd S → Fair (S ++ L) → (L.foldl (fun S x => ins x S) S).Perm (S ++ L) ∧ Ordd (L.foldl (fun S x => ins x S) S)
  | [], S, ho, _ => ⟨by rw [List.append_nil]; exact List.Perm.refl _, ho⟩
  | x :: L, S, ho, hf => by
    have pw := List.pairwise_append.mp hf.2
    have hS : ∀ y ∈ S, EnOk y := fun y hy => hf.1 y (List.mem_append_left _ hy)
    have hx : EnOk x := hf.1 x (List.mem_append_right _ (List.mem_cons_self ..))
    have hn : ∀ y ∈ S, x.1 ≠ y.1 := fun y hy => (pw.2.2 y hy x (List.mem_cons_self ..)).symm
    have p1 : (ins x S ++ L).Perm (S ++ x :: L) := ((ins_perm x S).append_right L).trans List.perm_middle.symm
    have ih := fold_all L (ins x S) (ins_ord hS hx ho hn) (fair_perm p1.symm hf)
    exact ⟨ih.1.trans p1, ih.2⟩
theorem srt_all {L : List En} (h : Fair L) : (srt L).Perm L ∧ Ordd (srt L) := fold_all L [] List.Pairwise.nil h
theorem ord_uniq {A B : List En} (hA : Ordd A) (hB : Ordd B) (p : A.Perm B) (h : ∀ x ∈ A, EnOk x) : A = B :=
  List.Perm.eq_of_pairwise (le := Ah) (fun a b ha hb h1 h2 => absurd h2 (ah_asymm (h a ha) (h b (p.mem_iff.mpr hb)) h1)) hA hB p
theorem srt_perm {A B : List En} (h : Fair A) (p : A.Perm B) : srt A = srt B := by
  have a := srt_all h
  have b := srt_all (fair_perm p h)
  exact ord_uniq a.2 b.2 (a.1.trans (p.trans b.1.symm)) (fun x hx => h.1 x (a.1.mem_iff.mp hx))
theorem plc_zero {x : En} : ∀ {S : List En}, (∀ z ∈ S, aheadB x z = true) → plc x S = 0 := fun {S} h => by
  unfold plc
  rw [List.filter_eq_nil_iff.mpr (fun z hz => by simp [h z hz])]
  rfl
theorem plc_take : ∀ {S : List En} {x : En} (k : Nat), (∀ y ∈ S, EnOk y) → EnOk x → Ordd S → plc x (S.take k) = min k (plc x S)
  | [], x, k, _, _, _ => by simp [plc]
  | y :: S, x, 0, _, _, _ => by simp [plc]
  | y :: S, x, k + 1, h, hx, ho => by
    have ho' := List.pairwise_cons.mp ho
    have ih := plc_take (S := S) (x := x) k (fun z hz => h z (List.mem_cons_of_mem _ hz)) hx ho'.2
    rw [List.take_succ_cons]
    cases q : aheadB x y with
    | false =>
      have e : ∀ R, plc x (y :: R) = plc x R + 1 := fun R => by unfold plc; rw [List.filter_cons]; simp [q]
      rw [e, e, ih]
      omega
    | true =>
      have all : ∀ z ∈ S, aheadB x z = true := fun z hz => ah_trans hx (h y (List.mem_cons_self ..)) (h z (List.mem_cons_of_mem _ hz)) q (ho'.1 z hz)
      rw [plc_zero (fun z hz => ?_), plc_zero (fun z hz => ?_)]
      · simp
      · rcases List.mem_cons.mp hz with rfl | hz
        · exact q
        · exact all z hz
      · rcases List.mem_cons.mp hz with rfl | hz
        · exact q
        · exact all z (List.mem_of_mem_take hz)
/-- to cut ahead and behind is the same -/
theorem ins_cut {S : List En} {x : En} (k : Nat) (h : ∀ y ∈ S, EnOk y) (hx : EnOk x) (ho : Ordd S) : (ins x (S.take k)).take k = (ins x S).take k := by
  have pl := plc_le x S
  unfold ins
  rw [plc_take k h hx ho]
  generalize plc x S = p at pl
  by_cases c : p < k
  · rw [Nat.min_eq_right (by omega), List.take_take, Nat.min_eq_left (by omega), List.drop_take]
    have la : (S.take p ++ [x]).length = p + 1 := by rw [List.length_append, List.length_take]; simp; omega
    generalize S.take p ++ [x] = R at la
    rw [List.take_append, List.take_append, la, List.take_take, Nat.min_eq_left (by omega)]
  · rw [Nat.min_eq_left (by omega), List.take_take, Nat.min_self]
    have l1 : (S.take k).length = k := by rw [List.length_take]; omega
    rw [List.append_assoc, List.take_append_of_le_length (by omega), List.take_of_length_le (by omega), List.append_assoc, List.take_append_of_le_length (by rw [List.length_take]; omega), List.take_take, Nat.min_eq_left (by omega)]
/-- one of all that isn't among the first k changes nothing -/
theorem ins_again {S : List En} {x : En} {k : Nat} (h : ∀ y ∈ S, EnOk y) (ho : Ordd S) (hx : x ∈ S) (hn : x ∉ S.take k) : (ins x (S.take k)).take k = S.take k ∧ plc x (S.take k) = k := by
  have e : S = S.take k ++ S.drop k := (List.take_append_drop ..).symm
  have hd : x ∈ S.drop k := by
    rw [e] at hx
    rcases List.mem_append.mp hx with z | z
    · exact absurd z hn
    · exact z
  have hl : k ≤ S.length := by
    rcases Nat.lt_or_ge S.length k with l | l
    · rw [List.drop_of_length_le (by omega)] at hd
      simp at hd
    · exact l
  have l1 : (S.take k).length = k := by rw [List.length_take]; omega
  have ho2 : Ordd (S.take k ++ S.drop k) := by rw [← e]; exact ho
  have pw := (List.pairwise_append.mp ho2).2.2
  have pk : plc x (S.take k) = k := by
    unfold plc
    rw [List.filter_eq_self.mpr, l1]
    intro y hy
    have a := ah_asymm (h y (List.mem_of_mem_take hy)) (h x hx) (pw y hy x hd)
    simp only [Bool.not_eq_true']
    exact Bool.eq_false_iff.mpr a
  refine ⟨?_, pk⟩
  unfold ins
  rw [pk, List.append_assoc, List.take_append_of_le_length (by rw [List.take_take, Nat.min_self]; omega), List.take_take, Nat.min_self, List.take_take, Nat.min_self]
/-- what the k best hold -/
def topk (k : Nat) (L : List En) : List En := (srt L).take k
theorem topk_put {L : List En} {x : En} (k : Nat) (h : Fair (L ++ [x])) : (ins x (topk k L)).take k = topk k (L ++ [x]) := by
  have hL : Fair L := ⟨fun y hy => h.1 y (List.mem_append_left _ hy), (List.pairwise_append.mp h.2).1⟩
  have a := srt_all hL
  unfold topk
  rw [ins_cut k (fun y hy => hL.1 y (a.1.mem_iff.mp hy)) (h.1 x (by simp)) a.2, srt_snoc]

theorem get_snoc {α : Type} {xs : List α} {x y : α} {i : Nat} (h : (xs ++ [x])[i]? = some y) : xs[i]? = some y ∨ (i = xs.length ∧ y = x) := by
  by_cases l : i < xs.length
  · rw [List.getElem?_append_left l] at h
    exact .inl h
  · rw [List.getElem?_append_right (by omega)] at h
    have : i - xs.length = 0 := by
      have := (List.getElem?_eq_some_iff.mp h).1
      simp at this
      omega
    rw [this] at h
    exact .inr ⟨by omega, (Option.some.inj h).symm⟩
theorem snoc_get {α : Type} {xs : List α} {x : α} : (xs ++ [x])[xs.length]? = some x := by simp
theorem snoc_old {α : Type} {xs : List α} {x y : α} {i : Nat} (h : xs[i]? = some y) : (xs ++ [x])[i]? = some y := by
  rw [List.getElem?_append_left (List.getElem?_eq_some_iff.mp h).1]
  exact h
theorem take_snoc {α : Type} {xs : List α} {i : Nat} {x : α} (h : xs[i]? = some x) : xs.take (i + 1) = xs.take i ++ [x] := by
  rw [List.take_succ, h]
  rfl

/-! ### the best as an object -/
/-- entries at a list's items: tuples of a number and a ratio -/
def Es (C : Addr) (H : Hp) (xs : List V) (S : List En) : Prop := xs.length = S.length ∧ ∀ (i : Nat) (x : En), S[i]? = some x → ∃ a r, xs[i]? = some (.ref a) ∧ H a = some (.tup [.int x.1, .ref r]) ∧ Rt C H r x.2.1 x.2.2
def BestAt (CB C : Addr) (H : Hp) (p : Addr) (k : Nat) (S : List En) : Prop := ∃ dx l xs, H p = some (.ins CB dx [("k", .int (k : Int)), ("held", .ref l)]) ∧ H l = some (.lst xs) ∧ Es C H xs S
theorem rt_ne {C CB : Addr} {H : Hp} {p r dx : Addr} {k t b : Int} {l : V} (hp : H p = some (.ins CB dx [("k", .int k), ("held", l)])) (h : Rt C H r t b) : r ≠ p := by
  obtain ⟨d, h⟩ := h
  refine ne_of h hp fun z => ?_
  injection z with z1 z2 z3
  injection z3 with z4 z5
  injection z4 with z6 z7
  exact absurd z6 (by decide +kernel)
theorem Es.mono {C : Addr} {H H' : Hp} {xs : List V} {S : List En} (h : Es C H xs S) (f : ∀ a ys, H a = some (.tup ys) → H' a = some (.tup ys)) (g : ∀ r t b, Rt C H r t b → Rt C H' r t b) : Es C H' xs S := ⟨h.1, fun i x e => let ⟨a, r, h1, h2, h3⟩ := h.2 i x e; ⟨a, r, h1, f _ _ h2, g _ _ _ h3⟩⟩
theorem Es.ex {C : Addr} {H H' : Hp} {xs : List V} {S : List En} (h : Es C H xs S) (e : Ex H H') : Es C H' xs S := h.mono (fun _ _ z => e _ _ z) (fun _ _ _ z => z.ex e)
theorem Es.exI {C CB : Addr} {H H' : Hp} {xs : List V} {S : List En} {p dx : Addr} {k : Int} {l : V} (h : Es C H xs S) (hp : H p = some (.ins CB dx [("k", .int k), ("held", l)])) (e : ExI p H H') : Es C H' xs S :=
  h.mono (fun a ys z => e _ _ (ne_of z hp (by intro q; cases q)) z) (fun r t b z => by
    have n := rt_ne hp z
    obtain ⟨d, z⟩ := z
    exact ⟨d, e _ _ n z⟩)
theorem BestAt.ex {CB C : Addr} {H H' : Hp} {p : Addr} {k : Nat} {S : List En} (h : BestAt CB C H p k S) (e : Ex H H') : BestAt CB C H' p k S := by
  obtain ⟨dx, l, xs, h1, h2, h3⟩ := h
  exact ⟨dx, l, xs, e _ _ h1, e _ _ h2, h3.ex e⟩
theorem Es.take {C : Addr} {H : Hp} {xs : List V} {S : List En} (h : Es C H xs S) (n : Nat) : Es C H (xs.take n) (S.take n) := by
  refine ⟨by rw [List.length_take, List.length_take, h.1], fun i x e => ?_⟩
  rw [List.getElem?_take] at e
  split at e
  · rename_i l
    obtain ⟨a, r, h1, h2⟩ := h.2 i x e
    exact ⟨a, r, by rw [List.getElem?_take, if_pos l]; exact h1, h2⟩
  · cases e
theorem Es.drop {C : Addr} {H : Hp} {xs : List V} {S : List En} (h : Es C H xs S) (n : Nat) : Es C H (xs.drop n) (S.drop n) := by
  refine ⟨by rw [List.length_drop, List.length_drop, h.1], fun i x e => ?_⟩
  rw [List.getElem?_drop] at e
  obtain ⟨a, r, h1, h2⟩ := h.2 _ x e
  exact ⟨a, r, by rw [List.getElem?_drop]; exact h1, h2⟩
theorem Es.app {C : Addr} {H : Hp} {xs ys : List V} {S R : List En} (h : Es C H xs S) (h' : Es C H ys R) : Es C H (xs ++ ys) (S ++ R) := by
  refine ⟨by rw [List.length_append, List.length_append, h.1, h'.1], fun i x e => ?_⟩
  by_cases l : i < S.length
  · rw [List.getElem?_append_left l] at e
    obtain ⟨a, r, h1, h2⟩ := h.2 i x e
    exact ⟨a, r, by rw [List.getElem?_append_left (by rw [h.1]; exact l)]; exact h1, h2⟩
  · rw [List.getElem?_append_right (by omega)] at e
    obtain ⟨a, r, h1, h2⟩ := h'.2 _ x e
    exact ⟨a, r, by rw [List.getElem?_append_right (by rw [h.1]; omega), h.1]; exact h1, h2⟩
theorem Es.one {C : Addr} {H : Hp} {a r : Addr} {x : En} (h : H a = some (.tup [.int x.1, .ref r])) (g : Rt C H r x.2.1 x.2.2) : Es C H [.ref a] [x] := by
  refine ⟨rfl, fun i y e => ?_⟩
  cases i with
  | zero => cases e; exact ⟨a, r, rfl, h, g⟩
  | succ i => simp at e
theorem Es.at {C : Addr} {H : Hp} {xs : List V} {S : List En} (h : Es C H xs S) {i : Nat} {v : V} (g : xs[i]? = some v) : ∃ x a r, S[i]? = some x ∧ v = .ref a ∧ H a = some (.tup [.int x.1, .ref r]) ∧ Rt C H r x.2.1 x.2.2 := by
  have hi : i < S.length := by rw [← h.1]; exact (List.getElem?_eq_some_iff.mp g).1
  obtain ⟨a, r, g1, g2⟩ := h.2 i S[i] (List.getElem?_eq_getElem hi)
  rw [g] at g1
  exact ⟨S[i], a, r, List.getElem?_eq_getElem hi, Option.some.inj g1, g2⟩
theorem cut_to (xs : List V) (n : Nat) : cutV xs none (some (n : Int)) = xs.take n := by
  unfold cutV
  rw [HT.sIx_none, HT.sIx_nat, List.drop_zero, Nat.sub_zero]
  rcases Nat.le_total n xs.length with l | l
  · rw [Nat.min_eq_left l]
  · rw [Nat.min_eq_right l, List.take_of_length_le l, List.take_of_length_le (Nat.le_refl _)]
theorem cut_from (xs : List V) (n : Nat) : cutV xs (some (n : Int)) none = xs.drop n := by
  unfold cutV
  rw [HT.sIx_none, HT.sIx_nat]
  rcases Nat.le_total n xs.length with l | l
  · rw [Nat.min_eq_left l]
    exact List.take_of_length_le (by rw [List.length_drop]; omega)
  · rw [Nat.min_eq_right l, Nat.sub_self, List.take_zero, List.drop_of_length_le l]
theorem lt19 {z : Int} (h : z.natAbs < 2 ^ 40) : z.natAbs < 2 ^ 1900 := lt2 h (by decide)
/-- a number that none of the entries has -/
theorem inV_no {n : Int} : ∀ {ns : List Int}, n ∉ ns → inV (.int n) (ns.map V.int) = false
  | [], _ => rfl
  | m :: ns, h => by
    rw [List.mem_cons, not_or] at h
    have ih := inV_no h.2
    unfold inV at ih ⊢
    rw [List.map_cons, List.any_cons, ih, Bool.or_false]
    simp [eqV, h.1, Ne.symm h.1]
def spPlace (CB C : Addr) : Sp := fun vs H Q _ => ∃ (p r : Addr) (k : Nat) (S : List En) (x : En), vs = [.ref p, .int x.1, .ref r] ∧ BestAt CB C H p k S ∧ Rt C H r x.2.1 x.2.2 ∧ EnOk x ∧ (∀ y ∈ S, EnOk y ∧ x.1 ≠ y.1) ∧ S.length ≤ 300 ∧ ∀ H', Ex H H' → Q (.int (plc x S : Int)) H'
set_option maxHeartbeats 8000000 in
theorem ok_place_for (T : TX K mg A FD TK) : FnOk P w K mg base CX0 4 (A 43) (FD 43) ["self", "number", "ratio"] (spPlace (A 25) (A 17)) := by
  have G_check_page_number := ok_check_page_number (P := P) (w := w) (base := base) T
  have G_is_ahead := (ok_is_ahead (P := P) (w := w) (base := base) T).mono (show 2 ≤ 3 by decide)
  refine T.f_Best_place_for.ok (k := 3) sc_Best_place_for (fun vs H Q E h => ?_) (fun cdv A' outer s H vs Q E hr h => ?_)
  · obtain ⟨p, r, k, S, x, rfl, _⟩ := h
    rfl
  · obtain ⟨p, r, k, S, x, rfl, ⟨dx, l, xs, hp, hl, hE⟩, ⟨dr, hR⟩, hx, hS, hn, q⟩ := h
    refine ⟨_, (pss_cons (ps_expr (pe_call G_check_page_number hr (by rfl) T.g_check_page_number T.f_check_page_number.kp T.b_check_page_number .nil pass0 (pa_cons (pv 1) pa_nil)))
      (pss_cons (ps_if (pt_cmpR (inK (K := K) rfl) (pv 1) (pe_lc (own := [("held", 3), ("worth", 4)])  rfl sc_Best_place_for.nd (piLK (K := K) rfl (fldK (K := K) rfl (pv 0) rfl)) (blkOk_by (own := [("held", 3), ("worth", 4)]) (N := N_Best_place_for) (sc := defScope (inClass (topS 25) 8)) (by decide +kernel)) (fun _ _ _ _ _ => (tupGK (K := K) (n := 2) rfl rfl (pgs_cons (pg_name (i := 3) sc_Best_place_for.nd rfl (Or.inl rfl)) (pgs_cons (pg_name (i := 4) sc_Best_place_for.nd rfl (Or.inl rfl)) pgs_nil)))) (fun _ _ _ _ _ => pts_nil) (fun _ _ _ _ _ => (pv 3))) (by rfl))
      (pss_one ps_never)
      pss_nil)
      (pss_one (ps_ret (pe_callB (lenK (K := K) rfl) (by rfl) T.m_len (by decide +kernel) (pa_cons (pe_lc (own := [("one", 5)])  rfl sc_Best_place_for.nd (piLK (K := K) rfl (fldK (K := K) rfl (pv 0) rfl)) (blkOk_by (own := [("one", 5)]) (N := N_Best_place_for) (sc := defScope (inClass (topS 25) 8)) (by decide +kernel)) (fun _ _ _ _ _ => (pg_name (i := 5) sc_Best_place_for.nd rfl (Or.inl rfl))) (fun _ _ _ _ _ => (pts_one (pt_not (pt_val (pe_call G_is_ahead hr (by rfl) T.g_is_ahead T.f_is_ahead.kp T.b_is_ahead .nil pass0 (pa_cons (pv 1) (pa_cons (pv 2) (pa_cons (pv 5) pa_nil)))))))) (fun _ _ _ _ _ => (pv 5))) pa_nil)))))), ?_⟩
    refine ⟨.int x.1, rfl, x.1, rfl, hx.1, hx.2.1, ?_⟩
    refine ⟨.int x.1, rfl, .ref p, rfl, p, _, dx, _, _, rfl, hp, T.cl_Best, T.n_Best_held, rfl, l, rfl, ⟨_, SqL.of hl⟩, fun D nD => ?_⟩
    refine lc_list (K := K) (xs := xs) (fun i H' => Ex H H' ∧ H' D = some (.lst (((S.take i).map (·.1)).map V.int))) ⟨Ex.new nD, upd_same⟩ (fun i H' _ z => SqL.of (z.1 _ _ hl)) (fun i v H' gv z => ?_) (fun H1 z => ?_)
    · obtain ⟨y, a, r', gy, rfl, ha, _⟩ := hE.at gv
      have hi : i < S.length := (List.getElem?_eq_some_iff.mp gy).1
      refine ⟨a, _, rfl, SqT.of (z.1 _ _ ha), rfl, _, _, rfl, _, _, rfl, rfl, rfl, .int y.1, rfl, _, z.2, ?_, Ex.mut z.1 nD, ?_⟩
      · rw [List.length_map, List.length_map, List.length_take]
        exact sz_lt (by omega)
      · rw [upd_same, take_snoc gy, List.map_append, List.map_append]
        rfl
    · obtain ⟨e1, hD⟩ := z
      rw [hE.1, List.take_length] at hD
      refine ⟨D, _, rfl, .inl (SqL.of hD), rfl, ?_, _, rfl, ?_⟩
      · rw [List.all_eq_true]
        intro v hv
        obtain ⟨m, _, rfl⟩ := List.mem_map.mp hv
        rfl
      rw [show inV (.int x.1) ((S.map (·.1)).map V.int) = false from inV_no (fun z => by
        obtain ⟨y, hy, e⟩ := List.mem_map.mp z
        exact (hS y hy).2 e.symm)]
      have hp1 := e1 _ _ hp
      have hl1 := e1 _ _ hl
      have hE1 := hE.ex e1
      refine ⟨.ref p, rfl, p, _, dx, _, _, rfl, hp1, T.cl_Best, T.n_Best_held, rfl, l, rfl, ⟨_, SqL.of hl1⟩, fun D2 nD2 => ?_⟩
      refine lc_list (K := K) (xs := xs) (fun i H' => Ex H1 H' ∧ ∃ acc, H' D2 = some (.lst acc) ∧ acc.length = plc x (S.take i)) ⟨Ex.new nD2, [], upd_same, rfl⟩ (fun i H' _ z => SqL.of (z.1 _ _ hl1)) (fun i v H' gv z => ?_) (fun H2 z => ?_)
      · obtain ⟨e2, acc, hD2, la⟩ := z
        obtain ⟨y, a, r', gy, rfl, ha, ⟨dr', hr'⟩⟩ := hE1.at gv
        have hy := (hS y (List.mem_of_getElem? gy)).1
        have lp := plc_le x (S.take i)
        rw [List.length_take] at lp
        have es : plc x (S.take (i + 1)) = plc x (S.take i) + (if aheadB x y = true then 0 else 1) := by
          unfold plc
          rw [take_snoc gy, List.filter_append, List.length_append]
          cases z : aheadB x y <;> simp [z]
        refine ⟨rfl, .int x.1, rfl, .ref r, rfl, .ref a, rfl, r, a, r', x, y, rfl, ⟨dr, e2 _ _ (e1 _ _ hR)⟩, SqT.of (e2 _ _ ha), ⟨dr', e2 _ _ hr'⟩, lt19 hx.2.2.2.1, lt19 hx.2.2.2.2, lt19 hy.2.2.2.1, lt19 hy.2.2.2.2, _, rfl, ?_⟩
        cases z : aheadB x y with
        | true =>
          rw [z] at es
          exact ⟨e2, acc, hD2, by rw [la, es]; rfl⟩
        | false =>
          rw [z] at es
          refine ⟨.ref a, rfl, acc, hD2, sz_lt (by omega), Ex.mut e2 nD2, acc ++ [.ref a], upd_same, ?_⟩
          rw [List.length_append, la, es]
          rfl
      · obtain ⟨e2, acc, hD2, la⟩ := z
        rw [hE.1, List.take_length] at la
        refine ⟨D2, _, rfl, .inl (SqL.of hD2), ?_⟩
        rw [la]
        exact q _ (e1.trans e2)
def spPut (CB C : Addr) : Sp := fun vs H Q _ => ∃ (p r : Addr) (k : Nat) (S : List En) (x : En), vs = [.ref p, .int x.1, .ref r] ∧ BestAt CB C H p k S ∧ Rt C H r x.2.1 x.2.2 ∧ EnOk x ∧ (∀ y ∈ S, EnOk y ∧ x.1 ≠ y.1) ∧ S.length ≤ 300 ∧ ∀ H', ExI p H H' → BestAt CB C H' p k ((ins x S).take k) → Q (.bl (decide ((plc x S : Int) < (k : Int)))) H'
set_option maxHeartbeats 8000000 in
theorem ok_put (T : TX K mg A FD TK) : FnOk P w K mg base CX0 6 (A 41) (FD 41) ["self", "number", "ratio"] (spPut (A 25) (A 17)) := by
  have G_Best_place_for := (ok_place_for (P := P) (w := w) (base := base) T).mono (show 4 ≤ 5 by decide)
  have G_ratio_of := ok_ratio_of (P := P) (w := w) (base := base) T
  refine T.f_Best_put.ok (k := 5) sc_Best_put (fun vs H Q E h => ?_) (fun cdv A' outer s H vs Q E hr h => ?_)
  · obtain ⟨p, r, k, S, x, rfl, _⟩ := h
    rfl
  · obtain ⟨p, r, k, S, x, rfl, hB, hR, hx, hS, hn, q⟩ := h
    refine ⟨_, (pss_cons (ps_set (i := 3) sc_Best_put.nd rfl (.inl rfl) (pe_meth (pv 0) T.cl_Best T.M_Best_place_for G_Best_place_for hr T.b_Best_place_for .nil pass0 (pa_cons (pv 1) (pa_cons (pv 2) pa_nil))))
      (pss_cons (ps_set (i := 4) sc_Best_put.nd rfl (.inl rfl) (pe_tup (pa_cons (pv 1) (pa_cons (pe_call G_ratio_of hr (by rfl) T.g_ratio_of T.f_ratio_of.kp T.b_ratio_of .nil pass0 (pa_cons (fldK (K := K) rfl (pv 2) rfl) (pa_cons (fldK (K := K) rfl (pv 2) rfl) pa_nil))) pa_nil))))
      (pss_cons (ps_set (i := 5) sc_Best_put.nd rfl (.inl rfl) (pe_lst (StX.pa_star (pe_slice (slLK (K := K) rfl) (fldK (K := K) rfl (pv 0) rfl) po_none (po_some (pv 3))) (pa_cons (pv 4) (StX.pa_star (pe_slice (slLK (K := K) rfl) (fldK (K := K) rfl (pv 0) rfl) (po_some (pv 3)) po_none) pa_nil)))))
      (pss_cons (ps_fld (pv 0) (pe_slice (slLK (K := K) rfl) (pv 5) po_none (po_some (fldK (K := K) rfl (pv 0) rfl))) rfl)
      (pss_one (ps_ret (pe_cmpR op_lt (pv 3) (fldK (K := K) rfl (pv 0) rfl) (nomark _)))))))), ?_⟩
    obtain ⟨dx, l, xs, hp, hl, hE⟩ := id hB
    refine ⟨.ref p, rfl, p, dx, _, rfl, hp, rfl, .int x.1, rfl, .ref r, rfl, p, r, k, S, x, rfl, hB, hR, hx, hS, hn, fun H0 e0 => ?_⟩
    have pl := plc_le x S
    obtain ⟨dr, hR0⟩ := hR.ex e0
    refine ⟨.int x.1, rfl, .ref r, rfl, r, _, dr, _, _, rfl, hR0, T.cl_Ratio, T.n_Ratio_top, rfl, .ref r, rfl, r, _, dr, _, _, rfl, hR0, T.cl_Ratio, T.n_Ratio_bottom, rfl, x.2.1, x.2.2, rfl, ?_, lt2 hx.2.2.2.1 (by decide), lt2 hx.2.2.2.2 (by decide), fun r2 Hr nr er hR2 => ?_⟩
    · have := hx.2.2.1.1
      omega
    rw [nm_t hx.2.2.1, nm_b hx.2.2.1] at hR2
    refine ⟨by show 2 ≤ sizeLine; decide, fun tt ntt => ?_⟩
    have e1 := (e0.trans er).trans (Ex.new (o := .tup [.int x.1, .ref r2]) ntt)
    have htt0 := upd_same (H := Hr) (a := tt) (o := .tup [.int x.1, .ref r2])
    have hR1 := hR2.ex (Ex.new (o := .tup [.int x.1, .ref r2]) ntt)
    generalize upd Hr tt (.tup [.int x.1, .ref r2]) = H1 at e1 htt0 hR1 ⊢
    refine ⟨.ref p, rfl, p, _, dx, _, _, rfl, e1 _ _ hp, T.cl_Best, T.n_Best_held, rfl, .int (plc x S : Int), rfl, plc x S, rfl, l, xs, rfl, SqL.of (e1 _ _ hl), fun l1 nl1 => ?_⟩
    rw [cut_to]
    have e2 := e1.trans (Ex.new (o := .lst (xs.take (plc x S))) nl1)
    refine ⟨l1, _, rfl, .inr (SqL.of upd_same), ?_⟩
    have e3 := e2
    refine ⟨.ref tt, rfl, .ref p, rfl, p, _, dx, _, _, rfl, e3 _ _ hp, T.cl_Best, T.n_Best_held, rfl, .int (plc x S : Int), rfl, plc x S, rfl, l, xs, rfl, SqL.of (e3 _ _ hl), fun l2 nl2 => ?_⟩
    rw [cut_from]
    have e4 := e3.trans (Ex.new (o := .lst (xs.drop (plc x S))) nl2)
    refine ⟨l2, _, rfl, .inr (SqL.of upd_same), ?_⟩
    refine ⟨?_, fun l3 nl3 => ?_⟩
    · rw [List.length_append, List.length_cons, List.length_append, List.length_take, List.length_drop, hE.1]
      exact sz (by simp; omega)
    have e5 := e4.trans (Ex.new (o := .lst (xs.take (plc x S) ++ (.ref tt :: (xs.drop (plc x S) ++ [])))) nl3)
    have htt := (Ex.new (o := .lst (xs.take (plc x S) ++ (.ref tt :: (xs.drop (plc x S) ++ [])))) nl3) _ _ ((Ex.new (o := .lst (xs.drop (plc x S))) nl2) _ _ ((Ex.new (o := .lst (xs.take (plc x S))) nl1) _ _ htt0))
    have hR5 := ((hR1.ex (Ex.new (o := .lst (xs.take (plc x S))) nl1)).ex (Ex.new (o := .lst (xs.drop (plc x S))) nl2)).ex (Ex.new (o := .lst (xs.take (plc x S) ++ (.ref tt :: (xs.drop (plc x S) ++ [])))) nl3)
    have hl3 := upd_same (a := l3) (H := upd (upd H1 l1 (.lst (xs.take (plc x S)))) l2 (.lst (xs.drop (plc x S)))) (o := .lst (xs.take (plc x S) ++ (.ref tt :: (xs.drop (plc x S) ++ []))))
    generalize (upd (upd (upd H1 l1 (.lst (xs.take (plc x S)))) l2 (.lst (xs.drop (plc x S)))) l3 (.lst (xs.take (plc x S) ++ (.ref tt :: (xs.drop (plc x S) ++ []))))) = H5 at e5 htt hl3 hR5 ⊢
    have hE5 : Es (A 17) H5 (xs.take (plc x S) ++ (.ref tt :: (xs.drop (plc x S) ++ []))) (ins x S) := by
      have z := ((hE.ex e5).take (plc x S)).app ((Es.one (a := tt) (r := r2) (x := x) htt hR5).app ((hE.ex e5).drop (plc x S)))
      unfold ins
      rw [List.append_nil, List.append_assoc]
      exact z
    have lx : (xs.take (plc x S) ++ (.ref tt :: (xs.drop (plc x S) ++ [])) : List V).length ≤ 1000 := by
      rw [List.length_append, List.length_cons, List.length_append, List.length_take, List.length_drop, hE.1]
      simp
      omega
    generalize (xs.take (plc x S) ++ (.ref tt :: (xs.drop (plc x S) ++ [])) : List V) = zs at hl3 hE5 lx
    refine ⟨.ref l3, rfl, .ref p, rfl, p, _, dx, _, _, rfl, e5 _ _ hp, T.cl_Best, T.n_Best_k, rfl, (k : Int), rfl, l3, zs, rfl, SqL.of hl3, fun l4 nl4 => ?_⟩
    rw [cut_to]
    have e6 := e5.trans (Ex.new (o := .lst (zs.take k)) nl4)
    have hp6 := e6 _ _ hp
    have hl4 := upd_same (H := H5) (a := l4) (o := .lst (zs.take k))
    have hE6 := (hE5.ex (Ex.new (o := .lst (zs.take k)) nl4)).take k
    generalize (upd H5 l4 (.lst (zs.take k))) = H6 at e6 hp6 hl4 hE6 ⊢
    refine ⟨.ref p, rfl, p, A 25, dx, _, rfl, hp6, T.cl_Best, T.n_Best_held, (by show 2 < 1000; decide), ?_⟩
    have i7 : ExI p H6 (upd H6 p (.ins (A 25) dx (putF "held" (.ref l4) [("k", .int (k : Int)), ("held", .ref l)]))) := fun c o nc h => by rw [upd_ne nc]; exact h
    have hp7 := upd_same (H := H6) (a := p) (o := .ins (A 25) dx (putF "held" (.ref l4) [("k", .int (k : Int)), ("held", .ref l)]))
    refine ⟨.int (plc x S : Int), rfl, .ref p, rfl, p, A 25, dx, _, _, rfl, hp7, T.cl_Best, T.n_Best_k, rfl, _, _, rfl, rfl, ?_⟩
    exact q _ (fun c o nc h => i7 _ _ nc (e6 _ _ h)) ⟨dx, l4, _, hp7, i7 _ _ (ne_of hl4 hp6 (by intro z; cases z)) hl4, hE6.exI hp6 i7⟩
def spTold (CB C : Addr) : Sp := fun vs H Q _ => ∃ (p : Addr) (k : Nat) (S : List En), vs = [.ref p] ∧ BestAt CB C H p k S ∧ ∀ l xs H', H l = none → Ex H H' → H' l = some (.lst xs) → Es C H' xs S → Q (.ref l) H'
set_option maxHeartbeats 4000000 in
theorem ok_told (T : TX K mg A FD TK) : FnOk P w K mg base CX0 1 (A 42) (FD 42) ["self"] (spTold (A 25) (A 17)) := by
  refine T.f_Best_told.ok sc_Best_told (fun vs H Q E h => ?_) (fun cdv A' outer s H vs Q E hr h => ?_)
  · obtain ⟨p, k, S, rfl, _⟩ := h
    rfl
  · obtain ⟨p, k, S, rfl, ⟨dx, l, xs, hp, hl, hE⟩, q⟩ := h
    refine ⟨_, (pss_one (ps_ret (pe_callTy (listK (K := K) rfl) (by rfl) T.m_list (by decide +kernel) (pa_cons (fldK (K := K) rfl (pv 0) rfl) pa_nil)))), ?_⟩
    exact ⟨.ref p, rfl, p, _, dx, _, _, rfl, hp, T.cl_Best, T.n_Best_held, rfl, l, xs, rfl, .inl (SqL.of hl), fun l2 nl2 => q l2 xs _ nl2 (Ex.new nl2) upd_same (hE.ex (Ex.new nl2))⟩
def spBInit (CB : Addr) : Sp := fun vs H Q _ => ∃ (x dx : Addr) (k : Nat), vs = [.ref x, .int (k : Int)] ∧ H x = some (.ins CB dx []) ∧ k ≤ 200 ∧ ∀ H' l, ExI x H H' → H' x = some (.ins CB dx [("k", .int (k : Int)), ("held", .ref l)]) → H' l = some (.lst []) → Q .non H'
set_option maxHeartbeats 4000000 in
theorem ok_binit (T : TX K mg A FD TK) : FnOk P w K mg base CX0 3 (A 39) (FD 39) ["self", "k"] (spBInit (A 25)) := by
  have G_is_within := ok_is_within (P := P) (w := w) (base := base) T
  refine T.f_Best_init.ok (k := 2) sc_Best_init (fun vs H Q E h => ?_) (fun cdv A' outer s H vs Q E hr h => ?_)
  · obtain ⟨x, dx, k, rfl, _⟩ := h
    rfl
  · obtain ⟨x, dx, k, rfl, hx, hk, q⟩ := h
    refine ⟨_, (pss_cons (ps_if (pt_not (pt_val (pe_call G_is_within hr (by rfl) T.g_is_within T.f_is_within.kp T.b_is_within .nil pass0 (pa_cons (pv 1) (pa_cons pe_int (pa_cons (pe_glob (v := .int 200) (by rfl) T.c_MOST ⟨_, rfl⟩) pa_nil))))))
      (pss_one ps_never)
      pss_nil)
      (pss_cons (ps_fld (pv 0) (pv 1) rfl)
      (pss_one (ps_fld (pv 0) (pe_lst pa_nil) rfl)))), ?_⟩
    refine ⟨.int (k : Int), rfl, (k : Int), 0, 200, rfl, by omega, by omega, true, rfl, ?_⟩
    refine ⟨.int (k : Int), rfl, .ref x, rfl, x, A 25, dx, [], rfl, hx, T.cl_Best, T.n_Best_k, (by show 0 < 1000; decide), ?_⟩
    have hx1 := upd_same (H := H) (a := x) (o := .ins (A 25) dx (putF "k" (.int (k : Int)) []))
    have i1 : ExI x H (upd H x (.ins (A 25) dx (putF "k" (.int (k : Int)) []))) := fun c o nc h => by rw [upd_ne nc]; exact h
    generalize (upd H x (.ins (A 25) dx (putF "k" (.int (k : Int)) []))) = H1 at hx1 i1 ⊢
    refine ⟨Nat.zero_le _, fun l nl => ?_⟩
    have e2 := Ex.new (o := .lst []) nl
    refine ⟨.ref x, rfl, x, A 25, dx, _, rfl, e2 _ _ hx1, T.cl_Best, T.n_Best_held, (by show 1 < 1000; decide), ?_⟩
    refine q _ l (fun c o nc h => ?_) upd_same ?_
    · rw [upd_ne nc]
      exact e2 _ _ (i1 _ _ nc h)
    · rw [upd_ne (ne_of_none hx1 nl).symm]
      exact upd_same
/-- what comes of Best(k) -/
theorem mk_best {CB C : Addr} {H : Hp} {x dx : Addr} {k : Nat} {R : Hp → Prop} {E : XK} (nx : H x = none) (ndx : H dx = none) (hk : k ≤ 200) (q : ∀ H', Ex H H' → BestAt CB C H' x k [] → R H') :
    spBInit CB [.ref x, .int (k : Int)] (upd (upd H dx (.own x)) x (.ins CB dx [])) (fun v H2 => v = .non ∧ R H2) E := by
  refine ⟨x, dx, k, rfl, upd_same, hk, fun H' l i hx hl => ⟨rfl, q H' (fun c o h => ?_) ⟨dx, l, [], hx, hl, rfl, fun i y e => by simp at e⟩⟩⟩
  refine i c o (ne_of_none h nx) ?_
  rw [upd_ne (ne_of_none h nx), upd_ne (ne_of_none h ndx)]
  exact h

/-! ### Best's ==, the law's best -/
theorem u65 {k : Nat} {A : Around} (r : Room k A) : A.units + 65 < cLine := by have := r.un; omega
theorem eqR_mon {C : Addr} : ∀ a b H H', Ext H H' → EqR C a b H → EqR C a b H' := fun a b H H' e ⟨t, d, ⟨x, h1⟩, ⟨y, h2⟩⟩ => ⟨t, d, ⟨x, e _ _ h1⟩, ⟨y, e _ _ h2⟩⟩
def spEqB (CB C : Addr) : Sp := fun vs H Q _ => ∃ (a c : Addr) (k : Nat) (S : List En), vs = [.ref a, .ref c] ∧ BestAt CB C H a k S ∧ BestAt CB C H c k S ∧ ∀ H', Ex H H' → Q (.bl true) H'
set_option maxHeartbeats 4000000 in
theorem ok_eqB (T : TX K mg A FD TK) : FnOk P w K mg base CX0 4 (A 40) (FD 40) ["self", "other"] (spEqB (A 25) (A 17)) := by
  have G_Ratio_eq := ok_eq (P := P) (w := w) (base := base) T
  refine T.f_Best_eq.ok (k := 3) sc_Best_eq (fun vs H Q E h => ?_) (fun cdv A' outer s H vs Q E hr h => ?_)
  · obtain ⟨a, c, k, S, rfl, _⟩ := h
    rfl
  · obtain ⟨a, c, k, S, rfl, ⟨da, la, xs, ha, hla, hE⟩, ⟨dc, lc, ys, hc, hlc, hF⟩, q⟩ := h
    refine ⟨_, (pss_one (ps_ret (pe_and (pe_callB (isiK (K := K) rfl) (by rfl) T.m_isinstance (by decide +kernel) (pa_cons (pv 1) (pa_cons (pe_glob (v := .ref (A 25)) (by rfl) T.k_Best rfl) pa_nil))) (pe_and (pe_cmpR op_eq (fldK (K := K) rfl (pv 0) rfl) (fldK (K := K) rfl (pv 1) rfl) (nomark _)) (pe_one (pe_cmpR (op_eqG (rcG_list (mon_tup (mon_flat.or (mon_ins eqR_mon))) (eqG_tup (mon_flat.or (mon_ins eqR_mon)) ((eqG_flat.mono (Nat.zero_le _)).or (eqG_ins G_Ratio_eq T.M_Ratio_eq.at_ T.M_Ratio_eq.fn T.b_Ratio_eq pass0)))) hr) (fldK (K := K) rfl (pv 0) rfl) (fldK (K := K) rfl (pv 1) rfl) (nomark _))))))), ?_⟩
    refine ⟨.ref c, rfl, .ref c, .ref (A 25), _, .ref (A 25), true, rfl, .own _, .base (.ins hc T.cl_Best T.ciB T.cs T.ct T.moB), T.kb, true, rfl, ?_⟩
    refine ⟨.ref a, rfl, a, _, da, _, _, rfl, ha, T.cl_Best, T.n_Best_k, rfl, .ref c, rfl, c, _, dc, _, _, rfl, hc, T.cl_Best, T.n_Best_k, rfl, rfl, true, congrArg V.bl (decide_eq_true rfl), ?_⟩
    refine ⟨.ref a, rfl, a, _, da, _, _, rfl, ha, T.cl_Best, T.n_Best_held, rfl, .ref c, rfl, c, _, dc, _, _, rfl, hc, T.cl_Best, T.n_Best_held, rfl, ⟨la, lc, xs, ys, rfl, rfl, hla, hlc, by rw [hE.1, hF.1], fun i x y gx gy => ?_⟩, fun H' e => q H' e⟩
    obtain ⟨z, a1, r1, g1, rfl, h1, R1⟩ := hE.at gx
    obtain ⟨z', a2, r2, g2, rfl, h2, R2⟩ := hF.at gy
    rw [g1] at g2
    cases g2
    refine ⟨a1, a2, _, _, rfl, rfl, SqT.of h1, SqT.of h2, Prs.cons (.inl ⟨rfl, rfl, ?_⟩) (Prs.cons (.inr ?_) Prs.nil)⟩
    · simp [eqV]
    · obtain ⟨d1, R1⟩ := R1
      obtain ⟨d2, R2⟩ := R2
      exact ⟨r1, r2, d1, d2, _, _, rfl, rfl, R1, R2, z.2.1, z.2.2, ⟨d1, R1⟩, ⟨d2, R2⟩⟩
/-- the law's own entries: tuples of a number and a pair -/
def Ls (H : Hp) (xs : List V) (L : List En) : Prop := xs.length = L.length ∧ ∀ (i : Nat) (x : En), L[i]? = some x → ∃ a q, xs[i]? = some (.ref a) ∧ H a = some (.tup [.int x.1, .ref q]) ∧ H q = some (.tup [.int x.2.1, .int x.2.2])
theorem Ls.mono {H H' : Hp} {xs : List V} {L : List En} (h : Ls H xs L) (f : ∀ a ys, H a = some (.tup ys) → H' a = some (.tup ys)) : Ls H' xs L := ⟨h.1, fun i x e => let ⟨a, q, h1, h2, h3⟩ := h.2 i x e; ⟨a, q, h1, f _ _ h2, f _ _ h3⟩⟩
theorem Ls.ex {H H' : Hp} {xs : List V} {L : List En} (h : Ls H xs L) (e : Ex H H') : Ls H' xs L := h.mono fun _ _ z => e _ _ z
theorem Ls.lst {H : Hp} {xs ys zs : List V} {L : List En} {l : Addr} (h : Ls H xs L) (hl : H l = some (.lst ys)) : Ls (upd H l (.lst zs)) xs L := h.mono fun a us z => by rw [upd_ne (ne_of z hl (by intro q; cases q))]; exact z
theorem Ls.at {H : Hp} {xs : List V} {L : List En} (h : Ls H xs L) {i : Nat} {v : V} (g : xs[i]? = some v) : ∃ x a q, L[i]? = some x ∧ v = .ref a ∧ H a = some (.tup [.int x.1, .ref q]) ∧ H q = some (.tup [.int x.2.1, .int x.2.2]) := by
  have hi : i < L.length := by rw [← h.1]; exact (List.getElem?_eq_some_iff.mp g).1
  obtain ⟨a, r, g1, g2⟩ := h.2 i L[i] (List.getElem?_eq_getElem hi)
  rw [g] at g1
  exact ⟨L[i], a, r, List.getElem?_eq_getElem hi, Option.some.inj g1, g2⟩
theorem Ls.nil {H : Hp} : Ls H [] [] := ⟨rfl, fun i x h => by simp at h⟩
theorem Ls.tail {H : Hp} {v : V} {xs : List V} {x : En} {L : List En} (h : Ls H (v :: xs) (x :: L)) : Ls H xs L := ⟨by have := h.1; simpa using this, fun i y g => by
  obtain ⟨a, q, g1, g2⟩ := h.2 (i + 1) y (by simpa using g)
  exact ⟨a, q, by simpa using g1, g2⟩⟩
theorem Ls.cons {H : Hp} {a q : Addr} {xs : List V} {x : En} {L : List En} (h1 : H a = some (.tup [.int x.1, .ref q])) (h2 : H q = some (.tup [.int x.2.1, .int x.2.2])) (h : Ls H xs L) : Ls H (.ref a :: xs) (x :: L) := ⟨by simp [h.1], fun i y g => by
  cases i with
  | zero => cases g; exact ⟨a, q, rfl, h1, h2⟩
  | succ i =>
    obtain ⟨b, r, g1, g2⟩ := h.2 i y (by simpa using g)
    exact ⟨b, r, by simpa using g1, g2⟩⟩
theorem Ls.app {H : Hp} : ∀ {xs ys : List V} {L R : List En}, Ls H xs L → Ls H ys R → Ls H (xs ++ ys) (L ++ R) := fun {xs ys L R} h h' => by
  refine ⟨by rw [List.length_append, List.length_append, h.1, h'.1], fun i x e => ?_⟩
  by_cases l : i < L.length
  · rw [List.getElem?_append_left l] at e
    obtain ⟨a, r, h1, h2⟩ := h.2 i x e
    exact ⟨a, r, by rw [List.getElem?_append_left (by rw [h.1]; exact l)]; exact h1, h2⟩
  · rw [List.getElem?_append_right (by omega)] at e
    obtain ⟨a, r, h1, h2⟩ := h'.2 _ x e
    exact ⟨a, r, by rw [List.getElem?_append_right (by rw [h.1]; omega), h.1]; exact h1, h2⟩
theorem Ls.rev {H : Hp} {xs : List V} {L : List En} (h : Ls H xs L) : Ls H xs.reverse L.reverse := by
  refine ⟨by simp [h.1], fun i q g => ?_⟩
  have hi : i < L.length := by
    have := (List.getElem?_eq_some_iff.mp g).1
    simpa using this
  rw [List.getElem?_reverse hi] at g
  obtain ⟨a, r, g1, g2⟩ := h.2 _ _ g
  refine ⟨a, r, ?_, g2⟩
  rw [List.getElem?_reverse (by rw [h.1]; exact hi), h.1]
  exact g1
theorem Ls.erase {H : Hp} {xs : List V} {L : List En} (h : Ls H xs L) (j : Nat) : Ls H (xs.eraseIdx j) (L.eraseIdx j) := by
  refine ⟨by rw [List.length_eraseIdx, List.length_eraseIdx, h.1], fun i x g => ?_⟩
  rw [List.getElem?_eraseIdx] at g
  split at g
  · rename_i l
    obtain ⟨a, r, g1, g2⟩ := h.2 _ _ g
    exact ⟨a, r, by rw [List.getElem?_eraseIdx, if_pos l]; exact g1, g2⟩
  · rename_i l
    obtain ⟨a, r, g1, g2⟩ := h.2 _ _ g
    exact ⟨a, r, by rw [List.getElem?_eraseIdx, if_neg l]; exact g1, g2⟩
/-- an entry as data -/
def edD (x : En) : PyData := .tuple [.int x.1, .tuple [.int x.2.1, .int x.2.2]]
theorem Ls.dp {K : PySem.W.Frag} {H : Hp} : ∀ {xs : List V} {L : List En}, Ls H xs L → DpAll K H xs (L.map edD)
  | [], [], _ => .nil
  | v :: xs, x :: L, h => by
    obtain ⟨a, q, g1, g2, g3⟩ := h.2 0 x rfl
    cases (Option.some.inj g1 : v = .ref a)
    exact .cons (.tup (SqT.of g2) (.cons (.int _) (.cons (.tup (SqT.of g3) (.cons (.int _) (.cons (.int _) .nil))) .nil))) (Ls.dp h.tail)
  | [], x :: L, h => by have := h.1; simp at this
  | v :: xs, [], h => by have := h.1; simp at this
theorem eds_can : ∀ L : List En, PyData.canLayAll0 (L.map edD) = true
  | [] => rfl
  | p :: ps => by
    rw [List.map_cons, PyData.canLayAll0, eds_can ps]
    simp [edD, PyData.canLay0, PyData.canLayAll0]
theorem eds_depth : ∀ L : List En, PyData.depthAll (L.map edD) ≤ 4
  | [] => by simp [PyData.depthAll]
  | p :: ps => by
    have := eds_depth ps
    rw [List.map_cons, PyData.depthAll]
    simp [edD, PyData.depth, PyData.depthAll]
    omega
theorem edsS (L : List En) : SeqAt.shaped (.list (L.map edD)) = true := by
  unfold SeqAt.shaped
  rw [Bool.and_eq_true]
  constructor
  · rw [PyData.canLay0]; exact eds_can L
  · have := eds_depth L
    rw [PyData.depth]
    exact decide_eq_true (by omega)
theorem edS (x : En) : SeqAt.shaped (edD x) = true := by
  unfold SeqAt.shaped edD
  simp [PyData.canLay0, PyData.canLayAll0, PyData.depth, PyData.depthAll]
theorem edE (x : En) : PyData.eqv (edD x) (edD x) = true := SeqAt.eqv_refl _ (SeqAt.canLay_of_shaped (edS x))
theorem edN {x y : En} (h : x.1 ≠ y.1) : PyData.eqv (edD x) (edD y) = false := by
  unfold edD
  rw [PyData.eqv, PyData.eqvAll, PyData.eqv]
  simp [h]
theorem pr_eqv (t b u d : Int) : PyData.eqv (.tuple [.int t, .int b]) (.tuple [.int u, .int d]) = (decide (t = u) && decide (b = d)) := by
  rw [PyData.eqv, PyData.eqvAll, PyData.eqvAll, PyData.eqvAll, PyData.eqv, PyData.eqv]
  by_cases h : t = u <;> by_cases h' : b = d <;> simp [h, h']
/-- the first one of what is left in order -/
theorem head_of {M D : List En} {x : En} (hf : Fair M) (p : M.Perm D) (ho : Ordd D) (hx : x ∈ M) (hb : ∀ z ∈ M, z = x ∨ Ah x z) : ∃ t, D = x :: t := by
  cases D with
  | nil => exact absurd (p.mem_iff.mp hx) (by simp)
  | cons h t =>
    have hm : h ∈ M := p.mem_iff.mpr (List.mem_cons_self ..)
    rcases hb h hm with e | e
    · exact ⟨t, by rw [e]⟩
    · rcases List.mem_cons.mp (p.mem_iff.mp hx) with z | z
      · rw [z] at e
        exact absurd e (ah_irrefl h)
      · exact absurd e (fun q => ah_asymm (hf.1 x hx) (hf.1 h hm) q ((List.pairwise_cons.mp ho).1 x z))
theorem erase_perm {M t : List En} {x : En} {j : Nat} (hj : M[j]? = some x) (p : M.Perm (x :: t)) : (M.eraseIdx j).Perm t := by
  obtain ⟨hl, e⟩ := List.getElem?_eq_some_iff.mp hj
  have e1 : M = M.take j ++ x :: M.drop (j + 1) := by
    rw [← e, ← List.drop_eq_getElem_cons hl, List.take_append_drop]
  have q : (x :: M.eraseIdx j).Perm M := by
    rw [List.eraseIdx_eq_take_drop_succ]
    conv => rhs; rw [e1]
    exact List.perm_middle.symm
  exact (List.perm_cons x).mp (q.trans p)
def spLBest (K : PySem.W.Frag) : Sp := fun vs H Q _ => ∃ (l : Addr) (n : Nat) (xs : List V) (L : List En), vs = [.ref l, .int (n : Int)] ∧ SqL K H l xs ∧ Ls H xs L ∧ Fair L ∧ L.length ≤ 100 ∧ ∀ g gs H', H g = none → Ex H H' → H' g = some (.lst gs) → Ls H' gs (topk n L) → Q (.ref g) H'
/-- how many are left -/
def muB : L2.St → Hp → Nat := fun σ H => match σ with
  | [_, _, some (.ref a), _, _, _] => match H a with
    | some (.lst vs) => vs.length
    | _ => 0
  | _ => 0
set_option maxHeartbeats 16000000 in
theorem ok_l_best (T : TX K mg A FD TK) : FnOk P w K mg base CX0 2 (A 33) (FD 33) ["_law_ranked", "_law_nth"] (spLBest K) := by
  have G_l_less := ok_l_less (P := P) (w := w) (base := base) T
  refine T.f_l_best.ok (k := 1) sc_l_best (fun vs H Q E h => ?_) (fun cdv A' outer s H vs Q E hr h => ?_)
  · obtain ⟨l, n, xs, L, rfl, _⟩ := h
    rfl
  · obtain ⟨l, n, xs, L, rfl, hl, hL, hF, hn, q⟩ := h
    have sa := srt_all hF
    have sl : (srt L).length = L.length := sa.1.length_eq
    refine ⟨_, (pss_cons (ps_set (i := 2) sc_l_best.nd rfl (.inl rfl) (pe_callTy (listK (K := K) rfl) (by rfl) T.m_list (by decide +kernel) (pa_cons (pv 0) pa_nil)))
      (pss_cons (ps_set (i := 3) sc_l_best.nd rfl (.inl rfl) (pe_lst pa_nil))
      (pss_cons (ps_while PassesOwn.never (PW.pt (pw_and (pt_cmpR (neDK (K := K) rfl hr.units) (pv 2) (pe_lst pa_nil) (nomark _)) (pw_and1 (pt_cmpR op_lt (pe_callB (lenK (K := K) rfl) (by rfl) T.m_len (by decide +kernel) (pa_cons (pv 3) pa_nil)) (pv 1) (nomark _)))))
      (pss_cons (ps_set (i := 4) sc_l_best.nd rfl (.inl rfl) (pe_ix (ixLK (K := K) rfl) (pv 2) pe_int (fun _ _ => rfl)))
      (pss_cons (ps_for PassesOwn.never rfl (piLK (K := K) rfl (pe_slice (slLK (K := K) rfl) (pv 2) (po_some pe_int) po_none)) (pg_name (i := 5) sc_l_best.nd rfl (.inl rfl))
      (pss_one (ps_if (PW.pt (pw_or (pt_val (pe_call G_l_less hr (by rfl) T.g_l_less T.f_l_less.kp T.b_l_less .nil pass0 (pa_cons (pe_ix (ixTK (K := K) rfl) (pv 4) pe_int (fun _ _ => rfl)) (pa_cons (pe_ix (ixTK (K := K) rfl) (pv 5) pe_int (fun _ _ => rfl)) pa_nil)))) (pw_or1 (PW.pt (pw_and (pt_cmpR (eqDK (K := K) rfl hr.units) (pe_ix (ixTK (K := K) rfl) (pv 4) pe_int (fun _ _ => rfl)) (pe_ix (ixTK (K := K) rfl) (pv 5) pe_int (fun _ _ => rfl)) (nomark _)) (pw_and1 (pt_cmpR op_lt (pe_ix (ixTK (K := K) rfl) (pv 5) pe_int (fun _ _ => rfl)) (pe_ix (ixTK (K := K) rfl) (pv 4) pe_int (fun _ _ => rfl)) (nomark _))))))))
      (pss_one (ps_set (i := 4) sc_l_best.nd rfl (.inl rfl) (pv 5)))
      pss_nil)))
      (pss_cons (ps_expr (pe_bm PySem.F.plainAttrs_list PySem.F.slot_list_append PySem.F.type_list_append mt_append (pv 3) (pa_cons (pv 4) pa_nil)))
      (pss_one (ps_expr (pe_bm PySem.F.plainAttrs_list PySem.F.slot_list_remove PySem.F.type_list_remove (RemD.mt_removeD (K := K) rfl (u65 hr)) (pv 2) (pa_cons (pv 4) pa_nil))))))))
      (pss_one (ps_ret (pv 3)))))), ?_⟩
    refine ⟨.ref l, rfl, l, xs, rfl, .inl hl, fun lf nlf => ?_⟩
    have e1 := Ex.new (o := .lst xs) nlf
    refine ⟨Nat.zero_le _, fun gt ngt => ?_⟩
    have e2 := e1.trans (Ex.new (o := .lst []) ngt)
    have hlf := Ex.new (o := .lst []) ngt _ _ (upd_same (H := H) (a := lf) (o := .lst xs))
    refine while_by (fun σ' H' => ∃ (y4 y5 : Option V) (i : Nat) (vs gs : List V) (M : List En), σ' = [some (.ref l), some (.int (n : Int)), some (.ref lf), some (.ref gt), y4, y5] ∧ Ex H H' ∧ H' lf = some (.lst vs) ∧ Ls H' vs M ∧ M.Perm ((srt L).drop i) ∧ H' gt = some (.lst gs) ∧ Ls H' gs ((srt L).take i) ∧ i ≤ n ∧ i ≤ L.length) muB
      ⟨none, none, 0, xs, [], L, rfl, e2, hlf, hL.ex e2, sa.1.symm, upd_same, Ls.nil, Nat.zero_le _, Nat.zero_le _⟩ (fun σ' H' p => ?_) (fun σ' H' Q Q' m h => ?_)
    · obtain ⟨y4, y5, i, vs, gs, M, rfl, e3, hlf, hM, pM, hgt, hG, hin, hiL⟩ := p
      have hf : Fair M := by
        refine fair_perm (pM.symm) ⟨fun x hx => hF.1 x (sa.1.mem_iff.mp (List.mem_of_mem_drop hx)), ?_⟩
        exact List.Pairwise.sublist (List.drop_sublist i _) ((sa.1.pairwise_iff (fun h => Ne.symm h)).mpr hF.2)
      have gl : gs.length = i := by rw [hG.1, List.length_take, sl]; omega
      have ml : M.length = L.length - i := by rw [pM.length_eq, List.length_drop, sl]
      have od : Ordd ((srt L).drop i) := List.Pairwise.sublist (List.drop_sublist i _) sa.2
      refine ⟨.ref lf, rfl, Nat.zero_le _, fun em nem => ?_⟩
      have e4 := Ex.new (o := .lst []) nem
      refine ⟨_, _, .lst (SqL.of (e4 _ _ hlf)) (hM.ex e4).dp, .lst (SqL.of upd_same) .nil, edsS M, edsS [], _, rfl, ?_⟩
      have fin : ∀ H1, Ex H' H1 → i = n ∨ M = [] → Q (.ref gt) H1 := fun H1 e hi => by
        have ngt0 : H gt = none := fresh_back e1 ngt
        refine q gt gs H1 ngt0 (e3.trans e) (e _ _ hgt) ?_
        have : topk n L = (srt L).take i := by
          unfold topk
          rcases hi with hi | hi
          · rw [hi]
          · rw [hi] at ml
            simp at ml
            rw [List.take_of_length_le (by omega), List.take_of_length_le (by omega)]
        rw [this]
        exact hG.ex e
      cases M with
      | nil =>
        rw [show PyData.eqv (.list (([] : List En).map edD)) (.list []) = true by rw [PyData.eqv]; rfl]
        exact ⟨.ref gt, rfl, fin _ e4 (.inr rfl)⟩
      | cons x0 M0 =>
        rw [show PyData.eqv (.list ((x0 :: M0).map edD)) (.list []) = false by rw [PyData.eqv]; rfl]
        refine ⟨.ref gt, rfl, gt, gs, rfl, .inl (SqL.of (e4 _ _ hgt)), .int (n : Int), rfl, _, _, rfl, rfl, _, rfl, ite2 (fun c => ?_) (fun c => ?_)⟩
        · have cn : i < n := by
            have c1 : (gs.length : Int) < (n : Int) := of_decide_eq_true c
            omega
          obtain ⟨a0, q0, g0, ha0, hq0⟩ := hM.2 0 x0 rfl
          have hvl : vs.length = M0.length + 1 := by rw [hM.1]; rfl
          have hlf4 := e4 _ _ hlf
          have hgt4 := e4 _ _ hgt
          have hM4 := hM.ex e4
          have hG4 := hG.ex e4
          have e34 := e3.trans e4
          generalize (upd H' em (.lst [])) = H4 at e4 hlf4 hgt4 hM4 hG4 e34 ⊢
          refine ⟨.ref lf, rfl, lf, vs, 0, _, rfl, rfl, SqL.of hlf4, atI_nat (j := 0) g0, ?_⟩
          refine ⟨.ref lf, rfl, 1, rfl, lf, vs, rfl, SqL.of hlf4, fun l5 nl5 => ?_⟩
          rw [show cutV vs (some 1) none = vs.drop 1 from cut_from vs 1]
          have e5 := Ex.new (o := .lst (vs.drop 1)) nl5
          have hl5 := upd_same (H := H4) (a := l5) (o := .lst (vs.drop 1))
          have hM5 := hM4.ex e5
          generalize (upd H4 l5 (.lst (vs.drop 1))) = H5 at e5 hl5 hM5 ⊢
          refine ⟨l5, rfl, ⟨_, SqL.of hl5⟩, ?_⟩
          refine for_list (K := K) (xs := vs.drop 1) (fun j σ2 H2 => ∃ (y5 : Option V) (idx : Nat) (x : En) (bh : V), σ2 = [some (.ref l), some (.int (n : Int)), some (.ref lf), some (.ref gt), some bh, y5] ∧ H2 = H5 ∧ (x0 :: M0)[idx]? = some x ∧ vs[idx]? = some bh ∧ idx ≤ j ∧ ∀ m z, m ≤ j → (x0 :: M0)[m]? = some z → z = x ∨ Ah x z)
            ⟨y5, 0, x0, .ref a0, rfl, rfl, rfl, g0, Nat.le_refl _, fun m z hm g => ?_⟩ (fun j σ2 H2 _ pv => ?_) (fun j v σ2 H2 gv pv => ?_) (fun σ2 H2 pv => ?_)
          · have : m = 0 := by omega
            subst this
            exact .inl (Option.some.inj g).symm
          · obtain ⟨_, _, _, _, _, rfl, _⟩ := pv
            exact SqL.of hl5
          · obtain ⟨y5, idx, x, bh, rfl, rfl, gx, gb, hij, hall⟩ := pv
            rw [List.getElem?_drop] at gv
            obtain ⟨y, b, qb, gy, rfl, hb, hqb⟩ := hM5.at gv
            obtain ⟨x', a, qa, gx', rfl, ha, hqa⟩ := hM5.at gb
            rw [gx] at gx'
            cases gx'
            have hxk := hf.1 x (List.mem_of_getElem? gx)
            have hyk := hf.1 y (List.mem_of_getElem? gy)
            have nxy : x.1 ≠ y.1 := by
              have pw := List.pairwise_iff_getElem.mp hf.2
              obtain ⟨l1, e1'⟩ := List.getElem?_eq_some_iff.mp gx
              obtain ⟨l2, e2'⟩ := List.getElem?_eq_some_iff.mp gy
              have := pw idx (1 + j) l1 l2 (by omega)
              rw [e1', e2'] at this
              exact this
            have up : ∀ (w : En), (∀ m z, m ≤ j → (x0 :: M0)[m]? = some z → z = w ∨ Ah w z) → (y = w ∨ Ah w y) → ∀ m z, m ≤ j + 1 → (x0 :: M0)[m]? = some z → z = w ∨ Ah w z := fun w h1 h2 m z hm g => by
              rcases Nat.lt_or_ge j m with lm | lm
              · have : m = 1 + j := by omega
                subst this
                rw [gy] at g
                cases g
                exact h2
              · exact h1 m z lm g
            have yes : Ah y x → ∃ (y5 : Option V) (idx : Nat) (x' : En) (bh : V), [some (.ref l), some (.int (n : Int)), some (.ref lf), some (.ref gt), some (.ref b), some (.ref b)] = [some (.ref l), some (.int (n : Int)), some (.ref lf), some (.ref gt), some bh, y5] ∧ H2 = H2 ∧ (x0 :: M0)[idx]? = some x' ∧ vs[idx]? = some bh ∧ idx ≤ j + 1 ∧ ∀ m z, m ≤ j + 1 → (x0 :: M0)[m]? = some z → z = x' ∨ Ah x' z := fun ay =>
              ⟨_, 1 + j, y, .ref b, rfl, rfl, gy, gv, by omega, up y (fun m z hm g => by
                rcases hall m z hm g with e | e
                · rw [e]; exact .inr ay
                · exact .inr (ah_trans hyk hxk (hf.1 z (List.mem_of_getElem? g)) ay e)) (.inl rfl)⟩
            have no : ¬ Ah y x → ∃ (y5 : Option V) (idx : Nat) (x' : En) (bh : V), [some (.ref l), some (.int (n : Int)), some (.ref lf), some (.ref gt), some (.ref a), some (.ref b)] = [some (.ref l), some (.int (n : Int)), some (.ref lf), some (.ref gt), some bh, y5] ∧ H2 = H2 ∧ (x0 :: M0)[idx]? = some x' ∧ vs[idx]? = some bh ∧ idx ≤ j + 1 ∧ ∀ m z, m ≤ j + 1 → (x0 :: M0)[m]? = some z → z = x' ∨ Ah x' z := fun ay =>
              ⟨_, idx, x, .ref a, rfl, rfl, gx, gb, by omega, up x hall (.inr ((ah_total hxk hyk nxy).elim id (fun z => absurd z ay)))⟩
            refine ⟨.ref a, rfl, a, _, 1, _, rfl, rfl, SqT.of ha, atI_nat (j := 1) rfl, .ref b, rfl, b, _, 1, _, rfl, rfl, SqT.of hb, atI_nat (j := 1) rfl, qa, qb, x.2.1, x.2.2, y.2.1, y.2.2, rfl, SqT.of hqa, SqT.of hqb, lt19 hxk.2.2.2.1, lt19 hxk.2.2.2.2, lt19 hyk.2.2.2.1, lt19 hyk.2.2.2.2, _, rfl, ?_⟩
            cases z : decide (x.2.1 * y.2.2 < y.2.1 * x.2.2) with
            | true => exact ⟨.ref b, rfl, yes (ah_iff.mpr (.inl (of_decide_eq_true z)))⟩
            | false =>
              refine ⟨.ref a, rfl, a, _, 1, _, rfl, rfl, SqT.of ha, atI_nat (j := 1) rfl, .ref b, rfl, b, _, 1, _, rfl, rfl, SqT.of hb, atI_nat (j := 1) rfl, _, _, .tup (SqT.of hqa) (.cons (.int _) (.cons (.int _) .nil)), .tup (SqT.of hqb) (.cons (.int _) (.cons (.int _) .nil)), pairS _ _, pairS _ _, _, rfl, ?_⟩
              rw [pr_eqv]
              cases z2 : (decide (x.2.1 = y.2.1) && decide (x.2.2 = y.2.2)) with
              | false =>
                refine no fun ay => ?_
                rcases ah_iff.mp ay with h | ⟨h1, h2, _⟩
                · exact absurd (decide_eq_true h) (by rw [z]; decide)
                · rw [decide_eq_true h1, decide_eq_true h2] at z2
                  cases z2
              | true =>
                rw [Bool.and_eq_true, decide_eq_true_eq, decide_eq_true_eq] at z2
                refine ⟨.ref b, rfl, b, _, 0, _, rfl, rfl, SqT.of hb, atI_nat (j := 0) rfl, .ref a, rfl, a, _, 0, _, rfl, rfl, SqT.of ha, atI_nat (j := 0) rfl, _, _, rfl, rfl, _, rfl, ite2 (fun e => ?_) (fun e => ?_)⟩
                · exact ⟨.ref b, rfl, yes (ah_iff.mpr (.inr ⟨z2.1, z2.2, of_decide_eq_true e⟩))⟩
                · refine no fun ay => ?_
                  rcases ah_iff.mp ay with h | ⟨_, _, h3⟩
                  · exact absurd (decide_eq_true h) (by rw [z]; decide)
                  · exact e (decide_eq_true h3)
          · obtain ⟨y5, idx, x, bh, rfl, rfl, gx, gb, hij, hall⟩ := pv
            rw [List.length_drop, hvl] at hall hij
            obtain ⟨x', a, qa, gx', rfl, ha, hqa⟩ := hM5.at gb
            rw [gx] at gx'
            cases gx'
            have hb : ∀ z ∈ (x0 :: M0), z = x ∨ Ah x z := fun z hz => by
              obtain ⟨m, hm, e⟩ := List.mem_iff_getElem.mp hz
              refine hall m z ?_ (by rw [List.getElem?_eq_getElem hm, e])
              simp at hm
              omega
            obtain ⟨t, et⟩ := head_of hf pM od (List.mem_of_getElem? gx) hb
            have gi : (srt L)[i]? = some x := by
              have := congrArg (·[0]?) et
              simp only [List.getElem?_drop, Nat.add_zero] at this
              simpa using this
            have edr : (srt L).drop (i + 1) = t := by
              have := congrArg (List.drop 1) et
              rw [List.drop_drop] at this
              simpa [Nat.add_comm] using this
            -- append
            have hgt5 := e5 _ _ hgt4
            have hlf5 := e5 _ _ hlf4
            have ngl : lf ≠ gt := ne_of_none (upd_same (H := H) (a := lf) (o := .lst xs)) ngt
            refine ⟨.ref gt, rfl, .inl ⟨rfl, _, SqL.of hgt5⟩, .ref a, rfl, gt, gs, .ref a, rfl, rfl, hgt5, sz_lt (by omega), ?_⟩
            have hG6 : Ls (upd H2 gt (.lst (gs ++ [.ref a]))) (gs ++ [.ref a]) ((srt L).take (i + 1)) := by
              rw [take_snoc gi]
              exact ((hG4.ex e5).lst hgt5).app (Ls.cons (q := qa) (by rw [upd_ne (ne_of ha hgt5 (by intro z; cases z))]; exact ha) (by rw [upd_ne (ne_of hqa hgt5 (by intro z; cases z))]; exact hqa) Ls.nil)
            have hM6 := hM5.lst (zs := gs ++ [.ref a]) hgt5
            have ex6 : Ex H (upd H2 gt (.lst (gs ++ [.ref a]))) := Ex.mut (e34.trans e5) (fresh_back e1 ngt)
            have hlf6 : (upd H2 gt (.lst (gs ++ [.ref a]))) lf = some (.lst vs) := by rw [upd_ne ngl]; exact hlf5
            have hgt6 := upd_same (H := H2) (a := gt) (o := .lst (gs ++ [.ref a]))
            have ha6 : (upd H2 gt (.lst (gs ++ [.ref a]))) a = some (.tup [.int x.1, .ref qa]) := by rw [upd_ne (ne_of ha hgt5 (by intro z; cases z))]; exact ha
            have hqa6 : (upd H2 gt (.lst (gs ++ [.ref a]))) qa = some (.tup [.int x.2.1, .int x.2.2]) := by rw [upd_ne (ne_of hqa hgt5 (by intro z; cases z))]; exact hqa
            generalize (upd H2 gt (.lst (gs ++ [.ref a]))) = H6 at hG6 hM6 ex6 hlf6 hgt6 ha6 hqa6 ⊢
            refine ⟨.ref lf, rfl, .inl ⟨rfl, _, SqL.of hlf6⟩, .ref a, rfl, lf, .ref a, edD x, vs, (x0 :: M0).map edD, idx, edD x, rfl, rfl, hlf6, hM6.dp, .tup (SqT.of ha6) (.cons (.int _) (.cons (.tup (SqT.of hqa6) (.cons (.int _) (.cons (.int _) .nil))) .nil)), edsS _, edS x, by rw [List.getElem?_map, gx]; rfl, edE x, fun m z' hm g => ?_, ?_⟩
            · rw [List.getElem?_map] at g
              obtain ⟨y, gy, rfl⟩ := Option.map_eq_some_iff.mp g
              refine edN ?_
              have pw := List.pairwise_iff_getElem.mp hf.2
              obtain ⟨l1, e1'⟩ := List.getElem?_eq_some_iff.mp gx
              obtain ⟨l2, e2'⟩ := List.getElem?_eq_some_iff.mp gy
              have := pw m idx l2 l1 hm
              rw [e1', e2'] at this
              exact this
            · refine ⟨⟨_, _, i + 1, vs.eraseIdx idx, gs ++ [.ref a], (x0 :: M0).eraseIdx idx, rfl, Ex.mut ex6 nlf, upd_same, (hM6.erase idx).lst hlf6, ?_, by rw [upd_ne ngl.symm]; exact hgt6, hG6.lst hlf6, by omega, ?_⟩, ?_⟩
              · rw [edr]
                rw [et] at pM
                exact erase_perm gx pM
              · simp at ml
                omega
              · show muB _ (upd H6 lf (.lst (vs.eraseIdx idx))) < muB _ H'
                have v1 : ∀ (u1 u2 : Option V), muB [some (.ref l), some (.int (n : Int)), some (.ref lf), some (.ref gt), u1, u2] (upd H6 lf (.lst (vs.eraseIdx idx))) = (vs.eraseIdx idx).length := fun u1 u2 => by
                  unfold muB
                  simp only [upd_same]
                have v2 : ∀ (u1 u2 : Option V), muB [some (.ref l), some (.int (n : Int)), some (.ref lf), some (.ref gt), u1, u2] H' = vs.length := fun u1 u2 => by
                  unfold muB
                  simp only [hlf]
                have il : idx < vs.length := (List.getElem?_eq_some_iff.mp gb).1
                have le : (vs.eraseIdx idx).length = vs.length - 1 := by rw [List.length_eraseIdx, if_pos il]
                exact Nat.lt_of_le_of_lt (Nat.le_of_eq (v1 _ _)) (by rw [le]; exact Nat.lt_of_lt_of_eq (by omega) (v2 _ _).symm)
        · have cn : i = n := by
            have c1 : ¬ (gs.length : Int) < (n : Int) := fun z => c (decide_eq_true z)
            omega
          exact ⟨.ref gt, rfl, fin _ e4 (.inl cn)⟩
    · obtain ⟨v, hv, hz, hk⟩ := h
      refine ⟨v, hv, hz, fun em nem => ?_⟩
      obtain ⟨d, e, h1, h2, h3, h4, b, hb, hq⟩ := hk em nem
      refine ⟨d, e, h1, h2, h3, h4, b, hb, ?_⟩
      cases b with
      | false => exact m _ _ hq
      | true =>
        obtain ⟨v1, k1, p1, k2, k3, k4, v2, k5, i1, j1, k6, k7, b2, k8, k9⟩ := hq
        exact ⟨v1, k1, p1, k2, k3, k4, v2, k5, i1, j1, k6, k7, b2, k8, m _ _ k9⟩

def spIsBest (C : Addr) : Sp := fun vs H Q _ => ∃ (a c : Addr) (xs ys : List V) (S : List En), vs = [.ref a, .ref c] ∧ H a = some (.lst xs) ∧ H c = some (.lst ys) ∧ Es C H xs S ∧ Ls H ys S ∧ ∀ H', Ex H H' → Q (.bl true) H'
set_option maxHeartbeats 8000000 in
theorem ok_l_is_best (T : TX K mg A FD TK) : FnOk P w K mg base CX0 2 (A 34) (FD 34) ["_law_told", "_law_due"] (spIsBest (A 17)) := by
  have G_l_is_ratio := ok_l_is_ratio (P := P) (w := w) (base := base) T
  refine T.f_l_is_best.ok (k := 1) sc_l_is_best (fun vs H Q E h => ?_) (fun cdv A' outer s H vs Q E hr h => ?_)
  · obtain ⟨a, c, xs, ys, S, rfl, _⟩ := h
    rfl
  · obtain ⟨a, c, xs, ys, S, rfl, ha, hc, hE, hL, q⟩ := h
    refine ⟨_, (pss_cons (ps_if (PW.pt (pw_or (pt_not (pt_val (pe_callB (isiK (K := K) rfl) (by rfl) T.m_isinstance (by decide +kernel) (pa_cons (pv 0) (pa_cons (pe_bltn (v := .ty "list") (by rfl) T.m_list (by decide +kernel) rfl) pa_nil))))) (pw_or1 (pt_cmpR op_ne (pe_callB (lenK (K := K) rfl) (by rfl) T.m_len (by decide +kernel) (pa_cons (pv 0) pa_nil)) (pe_callB (lenK (K := K) rfl) (by rfl) T.m_len (by decide +kernel) (pa_cons (pv 1) pa_nil)) (nomark _)))))
      (pss_one (ps_ret pe_bl))
      pss_nil)
      (pss_cons (ps_for PassesOwn.never rfl (pi_zip (by rfl) T.m_zip (pa_cons (pv 0) (pa_cons (pv 1) pa_nil))) (pg_tup rfl (pgs_cons (pg_name (i := 2) sc_l_is_best.nd rfl (.inl rfl)) (pgs_cons (pg_name (i := 3) sc_l_is_best.nd rfl (.inl rfl)) pgs_nil)))
      (pss_cons (ps_if (PW.pt (pw_or (pt_not (pt_val (pe_callB (isiK (K := K) rfl) (by rfl) T.m_isinstance (by decide +kernel) (pa_cons (pv 2) (pa_cons (pe_bltn (v := .ty "tuple") (by rfl) T.m_tuple (by decide +kernel) rfl) pa_nil))))) (pw_or (pt_cmpR op_ne (pe_callB (lenK (K := K) rfl) (by rfl) T.m_len (by decide +kernel) (pa_cons (pv 2) pa_nil)) pe_int (nomark _)) (pw_or (pt_cmpR op_ne (pe_ix (ixTK (K := K) rfl) (pv 2) pe_int (fun _ _ => rfl)) (pe_ix (ixTK (K := K) rfl) (pv 3) pe_int (fun _ _ => rfl)) (nomark _)) (pw_or1 (pt_val (pe_callB (isiK (K := K) rfl) (by rfl) T.m_isinstance (by decide +kernel) (pa_cons (pe_ix (ixTK (K := K) rfl) (pv 2) pe_int (fun _ _ => rfl)) (pa_cons (pe_bltn (v := .ty "bool") (by rfl) T.m_bool (by decide +kernel) rfl) pa_nil)))))))))
      (pss_one (ps_ret pe_bl))
      pss_nil)
      (pss_one (ps_if (PW.pt (pw_or (pt_not (pt_val (pe_callB (isiK (K := K) rfl) (by rfl) T.m_isinstance (by decide +kernel) (pa_cons (pe_ix (ixTK (K := K) rfl) (pv 2) pe_int (fun _ _ => rfl)) (pa_cons (pe_glob (v := .ref (A 17)) (by rfl) T.k_Ratio rfl) pa_nil))))) (pw_or1 (pt_not (pt_val (pe_call G_l_is_ratio hr (by rfl) T.g_l_is_ratio T.f_l_is_ratio.kp T.b_l_is_ratio .nil pass0 (pa_cons (pe_ix (ixTK (K := K) rfl) (pv 2) pe_int (fun _ _ => rfl)) (pa_cons (pe_ix (ixTK (K := K) rfl) (pv 3) pe_int (fun _ _ => rfl)) pa_nil))))))))
      (pss_one (ps_ret pe_bl))
      pss_nil))))
      (pss_one (ps_ret pe_bl)))), ?_⟩
    refine ⟨.ref a, rfl, .ref a, .ty "list", .type "list", .type "list", true, rfl, .ty _, .base (.lst ha), kit_ty (by decide +kernel), true, rfl, ?_⟩
    refine ⟨.ref a, rfl, a, _, rfl, .inl (SqL.of ha), .ref c, rfl, c, _, rfl, .inl (SqL.of hc), rfl, _, rfl, ?_⟩
    rw [hE.1, hL.1, show (!decide (V.int (S.length : Int) = V.int (S.length : Int))) = false by rw [decide_eq_true rfl]; rfl]
    refine ⟨.ref a, rfl, .ref c, rfl, a, c, xs, ys, rfl, SqL.of ha, SqL.of hc, ?_⟩
    refine for_it (walk_zip (K := K) (a := a) (b := c) (xs := xs) (ys := ys) (n := S.length) (by rw [hE.1, hL.1, Nat.min_self])) (fun i σ' H' => ∃ y2 y3 : Option V, σ' = [some (.ref a), some (.ref c), y2, y3] ∧ Ex H H') ⟨none, none, rfl, Ex.refl H⟩ (fun i σ' H' _ pv => ?_) (fun i v σ' H' H'' hi pv hy => ?_) (fun σ' H' pv => ?_)
    · obtain ⟨_, _, _, e⟩ := pv
      exact ⟨SqL.of (e _ _ ha), SqL.of (e _ _ hc)⟩
    · obtain ⟨y2, y3, rfl, e⟩ := pv
      obtain ⟨t, u, w, rfl, nt, rfl, gu, gw⟩ := hy
      obtain ⟨x, b, r, gx, rfl, hb, hr1⟩ := hE.at gu
      obtain ⟨x', d, z, gx', rfl, hd, hz⟩ := hL.at gw
      rw [gx] at gx'
      cases gx'
      have e2 := e.trans (Ex.new (o := .tup [.ref b, .ref d]) nt)
      have hb2 := e2 _ _ hb
      have hd2 := e2 _ _ hd
      refine ⟨t, _, rfl, SqT.of upd_same, rfl, _, _, rfl, _, _, rfl, rfl, ?_⟩
      refine ⟨.ref b, rfl, .ref b, .ty "tuple", .type "tuple", .type "tuple", true, rfl, .ty _, .base (.tup hb2), kit_ty (by decide +kernel), true, rfl, ?_⟩
      refine ⟨.ref b, rfl, b, _, rfl, .inr (SqT.of hb2), rfl, false, rfl, ?_⟩
      refine ⟨.ref b, rfl, b, _, 0, _, rfl, rfl, SqT.of hb2, atI_nat (j := 0) rfl, .ref d, rfl, d, _, 0, _, rfl, rfl, SqT.of hd2, atI_nat (j := 0) rfl, rfl, false, by rw [decide_eq_true rfl]; rfl, ?_⟩
      refine ⟨.ref b, rfl, b, _, 0, _, rfl, rfl, SqT.of hb2, atI_nat (j := 0) rfl, .int x.1, .ty "bool", .type "int", .type "bool", false, rfl, .ty _, .base (.int x.1), kit_ty (by decide +kernel), false, rfl, ?_⟩
      obtain ⟨dr, hr1⟩ := hr1.ex e2
      refine ⟨.ref b, rfl, b, _, 1, _, rfl, rfl, SqT.of hb2, atI_nat (j := 1) rfl, .ref r, .ref (A 17), _, .ref (A 17), true, rfl, .own _, .base (.ins hr1 T.cl_Ratio T.ci T.cs T.ct T.cm), T.kr, true, rfl, ?_⟩
      refine ⟨.ref b, rfl, b, _, 1, _, rfl, rfl, SqT.of hb2, atI_nat (j := 1) rfl, .ref d, rfl, d, _, 1, _, rfl, rfl, SqT.of hd2, atI_nat (j := 1) rfl, r, z, _, _, rfl, ⟨dr, hr1⟩, SqT.of (e2 _ _ hz), fun H3 e3 => ⟨true, rfl, some (.ref b), some (.ref d), rfl, e2.trans e3⟩⟩
    · obtain ⟨_, _, rfl, e⟩ := pv
      exact q _ e

/-! ### the dict of drawn entries -/
def Dk (H : Hp) (kvs : List (Key × V)) (L : List En) : Prop := kvs.length = L.length ∧ ∀ (i : Nat) (x : En), L[i]? = some x → ∃ q, kvs[i]? = some (.inl x.1, .ref q) ∧ H q = some (.tup [.int x.2.1, .int x.2.2])
theorem Dk.mono {H H' : Hp} {kvs : List (Key × V)} {L : List En} (h : Dk H kvs L) (f : ∀ a ys, H a = some (.tup ys) → H' a = some (.tup ys)) : Dk H' kvs L := ⟨h.1, fun i x e => let ⟨q, h1, h2⟩ := h.2 i x e; ⟨q, h1, f _ _ h2⟩⟩
theorem Dk.at {H : Hp} {kvs : List (Key × V)} {L : List En} (h : Dk H kvs L) {i : Nat} {kv : Key × V} (g : kvs[i]? = some kv) : ∃ x q, L[i]? = some x ∧ kv = (.inl x.1, .ref q) ∧ H q = some (.tup [.int x.2.1, .int x.2.2]) := by
  have hi : i < L.length := by rw [← h.1]; exact (List.getElem?_eq_some_iff.mp g).1
  obtain ⟨q, g1, g2⟩ := h.2 i L[i] (List.getElem?_eq_getElem hi)
  rw [g] at g1
  exact ⟨L[i], q, List.getElem?_eq_getElem hi, Option.some.inj g1, g2⟩
theorem Dk.val {H : Hp} : ∀ {kvs : List (Key × V)} {L : List En} {i : Nat} {x : En} {q : Addr}, Dk H kvs L → (L.Pairwise fun x y => x.1 ≠ y.1) → L[i]? = some x → kvs[i]? = some (.inl x.1, .ref q) → valV kvs (.inl x.1) = some (.ref q)
  | [], [], _, _, _, _, _, g, _ => by simp at g
  | kv :: kvs, y :: L, 0, x, q, h, p, g, g' => by
    cases g
    cases g'
    exact valV_pos rfl
  | kv :: kvs, y :: L, i + 1, x, q, h, p, g, g' => by
    obtain ⟨q0, g0, _⟩ := h.2 0 y rfl
    cases (Option.some.inj g0 : kv = _)
    have p' := List.pairwise_cons.mp p
    have g2 : L[i]? = some x := by simpa using g
    have ne : ¬ ((.inl y.1 : Key), V.ref q0).1 = .inl x.1 := fun z => p'.1 x (List.mem_of_getElem? g2) (Sum.inl.inj z)
    rw [valV_neg ne]
    refine Dk.val (H := H) (L := L) (i := i) ⟨by have := h.1; simpa using this, fun j z e => ?_⟩ p'.2 g2 (by simpa using g')
    obtain ⟨q1, e1, e2⟩ := h.2 (j + 1) z (by simpa using e)
    exact ⟨q1, by simpa using e1, e2⟩
  | [], y :: L, _, _, _, h, _, _, _ => by have := h.1; simp at this
  | kv :: kvs, [], _, _, _, h, _, _, _ => by have := h.1; simp at this
theorem Dk.put {H : Hp} {kvs : List (Key × V)} {L : List En} {x : En} {q : Addr} (h : Dk H kvs L) (hf : Fair L) (hx : EnOk x) (hq : H q = some (.tup [.int x.2.1, .int x.2.2])) : ∃ L', Dk H (putK kvs (.inl x.1) (.ref q)) L' ∧ Fair L' ∧ L'.length ≤ L.length + 1 ∧ ∀ y ∈ L', y ∈ L ∨ y = x := by
  unfold putK
  by_cases c : (kvs.any fun kv => decide (kv.1 = .inl x.1)) = true
  · rw [if_pos c]
    have e1 : ∀ y : En, (if y.1 = x.1 then x else y).1 = y.1 := fun y => by
      split
      · rename_i z; exact z.symm
      · rfl
    refine ⟨L.map fun y => if y.1 = x.1 then x else y, ⟨by simp [h.1], fun i z e => ?_⟩, ⟨fun z hz => ?_, ?_⟩, by simp, fun z hz => ?_⟩
    · rw [List.getElem?_map] at e
      obtain ⟨y, gy, rfl⟩ := Option.map_eq_some_iff.mp e
      obtain ⟨r, g1, g2⟩ := h.2 i y gy
      by_cases z : y.1 = x.1
      · rw [if_pos z]
        refine ⟨q, ?_, hq⟩
        rw [List.getElem?_map, g1]
        simp [z]
      · rw [if_neg z]
        refine ⟨r, ?_, g2⟩
        rw [List.getElem?_map, g1]
        simp [z]
    · obtain ⟨y, hy, rfl⟩ := List.mem_map.mp hz
      split
      · exact hx
      · exact hf.1 y hy
    · rw [List.pairwise_map]
      exact hf.2.imp fun {a b} z => by rw [e1, e1]; exact z
    · obtain ⟨y, hy, rfl⟩ := List.mem_map.mp hz
      split
      · exact .inr rfl
      · exact .inl hy
  · rw [if_neg c]
    have no : ∀ y ∈ L, y.1 ≠ x.1 := fun y hy z => c (by
      obtain ⟨i, hi, rfl⟩ := List.mem_iff_getElem.mp hy
      obtain ⟨r, g1, _⟩ := h.2 i L[i] (List.getElem?_eq_getElem hi)
      rw [List.any_eq_true]
      exact ⟨_, List.mem_of_getElem? g1, by simp [z]⟩)
    refine ⟨L ++ [x], ⟨by simp [h.1], fun i z e => ?_⟩, ⟨fun z hz => ?_, ?_⟩, by simp, fun z hz => ?_⟩
    · rcases get_snoc e with e | ⟨rfl, rfl⟩
      · obtain ⟨r, g1, g2⟩ := h.2 i z e
        exact ⟨r, snoc_old g1, g2⟩
      · exact ⟨q, by rw [← h.1]; exact snoc_get, hq⟩
    · rcases List.mem_append.mp hz with z' | z'
      · exact hf.1 z z'
      · rw [List.mem_singleton.mp z']; exact hx
    · refine List.pairwise_append.mpr ⟨hf.2, List.pairwise_singleton .., fun a ha b hb => ?_⟩
      rw [List.mem_singleton.mp hb]
      exact no a ha
    · rcases List.mem_append.mp hz with z' | z'
      · exact .inl z'
      · exact .inr (List.mem_singleton.mp z')
/-! ### the law -/
def spLaw (K : PySem.W.Frag) : Sp := fun vs H Q _ => ∃ (a : Addr) (ns : List Int), vs = [.ref a] ∧ SqL K H a (ns.map V.int) ∧ ns.length ≤ 63 ∧ ∀ H', Q (.bl true) H'
theorem fx_new {p : Addr} {H H1 H2 : Hp} (n : H p = none) (e : Ex H H1) (f : Fx p H1 H2) : Ex H H2 := fun a o h => f a o (ne_of_none h n) (e a o h)
theorem maxmin (n : Nat) : 2 ≤ (if (if (6 : Int) < (n : Int) then 6 else (n : Int)) > 2 then (if (6 : Int) < (n : Int) then 6 else (n : Int)) else 2) ∧ (if (if (6 : Int) < (n : Int) then 6 else (n : Int)) > 2 then (if (6 : Int) < (n : Int) then 6 else (n : Int)) else 2) ≤ 6 := by
  constructor
  · split <;> split <;> omega
  · split <;> split <;> omega
theorem pool_ne {H : Hp} {p a : Addr} {c : Nat} (hp : Pl H p c) (h : H a = none) : a ≠ p := by
  obtain ⟨xs, hx⟩ := hp.some
  exact (ne_of_none hx h).symm
theorem bindsB (T : TX K mg A FD TK) : ∃ ds, Vals ([] : List V) ds ∧ Binds K (FD 39) ["self", "k"] ds := by
  obtain ⟨ds2, R2, B2⟩ := T.f_Best_init.binds1 (ps := ["self", "k"]) 2 1 (by simp) rfl (fun _ _ _ _ _ _ _ us its hl1 hl2 => match us, its, hl1, hl2 with | [_, _], [_], _, _ => ⟨_, rfl, rfl⟩)
  exact ⟨ds2, R2, B2⟩
theorem BestAt.exI {CB C : Addr} {H H' : Hp} {p p2 : Addr} {k k2 : Nat} {S S2 : List En} (h : BestAt CB C H p2 k2 S2) (hp : BestAt CB C H p k S) (n : p2 ≠ p) (e : ExI p H H') : BestAt CB C H' p2 k2 S2 := by
  obtain ⟨dx, l, xs, h1, h2, h3⟩ := h
  obtain ⟨dy, l', ys, g1, _⟩ := hp
  exact ⟨dx, l, xs, e _ _ n h1, e _ _ (ne_of h2 g1 (by intro z; cases z)) h2, h3.exI g1 e⟩
theorem ex_exI {p : Addr} {H0 H H' : Hp} (e : Ex H0 H) (n : H0 p = none) (i : ExI p H H') : Ex H0 H' := fun c o h => i _ _ (ne_of_none h n) (e _ _ h)
theorem inV_yes {n : Int} : ∀ {ns : List Int}, n ∈ ns → inV (.int n) (ns.map V.int) = true
  | [], h => by simp at h
  | m :: ns, h => by
    unfold inV
    rw [List.map_cons, List.any_cons]
    rcases List.mem_cons.mp h with rfl | h
    · simp [eqV]
    · have ih := inV_yes h
      unfold inV at ih
      rw [ih, Bool.or_true]
/-- one more turned about -/
def trn (x : En) : En := (10000 - x.1, lwT (x.2.1 + 1) x.2.2, lwB (x.2.1 + 1) x.2.2)
/-- drawn entries: small -/
def Small (L : List En) : Prop := ∀ x ∈ L, x.2.1.natAbs < 2 ^ 30 ∧ x.2.2.natAbs < 2 ^ 30
theorem trn_ok {x : En} (h : EnOk x) (s : x.2.1.natAbs < 2 ^ 30 ∧ x.2.2.natAbs < 2 ^ 30) : EnOk (trn x) := by
  have b0 : x.2.2 ≠ 0 := by have := h.2.2.1.1; omega
  refine ⟨by show 1 ≤ 10000 - x.1; have := h.2.1; omega, by show 10000 - x.1 ≤ 9999; have := h.1; omega, lw_nm b0, ?_, ?_⟩
  · refine Nat.lt_of_le_of_lt (lwT_le b0) ?_
    omega
  · refine Nat.lt_of_le_of_lt (lwB_le b0) ?_
    omega
theorem trn_fair {L : List En} (h : Fair L) (s : Small L) : Fair (L.map trn) := by
  refine ⟨fun z hz => ?_, ?_⟩
  · obtain ⟨y, hy, rfl⟩ := List.mem_map.mp hz
    exact trn_ok (h.1 y hy) (s y hy)
  · rw [List.pairwise_map]
    exact h.2.imp fun {a b} z => by show 10000 - a.1 ≠ 10000 - b.1; omega
theorem fair_take {L : List En} (h : Fair L) (i : Nat) : Fair (L.take i) := ⟨fun x hx => h.1 x (List.mem_of_mem_take hx), h.2.sublist (List.take_sublist i L)⟩
theorem topk_mem {L : List En} {k : Nat} (h : Fair L) {y : En} (hy : y ∈ topk k L) : y ∈ L := (srt_all h).1.mem_iff.mp (List.mem_of_mem_take hy)
theorem topk_len {L : List En} {k : Nat} (h : Fair L) : (topk k L).length ≤ L.length := by
  unfold topk
  rw [List.length_take, (srt_all h).1.length_eq]
  omega
theorem topk0 (n : Nat) (L : List En) : topk n (L.take 0) = [] := by
  rw [List.take_zero]
  unfold topk srt
  simp
/-- put the next one of L -/
theorem put_next {L : List En} {i : Nat} {x : En} (h : Fair L) (g : L[i]? = some x) (k : Nat) : (∀ y ∈ topk k (L.take i), EnOk y ∧ x.1 ≠ y.1) ∧ (ins x (topk k (L.take i))).take k = topk k (L.take (i + 1)) := by
  have ht := fair_take h (i + 1)
  rw [take_snoc g] at ht
  refine ⟨fun y hy => ?_, ?_⟩
  · have hm := topk_mem (fair_take h i) hy
    exact ⟨h.1 y (List.mem_of_mem_take hm), ((List.pairwise_append.mp ht.2).2.2 y hm x (List.mem_singleton.mpr rfl)).symm⟩
  · rw [take_snoc g]
    exact topk_put k ht

set_option maxHeartbeats 32000000 in
theorem ok_law (T : TX K mg A FD TK) : FnOk P w K mg base CX0 10 (A 35) (FD 35) ["_law_script"] (spLaw K) := by
  have G_l_purse := (ok_l_purse (P := P) (w := w) (base := base) T).mono (show 1 ≤ 9 by decide)
  have G_l_take := (ok_l_take (P := P) (w := w) (base := base) T).mono (show 1 ≤ 9 by decide)
  have G_l_low := (ok_l_low (P := P) (w := w) (base := base) T).mono (show 1 ≤ 9 by decide)
  have G_l_best := (ok_l_best (P := P) (w := w) (base := base) T).mono (show 2 ≤ 9 by decide)
  have G_l_is_best := (ok_l_is_best (P := P) (w := w) (base := base) T).mono (show 2 ≤ 9 by decide)
  have G_Best := (ok_binit (P := P) (w := w) (base := base) T).mono (show 3 ≤ 8 by decide)
  have G_Ratio := (ok_init (P := P) (w := w) (base := base) T).mono (show 3 ≤ 8 by decide)
  have G_Best_put := (ok_put (P := P) (w := w) (base := base) T).mono (show 6 ≤ 9 by decide)
  have G_Best_told := (ok_told (P := P) (w := w) (base := base) T).mono (show 1 ≤ 9 by decide)
  have G_Best_eq := (ok_eqB (P := P) (w := w) (base := base) T).mono (show 4 ≤ 8 by decide)
  obtain ⟨⟨ds2, R2_Ratio, B2_Ratio⟩, _⟩ := bindsR T
  obtain ⟨dsb, R1_Best, B1_Best⟩ := bindsB T
  refine T.f_law.ok (k := 9) sc_law (fun vs H Q E h => ?_) (fun cdv A' outer s H vs Q E hr h => ?_)
  · obtain ⟨a, ns, rfl, _⟩ := h
    rfl
  · obtain ⟨a, ns, rfl, hS, hn, q⟩ := h
    refine ⟨_, (pss_cons (ps_for PassesOwn.never rfl (pi_range1 (by rfl) T.m_range (pa_cons (pe_callB (call_max2 rfl) (by rfl) T.m_max (by decide +kernel) (pa_cons pe_int (pa_cons (pe_callB (call_min2 rfl) (by rfl) T.m_min (by decide +kernel) (pa_cons (pe_callB (lenK (K := K) rfl) (by rfl) T.m_len (by decide +kernel) (pa_cons (pv 0) pa_nil)) (pa_cons pe_int pa_nil))) pa_nil))) pa_nil)) (pg_name (i := 1) sc_law.nd rfl (.inl rfl))
      (pss_cons (ps_set (i := 2) sc_law.nd rfl (.inl rfl) (pe_call G_l_purse hr (by rfl) T.g_l_purse T.f_l_purse.kp T.b_l_purse .nil pass0 (pa_cons (pv 0) (pa_cons (pv 1) pa_nil))))
      (pss_cons (ps_set (i := 3) sc_law.nd rfl (.inl rfl) (pe_call G_l_take hr (by rfl) T.g_l_take T.f_l_take.kp T.b_l_take .nil pass0 (pa_cons (pv 2) (pa_cons pe_int pa_nil))))
      (pss_cons (ps_set (i := 4) sc_law.nd rfl (.inr rfl) pe_dnewK)
      (pss_cons (ps_for PassesOwn.never rfl (pi_range1 (by rfl) T.m_range (pa_cons (pe_call G_l_take hr (by rfl) T.g_l_take T.f_l_take.kp T.b_l_take .nil pass0 (pa_cons (pv 2) (pa_cons pe_int pa_nil))) pa_nil)) (pg_name (i := 5) sc_law.nd rfl (.inl rfl))
      (pss_cons (ps_set (i := 6) sc_law.nd rfl (.inl rfl) (pe_op op_add pe_int (pe_call G_l_take hr (by rfl) T.g_l_take T.f_l_take.kp T.b_l_take .nil pass0 (pa_cons (pv 2) (pa_cons (pe_ix (ixLK (K := K) rfl) (pe_lst (pa_cons pe_int (pa_cons pe_int pa_nil))) (pe_call G_l_take hr (by rfl) T.g_l_take T.f_l_take.kp T.b_l_take .nil pass0 (pa_cons (pv 2) (pa_cons pe_int pa_nil))) (fun _ _ => rfl)) pa_nil)))))
      (pss_one (ps_dput (hu_of hr) (pv 4) (pv 6) (pe_call G_l_low hr (by rfl) T.g_l_low T.f_l_low.kp T.b_l_low .nil pass0 (pa_cons (pe_call G_l_take hr (by rfl) T.g_l_take T.f_l_take.kp T.b_l_take .nil pass0 (pa_cons (pv 2) (pa_cons pe_int pa_nil))) (pa_cons (pe_op op_add pe_int (pe_call G_l_take hr (by rfl) T.g_l_take T.f_l_take.kp T.b_l_take .nil pass0 (pa_cons (pv 2) (pa_cons pe_int pa_nil)))) pa_nil))) rfl))))
      (pss_cons (ps_lock (ps_setLc (i := 7) (own := [("_law_number", 6)])  rfl sc_law.nd rfl rfl (sw_true rfl rfl rfl (by decide +kernel)) (pi_keys (pv 4)) (blkOk_by (own := [("_law_number", 6)]) (N := N_law) (sc := defScope (topS 35)) (by decide +kernel)) (fun _ _ _ _ _ => (pg_name (i := 6) sc_law.nd rfl (Or.inl rfl))) (fun _ _ _ _ _ => pts_nil) (fun _ _ _ _ _ => (pe_tup (pa_cons (pv 6) (pa_cons (pe_dget (hu_of hr) (pv 4) (pv 6) (fun _ _ => rfl)) pa_nil))))))
      (pss_cons (ps_set (i := 8) sc_law.nd rfl (.inl rfl) (pe_call G_l_best hr (by rfl) T.g_l_best T.f_l_best.kp T.b_l_best .nil pass0 (pa_cons (pv 7) (pa_cons (pv 3) pa_nil))))
      (pss_cons (ps_par3 (by rfl) sc_law.nd (i := 9) (j := 10) (l := 11) rfl rfl rfl (by decide) (by decide) (by decide) rfl rfl rfl (pa_cons (pe_make T.M_Best G_Best hr (by rfl) T.k_Best B1_Best R1_Best pass0 (pa_cons (pv 3) pa_nil)) (pa_cons (pe_make T.M_Best G_Best hr (by rfl) T.k_Best B1_Best R1_Best pass0 (pa_cons (pv 3) pa_nil)) (pa_cons (pe_make T.M_Best G_Best hr (by rfl) T.k_Best B1_Best R1_Best pass0 (pa_cons (pv 3) pa_nil)) pa_nil))) (by rfl))
      (pss_cons (ps_for PassesOwn.never rfl (piLK (K := K) rfl (pv 7)) (pg_tup rfl (pgs_cons (pg_name (i := 6) sc_law.nd rfl (.inl rfl)) (pgs_cons (pg_name (i := 12) sc_law.nd rfl (.inl rfl)) pgs_nil)))
      (pss_cons (ps_expr (pe_meth (pv 9) T.cl_Best T.M_Best_put G_Best_put hr T.b_Best_put .nil pass0 (pa_cons (pv 6) (pa_cons (pe_make T.M_Ratio G_Ratio hr (by rfl) T.k_Ratio B2_Ratio R2_Ratio pass0 (pa_cons (pe_ix (ixTK (K := K) rfl) (pv 12) pe_int (fun _ _ => rfl)) (pa_cons (pe_ix (ixTK (K := K) rfl) (pv 12) pe_int (fun _ _ => rfl)) pa_nil))) pa_nil))))
      (pss_one (ps_expr (pe_meth (pv 11) T.cl_Best T.M_Best_put G_Best_put hr T.b_Best_put .nil pass0 (pa_cons (pe_op op_sub pe_int (pv 6)) (pa_cons (pe_make T.M_Ratio G_Ratio hr (by rfl) T.k_Ratio B2_Ratio R2_Ratio pass0 (pa_cons (pe_op op_add (pe_ix (ixTK (K := K) rfl) (pv 12) pe_int (fun _ _ => rfl)) pe_int) (pa_cons (pe_ix (ixTK (K := K) rfl) (pv 12) pe_int (fun _ _ => rfl)) pa_nil))) pa_nil)))))))
      (pss_cons (ps_for PassesOwn.never rfl (piLK (K := K) rfl (pe_revL (pv 7))) (pg_tup rfl (pgs_cons (pg_name (i := 6) sc_law.nd rfl (.inl rfl)) (pgs_cons (pg_name (i := 12) sc_law.nd rfl (.inl rfl)) pgs_nil)))
      (pss_one (ps_expr (pe_meth (pv 10) T.cl_Best T.M_Best_put G_Best_put hr T.b_Best_put .nil pass0 (pa_cons (pv 6) (pa_cons (pe_make T.M_Ratio G_Ratio hr (by rfl) T.k_Ratio B2_Ratio R2_Ratio pass0 (pa_cons (pe_ix (ixTK (K := K) rfl) (pv 12) pe_int (fun _ _ => rfl)) (pa_cons (pe_ix (ixTK (K := K) rfl) (pv 12) pe_int (fun _ _ => rfl)) pa_nil))) pa_nil))))))
      (pss_cons (ps_if (PW.pt (pw_or (pt_not (pt_val (pe_call G_l_is_best hr (by rfl) T.g_l_is_best T.f_l_is_best.kp T.b_l_is_best .nil pass0 (pa_cons (pe_meth0 (pv 9) T.cl_Best T.M_Best_told G_Best_told hr T.b_Best_told .nil pass0) (pa_cons (pv 8) pa_nil))))) (pw_or (pt_not (pt_val (pe_call G_l_is_best hr (by rfl) T.g_l_is_best T.f_l_is_best.kp T.b_l_is_best .nil pass0 (pa_cons (pe_meth0 (pv 10) T.cl_Best T.M_Best_told G_Best_told hr T.b_Best_told .nil pass0) (pa_cons (pv 8) pa_nil))))) (pw_or1 (pt_cmpR (Own.op_neO G_Best_eq T.M_Best_eq T.b_Best_eq pass0 hr T.neB T.moB (K := K) rfl) (pv 9) (pv 10) (nomark _))))))
      (pss_one (ps_ret pe_bl))
      pss_nil)
      (pss_cons (ps_for PassesOwn.never rfl (piLK (K := K) rfl (pv 7)) (pg_tup rfl (pgs_cons (pg_name (i := 6) sc_law.nd rfl (.inl rfl)) (pgs_cons (pg_name (i := 12) sc_law.nd rfl (.inl rfl)) pgs_nil)))
      (pss_one (ps_if (pt_cmpR (notInK (K := K) rfl) (pv 6) (pe_lc (own := [("_law_held", 14), ("_law_some", 15)])  rfl sc_law.nd (piLK (K := K) rfl (pe_meth0 (pv 9) T.cl_Best T.M_Best_told G_Best_told hr T.b_Best_told .nil pass0)) (blkOk_by (own := [("_law_held", 14), ("_law_some", 15)]) (N := N_law) (sc := defScope (topS 35)) (by decide +kernel)) (fun _ _ _ _ _ => (tupGK (K := K) (n := 2) rfl rfl (pgs_cons (pg_name (i := 14) sc_law.nd rfl (Or.inl rfl)) (pgs_cons (pg_name (i := 15) sc_law.nd rfl (Or.inl rfl)) pgs_nil)))) (fun _ _ _ _ _ => pts_nil) (fun _ _ _ _ _ => (pv 14))) (by rfl))
      (pss_one (ps_expr (pe_meth (pv 9) T.cl_Best T.M_Best_put G_Best_put hr T.b_Best_put .nil pass0 (pa_cons (pv 6) (pa_cons (pe_make T.M_Ratio G_Ratio hr (by rfl) T.k_Ratio B2_Ratio R2_Ratio pass0 (pa_cons (pe_ix (ixTK (K := K) rfl) (pv 12) pe_int (fun _ _ => rfl)) (pa_cons (pe_ix (ixTK (K := K) rfl) (pv 12) pe_int (fun _ _ => rfl)) pa_nil))) pa_nil)))))
      pss_nil)))
      (pss_cons (ps_if (pt_not (pt_val (pe_call G_l_is_best hr (by rfl) T.g_l_is_best T.f_l_is_best.kp T.b_l_is_best .nil pass0 (pa_cons (pe_meth0 (pv 9) T.cl_Best T.M_Best_told G_Best_told hr T.b_Best_told .nil pass0) (pa_cons (pv 8) pa_nil)))))
      (pss_one (ps_ret pe_bl))
      pss_nil)
      (pss_cons (ps_setLc (i := 13) (own := [("_law_number", 6), ("_law_pair", 12)])  rfl sc_law.nd rfl rfl (sw_true rfl rfl rfl (by decide +kernel)) (piLK (K := K) rfl (pv 7)) (blkOk_by (own := [("_law_number", 6), ("_law_pair", 12)]) (N := N_law) (sc := defScope (topS 35)) (by decide +kernel)) (fun _ _ _ _ _ => (tupGK (K := K) (n := 2) rfl rfl (pgs_cons (pg_name (i := 6) sc_law.nd rfl (Or.inl rfl)) (pgs_cons (pg_name (i := 12) sc_law.nd rfl (Or.inl rfl)) pgs_nil)))) (fun _ _ _ _ _ => pts_nil) (fun _ _ _ _ _ => (pe_tup (pa_cons (pe_op op_sub pe_int (pv 6)) (pa_cons (pe_call G_l_low hr (by rfl) T.g_l_low T.f_l_low.kp T.b_l_low .nil pass0 (pa_cons (pe_op op_add (pe_ix (ixTK (K := K) rfl) (pv 12) pe_int (fun _ _ => rfl)) pe_int) (pa_cons (pe_ix (ixTK (K := K) rfl) (pv 12) pe_int (fun _ _ => rfl)) pa_nil))) pa_nil)))))
      (pss_one (ps_if (pt_not (pt_val (pe_call G_l_is_best hr (by rfl) T.g_l_is_best T.f_l_is_best.kp T.b_l_is_best .nil pass0 (pa_cons (pe_meth0 (pv 11) T.cl_Best T.M_Best_told G_Best_told hr T.b_Best_told .nil pass0) (pa_cons (pe_call G_l_best hr (by rfl) T.g_l_best T.f_l_best.kp T.b_l_best .nil pass0 (pa_cons (pv 13) (pa_cons (pv 3) pa_nil))) pa_nil)))))
      (pss_one (ps_ret pe_bl))
      pss_nil))))))))))))))))
      (pss_one (ps_ret pe_bl))), ?_⟩
    refine ⟨.ref a, rfl, a, _, rfl, .inl hS, _, _, rfl, 2, _, rfl, (if (if (6 : Int) < ((ns.map V.int).length : Int) then 6 else ((ns.map V.int).length : Int)) > 2 then (if (6 : Int) < ((ns.map V.int).length : Int) then 6 else ((ns.map V.int).length : Int)) else 2), rfl, ?_, ?_, ?_⟩
    · have := maxmin (ns.map V.int).length
      omega
    · have := maxmin (ns.map V.int).length
      omega
    have hmm := maxmin (ns.map V.int).length
    generalize (if (if (6 : Int) < ((ns.map V.int).length : Int) then 6 else ((ns.map V.int).length : Int)) > 2 then (if (6 : Int) < ((ns.map V.int).length : Int) then 6 else ((ns.map V.int).length : Int)) else 2) = nn at hmm ⊢
    refine for_range (lo := 0) (n := nn.toNat) (fun i σ' H' => ∃ y1 y2 y3 y4 y5 y6 y7 y8 y9 y10 y11 y12 y13 y14 y15 : Option V, σ' = [some (.ref a), y1, y2, y3, y4, y5, y6, y7, y8, y9, y10, y11, y12, y13, y14, y15] ∧ Ex H H') ⟨none, none, none, none, none, none, none, none, none, none, none, none, none, none, none, rfl, Ex.refl H⟩ (fun i σ' H' hi pv => ?_) (fun σ' H' pv => q _)
    obtain ⟨y1, y2, y3, y4, y5, y6, y7, y8, y9, y10, y11, y12, y13, y14, y15, rfl, e0⟩ := pv
    refine ⟨.ref a, rfl, .int ((0 : Int) + i), rfl, a, ns, i, ?_, ex_l e0 hS, hn, by omega, fun p H1 np e1 hp1 => ?_⟩
    · show [V.ref a, V.int ((0 : Int) + i)] = [V.ref a, V.int (i : Int)]
      rw [Int.zero_add]
    refine ⟨.ref p, rfl, p, 7, 0, rfl, hp1, by decide, by decide, by decide, fun n0 H2 n1 n2 hp2 f2 => ?_⟩
    obtain ⟨n, rfl⟩ := Int.eq_ofNat_of_zero_le n1
    have x2 : Ex H' H2 := fx_new np e1 f2
    refine fun d nd => ?_
    have ndp := pool_ne hp2 nd
    have x3 := x2.trans (Ex.new (o := .dK []) nd)
    have hp3 := hp2.ex (Ex.new (o := .dK []) nd)
    have nd0 : H' d = none := fresh_back x2 nd
    -- the drawn ones
    refine ⟨.ref p, rfl, p, 31, 1, rfl, hp3, by decide, by decide, by decide, fun m H4 m0 m1 hp4 f4 => ?_⟩
    have hd4 := f4 _ _ ndp (upd_same (H := H2) (a := d) (o := .dK []))
    have x4 : Ex H' H4 := fun c o h => f4 _ _ (ne_of_none h np) (x3 _ _ h)
    refine ⟨m, rfl, by omega, by omega, ?_⟩
    refine for_range (lo := 0) (n := m.toNat) (fun j σ2 H5 => ∃ (y5 y6 : Option V) (kvs : List (Key × V)) (L : List En), σ2 = [some (.ref a), some (.int ((0 : Int) + i)), some (.ref p), some (.int (n : Int)), some (.ref d), y5, y6, y7, y8, y9, y10, y11, y12, y13, y14, y15] ∧ Ex H' H5 ∧ Pl H5 p (2 + 4 * j) ∧ H5 d = some (.dK kvs) ∧ Dk H5 kvs L ∧ Fair L ∧ Small L ∧ L.length ≤ j)
      ⟨y5, y6, [], [], rfl, x4, hp4, hd4, ⟨rfl, fun i x e => by simp at e⟩, ⟨fun x hx => by simp at hx, List.Pairwise.nil⟩, fun x hx => by simp at hx, Nat.le_refl _⟩ (fun j σ2 H5 hj pv => ?_) (fun σ2 H5 pv => ?_)
    · obtain ⟨y5, y6, kvs, L, rfl, x5, hp5, hd5, hD, hF, hSm, hL⟩ := pv
      refine ⟨.ref p, rfl, by show 2 ≤ sizeLine; decide, fun l nl => ?_⟩
      have nlp := pool_ne hp5 nl
      have ndl : d ≠ l := ne_of_none hd5 nl
      have x6 := Ex.new (o := .lst [.int 40, .int 9999]) nl
      refine ⟨.ref p, rfl, p, 2, 2 + 4 * j, rfl, hp5.ex x6, by decide, by decide, by omega, fun z H7 z0 z1 hp7 f7 => ?_⟩
      obtain ⟨zn, rfl⟩ := Int.eq_ofNat_of_zero_le z0
      obtain ⟨mm, gm, mm0, mm1⟩ : ∃ mm : Int, ([V.int 40, V.int 9999])[zn]? = some (.int mm) ∧ 0 < mm ∧ mm ≤ 9999 := by
        match zn, z1 with
        | 0, _ => exact ⟨40, rfl, by decide, by decide⟩
        | 1, _ => exact ⟨9999, rfl, by decide, by decide⟩
        | k + 2, z => exact absurd z (by omega)
      refine ⟨l, _, _, .int mm, rfl, rfl, SqL.of (f7 _ _ nlp upd_same), atI_nat (j := zn) gm, p, mm, 2 + 4 * j + 1, rfl, hp7, mm0, by omega, by omega, fun g H8 g0 g1 hp8 f8 => ⟨1, g, rfl, rfl, ?_⟩⟩
      refine ⟨.ref p, rfl, p, 6, 2 + 4 * j + 2, rfl, hp8, by decide, by decide, by omega, fun t H9 t0 t1 hp9 f9 => ?_⟩
      refine ⟨.ref p, rfl, p, 4, 2 + 4 * j + 3, rfl, hp9, by decide, by decide, by omega, fun b HA b0 b1 hpA fA => ⟨1, b, rfl, rfl, ?_⟩⟩
      have bne : (1 + b) ≠ 0 := by omega
      refine ⟨_, _, rfl, bne, lt2 (n := 4) (by omega) (by decide), lt2 (n := 4) (by omega) (by decide), fun qq nqq => ?_⟩
      have xB := Ex.new (o := .tup [.int (lwT t (1 + b)), .int (lwB t (1 + b))]) nqq
      have fb : Fx p (upd H5 l (.lst [.int 40, .int 9999])) HA := ((f7.trans f8).trans f9).trans fA
      have hdB := xB _ _ (fb _ _ ndp (x6 _ _ hd5))
      have tupk : ∀ c ys, H5 c = some (.tup ys) → (upd HA qq (.tup [.int (lwT t (1 + b)), .int (lwB t (1 + b))])) c = some (.tup ys) := fun c ys h => xB _ _ (fb.tup (hp5.ex x6) (x6 _ _ h))
      have hDB := hD.mono tupk
      have eok : EnOk (1 + g, lwT t (1 + b), lwB t (1 + b)) := by
        refine ⟨by show 1 ≤ 1 + g; omega, by show 1 + g ≤ 9999; omega, lw_nm bne, ?_, ?_⟩
        · exact Nat.lt_of_le_of_lt (lwT_le bne) (by omega)
        · exact Nat.lt_of_le_of_lt (lwB_le bne) (by omega)
      obtain ⟨L', hD', hF', hL', hM'⟩ := hDB.put (x := (1 + g, lwT t (1 + b), lwB t (1 + b))) (q := qq) hF eok upd_same
      refine ⟨.ref d, rfl, .int (1 + g), rfl, d, _, rfl, DPut.k (k := .inl (1 + g)) hdB (sz_lt (by rw [hD.1]; omega)), ?_⟩
      refine ⟨_, _, _, L', rfl, ?_, ?_, upd_same, hD'.mono fun c ys h => by rw [upd_ne (ne_of h hdB (by intro z; cases z))]; exact h, hF', fun y hy => ?_, by omega⟩
      · intro c o h
        rw [upd_ne (ne_of_none h nd0)]
        exact xB _ _ (fb _ _ (ne_of_none h np) (x6 _ _ (x5 _ _ h)))
      · obtain ⟨g', b', k', hk, r⟩ := hpA.ex xB
        exact ⟨g', b', k', by rw [upd_ne ndp.symm]; exact hk, r.1, r.2.1, r.2.2.1, by omega⟩
      · rcases hM' y hy with z | rfl
        · exact hSm y z
        · exact ⟨Nat.lt_of_le_of_lt (lwT_le bne) (by omega), Nat.lt_of_le_of_lt (lwB_le bne) (by omega)⟩
    · obtain ⟨y5, y6, kvs, L, rfl, x5, hp5, hd5, hD, hF, hSm, hL⟩ := pv
      have hL30 : L.length ≤ 30 := by omega
      -- the pairs
      refine ⟨d, .dK kvs, hd5, True.intro, fun od => ?_⟩
      have hdL := upd_same (H := H5) (a := d) (o := .frz od (.dK kvs))
      have xL : Ex H' (upd H5 d (.frz od (.dK kvs))) := Ex.mut x5 nd0
      have hDL : Dk (upd H5 d (.frz od (.dK kvs))) kvs L := hD.mono fun c ys h => by rw [upd_ne (ne_of h hd5 (by intro z; cases z))]; exact h
      generalize (upd H5 d (.frz od (.dK kvs))) = HL at hdL xL hDL ⊢
      refine ⟨.ref d, rfl, d, od, rfl, .inl ⟨kvs, hdL, fun D nD => ?_⟩⟩
      refine lc_it (walk_keys (d := d) (o := od) (kvs := kvs)) (fun j Hj => ∃ xs, Ex HL Hj ∧ Hj D = some (.lst xs) ∧ Ls Hj xs (L.take j)) ⟨[], Ex.new nD, upd_same, Ls.nil⟩ (fun j Hj _ pj => pj.elim fun _ pj => pj.1 _ _ hdL) (fun j v Hj Hj' hj pj hy => ?_) (fun H6 pj => ?_)
      · obtain ⟨xs, xj, hDj, hLj⟩ := pj
        obtain ⟨rfl, k, vv, gk, rfl⟩ := hy
        obtain ⟨x, qx, gx, ekv, hqx⟩ := hDL.at gk
        cases ekv
        refine ⟨rfl, .int x.1, rfl, .ref d, rfl, .int x.1, rfl, d, .ref qx, rfl, .inl ⟨kvs, .inl x.1, .inr ⟨od, xj _ _ hdL⟩, rfl, (hDL.val hF.2 gx gk).symm⟩, by show 2 ≤ sizeLine; decide, fun tt ntt => ?_⟩
        have xt := Ex.new (o := .tup [.int x.1, .ref qx]) ntt
        have hDt := xt _ _ hDj
        refine ⟨xs, hDt, sz_lt (by rw [hLj.1, List.length_take]; omega), xs ++ [.ref tt], Ex.mut (xj.trans xt) nD, upd_same, ?_⟩
        rw [take_snoc gx]
        exact ((hLj.ex xt).app (Ls.cons (q := qx) upd_same (xt _ _ (xj _ _ hqx)) Ls.nil)).lst hDt
      · obtain ⟨xs, x6, hD6, hL6⟩ := pj
        rw [hD.1, List.take_length] at hL6
        refine ⟨x6 _ _ hdL, ?_⟩
        have nDd : D ≠ d := (ne_of_none hdL nD).symm
        have xU : Ex H' (upd H6 d (.dK kvs)) := Ex.mut (xL.trans x6) nd0
        have hDU : (upd H6 d (.dK kvs)) D = some (.lst xs) := by rw [upd_ne nDd]; exact hD6
        have hLU : Ls (upd H6 d (.dK kvs)) xs L := hL6.mono fun c ys h => by rw [upd_ne (ne_of h (x6 _ _ hdL) (by intro z; cases z))]; exact h
        generalize (upd H6 d (.dK kvs)) = H7 at xU hDU hLU ⊢
        -- due
        refine ⟨.ref D, rfl, .int (n : Int), rfl, D, n, xs, L, rfl, SqL.of hDU, hLU, hF, by omega, fun gd gds H8 ngd x8 hgd hG => ?_⟩
        -- three bests
        refine ⟨.int (n : Int), rfl, fun b1 dx1 nb1 ndx1 _ => mk_best (C := A 17) nb1 ndx1 (by omega) fun H9 x9 hB1 => ?_⟩
        refine ⟨.int (n : Int), rfl, fun b2 dx2 nb2 ndx2 _ => mk_best (C := A 17) nb2 ndx2 (by omega) fun HA xA hB2 => ?_⟩
        refine ⟨.int (n : Int), rfl, fun b3 dx3 nb3 ndx3 _ => mk_best (C := A 17) nb3 ndx3 (by omega) fun HB xB hB3 => ?_⟩
        refine ⟨_, _, _, rfl, ?_⟩
        have n12 : b1 ≠ b2 := by obtain ⟨dx, l, zs, z, _⟩ := hB1; exact ne_of_none z nb2
        have n13 : b1 ≠ b3 := by obtain ⟨dx, l, zs, z, _⟩ := hB1; exact ne_of_none (xA _ _ z) nb3
        have n23 : b2 ≠ b3 := by obtain ⟨dx, l, zs, z, _⟩ := hB2; exact ne_of_none z nb3
        have m2 : H8 b2 = none := fresh_back x9 nb2
        have m3 : H8 b3 = none := fresh_back (x9.trans xA) nb3
        have x8B := (x9.trans xA).trans xB
        have hD8 := x8 _ _ hDU
        have hL8 := hLU.ex x8
        have hFt := trn_fair hF hSm
        refine ⟨.ref D, rfl, D, rfl, ⟨_, SqL.of (x8B _ _ hD8)⟩, ?_⟩
        refine for_list (K := K) (xs := xs) (fun j σ2 Hc => ∃ y6 y12 : Option V, σ2 = [some (.ref a), some (.int ((0 : Int) + i)), some (.ref p), some (.int (n : Int)), some (.ref d), y5, y6, some (.ref D), some (.ref gd), some (.ref b1), some (.ref b2), some (.ref b3), y12, y13, y14, y15] ∧ Ex H8 Hc ∧ BestAt (A 25) (A 17) Hc b1 n (topk n (L.take j)) ∧ BestAt (A 25) (A 17) Hc b2 n [] ∧ BestAt (A 25) (A 17) Hc b3 n (topk n ((L.map trn).take j)))
          ⟨_, _, rfl, x8B, by rw [topk0]; exact (hB1.ex xA).ex xB, hB2.ex xB, by rw [topk0]; exact hB3⟩ (fun j σ2 Hc _ pj => ?_) (fun j v σ2 Hc gv pj => ?_) (fun σ2 Hc pj => ?_)
        · obtain ⟨_, _, _, xc, _⟩ := pj
          exact SqL.of (xc _ _ hD8)
        · obtain ⟨y6, y12, rfl, xc, c1, c2, c3⟩ := pj
          obtain ⟨x, ax, qx, gx, rfl, hax, hqx⟩ := hL8.at gv
          have hax := xc _ _ hax
          have hqx := xc _ _ hqx
          have ex := hF.1 x (List.mem_of_getElem? gx)
          have sx := hSm x (List.mem_of_getElem? gx)
          have pn := put_next hF gx n
          have jl : j < L.length := (List.getElem?_eq_some_iff.mp gx).1
          refine ⟨ax, _, rfl, SqT.of hax, rfl, _, _, rfl, _, _, rfl, rfl, ?_⟩
          obtain ⟨dx1, l1, z1, h1, _⟩ := id c1
          refine ⟨.ref b1, rfl, b1, dx1, _, rfl, h1, rfl, .int x.1, rfl, .ref qx, rfl, qx, _, 0, _, rfl, rfl, SqT.of hqx, atI_nat (j := 0) rfl, .ref qx, rfl, qx, _, 1, _, rfl, rfl, SqT.of hqx, atI_nat (j := 1) rfl, fun r dr nr ndr _ => mk_ratio (t := x.2.1) (b := x.2.2) nr ndr (by have := ex.2.2.1.1; omega) (lt2 ex.2.2.2.1 (by decide)) (lt2 ex.2.2.2.2 (by decide)) fun Hd xd rr => ?_⟩
          rw [nm_t ex.2.2.1, nm_b ex.2.2.1] at rr
          refine ⟨b1, r, n, _, x, rfl, c1.ex xd, rr, ex, pn.1, Nat.le_trans (topk_len (fair_take hF j)) (by rw [List.length_take]; omega), fun He ie c1e => ?_⟩
          rw [pn.2] at c1e
          have xe : Ex H8 He := ex_exI (xc.trans xd) nb1 ie
          have c2e := (c2.ex xd).exI (c1.ex xd) n12.symm ie
          have c3e := (c3.ex xd).exI (c1.ex xd) n13.symm ie
          have hqe : He qx = some (.tup [.int x.2.1, .int x.2.2]) := by
            have := hL8.2 j x gx
            obtain ⟨ax', qx', g1, g2, g3⟩ := this
            rw [gv] at g1
            cases g1
            have e1' := xc _ _ g2
            rw [hax] at e1'
            cases e1'
            exact xe _ _ g3
          have gt : (L.map trn)[j]? = some (trn x) := by rw [List.getElem?_map, gx]; rfl
          have pt := put_next hFt gt n
          have ext := hFt.1 (trn x) (List.mem_of_getElem? gt)
          have b0 : x.2.2 ≠ 0 := by have := ex.2.2.1.1; omega
          obtain ⟨dx3', l3, z3, h3, _⟩ := id c3e
          refine ⟨.ref b3, rfl, b3, dx3', _, rfl, h3, rfl, .int x.1, rfl, 10000, x.1, rfl, rfl, .ref qx, rfl, qx, _, 0, _, rfl, rfl, SqT.of hqe, atI_nat (j := 0) rfl, x.2.1, 1, rfl, rfl, .ref qx, rfl, qx, _, 1, _, rfl, rfl, SqT.of hqe, atI_nat (j := 1) rfl, fun r dr nr ndr _ => mk_ratio (t := x.2.1 + 1) (b := x.2.2) nr ndr b0 (lt2 (n := 40) (by omega) (by decide)) (lt2 ex.2.2.2.2 (by decide)) fun Hf xf rr => ?_⟩
          refine ⟨b3, r, n, _, trn x, rfl, c3e.ex xf, rr, ext, pt.1, Nat.le_trans (topk_len (fair_take hFt j)) (by rw [List.length_take, List.length_map]; omega), fun Hg ig c3g => ?_⟩
          rw [pt.2] at c3g
          exact ⟨_, _, rfl, ex_exI (xe.trans xf) m3 ig, (c1e.ex xf).exI (c3e.ex xf) n13 ig, (c2e.ex xf).exI (c3e.ex xf) n23 ig, c3g⟩
        · obtain ⟨y6, y12, rfl, xc, c1, c2, c3⟩ := pj
          rw [hL8.1, List.take_length] at c1
          rw [hL8.1, show L.length = (L.map trn).length by simp, List.take_length] at c3
          -- the other way round
          refine ⟨.ref D, rfl, D, xs, rfl, SqL.of (xc _ _ hD8), fun R nR => ?_⟩
          have xR := Ex.new (o := .lst xs.reverse) nR
          have hRR := upd_same (H := Hc) (a := R) (o := .lst xs.reverse)
          have c1 := c1.ex xR
          have c2 := c2.ex xR
          have c3 := c3.ex xR
          have xcR := xc.trans xR
          generalize (upd Hc R (.lst xs.reverse)) = HR at hRR c1 c2 c3 xcR ⊢
          have hFr : Fair L.reverse := fair_perm (List.reverse_perm L).symm hF
          have hLr := (hL8.ex xcR).rev
          refine ⟨R, rfl, ⟨_, SqL.of hRR⟩, ?_⟩
          refine for_list (K := K) (xs := xs.reverse) (fun j σ2 Hj => ∃ y6 y12 : Option V, σ2 = [some (.ref a), some (.int ((0 : Int) + i)), some (.ref p), some (.int (n : Int)), some (.ref d), y5, y6, some (.ref D), some (.ref gd), some (.ref b1), some (.ref b2), some (.ref b3), y12, y13, y14, y15] ∧ Ex H8 Hj ∧ Hj R = some (.lst xs.reverse) ∧ Ls Hj xs.reverse L.reverse ∧ BestAt (A 25) (A 17) Hj b1 n (topk n L) ∧ BestAt (A 25) (A 17) Hj b2 n (topk n (L.reverse.take j)) ∧ BestAt (A 25) (A 17) Hj b3 n (topk n (L.map trn)))
            ⟨_, _, rfl, xcR, hRR, hLr, c1, by rw [topk0]; exact c2, c3⟩ (fun j σ2 Hj _ pj => ?_) (fun j v σ2 Hj gv pj => ?_) (fun σ2 Hj pj => ?_)
          · obtain ⟨_, _, _, _, hj, _⟩ := pj
            exact SqL.of hj
          · obtain ⟨y6, y12, rfl, xj, hRj, hLj, c1, c2, c3⟩ := pj
            obtain ⟨x, ax, qx, gx, rfl, hax, hqx⟩ := hLj.at gv
            have ex := hFr.1 x (List.mem_of_getElem? gx)
            have pn := put_next hFr gx n
            have jl : j < L.reverse.length := (List.getElem?_eq_some_iff.mp gx).1
            rw [List.length_reverse] at jl
            refine ⟨ax, _, rfl, SqT.of hax, rfl, _, _, rfl, _, _, rfl, rfl, ?_⟩
            obtain ⟨dx2', l2, z2, h2, _⟩ := id c2
            refine ⟨.ref b2, rfl, b2, dx2', _, rfl, h2, rfl, .int x.1, rfl, .ref qx, rfl, qx, _, 0, _, rfl, rfl, SqT.of hqx, atI_nat (j := 0) rfl, .ref qx, rfl, qx, _, 1, _, rfl, rfl, SqT.of hqx, atI_nat (j := 1) rfl, fun r dr nr ndr _ => mk_ratio (t := x.2.1) (b := x.2.2) nr ndr (by have := ex.2.2.1.1; omega) (lt2 ex.2.2.2.1 (by decide)) (lt2 ex.2.2.2.2 (by decide)) fun Hd xd rr => ?_⟩
            rw [nm_t ex.2.2.1, nm_b ex.2.2.1] at rr
            refine ⟨b2, r, n, _, x, rfl, c2.ex xd, rr, ex, pn.1, Nat.le_trans (topk_len (fair_take hFr j)) (by rw [List.length_take, List.length_reverse]; omega), fun He ie c2e => ?_⟩
            rw [pn.2] at c2e
            have h2d := xd _ _ h2
            exact ⟨_, _, rfl, ex_exI (xj.trans xd) m2 ie, ie _ _ (ne_of (xd _ _ hRj) h2d (by intro z; cases z)) (xd _ _ hRj), (hLj.ex xd).mono (fun c ys h => ie _ _ (ne_of h h2d (by intro z; cases z)) h), (c1.ex xd).exI (c2.ex xd) n12 ie, c2e, (c3.ex xd).exI (c2.ex xd) n23.symm ie⟩
          · obtain ⟨y6, y12, rfl, xj, hRj, hLj, c1, c2, c3⟩ := pj
            rw [List.length_reverse, hL8.1, show L.length = L.reverse.length by simp, List.take_length, show topk n L.reverse = topk n L by unfold topk; rw [srt_perm hFr (List.reverse_perm L)]] at c2
            -- told as is due
            have hgd8 := xj _ _ hgd
            have hG8 := hG.ex xj
            obtain ⟨dxa, la, za, ha1, _⟩ := id c1
            refine ⟨.ref b1, rfl, b1, dxa, _, rfl, ha1, rfl, b1, n, _, rfl, c1, fun t1 ts1 Hk nt1 xk ht1 hE1 => ?_⟩
            refine ⟨.ref gd, rfl, t1, gd, ts1, gds, _, rfl, ht1, xk _ _ hgd8, hE1, hG8.ex xk, fun Hl xl => ⟨true, rfl, ?_⟩⟩
            have xkl := xk.trans xl
            have c2l := c2.ex xkl
            obtain ⟨dxb, lb, zb, hb1, _⟩ := id c2l
            refine ⟨.ref b2, rfl, b2, dxb, _, rfl, hb1, rfl, b2, n, _, rfl, c2l, fun t2 ts2 Hm nt2 xm ht2 hE2 => ?_⟩
            refine ⟨.ref gd, rfl, t2, gd, ts2, gds, _, rfl, ht2, (xkl.trans xm) _ _ hgd8, hE2, hG8.ex (xkl.trans xm), fun Hn xn => ⟨true, rfl, ?_⟩⟩
            have xjn := (xkl.trans xm).trans xn
            have c1n := c1.ex xjn
            have c2n := c2.ex xjn
            have c3n := c3.ex xjn
            obtain ⟨dxc, lc', zc, hc1, _⟩ := id c1n
            obtain ⟨dxd, ld, zd, hd1, _⟩ := id c2n
            refine ⟨.ref b1, rfl, .ref b2, rfl, b1, dxc, _, rfl, hc1, .inl ⟨b2, dxd, _, rfl, hd1⟩, b1, b2, n, _, rfl, c1n, c2n, fun Ho xo => ⟨true, rfl, _, rfl, ?_⟩⟩
            have xjo := xjn.trans xo
            have c1 := c1n.ex xo
            have c3 := c3n.ex xo
            have x8o := xj.trans xjo
            refine ⟨.ref D, rfl, D, rfl, ⟨_, SqL.of (x8o _ _ hD8)⟩, ?_⟩
            refine for_list (K := K) (xs := xs) (fun j σ2 Hq => ∃ y6 y12 : Option V, σ2 = [some (.ref a), some (.int ((0 : Int) + i)), some (.ref p), some (.int (n : Int)), some (.ref d), y5, y6, some (.ref D), some (.ref gd), some (.ref b1), some (.ref b2), some (.ref b3), y12, y13, y14, y15] ∧ Ex H8 Hq ∧ BestAt (A 25) (A 17) Hq b1 n (topk n L) ∧ BestAt (A 25) (A 17) Hq b3 n (topk n (L.map trn)))
              ⟨_, _, rfl, x8o, c1, c3⟩ (fun j σ2 Hq _ pj => ?_) (fun j v σ2 Hq gv pj => ?_) (fun σ2 Hq pj => ?_)
            · obtain ⟨_, _, _, xq, _⟩ := pj
              exact SqL.of (xq _ _ hD8)
            · obtain ⟨y6, y12, rfl, xq, c1, c3⟩ := pj
              obtain ⟨x, ax, qx, gx, rfl, hax, hqx⟩ := (hL8.ex xq).at gv
              have ex := hF.1 x (List.mem_of_getElem? gx)
              refine ⟨ax, _, rfl, SqT.of hax, rfl, _, _, rfl, _, _, rfl, rfl, ?_⟩
              obtain ⟨dxa, la, za, ha1, _⟩ := id c1
              refine ⟨.int x.1, rfl, .ref b1, rfl, b1, dxa, _, rfl, ha1, rfl, b1, n, _, rfl, c1, fun t1 ts1 Hk nt1 xk ht1 hE1 => ?_⟩
              refine ⟨t1, rfl, ⟨_, SqL.of ht1⟩, fun D2 nD2 => ?_⟩
              refine lc_list (K := K) (xs := ts1) (fun m Hm => Ex Hk Hm ∧ Hm D2 = some (.lst ((((topk n L).take m).map (·.1)).map V.int))) ⟨Ex.new nD2, upd_same⟩ (fun m Hm _ z => SqL.of (z.1 _ _ ht1)) (fun m v Hm gv z => ?_) (fun Hm z => ?_)
              · obtain ⟨y, ay, r', gy, rfl, hay, _⟩ := hE1.at gv
                have hm : m < (topk n L).length := (List.getElem?_eq_some_iff.mp gy).1
                have hl1 := topk_len (k := n) hF
                refine ⟨ay, _, rfl, SqT.of (z.1 _ _ hay), rfl, _, _, rfl, _, _, rfl, rfl, rfl, .int y.1, rfl, _, z.2, ?_, Ex.mut z.1 nD2, ?_⟩
                · rw [List.length_map, List.length_map, List.length_take]
                  exact sz_lt (by omega)
                · rw [upd_same, take_snoc gy, List.map_append, List.map_append]
                  rfl
              · obtain ⟨xm, hD2⟩ := z
                rw [hE1.1, List.take_length] at hD2
                have c1m := (c1.ex xk).ex xm
                have c3m := (c3.ex xk).ex xm
                have xqm := (xq.trans xk).trans xm
                refine ⟨D2, _, rfl, .inl (SqL.of hD2), rfl, ?_, _, rfl, ?_⟩
                · rw [List.all_eq_true]
                  intro v hv
                  obtain ⟨m, _, rfl⟩ := List.mem_map.mp hv
                  rfl
                by_cases hin : x.1 ∈ (topk n L).map (·.1)
                · rw [inV_yes hin]
                  exact ⟨_, _, rfl, xqm, c1m, c3m⟩
                · rw [inV_no hin]
                  have sa := srt_all hF
                  have no : ∀ y ∈ topk n L, x.1 ≠ y.1 := fun y hy z => hin (by rw [z]; exact List.mem_map_of_mem hy)
                  have hxs : x ∈ srt L := sa.1.mem_iff.mpr (List.mem_of_getElem? gx)
                  have ag := ins_again (S := srt L) (x := x) (k := n) (fun y hy => hF.1 y (sa.1.mem_iff.mp hy)) sa.2 hxs (fun z => no x z rfl)
                  have hqx := (xk.trans xm) _ _ hqx
                  obtain ⟨dxb, lb, zb, hb1, _⟩ := id c1m
                  refine ⟨.ref b1, rfl, b1, dxb, _, rfl, hb1, rfl, .int x.1, rfl, .ref qx, rfl, qx, _, 0, _, rfl, rfl, SqT.of hqx, atI_nat (j := 0) rfl, .ref qx, rfl, qx, _, 1, _, rfl, rfl, SqT.of hqx, atI_nat (j := 1) rfl, fun r dr nr ndr _ => mk_ratio (t := x.2.1) (b := x.2.2) nr ndr (by have := ex.2.2.1.1; omega) (lt2 ex.2.2.2.1 (by decide)) (lt2 ex.2.2.2.2 (by decide)) fun Hd xd rr => ?_⟩
                  rw [nm_t ex.2.2.1, nm_b ex.2.2.1] at rr
                  refine ⟨b1, r, n, topk n L, x, rfl, c1m.ex xd, rr, ex, fun y hy => ⟨hF.1 y (topk_mem hF hy), no y hy⟩, Nat.le_trans (topk_len hF) (by omega), fun He ie c1e => ?_⟩
                  rw [show (ins x (topk n L)).take n = topk n L from ag.1] at c1e
                  exact ⟨_, _, rfl, ex_exI (xqm.trans xd) nb1 ie, c1e, (c3m.ex xd).exI (c1m.ex xd) n13.symm ie⟩
            · obtain ⟨y6, y12, rfl, xq, c1, c3⟩ := pj
              obtain ⟨dxa, la, za, ha1, _⟩ := id c1
              refine ⟨.ref b1, rfl, b1, dxa, _, rfl, ha1, rfl, b1, n, _, rfl, c1, fun t1 ts1 Hk nt1 xk ht1 hE1 => ?_⟩
              refine ⟨.ref gd, rfl, t1, gd, ts1, gds, _, rfl, ht1, (xq.trans xk) _ _ hgd, hE1, hG.ex (xq.trans xk), fun Hl xl => ⟨true, rfl, ?_⟩⟩
              have x8l := (xq.trans xk).trans xl
              have c3l := (c3.ex xk).ex xl
              -- turned about
              refine ⟨.ref D, rfl, D, rfl, ⟨_, SqL.of (x8l _ _ hD8)⟩, fun D3 nD3 => ?_⟩
              refine lc_list (K := K) (xs := xs) (fun m Hm => ∃ us, Ex Hl Hm ∧ Hm D3 = some (.lst us) ∧ Ls Hm us ((L.map trn).take m)) ⟨[], Ex.new nD3, upd_same, Ls.nil⟩ (fun m Hm _ z => z.elim fun _ z => SqL.of (z.1 _ _ (x8l _ _ hD8))) (fun m v Hm gv z => ?_) (fun Hm z => ?_)
              · obtain ⟨us, xm, hD3, hLs⟩ := z
                obtain ⟨x, ax, qx, gx, rfl, hax, hqx⟩ := (hL8.ex (x8l.trans xm)).at gv
                have ex := hF.1 x (List.mem_of_getElem? gx)
                have b0 : x.2.2 ≠ 0 := by have := ex.2.2.1.1; omega
                have gt : (L.map trn)[m]? = some (trn x) := by rw [List.getElem?_map, gx]; rfl
                have ml : m < L.length := (List.getElem?_eq_some_iff.mp gx).1
                refine ⟨ax, _, rfl, SqT.of hax, rfl, _, _, rfl, _, _, rfl, rfl, rfl, .int x.1, rfl, 10000, x.1, rfl, rfl, .ref qx, rfl, qx, _, 0, _, rfl, rfl, SqT.of hqx, atI_nat (j := 0) rfl, x.2.1, 1, rfl, rfl, .ref qx, rfl, qx, _, 1, _, rfl, rfl, SqT.of hqx, atI_nat (j := 1) rfl, x.2.1 + 1, x.2.2, rfl, b0, lt2 (n := 41) (by have := ex.2.2.2.1; omega) (by decide), lt2 ex.2.2.2.2 (by decide), fun q3 nq3 => ?_⟩
                have x3' := Ex.new (o := .tup [.int (lwT (x.2.1 + 1) x.2.2), .int (lwB (x.2.1 + 1) x.2.2)]) nq3
                refine ⟨by show 2 ≤ sizeLine; decide, fun t3 nt3 => ?_⟩
                have x4' := Ex.new (o := .tup [.int (10000 - x.1), .ref q3]) nt3
                have xx := x3'.trans x4'
                have hD3' := xx _ _ hD3
                refine ⟨us, hD3', sz_lt (by rw [hLs.1, List.length_take, List.length_map]; omega), us ++ [.ref t3], Ex.mut (xm.trans xx) nD3, upd_same, ?_⟩
                rw [take_snoc gt]
                exact ((hLs.ex xx).app (Ls.cons (x := trn x) (q := q3) upd_same (x4' _ _ upd_same) Ls.nil)).lst hD3'
              · obtain ⟨us, xm, hD3, hLs⟩ := z
                rw [hL8.1, show L.length = (L.map trn).length by simp, List.take_length] at hLs
                have c3m := c3l.ex xm
                obtain ⟨dxc, lc', zc, hc1, _⟩ := id c3m
                refine ⟨.ref b3, rfl, b3, dxc, _, rfl, hc1, rfl, b3, n, _, rfl, c3m, fun t4 ts4 Hs nt4 xs4 ht4 hE4 => ?_⟩
                refine ⟨.ref D3, rfl, .int (n : Int), rfl, D3, n, us, L.map trn, rfl, SqL.of (xs4 _ _ hD3), hLs.ex xs4, hFt, by simp; omega, fun g5 gs5 Ht ng5 xt hg5 hG5 => ?_⟩
                refine ⟨t4, g5, ts4, gs5, _, rfl, xt _ _ ht4, hg5, hE4.ex xt, hG5, fun Hu xu => ⟨true, rfl, ?_⟩⟩
                exact ⟨_, _, _, _, _, _, _, _, _, _, _, _, _, _, _, rfl, e0.trans (xU.trans (x8.trans ((x8l.trans xm).trans ((xs4.trans xt).trans xu))))⟩

end
set_option maxHeartbeats 8000000 in
theorem all_mk {l : PySem.W.OpenLaw} {w : World} {K : PySem.W.Frag} {h : Heap} {mg : Str → Option Value} {fa : Addr} (X : K.In h) (G : h.Ns mainGlobals mg) (hfa : mg "law" = some (.ref fa))
    {f8 : Addr} {od8 an8 : Option Addr} {sl8 : Array (Option Value)} {oc8 kV8 dc8 pm8 cd8 ct8 : Value}
    (a8 : PySem.W.nsIn K mainGlobals "is_whole" = some (some (.ref f8))) (l8 : K.lookup f8 = some ⟨oc8, od8, .func (PySem.W.fnOf "is_whole" "is_whole" (defArgs (topS 8)) (defBody (topS 8)) (defScope (topS 8)) .none kV8 dc8 pm8 an8 cd8 ct8), sl8⟩) (c8 : PySem.W.codeIn K cd8 "is_whole" = true) (k8 : PySem.W.keepIn K (.ref f8) = true)
    {f9 : Addr} {od9 an9 : Option Addr} {sl9 : Array (Option Value)} {oc9 kV9 dc9 pm9 cd9 ct9 : Value}
    (a9 : PySem.W.nsIn K mainGlobals "is_within" = some (some (.ref f9))) (l9 : K.lookup f9 = some ⟨oc9, od9, .func (PySem.W.fnOf "is_within" "is_within" (defArgs (topS 9)) (defBody (topS 9)) (defScope (topS 9)) .none kV9 dc9 pm9 an9 cd9 ct9), sl9⟩) (c9 : PySem.W.codeIn K cd9 "is_within" = true) (k9 : PySem.W.keepIn K (.ref f9) = true)
    {f12 : Addr} {od12 an12 : Option Addr} {sl12 : Array (Option Value)} {oc12 kV12 dc12 pm12 cd12 ct12 : Value}
    (a12 : PySem.W.nsIn K mainGlobals "check_page_number" = some (some (.ref f12))) (l12 : K.lookup f12 = some ⟨oc12, od12, .func (PySem.W.fnOf "check_page_number" "check_page_number" (defArgs (topS 12)) (defBody (topS 12)) (defScope (topS 12)) .none kV12 dc12 pm12 an12 cd12 ct12), sl12⟩) (c12 : PySem.W.codeIn K cd12 "check_page_number" = true) (k12 : PySem.W.keepIn K (.ref f12) = true)
    {f18 : Addr} {od18 an18 : Option Addr} {sl18 : Array (Option Value)} {oc18 kV18 dc18 pm18 cd18 ct18 : Value}
    (a18 : PySem.W.nsIn K mainGlobals "ratio_of" = some (some (.ref f18))) (l18 : K.lookup f18 = some ⟨oc18, od18, .func (PySem.W.fnOf "ratio_of" "ratio_of" (defArgs (topS 18)) (defBody (topS 18)) (defScope (topS 18)) .none kV18 dc18 pm18 an18 cd18 ct18), sl18⟩) (c18 : PySem.W.codeIn K cd18 "ratio_of" = true) (k18 : PySem.W.keepIn K (.ref f18) = true)
    {f19 : Addr} {od19 an19 : Option Addr} {sl19 : Array (Option Value)} {oc19 kV19 dc19 pm19 cd19 ct19 : Value}
    (a19 : PySem.W.nsIn K mainGlobals "lowest" = some (some (.ref f19))) (l19 : K.lookup f19 = some ⟨oc19, od19, .func (PySem.W.fnOf "lowest" "lowest" (defArgs (topS 19)) (defBody (topS 19)) (defScope (topS 19)) .none kV19 dc19 pm19 an19 cd19 ct19), sl19⟩) (c19 : PySem.W.codeIn K cd19 "lowest" = true) (k19 : PySem.W.keepIn K (.ref f19) = true)
    {f20 : Addr} {od20 an20 : Option Addr} {sl20 : Array (Option Value)} {oc20 kV20 dc20 pm20 cd20 ct20 : Value}
    (a20 : PySem.W.nsIn K mainGlobals "check_figures" = some (some (.ref f20))) (l20 : K.lookup f20 = some ⟨oc20, od20, .func (PySem.W.fnOf "check_figures" "check_figures" (defArgs (topS 20)) (defBody (topS 20)) (defScope (topS 20)) .none kV20 dc20 pm20 an20 cd20 ct20), sl20⟩) (c20 : PySem.W.codeIn K cd20 "check_figures" = true) (k20 : PySem.W.keepIn K (.ref f20) = true)
    {f26 : Addr} {od26 an26 : Option Addr} {sl26 : Array (Option Value)} {oc26 kV26 dc26 pm26 cd26 ct26 : Value}
    (a26 : PySem.W.nsIn K mainGlobals "is_ahead" = some (some (.ref f26))) (l26 : K.lookup f26 = some ⟨oc26, od26, .func (PySem.W.fnOf "is_ahead" "is_ahead" (defArgs (topS 26)) (defBody (topS 26)) (defScope (topS 26)) .none kV26 dc26 pm26 an26 cd26 ct26), sl26⟩) (c26 : PySem.W.codeIn K cd26 "is_ahead" = true) (k26 : PySem.W.keepIn K (.ref f26) = true)
    {f28 : Addr} {od28 an28 : Option Addr} {sl28 : Array (Option Value)} {oc28 kV28 dc28 pm28 cd28 ct28 : Value}
    (a28 : PySem.W.nsIn K mainGlobals "_law_purse" = some (some (.ref f28))) (l28 : K.lookup f28 = some ⟨oc28, od28, .func (PySem.W.fnOf "_law_purse" "_law_purse" (defArgs (topS 28)) (defBody (topS 28)) (defScope (topS 28)) .none kV28 dc28 pm28 an28 cd28 ct28), sl28⟩) (c28 : PySem.W.codeIn K cd28 "_law_purse" = true) (k28 : PySem.W.keepIn K (.ref f28) = true)
    {f29 : Addr} {od29 an29 : Option Addr} {sl29 : Array (Option Value)} {oc29 kV29 dc29 pm29 cd29 ct29 : Value}
    (a29 : PySem.W.nsIn K mainGlobals "_law_take" = some (some (.ref f29))) (l29 : K.lookup f29 = some ⟨oc29, od29, .func (PySem.W.fnOf "_law_take" "_law_take" (defArgs (topS 29)) (defBody (topS 29)) (defScope (topS 29)) .none kV29 dc29 pm29 an29 cd29 ct29), sl29⟩) (c29 : PySem.W.codeIn K cd29 "_law_take" = true) (k29 : PySem.W.keepIn K (.ref f29) = true)
    {f30 : Addr} {od30 an30 : Option Addr} {sl30 : Array (Option Value)} {oc30 kV30 dc30 pm30 cd30 ct30 : Value}
    (a30 : PySem.W.nsIn K mainGlobals "_law_low" = some (some (.ref f30))) (l30 : K.lookup f30 = some ⟨oc30, od30, .func (PySem.W.fnOf "_law_low" "_law_low" (defArgs (topS 30)) (defBody (topS 30)) (defScope (topS 30)) .none kV30 dc30 pm30 an30 cd30 ct30), sl30⟩) (c30 : PySem.W.codeIn K cd30 "_law_low" = true) (k30 : PySem.W.keepIn K (.ref f30) = true)
    {f31 : Addr} {od31 an31 : Option Addr} {sl31 : Array (Option Value)} {oc31 kV31 dc31 pm31 cd31 ct31 : Value}
    (a31 : PySem.W.nsIn K mainGlobals "_law_less" = some (some (.ref f31))) (l31 : K.lookup f31 = some ⟨oc31, od31, .func (PySem.W.fnOf "_law_less" "_law_less" (defArgs (topS 31)) (defBody (topS 31)) (defScope (topS 31)) .none kV31 dc31 pm31 an31 cd31 ct31), sl31⟩) (c31 : PySem.W.codeIn K cd31 "_law_less" = true) (k31 : PySem.W.keepIn K (.ref f31) = true)
    {f32 : Addr} {od32 an32 : Option Addr} {sl32 : Array (Option Value)} {oc32 kV32 dc32 pm32 cd32 ct32 : Value}
    (a32 : PySem.W.nsIn K mainGlobals "_law_is_ratio" = some (some (.ref f32))) (l32 : K.lookup f32 = some ⟨oc32, od32, .func (PySem.W.fnOf "_law_is_ratio" "_law_is_ratio" (defArgs (topS 32)) (defBody (topS 32)) (defScope (topS 32)) .none kV32 dc32 pm32 an32 cd32 ct32), sl32⟩) (c32 : PySem.W.codeIn K cd32 "_law_is_ratio" = true) (k32 : PySem.W.keepIn K (.ref f32) = true)
    {f33 : Addr} {od33 an33 : Option Addr} {sl33 : Array (Option Value)} {oc33 kV33 dc33 pm33 cd33 ct33 : Value}
    (a33 : PySem.W.nsIn K mainGlobals "_law_best" = some (some (.ref f33))) (l33 : K.lookup f33 = some ⟨oc33, od33, .func (PySem.W.fnOf "_law_best" "_law_best" (defArgs (topS 33)) (defBody (topS 33)) (defScope (topS 33)) .none kV33 dc33 pm33 an33 cd33 ct33), sl33⟩) (c33 : PySem.W.codeIn K cd33 "_law_best" = true) (k33 : PySem.W.keepIn K (.ref f33) = true)
    {f34 : Addr} {od34 an34 : Option Addr} {sl34 : Array (Option Value)} {oc34 kV34 dc34 pm34 cd34 ct34 : Value}
    (a34 : PySem.W.nsIn K mainGlobals "_law_is_best" = some (some (.ref f34))) (l34 : K.lookup f34 = some ⟨oc34, od34, .func (PySem.W.fnOf "_law_is_best" "_law_is_best" (defArgs (topS 34)) (defBody (topS 34)) (defScope (topS 34)) .none kV34 dc34 pm34 an34 cd34 ct34), sl34⟩) (c34 : PySem.W.codeIn K cd34 "_law_is_best" = true) (k34 : PySem.W.keepIn K (.ref f34) = true)
    {f35 : Addr} {od35 an35 : Option Addr} {sl35 : Array (Option Value)} {oc35 kV35 dc35 pm35 cd35 ct35 : Value}
    (a35 : PySem.W.nsIn K mainGlobals "law" = some (some (.ref f35))) (l35 : K.lookup f35 = some ⟨oc35, od35, .func (PySem.W.fnOf "law" "law" (defArgs (topS 35)) (defBody (topS 35)) (defScope (topS 35)) .none kV35 dc35 pm35 an35 cd35 ct35), sl35⟩) (c35 : PySem.W.codeIn K cd35 "law" = true) (k35 : PySem.W.keepIn K (.ref f35) = true)
    (z_abs : PySem.W.nsIn K mainGlobals "abs" = some none)
    (z_bool : PySem.W.nsIn K mainGlobals "bool" = some none)
    (z_int : PySem.W.nsIn K mainGlobals "int" = some none)
    (z_isinstance : PySem.W.nsIn K mainGlobals "isinstance" = some none)
    (z_len : PySem.W.nsIn K mainGlobals "len" = some none)
    (z_list : PySem.W.nsIn K mainGlobals "list" = some none)
    (z_max : PySem.W.nsIn K mainGlobals "max" = some none)
    (z_min : PySem.W.nsIn K mainGlobals "min" = some none)
    (z_range : PySem.W.nsIn K mainGlobals "range" = some none)
    (z_tuple : PySem.W.nsIn K mainGlobals "tuple" = some none)
    (z_zip : PySem.W.nsIn K mainGlobals "zip" = some none)
    {tk11 : Tok} (e11 : PySem.W.nsIn K mainGlobals "MOST_NUMBER" = some (some (.int 9999 tk11)))
    {tk14 : Tok} (e14 : PySem.W.nsIn K mainGlobals "TOO_GREAT" = some (some (.int 1000000000000000000000000000000000000000000000000000000000000000000000000000000000000000000000000000000000000000000000000000000000000000000000000000000000000000000000000000000000000000000000000000000000000000000000000000000000000000000000000000000000000000000000000000000000000000000000000000000000000 tk14)))
    {tk15 : Tok} (e15 : PySem.W.nsIn K mainGlobals "FIGURES_AT_ONCE" = some (some (.int 60 tk15)))
    {tk16 : Tok} (e16 : PySem.W.nsIn K mainGlobals "ONE_BEYOND" = some (some (.int 1000000000000000000000000000000000000000000000000000000000000 tk16)))
    {tk23 : Tok} (e23 : PySem.W.nsIn K mainGlobals "MANY" = some (some (.int 10 tk23)))
    {tk24 : Tok} (e24 : PySem.W.nsIn K mainGlobals "MOST" = some (some (.int 200 tk24)))
    {f2 : Addr} (a2 : PySem.W.nsIn K mainGlobals "Wrong" = some (some (.ref f2)))
    {f3 : Addr} (a3 : PySem.W.nsIn K mainGlobals "NoNumber" = some (some (.ref f3)))
    {f4 : Addr} (a4 : PySem.W.nsIn K mainGlobals "NoSize" = some (some (.ref f4)))
    {f5 : Addr} (a5 : PySem.W.nsIn K mainGlobals "NoRatio" = some (some (.ref f5)))
    {f6 : Addr} (a6 : PySem.W.nsIn K mainGlobals "Held" = some (some (.ref f6)))
    {f17 : Addr} (a17 : PySem.W.nsIn K mainGlobals "Ratio" = some (some (.ref f17)))
    {f25 : Addr} (a25 : PySem.W.nsIn K mainGlobals "Best" = some (some (.ref f25)))
    (pg17 : PySem.W.plainGet K f17 Str.empty = true) (hd17 : PySem.W.hasDictIn K f17 = true) (po17 : PySem.W.plainOver K f17 = true) (sa17 : PySem.W.findIn K (.ref f17) "__setattr__" = some (some (.builtin "object.__setattr__"))) (mk17 : PySem.W.makesIn K f17 = true) (kc17 : PySem.W.keepIn K (.ref f17) = true)
    (na17_top : PySem.W.findIn K (.ref f17) "top" = some none)
    (na17_bottom : PySem.W.findIn K (.ref f17) "bottom" = some none)
    (pg25 : PySem.W.plainGet K f25 Str.empty = true) (hd25 : PySem.W.hasDictIn K f25 = true) (po25 : PySem.W.plainOver K f25 = true) (sa25 : PySem.W.findIn K (.ref f25) "__setattr__" = some (some (.builtin "object.__setattr__"))) (mk25 : PySem.W.makesIn K f25 = true) (kc25 : PySem.W.keepIn K (.ref f25) = true)
    (na25_k : PySem.W.findIn K (.ref f25) "k" = some none)
    (na25_held : PySem.W.findIn K (.ref f25) "held" = some none)
    {f36 : Addr} {od36 an36 : Option Addr} {sl36 : Array (Option Value)} {oc36 kV36 dc36 pm36 cd36 ct36 : Value}
    (a36 : PySem.W.findIn K (.ref f17) "__init__" = some (some (.ref f36))) (i36 : PySem.W.isFn K (.ref f36) = true)
    {DT36 nd36 : Nat} {ocd36 : Value} {odd36 : Option Addr} {sld36 : Array (Option Value)} {td36_0 : Tok}
    (l36 : K.lookup f36 = some ⟨oc36, od36, .func (PySem.W.fnOf "__init__" "Ratio.__init__" (defArgs (inClass (topS 17) 0)) (defBody (inClass (topS 17) 0)) (defScope (inClass (topS 17) 0)) (.ref DT36) kV36 dc36 pm36 an36 cd36 ct36), sl36⟩) (c36 : PySem.W.codeIn K cd36 "Ratio.__init__" = true) (k36 : PySem.W.keepIn K (.ref f36) = true)
    (dt36 : K.lookup DT36 = some ⟨ocd36, odd36, .seq #[.int 1 td36_0] nd36, sld36⟩)
    {f37 : Addr} {od37 an37 : Option Addr} {sl37 : Array (Option Value)} {oc37 kV37 dc37 pm37 cd37 ct37 : Value}
    (a37 : PySem.W.findIn K (.ref f17) "__eq__" = some (some (.ref f37))) (i37 : PySem.W.isFn K (.ref f37) = true)
    (l37 : K.lookup f37 = some ⟨oc37, od37, .func (PySem.W.fnOf "__eq__" "Ratio.__eq__" (defArgs (inClass (topS 17) 1)) (defBody (inClass (topS 17) 1)) (defScope (inClass (topS 17) 1)) .none kV37 dc37 pm37 an37 cd37 ct37), sl37⟩) (c37 : PySem.W.codeIn K cd37 "Ratio.__eq__" = true) (k37 : PySem.W.keepIn K (.ref f37) = true)
    {f38 : Addr} {od38 an38 : Option Addr} {sl38 : Array (Option Value)} {oc38 kV38 dc38 pm38 cd38 ct38 : Value}
    (a38 : PySem.W.findIn K (.ref f17) "is_less" = some (some (.ref f38))) (i38 : PySem.W.isFn K (.ref f38) = true)
    (l38 : K.lookup f38 = some ⟨oc38, od38, .func (PySem.W.fnOf "is_less" "Ratio.is_less" (defArgs (inClass (topS 17) 6)) (defBody (inClass (topS 17) 6)) (defScope (inClass (topS 17) 6)) .none kV38 dc38 pm38 an38 cd38 ct38), sl38⟩) (c38 : PySem.W.codeIn K cd38 "Ratio.is_less" = true) (k38 : PySem.W.keepIn K (.ref f38) = true)
    {f39 : Addr} {od39 an39 : Option Addr} {sl39 : Array (Option Value)} {oc39 kV39 dc39 pm39 cd39 ct39 : Value}
    (a39 : PySem.W.findIn K (.ref f25) "__init__" = some (some (.ref f39))) (i39 : PySem.W.isFn K (.ref f39) = true)
    {DT39 nd39 : Nat} {ocd39 : Value} {odd39 : Option Addr} {sld39 : Array (Option Value)} {td39_0 : Tok}
    (l39 : K.lookup f39 = some ⟨oc39, od39, .func (PySem.W.fnOf "__init__" "Best.__init__" (defArgs (inClass (topS 25) 0)) (defBody (inClass (topS 25) 0)) (defScope (inClass (topS 25) 0)) (.ref DT39) kV39 dc39 pm39 an39 cd39 ct39), sl39⟩) (c39 : PySem.W.codeIn K cd39 "Best.__init__" = true) (k39 : PySem.W.keepIn K (.ref f39) = true)
    (dt39 : K.lookup DT39 = some ⟨ocd39, odd39, .seq #[.int 10 td39_0] nd39, sld39⟩)
    {f40 : Addr} {od40 an40 : Option Addr} {sl40 : Array (Option Value)} {oc40 kV40 dc40 pm40 cd40 ct40 : Value}
    (a40 : PySem.W.findIn K (.ref f25) "__eq__" = some (some (.ref f40))) (i40 : PySem.W.isFn K (.ref f40) = true)
    (l40 : K.lookup f40 = some ⟨oc40, od40, .func (PySem.W.fnOf "__eq__" "Best.__eq__" (defArgs (inClass (topS 25) 1)) (defBody (inClass (topS 25) 1)) (defScope (inClass (topS 25) 1)) .none kV40 dc40 pm40 an40 cd40 ct40), sl40⟩) (c40 : PySem.W.codeIn K cd40 "Best.__eq__" = true) (k40 : PySem.W.keepIn K (.ref f40) = true)
    {f41 : Addr} {od41 an41 : Option Addr} {sl41 : Array (Option Value)} {oc41 kV41 dc41 pm41 cd41 ct41 : Value}
    (a41 : PySem.W.findIn K (.ref f25) "put" = some (some (.ref f41))) (i41 : PySem.W.isFn K (.ref f41) = true)
    (l41 : K.lookup f41 = some ⟨oc41, od41, .func (PySem.W.fnOf "put" "Best.put" (defArgs (inClass (topS 25) 4)) (defBody (inClass (topS 25) 4)) (defScope (inClass (topS 25) 4)) .none kV41 dc41 pm41 an41 cd41 ct41), sl41⟩) (c41 : PySem.W.codeIn K cd41 "Best.put" = true) (k41 : PySem.W.keepIn K (.ref f41) = true)
    {f42 : Addr} {od42 an42 : Option Addr} {sl42 : Array (Option Value)} {oc42 kV42 dc42 pm42 cd42 ct42 : Value}
    (a42 : PySem.W.findIn K (.ref f25) "told" = some (some (.ref f42))) (i42 : PySem.W.isFn K (.ref f42) = true)
    (l42 : K.lookup f42 = some ⟨oc42, od42, .func (PySem.W.fnOf "told" "Best.told" (defArgs (inClass (topS 25) 6)) (defBody (inClass (topS 25) 6)) (defScope (inClass (topS 25) 6)) .none kV42 dc42 pm42 an42 cd42 ct42), sl42⟩) (c42 : PySem.W.codeIn K cd42 "Best.told" = true) (k42 : PySem.W.keepIn K (.ref f42) = true)
    {f43 : Addr} {od43 an43 : Option Addr} {sl43 : Array (Option Value)} {oc43 kV43 dc43 pm43 cd43 ct43 : Value}
    (a43 : PySem.W.findIn K (.ref f25) "place_for" = some (some (.ref f43))) (i43 : PySem.W.isFn K (.ref f43) = true)
    (l43 : K.lookup f43 = some ⟨oc43, od43, .func (PySem.W.fnOf "place_for" "Best.place_for" (defArgs (inClass (topS 25) 8)) (defBody (inClass (topS 25) 8)) (defScope (inClass (topS 25) 8)) .none kV43 dc43 pm43 an43 cd43 ct43), sl43⟩) (c43 : PySem.W.codeIn K cd43 "Best.place_for" = true) (k43 : PySem.W.keepIn K (.ref f43) = true)
    (ff_ci : PySem.W.findIn K (.ref f17) "__class__" = some (some (.builtin "object.__class__")))
    (ff_cs : PySem.W.specialIn K (.builtin "object.__class__") "__get__" = some (some (.builtin "getset_descriptor.__get__")))
    (ff_ct : PySem.W.takesIn K (.builtin "object.__class__") = some true)
    (ff_cm : PySem.W.mroIn K f17 (.type "object") = some true)
    (ff_kr : PySem.W.kitOne K (.ref f17) (.ref f17) = some true)
    (ff_ciB : PySem.W.findIn K (.ref f25) "__class__" = some (some (.builtin "object.__class__")))
    (ff_moB : PySem.W.mroIn K f25 (.type "object") = some true)
    (ff_neB : PySem.W.findIn K (.ref f25) "__ne__" = some (some (.builtin "object.__ne__")))
    (ff_kb : PySem.W.kitOne K (.ref f25) (.ref f25) = some true)
    : ∃ fd : FuncData, (∀ (s : Shared) (v : Value), BindsTo s fd ⟨[v], []⟩ [("_law_script", v)]) ∧ ∀ base : Heap, K.In base → base.Ns mainGlobals mg → FnOk l.prog w K mg base CX0 10 fa fd ["_law_script"] (spLaw K) := by
  have e := hfa.symm.trans (PySem.W.mg_of X G a35)
  cases e
  let A : Nat → Addr := fun i => ([0, 0, f2, f3, f4, f5, f6, 0, f8, f9, 0, 0, f12, 0, 0, 0, 0, f17, f18, f19, f20, 0, 0, 0, 0, f25, f26, 0, f28, f29, f30, f31, f32, f33, f34, fa, f36, f37, f38, f39, f40, f41, f42, f43] : List Addr).getD i 0
  let FD : Nat → FuncData := fun i => ([PySem.W.fnOf "law" "law" (defArgs (topS 35)) (defBody (topS 35)) (defScope (topS 35)) .none kV35 dc35 pm35 an35 cd35 ct35, PySem.W.fnOf "law" "law" (defArgs (topS 35)) (defBody (topS 35)) (defScope (topS 35)) .none kV35 dc35 pm35 an35 cd35 ct35, PySem.W.fnOf "law" "law" (defArgs (topS 35)) (defBody (topS 35)) (defScope (topS 35)) .none kV35 dc35 pm35 an35 cd35 ct35, PySem.W.fnOf "law" "law" (defArgs (topS 35)) (defBody (topS 35)) (defScope (topS 35)) .none kV35 dc35 pm35 an35 cd35 ct35, PySem.W.fnOf "law" "law" (defArgs (topS 35)) (defBody (topS 35)) (defScope (topS 35)) .none kV35 dc35 pm35 an35 cd35 ct35, PySem.W.fnOf "law" "law" (defArgs (topS 35)) (defBody (topS 35)) (defScope (topS 35)) .none kV35 dc35 pm35 an35 cd35 ct35, PySem.W.fnOf "law" "law" (defArgs (topS 35)) (defBody (topS 35)) (defScope (topS 35)) .none kV35 dc35 pm35 an35 cd35 ct35, PySem.W.fnOf "law" "law" (defArgs (topS 35)) (defBody (topS 35)) (defScope (topS 35)) .none kV35 dc35 pm35 an35 cd35 ct35, PySem.W.fnOf "is_whole" "is_whole" (defArgs (topS 8)) (defBody (topS 8)) (defScope (topS 8)) .none kV8 dc8 pm8 an8 cd8 ct8, PySem.W.fnOf "is_within" "is_within" (defArgs (topS 9)) (defBody (topS 9)) (defScope (topS 9)) .none kV9 dc9 pm9 an9 cd9 ct9, PySem.W.fnOf "law" "law" (defArgs (topS 35)) (defBody (topS 35)) (defScope (topS 35)) .none kV35 dc35 pm35 an35 cd35 ct35, PySem.W.fnOf "law" "law" (defArgs (topS 35)) (defBody (topS 35)) (defScope (topS 35)) .none kV35 dc35 pm35 an35 cd35 ct35, PySem.W.fnOf "check_page_number" "check_page_number" (defArgs (topS 12)) (defBody (topS 12)) (defScope (topS 12)) .none kV12 dc12 pm12 an12 cd12 ct12, PySem.W.fnOf "law" "law" (defArgs (topS 35)) (defBody (topS 35)) (defScope (topS 35)) .none kV35 dc35 pm35 an35 cd35 ct35, PySem.W.fnOf "law" "law" (defArgs (topS 35)) (defBody (topS 35)) (defScope (topS 35)) .none kV35 dc35 pm35 an35 cd35 ct35, PySem.W.fnOf "law" "law" (defArgs (topS 35)) (defBody (topS 35)) (defScope (topS 35)) .none kV35 dc35 pm35 an35 cd35 ct35, PySem.W.fnOf "law" "law" (defArgs (topS 35)) (defBody (topS 35)) (defScope (topS 35)) .none kV35 dc35 pm35 an35 cd35 ct35, PySem.W.fnOf "law" "law" (defArgs (topS 35)) (defBody (topS 35)) (defScope (topS 35)) .none kV35 dc35 pm35 an35 cd35 ct35, PySem.W.fnOf "ratio_of" "ratio_of" (defArgs (topS 18)) (defBody (topS 18)) (defScope (topS 18)) .none kV18 dc18 pm18 an18 cd18 ct18, PySem.W.fnOf "lowest" "lowest" (defArgs (topS 19)) (defBody (topS 19)) (defScope (topS 19)) .none kV19 dc19 pm19 an19 cd19 ct19, PySem.W.fnOf "check_figures" "check_figures" (defArgs (topS 20)) (defBody (topS 20)) (defScope (topS 20)) .none kV20 dc20 pm20 an20 cd20 ct20, PySem.W.fnOf "law" "law" (defArgs (topS 35)) (defBody (topS 35)) (defScope (topS 35)) .none kV35 dc35 pm35 an35 cd35 ct35, PySem.W.fnOf "law" "law" (defArgs (topS 35)) (defBody (topS 35)) (defScope (topS 35)) .none kV35 dc35 pm35 an35 cd35 ct35, PySem.W.fnOf "law" "law" (defArgs (topS 35)) (defBody (topS 35)) (defScope (topS 35)) .none kV35 dc35 pm35 an35 cd35 ct35, PySem.W.fnOf "law" "law" (defArgs (topS 35)) (defBody (topS 35)) (defScope (topS 35)) .none kV35 dc35 pm35 an35 cd35 ct35, PySem.W.fnOf "law" "law" (defArgs (topS 35)) (defBody (topS 35)) (defScope (topS 35)) .none kV35 dc35 pm35 an35 cd35 ct35, PySem.W.fnOf "is_ahead" "is_ahead" (defArgs (topS 26)) (defBody (topS 26)) (defScope (topS 26)) .none kV26 dc26 pm26 an26 cd26 ct26, PySem.W.fnOf "law" "law" (defArgs (topS 35)) (defBody (topS 35)) (defScope (topS 35)) .none kV35 dc35 pm35 an35 cd35 ct35, PySem.W.fnOf "_law_purse" "_law_purse" (defArgs (topS 28)) (defBody (topS 28)) (defScope (topS 28)) .none kV28 dc28 pm28 an28 cd28 ct28, PySem.W.fnOf "_law_take" "_law_take" (defArgs (topS 29)) (defBody (topS 29)) (defScope (topS 29)) .none kV29 dc29 pm29 an29 cd29 ct29, PySem.W.fnOf "_law_low" "_law_low" (defArgs (topS 30)) (defBody (topS 30)) (defScope (topS 30)) .none kV30 dc30 pm30 an30 cd30 ct30, PySem.W.fnOf "_law_less" "_law_less" (defArgs (topS 31)) (defBody (topS 31)) (defScope (topS 31)) .none kV31 dc31 pm31 an31 cd31 ct31, PySem.W.fnOf "_law_is_ratio" "_law_is_ratio" (defArgs (topS 32)) (defBody (topS 32)) (defScope (topS 32)) .none kV32 dc32 pm32 an32 cd32 ct32, PySem.W.fnOf "_law_best" "_law_best" (defArgs (topS 33)) (defBody (topS 33)) (defScope (topS 33)) .none kV33 dc33 pm33 an33 cd33 ct33, PySem.W.fnOf "_law_is_best" "_law_is_best" (defArgs (topS 34)) (defBody (topS 34)) (defScope (topS 34)) .none kV34 dc34 pm34 an34 cd34 ct34, PySem.W.fnOf "law" "law" (defArgs (topS 35)) (defBody (topS 35)) (defScope (topS 35)) .none kV35 dc35 pm35 an35 cd35 ct35, PySem.W.fnOf "__init__" "Ratio.__init__" (defArgs (inClass (topS 17) 0)) (defBody (inClass (topS 17) 0)) (defScope (inClass (topS 17) 0)) (.ref DT36) kV36 dc36 pm36 an36 cd36 ct36, PySem.W.fnOf "__eq__" "Ratio.__eq__" (defArgs (inClass (topS 17) 1)) (defBody (inClass (topS 17) 1)) (defScope (inClass (topS 17) 1)) .none kV37 dc37 pm37 an37 cd37 ct37, PySem.W.fnOf "is_less" "Ratio.is_less" (defArgs (inClass (topS 17) 6)) (defBody (inClass (topS 17) 6)) (defScope (inClass (topS 17) 6)) .none kV38 dc38 pm38 an38 cd38 ct38, PySem.W.fnOf "__init__" "Best.__init__" (defArgs (inClass (topS 25) 0)) (defBody (inClass (topS 25) 0)) (defScope (inClass (topS 25) 0)) (.ref DT39) kV39 dc39 pm39 an39 cd39 ct39, PySem.W.fnOf "__eq__" "Best.__eq__" (defArgs (inClass (topS 25) 1)) (defBody (inClass (topS 25) 1)) (defScope (inClass (topS 25) 1)) .none kV40 dc40 pm40 an40 cd40 ct40, PySem.W.fnOf "put" "Best.put" (defArgs (inClass (topS 25) 4)) (defBody (inClass (topS 25) 4)) (defScope (inClass (topS 25) 4)) .none kV41 dc41 pm41 an41 cd41 ct41, PySem.W.fnOf "told" "Best.told" (defArgs (inClass (topS 25) 6)) (defBody (inClass (topS 25) 6)) (defScope (inClass (topS 25) 6)) .none kV42 dc42 pm42 an42 cd42 ct42, PySem.W.fnOf "place_for" "Best.place_for" (defArgs (inClass (topS 25) 8)) (defBody (inClass (topS 25) 8)) (defScope (inClass (topS 25) 8)) .none kV43 dc43 pm43 an43 cd43 ct43] : List FuncData).getD i (PySem.W.fnOf "law" "law" (defArgs (topS 35)) (defBody (topS 35)) (defScope (topS 35)) .none kV35 dc35 pm35 an35 cd35 ct35)
  let TK : Nat → Tok := fun i => ([0, 0, 0, 0, 0, 0, 0, 0, 0, 0, 0, tk11, 0, 0, tk14, tk15, tk16, 0, 0, 0, 0, 0, 0, tk23, tk24] : List Tok).getD i 0
  have T : TX K mg A FD TK := {
    f_is_whole := fun_mk (st := topS 8) l8 c8 k8
    b_is_whole := (fun_mk (st := topS 8) l8 c8 k8).binds (ps := ["thing"]) fun _ _ _ _ _ _ us hl => match us, hl with | [_], _ => rfl
    g_is_whole := PySem.W.mg_of X G a8
    f_is_within := fun_mk (st := topS 9) l9 c9 k9
    b_is_within := (fun_mk (st := topS 9) l9 c9 k9).binds (ps := ["thing", "least", "most"]) fun _ _ _ _ _ _ us hl => match us, hl with | [_, _, _], _ => rfl
    g_is_within := PySem.W.mg_of X G a9
    f_check_page_number := fun_mk (st := topS 12) l12 c12 k12
    b_check_page_number := (fun_mk (st := topS 12) l12 c12 k12).binds (ps := ["number"]) fun _ _ _ _ _ _ us hl => match us, hl with | [_], _ => rfl
    g_check_page_number := PySem.W.mg_of X G a12
    f_ratio_of := fun_mk (st := topS 18) l18 c18 k18
    b_ratio_of := (fun_mk (st := topS 18) l18 c18 k18).binds (ps := ["top", "bottom"]) fun _ _ _ _ _ _ us hl => match us, hl with | [_, _], _ => rfl
    g_ratio_of := PySem.W.mg_of X G a18
    f_lowest := fun_mk (st := topS 19) l19 c19 k19
    b_lowest := (fun_mk (st := topS 19) l19 c19 k19).binds (ps := ["top", "bottom"]) fun _ _ _ _ _ _ us hl => match us, hl with | [_, _], _ => rfl
    g_lowest := PySem.W.mg_of X G a19
    f_check_figures := fun_mk (st := topS 20) l20 c20 k20
    b_check_figures := (fun_mk (st := topS 20) l20 c20 k20).binds (ps := ["number"]) fun _ _ _ _ _ _ us hl => match us, hl with | [_], _ => rfl
    g_check_figures := PySem.W.mg_of X G a20
    f_is_ahead := fun_mk (st := topS 26) l26 c26 k26
    b_is_ahead := (fun_mk (st := topS 26) l26 c26 k26).binds (ps := ["number", "ratio", "held"]) fun _ _ _ _ _ _ us hl => match us, hl with | [_, _, _], _ => rfl
    g_is_ahead := PySem.W.mg_of X G a26
    f_l_purse := fun_mk (st := topS 28) l28 c28 k28
    b_l_purse := (fun_mk (st := topS 28) l28 c28 k28).binds (ps := ["_law_script", "_law_at"]) fun _ _ _ _ _ _ us hl => match us, hl with | [_, _], _ => rfl
    g_l_purse := PySem.W.mg_of X G a28
    f_l_take := fun_mk (st := topS 29) l29 c29 k29
    b_l_take := (fun_mk (st := topS 29) l29 c29 k29).binds (ps := ["_law_purse_here", "_law_many"]) fun _ _ _ _ _ _ us hl => match us, hl with | [_, _], _ => rfl
    g_l_take := PySem.W.mg_of X G a29
    f_l_low := fun_mk (st := topS 30) l30 c30 k30
    b_l_low := (fun_mk (st := topS 30) l30 c30 k30).binds (ps := ["_law_upper", "_law_lower"]) fun _ _ _ _ _ _ us hl => match us, hl with | [_, _], _ => rfl
    g_l_low := PySem.W.mg_of X G a30
    f_l_less := fun_mk (st := topS 31) l31 c31 k31
    b_l_less := (fun_mk (st := topS 31) l31 c31 k31).binds (ps := ["_law_one", "_law_other"]) fun _ _ _ _ _ _ us hl => match us, hl with | [_, _], _ => rfl
    g_l_less := PySem.W.mg_of X G a31
    f_l_is_ratio := fun_mk (st := topS 32) l32 c32 k32
    b_l_is_ratio := (fun_mk (st := topS 32) l32 c32 k32).binds (ps := ["_law_told", "_law_due"]) fun _ _ _ _ _ _ us hl => match us, hl with | [_, _], _ => rfl
    g_l_is_ratio := PySem.W.mg_of X G a32
    f_l_best := fun_mk (st := topS 33) l33 c33 k33
    b_l_best := (fun_mk (st := topS 33) l33 c33 k33).binds (ps := ["_law_ranked", "_law_nth"]) fun _ _ _ _ _ _ us hl => match us, hl with | [_, _], _ => rfl
    g_l_best := PySem.W.mg_of X G a33
    f_l_is_best := fun_mk (st := topS 34) l34 c34 k34
    b_l_is_best := (fun_mk (st := topS 34) l34 c34 k34).binds (ps := ["_law_told", "_law_due"]) fun _ _ _ _ _ _ us hl => match us, hl with | [_, _], _ => rfl
    g_l_is_best := PySem.W.mg_of X G a34
    f_law := fun_mk (st := topS 35) l35 c35 k35
    b_law := (fun_mk (st := topS 35) l35 c35 k35).binds (ps := ["_law_script"]) fun _ _ _ _ _ _ us hl => match us, hl with | [_], _ => rfl
    g_law := PySem.W.mg_of X G a35
    m_abs := PySem.W.mg_none_of X G z_abs
    m_bool := PySem.W.mg_none_of X G z_bool
    m_int := PySem.W.mg_none_of X G z_int
    m_isinstance := PySem.W.mg_none_of X G z_isinstance
    m_len := PySem.W.mg_none_of X G z_len
    m_list := PySem.W.mg_none_of X G z_list
    m_max := PySem.W.mg_none_of X G z_max
    m_min := PySem.W.mg_none_of X G z_min
    m_range := PySem.W.mg_none_of X G z_range
    m_tuple := PySem.W.mg_none_of X G z_tuple
    m_zip := PySem.W.mg_none_of X G z_zip
    c_MOST_NUMBER := PySem.W.mg_of X G e11
    c_TOO_GREAT := PySem.W.mg_of X G e14
    c_FIGURES_AT_ONCE := PySem.W.mg_of X G e15
    c_ONE_BEYOND := PySem.W.mg_of X G e16
    c_MANY := PySem.W.mg_of X G e23
    c_MOST := PySem.W.mg_of X G e24
    k_Wrong := PySem.W.mg_of X G a2
    k_NoNumber := PySem.W.mg_of X G a3
    k_NoSize := PySem.W.mg_of X G a4
    k_NoRatio := PySem.W.mg_of X G a5
    k_Held := PySem.W.mg_of X G a6
    k_Ratio := PySem.W.mg_of X G a17
    k_Best := PySem.W.mg_of X G a25
    cl_Ratio := ⟨pg17, hd17, po17, sa17⟩
    n_Ratio_top := na17_top
    n_Ratio_bottom := na17_bottom
    cl_Best := ⟨pg25, hd25, po25, sa25⟩
    n_Best_k := na25_k
    n_Best_held := na25_held
    f_Ratio_init := ⟨⟨oc36, od36, .ref DT36, kV36, dc36, pm36, an36, cd36, ct36, sl36, rfl, l36, c36, .inr ⟨by simp, DT36, _, [_], nd36, rfl, dt36, rfl, (.cons ⟨_, rfl⟩ .nil)⟩, .inl rfl⟩, k36⟩
    M_Ratio := ⟨mk17, a36, i36, kc17⟩
    f_Ratio_eq := fun_mk (st := inClass (topS 17) 1) l37 c37 k37
    b_Ratio_eq := (fun_mk (st := inClass (topS 17) 1) l37 c37 k37).binds (ps := ["self", "other"]) fun _ _ _ _ _ _ us hl => match us, hl with | [_, _], _ => rfl
    M_Ratio_eq := ⟨a37, i37, k37⟩
    f_Ratio_is_less := fun_mk (st := inClass (topS 17) 6) l38 c38 k38
    b_Ratio_is_less := (fun_mk (st := inClass (topS 17) 6) l38 c38 k38).binds (ps := ["self", "other"]) fun _ _ _ _ _ _ us hl => match us, hl with | [_, _], _ => rfl
    M_Ratio_is_less := ⟨a38, i38, k38⟩
    f_Best_init := ⟨⟨oc39, od39, .ref DT39, kV39, dc39, pm39, an39, cd39, ct39, sl39, rfl, l39, c39, .inr ⟨by simp, DT39, _, [_], nd39, rfl, dt39, rfl, (.cons ⟨_, rfl⟩ .nil)⟩, .inl rfl⟩, k39⟩
    M_Best := ⟨mk25, a39, i39, kc25⟩
    f_Best_eq := fun_mk (st := inClass (topS 25) 1) l40 c40 k40
    b_Best_eq := (fun_mk (st := inClass (topS 25) 1) l40 c40 k40).binds (ps := ["self", "other"]) fun _ _ _ _ _ _ us hl => match us, hl with | [_, _], _ => rfl
    M_Best_eq := ⟨a40, i40, k40⟩
    f_Best_put := fun_mk (st := inClass (topS 25) 4) l41 c41 k41
    b_Best_put := (fun_mk (st := inClass (topS 25) 4) l41 c41 k41).binds (ps := ["self", "number", "ratio"]) fun _ _ _ _ _ _ us hl => match us, hl with | [_, _, _], _ => rfl
    M_Best_put := ⟨a41, i41, k41⟩
    f_Best_told := fun_mk (st := inClass (topS 25) 6) l42 c42 k42
    b_Best_told := (fun_mk (st := inClass (topS 25) 6) l42 c42 k42).binds (ps := ["self"]) fun _ _ _ _ _ _ us hl => match us, hl with | [_], _ => rfl
    M_Best_told := ⟨a42, i42, k42⟩
    f_Best_place_for := fun_mk (st := inClass (topS 25) 8) l43 c43 k43
    b_Best_place_for := (fun_mk (st := inClass (topS 25) 8) l43 c43 k43).binds (ps := ["self", "number", "ratio"]) fun _ _ _ _ _ _ us hl => match us, hl with | [_, _, _], _ => rfl
    M_Best_place_for := ⟨a43, i43, k43⟩
    ci := ff_ci
    cs := ff_cs
    ct := ff_ct
    cm := ff_cm
    kr := ff_kr
    ciB := ff_ciB
    moB := ff_moB
    neB := ff_neB
    kb := ff_kb }
  exact ⟨FD 35, fun s v => .of_eq rfl, fun base _ _ => ok_law T⟩
end K46
open PySem PySem.W PyProof.Rows
set_option maxHeartbeats 0 in
theorem PySem.Challenge.cw_blocksearch_k46_whole_best_of_any_histor_holds : PySem.Challenge.rw_blocksearch_k46_whole_best_of_any_histor.Holds := by
  w_on; o_law; k_head; (case hw => w_witness2)
  k_fill
  refine L2.walk_of (l := PySem.Challenge.rw_blocksearch_k46_whole_best_of_any_histor) (n := 63) (k := 10) (x := "_law_script") (CX := fun _ => L2.CX0) (sp := fun w => K46.spLaw _) rfl (by decide) rfl ⟨rfl, by decide, by decide⟩ (fun w h Y => PySem.W.kIn_of Y) ?F (fun _ _ a ns hl _ hS => ⟨a, ns, rfl, hS, hl, fun _ => rfl⟩) (fun _ _ _ _ _ h => h)
  case F =>
    intro w mg fa h KX G hmg
    refine' K46.all_mk KX G hmg ?a8 ?l8 ?c8 ?k8 ?a9 ?l9 ?c9 ?k9 ?a12 ?l12 ?c12 ?k12 ?a18 ?l18 ?c18 ?k18 ?a19 ?l19 ?c19 ?k19 ?a20 ?l20 ?c20 ?k20 ?a26 ?l26 ?c26 ?k26 ?a28 ?l28 ?c28 ?k28 ?a29 ?l29 ?c29 ?k29 ?a30 ?l30 ?c30 ?k30 ?a31 ?l31 ?c31 ?k31 ?a32 ?l32 ?c32 ?k32 ?a33 ?l33 ?c33 ?k33 ?a34 ?l34 ?c34 ?k34 ?a35 ?l35 ?c35 ?k35 ?z_abs ?z_bool ?z_int ?z_isinstance ?z_len ?z_list ?z_max ?z_min ?z_range ?z_tuple ?z_zip ?e11 ?e14 ?e15 ?e16 ?e23 ?e24 ?a2 ?a3 ?a4 ?a5 ?a6 ?a17 ?a25 ?pg17 ?hd17 ?po17 ?sa17 ?mk17 ?kc17 ?na17_top ?na17_bottom ?pg25 ?hd25 ?po25 ?sa25 ?mk25 ?kc25 ?na25_k ?na25_held ?a36 ?i36 ?l36 ?c36 ?k36 ?dt36 ?a37 ?i37 ?l37 ?c37 ?k37 ?a38 ?i38 ?l38 ?c38 ?k38 ?a39 ?i39 ?l39 ?c39 ?k39 ?dt39 ?a40 ?i40 ?l40 ?c40 ?k40 ?a41 ?i41 ?l41 ?c41 ?k41 ?a42 ?i42 ?l42 ?c42 ?k42 ?a43 ?i43 ?l43 ?c43 ?k43 ?ff_ci ?ff_cs ?ff_ct ?ff_cm ?ff_kr ?ff_ciB ?ff_moB ?ff_neB ?ff_kb
    (case a8 => k_is)
    (case l8 => k_is)
    (case c8 => k_is)
    (case k8 => k_is)
    (case a9 => k_is)
    (case l9 => k_is)
    (case c9 => k_is)
    (case k9 => k_is)
    (case a12 => k_is)
    (case l12 => k_is)
    (case c12 => k_is)
    (case k12 => k_is)
    (case a18 => k_is)
    (case l18 => k_is)
    (case c18 => k_is)
    (case k18 => k_is)
    (case a19 => k_is)
    (case l19 => k_is)
    (case c19 => k_is)
    (case k19 => k_is)
    (case a20 => k_is)
    (case l20 => k_is)
    (case c20 => k_is)
    (case k20 => k_is)
    (case a26 => k_is)
    (case l26 => k_is)
    (case c26 => k_is)
    (case k26 => k_is)
    (case a28 => k_is)
    (case l28 => k_is)
    (case c28 => k_is)
    (case k28 => k_is)
    (case a29 => k_is)
    (case l29 => k_is)
    (case c29 => k_is)
    (case k29 => k_is)
    (case a30 => k_is)
    (case l30 => k_is)
    (case c30 => k_is)
    (case k30 => k_is)
    (case a31 => k_is)
    (case l31 => k_is)
    (case c31 => k_is)
    (case k31 => k_is)
    (case a32 => k_is)
    (case l32 => k_is)
    (case c32 => k_is)
    (case k32 => k_is)
    (case a33 => k_is)
    (case l33 => k_is)
    (case c33 => k_is)
    (case k33 => k_is)
    (case a34 => k_is)
    (case l34 => k_is)
    (case c34 => k_is)
    (case k34 => k_is)
    (case a35 => k_is)
    (case l35 => k_is)
    (case c35 => k_is)
    (case k35 => k_is)
    (case z_abs => k_is)
    (case z_bool => k_is)
    (case z_int => k_is)
    (case z_isinstance => k_is)
    (case z_len => k_is)
    (case z_list => k_is)
    (case z_max => k_is)
    (case z_min => k_is)
    (case z_range => k_is)
    (case z_tuple => k_is)
    (case z_zip => k_is)
    (case e11 => k_is)
    (case e14 => k_is)
    (case e15 => k_is)
    (case e16 => k_is)
    (case e23 => k_is)
    (case e24 => k_is)
    (case a2 => k_is)
    (case a3 => k_is)
    (case a4 => k_is)
    (case a5 => k_is)
    (case a6 => k_is)
    (case a17 => k_is)
    (case a25 => k_is)
    (case pg17 => k_is)
    (case hd17 => k_is)
    (case po17 => k_is)
    (case sa17 => k_is)
    (case mk17 => k_is)
    (case kc17 => k_is)
    (case na17_top => k_is)
    (case na17_bottom => k_is)
    (case pg25 => k_is)
    (case hd25 => k_is)
    (case po25 => k_is)
    (case sa25 => k_is)
    (case mk25 => k_is)
    (case kc25 => k_is)
    (case na25_k => k_is)
    (case na25_held => k_is)
    (case a36 => k_is)
    (case i36 => k_is)
    (case l36 => k_is)
    (case c36 => k_is)
    (case k36 => k_is)
    (case dt36 => k_is)
    (case a37 => k_is)
    (case i37 => k_is)
    (case l37 => k_is)
    (case c37 => k_is)
    (case k37 => k_is)
    (case a38 => k_is)
    (case i38 => k_is)
    (case l38 => k_is)
    (case c38 => k_is)
    (case k38 => k_is)
    (case a39 => k_is)
    (case i39 => k_is)
    (case l39 => k_is)
    (case c39 => k_is)
    (case k39 => k_is)
    (case dt39 => k_is)
    (case a40 => k_is)
    (case i40 => k_is)
    (case l40 => k_is)
    (case c40 => k_is)
    (case k40 => k_is)
    (case a41 => k_is)
    (case i41 => k_is)
    (case l41 => k_is)
    (case c41 => k_is)
    (case k41 => k_is)
    (case a42 => k_is)
    (case i42 => k_is)
    (case l42 => k_is)
    (case c42 => k_is)
    (case k42 => k_is)
    (case a43 => k_is)
    (case i43 => k_is)
    (case l43 => k_is)
    (case c43 => k_is)
    (case k43 => k_is)
    (case ff_ci => k_is)
    (case ff_cs => k_is)
    (case ff_ct => k_is)
    (case ff_cm => k_is)
    (case ff_kr => kernel_rfl)
    (case ff_ciB => k_is)
    (case ff_moB => k_is)
    (case ff_neB => k_is)
    (case ff_kb => kernel_rfl)

