import PyProof.Rows.All
import Wide.All
import OpenK.AllK
import Wide.FinOn
import HandS.ForMost
import HandS.Defaults
import HandS.IsInst
import HandS.Walk
import HandS.Lambda
import HandS.EndTab
import HandS.Evl
import HandS.More
import HandS.MakeKw
import HandS.Text
import HandS.Deep
import HandS.OwnEq
import HandS.FStr
import HandS.Style
import KE.KCallOwn
import PyProof.StrLawsRepr
import PySem.Challenge.RW_blocksearch_k04_pages_alike
set_option Elab.async false
set_option linter.all false
set_option maxRecDepth 100000
/-! words of my own: the drawn pool, heaps that grow beside it, small facts -/
namespace My
open PySem PySem.Spec PyProof.Rows L2 Evl

/-- the pool at p: three ints, at most c draws mixed so far -/
def Pl (H : Hp) (p : Addr) (c : Nat) : Prop := ∃ (g b : Int) (k : Nat), H p = some (.lst [.int g, .int b, .int (k : Int)]) ∧ 0 ≤ g ∧ 0 ≤ b ∧ b < 281474976710656 ∧ k ≤ c
/-- all but p stays -/
def Fx (p : Addr) (H H' : Hp) : Prop := ∀ a o, a ≠ p → H a = some o → H' a = some o
theorem Fx.refl (p : Addr) (H : Hp) : Fx p H H := fun _ _ _ h => h
theorem Fx.trans {p : Addr} {H H1 H2 : Hp} (a : Fx p H H1) (b : Fx p H1 H2) : Fx p H H2 := fun x o n h => b x o n (a x o n h)
theorem Fx.ex {p : Addr} {H H' : Hp} (e : Ex H H') : Fx p H H' := fun a o _ h => e a o h
theorem Fx.upd {p : Addr} {H : Hp} {o : HO} : Fx p H (L2.upd H p o) := fun a u n h => by
  rw [upd_ne n]
  exact h
theorem Pl.mono {H : Hp} {p : Addr} {c c' : Nat} (h : Pl H p c) (l : c ≤ c') : Pl H p c' := by
  obtain ⟨g, b, k, h1, h2, h3, h4, h5⟩ := h
  exact ⟨g, b, k, h1, h2, h3, h4, Nat.le_trans h5 l⟩
theorem Pl.ex {H H' : Hp} {p : Addr} {c : Nat} (h : Pl H p c) (e : Ex H H') : Pl H' p c := by
  obtain ⟨g, b, k, h1, h2⟩ := h
  exact ⟨g, b, k, e _ _ h1, h2⟩
theorem Pl.some {H : Hp} {p : Addr} {c : Nat} (h : Pl H p c) : ∃ xs, H p = some (.lst xs) := by
  obtain ⟨g, b, k, h1, _⟩ := h
  exact ⟨_, h1⟩
/-- what is free behind was free ahead -/
theorem fx_free {p a : Addr} {H H' : Hp} {c : Nat} (f : Fx p H H') (h : Pl H' p c) (e : H' a = none) : H a = none := by
  cases q : H a with
  | none => rfl
  | some o =>
    have n : a ≠ p := fun z => by
      obtain ⟨xs, hx⟩ := h.some
      rw [z, hx] at e
      cases e
    rw [f a o n q] at e
    cases e
/-- a tuple is not the pool -/
theorem Fx.tup {p a : Addr} {H H' : Hp} {xs : List V} {c : Nat} (f : Fx p H H') (hp : Pl H p c) (h : H a = some (.tup xs)) : H' a = some (.tup xs) := by
  obtain ⟨ys, hy⟩ := hp.some
  exact f a _ (ne_of h hy (by intro z; cases z)) h
theorem Fx.sqt {K : PySem.W.Frag} {p a : Addr} {H H' : Hp} {xs : List V} {c : Nat} (f : Fx p H H') (hp : Pl H p c) (h : SqT K H a xs) : SqT K H' a xs := by
  obtain ⟨ys, hy⟩ := hp.some
  rcases h with (h | ⟨o, h⟩) | h
  · exact .inl (.inl (f a _ (ne_of h hy (by intro z; cases z)) h))
  · exact .inl (.inr ⟨o, f a _ (ne_of h hy (by intro z; cases z)) h⟩)
  · exact .inr h
theorem Fx.lst {p a : Addr} {H H' : Hp} {xs : List V} (f : Fx p H H') (n : a ≠ p) (h : H a = some (.lst xs)) : H' a = some (.lst xs) := f a _ n h
theorem ex_upd {H : Hp} {p : Addr} {o : HO} (h : H p = none) : Ex H (L2.upd H p o) := Ex.new h
theorem ret_v {v : V} {H : Hp} {Q : VK} (q : RetV v H Q) : Q v H := q H (Ex.refl H)
theorem sz {n : Nat} (h : n ≤ 100000) : n ≤ sizeLine := sz_of h
theorem natAbs_lt {z : Int} {n : Nat} (h0 : 0 ≤ z) (h : z < (n : Int)) : z.natAbs < n := by omega
/-- a * b ≤ A * B -/
theorem mul_le {a b A B : Int} (h0 : 0 ≤ a) (h1 : a ≤ A) (h2 : 0 ≤ b) (h3 : b ≤ B) : a * b ≤ A * B := Int.mul_le_mul h1 h3 h2 (Int.le_trans h0 h1)
theorem mul_nn {a b : Int} (h0 : 0 ≤ a) (h1 : 0 ≤ b) : 0 ≤ a * b := Int.mul_nonneg h0 h1
/-! the rules with the written part said, for blocks of comprehensions -/
section
variable {X : Cx} {K : PySem.W.Frag}
theorem lenK (h : X.K = K) : CallR X (.builtin "len") (rLenS K) := by subst h; exact call_len_seq
theorem listK (h : X.K = K) : CallR X (.type "list") (rListS K) := by subst h; exact call_list_of
def rTupS (K : PySem.W.Frag) : List V → Hp → VK → Prop := fun xs H Q => ∃ p ys, xs = [.ref p] ∧ ((SqL K H p ys ∧ ∀ l, H l = none → Q (.ref l) (L2.upd H l (.tup ys))) ∨ (SqT K H p ys ∧ Q (.ref p) H))
theorem tupK (h : X.K = K) : CallR X (.type "tuple") (rTupS K) := by subst h; exact call_tuple_of
theorem ixLK (h : X.K = K) : IxR X (rIxL K) := by subst h; exact ix_list
theorem ixTK (h : X.K = K) : IxR X (rIxT K) := by subst h; exact ix_tup
theorem slLK (h : X.K = K) : SlR X (rSlL K) := by subst h; exact sl_list
theorem slTK (h : X.K = K) : SlR X (rSlT K) := by subst h; exact sl_tup
theorem catTK (h : X.K = K) : OpR X (binaryOp .Add) (rCatT K) := by subst h; exact op_catT
theorem inK (h : X.K = K) : OpR X (compareOp .In) (rIn K false) := by subst h; exact op_in_seq
theorem notInK (h : X.K = K) : OpR X (compareOp .NotIn) (rIn K true) := by subst h; exact op_notIn_seq
theorem isiK (h : X.K = K) : CallR X (.builtin "isinstance") (rIsi K) := by subst h; exact call_isi
theorem isiTK (h : X.K = K) : CallR X (.builtin "isinstance") (rIsiT K) := by subst h; exact call_isiT
theorem allK (h : X.K = K) (hc : X.calm = true) : CallR X (.builtin "all") (rAll K) := by subst h; exact cr_all hc
theorem anyK (h : X.K = K) (hc : X.calm = true) : CallR X (.builtin "any") (rAny K) := by subst h; exact cr_any hc
theorem sumK (h : X.K = K) (hc : X.calm = true) : CallR X (.builtin "sum") (rSum K) := by subst h; exact cr_sum hc
theorem maxK (h : X.K = K) (hc : X.calm = true) : CallR X (.builtin "max") (rMax K) := by subst h; exact cr_max hc
theorem minK (h : X.K = K) (hc : X.calm = true) : CallR X (.builtin "min") (rMin K) := by subst h; exact cr_min hc
theorem fldK {e : Expr} {f : Str} {pos : Pos} {ta : TE} (h : X.K = K) (he : PE X e ta) (hb : attributeBase e f X.env (eval e X.env) = eval e X.env) : PE X (.Attribute e f pos) (tFld K ta f) := by subst h; exact pe_fld he hb
theorem tupGK {es : List Expr} {k : Nat} {t : TGs} {n : Nat} {pos : Pos} (h : X.K = K) (hc : X.calm = true) (hg : PGs X es t) (hn : (assignEach es X.env).length = n := by rfl) (hst : (assignEach es X.env).findIdx? (·.1) = none := by rfl) : PG X (.Tuple es k pos) (gTup K n t) := by subst h; exact pg_tup hc hg hn hst
theorem eqDK (h : X.K = K) (hu : X.A.units + 64 < cLine) : OpR X (compareOp .Eq) (rEqD K) := by subst h; exact op_eqD hu
theorem neDK (h : X.K = K) (hu : X.A.units + 64 < cLine) : OpR X (compareOp .NotEq) (rNeD K) := by subst h; exact op_neD hu
theorem indexK (h : X.K = K) : MtR X "list.index" (rIndex K) := by subst h; exact mt_index
theorem piOr {tg e : Expr} {w1 w2 : TI} (h1 : PI X tg e w1) (h2 : PI X tg e w2) : PI X tg e (fun σ H R => w1 σ H R ∨ w2 σ H R) := ⟨fun pins s σ H R I h => h.elim (fun h => h1.run pins s σ H R I h) (fun h => h2.run pins s σ H R I h)⟩
theorem piLK {tg l : Expr} {tl : TE} (h : X.K = K) (hl : PE X l tl) : PI X tg l (iList K tl) := by subst h; exact pi_list hl
theorem piTK {tg l : Expr} {tl : TE} (h : X.K = K) (hl : PE X l tl) : PI X tg l (iTup K tl) := by subst h; exact pi_tup hl
end
end My
/-! ==, !=, len, str, repr of an instance of the program's own class, by its own def -/
namespace Own
open PySem PySem.Spec PyProof.Rows L2
section
variable {X : Cx} {K : PySem.W.Frag} {pins : List (Addr × Obj)} {s : Shared} {σ : L2.St} {H : Hp} {CX : CXT} {C f : Addr} {fd : FuncData} {ps : List Str} {sp : Sp} {E : XK} {n : Nat}
/-- the def at f is run on us, somewhere below the running body -/
theorem run_own {A : Around} {vs : List V} {us : List Value} {Q : VK} (F : FnOk X.prog X.w X.K X.mg X.base CX n f fd ps sp) (hb : Binds X.K fd ps []) (hx : Passes CX X E) (sb : Sub X n A) (I : Inv X pins σ H s) (r : Vals vs us) (h : sp vs H Q E) :
    wpAny (model X.prog X.w) A (call (.ref f) us) (EP X pins σ Q) X.xe s := by
  have e0 : Env0 X.prog X.w X.K X.mg X.base A X.stack s H := by
    have e := I.env0
    exact ⟨by rw [sb.fr]; exact e.frames, e.mod, e.bs, e.bsz, e.funs, e.frf, e.hok, e.bare⟩
  have hl := F.len _ _ _ _ h
  have hl2 := r.length
  refine wpAny_call (codeAny_mono (F.run A X.stack s H ⟨us, []⟩ us vs _ E sb.room e0 (by
    have z := hb s us I.kIn (by simp; omega)
    simpa using z) r h) fun q s' hq => ?_)
  cases q with
  | error e => exact hx pins σ H s e s' I hq
  | ok fl =>
    cases fl with
    | ret w => exact I.after hq
    | next => exact False.elim hq
    | brk => exact False.elim hq
    | cont => exact False.elim hq
/-- len(o) -/
def rLenO (C : Addr) (sp : Sp) (E : XK) : List V → Hp → VK → Prop := fun xs H Q => ∃ a dx fs, xs = [.ref a] ∧ H a = some (.ins C dx fs) ∧ sp [.ref a] H (fun v H' => ∃ i : Int, v = .int i ∧ (0 ≤ i ∧ i < 2 ^ 63) ∧ Q (.int i) H') E
theorem cr_lenO (F : FnOk X.prog X.w X.K X.mg X.base CX n f fd ps sp) (m : Meth X.K C "__len__" f) (hb : Binds X.K fd ps []) (hx : Passes CX X E) (hr : Room (n + 1) X.A) : CallR X (.builtin "len") (rLenO C sp E) := by
  intro pins s σ H xs us Q I r h
  obtain ⟨a, dx, fs, rfl, ha, h⟩ := h
  cases r with
  | cons r1 rr =>
    cases rr
    cases r1
    obtain ⟨mA, J, _⟩ := ins_get I.hok ha
    obtain ⟨od, J, _⟩ := J.look
    obtain ⟨mm, hF⟩ := I.fr
    refine PySem.W.len_K hF I.ok.mod.kin J m.at_ m.fn (wpAny_mono (run_own F hb hx ⟨hr.in1, rfl⟩ I (vs := [.ref a]) (.cons rfl .nil) h) (fun v s' q => ?_) fun _ _ z => z)
    obtain ⟨z, H', I', rz, i, rfl, hi, q⟩ := q
    obtain ⟨t, rfl⟩ := rz
    exact ⟨hi, .int i, H', I'.tok _, ⟨_, rfl⟩, q⟩
/-- repr(o), str(o) -/
def rStrO (C : Addr) (sp : Sp) (E : XK) : List V → Hp → VK → Prop := fun xs H Q => ∃ a dx fs, xs = [.ref a] ∧ H a = some (.ins C dx fs) ∧ sp [.ref a] H (fun v H' => ∃ z : Str, v = .str z ∧ Q (.str z) H') E
theorem cr_reprO (F : FnOk X.prog X.w X.K X.mg X.base CX n f fd ps sp) (m : Meth X.K C "__repr__" f) (hb : Binds X.K fd ps []) (hx : Passes CX X E) (hr : Room (n + 1) X.A) : CallR X (.builtin "repr") (rStrO C sp E) := by
  intro pins s σ H xs us Q I r h
  obtain ⟨a, dx, fs, rfl, ha, h⟩ := h
  cases r with
  | cons r1 rr =>
    cases rr
    cases r1
    obtain ⟨mA, J, _⟩ := ins_get I.hok ha
    obtain ⟨od, J, _⟩ := J.look
    obtain ⟨mm, hF⟩ := I.fr
    refine PySem.W.repr_K hr.in1.units0 hF I.ok.mod.kin J m.at_ m.fn (wpAny_mono (run_own F hb hx ⟨hr.in1, rfl⟩ I (vs := [.ref a]) (.cons rfl .nil) h) (fun v s' q => ?_) fun _ _ z => z)
    obtain ⟨z, H', I', rz, y, rfl, q⟩ := q
    obtain ⟨t, rfl⟩ := rz
    exact ⟨.str y, H', I', ⟨_, rfl⟩, q⟩
theorem cr_strO (F : FnOk X.prog X.w X.K X.mg X.base CX n f fd ps sp) (m : Meth X.K C "__str__" f) (hb : Binds X.K fd ps []) (hx : Passes CX X E) (hr : Room (n + 2) X.A) : CallR X (.type "str") (rStrO C sp E) := by
  intro pins s σ H xs us Q I r h
  obtain ⟨a, dx, fs, rfl, ha, h⟩ := h
  cases r with
  | cons r1 rr =>
    cases rr
    cases r1
    obtain ⟨mA, J, _⟩ := ins_get I.hok ha
    obtain ⟨od, J, _⟩ := J.look
    refine PySem.W.kso_call hr.in1.in1.units0 I.kIn J m.at_ m.fn (wpAny_mono (run_own F hb hx ⟨hr.in1.in1, rfl⟩ I (vs := [.ref a]) (.cons rfl .nil) h) (fun v s' q => ?_) fun _ _ z => z)
    obtain ⟨z, H', I', rz, y, rfl, q⟩ := q
    obtain ⟨t, rfl⟩ := rz
    exact ⟨.str y, H', I', ⟨_, rfl⟩, q⟩
/-- x == y by x's own def: y is an instance of the same class, or of a type that doesn't go first -/
def OthK (K : PySem.W.Frag) (C : Addr) (H : Hp) (y : V) : Prop := (∃ b dy gs, y = .ref b ∧ H b = some (.ins C dy gs)) ∨ ∃ T, TyX K H y (.type T) ∧ PySem.W.notFirst K C (.type T) = true
def rEqO (K : PySem.W.Frag) (C : Addr) (sp : Sp) (E : XK) : R2 := fun x y H Q => ∃ a dx fs, x = .ref a ∧ H a = some (.ins C dx fs) ∧ OthK K C H y ∧ sp [x, y] H (fun v H' => ∃ b : Bool, v = .bl b ∧ Q (.bl b) H') E
theorem oth_looks {y : V} {u : Value} (I : Inv X pins σ H s) (ry : RelV y u) (h : OthK X.K C H y) : ∃ tb, PySem.W.Looks (model X.prog X.w) s.heap (typeOf u) tb ∧ PySem.W.notFirst X.K C tb = true := by
  rcases h with ⟨b, dy, gs, rfl, hb⟩ | ⟨T, ty, nf⟩
  · cases ry
    obtain ⟨mB, J, _⟩ := ins_get I.hok hb
    obtain ⟨od, J, _⟩ := J.look
    exact ⟨_, J.type, by simp [PySem.W.notFirst]⟩
  · obtain ⟨P, Z, p, _⟩ := kit_of I ry ty
    exact ⟨_, Z.ty _ _ I.kIn p, nf⟩
theorem op_eqO (F : FnOk X.prog X.w X.K X.mg X.base CX n f fd ps sp) (m : Meth X.K C "__eq__" f) (hb : Binds X.K fd ps []) (hx : Passes CX X E) (hr : Room n X.A) (hK : X.K = K) : OpR X (compareOp .Eq) (rEqO K C sp E) := by
  subst hK
  intro pins s σ H x y v u Q I rx ry h
  obtain ⟨a, dx, fs, rfl, ha, ho, h⟩ := h
  cases rx
  obtain ⟨mA, J, _⟩ := ins_get I.hok ha
  obtain ⟨od, J, _⟩ := J.look
  obtain ⟨mm, hF⟩ := I.fr
  obtain ⟨tb, ht, hn⟩ := oth_looks I ry ho
  show wpAny (model X.prog X.w) X.A (richCompare .Eq (.ref a) u) (EP X pins σ Q) X.xe s
  refine PySem.W.cmp_K (op := .Eq) hr.units0 hF I.ok.mod.kin J ht hn m.at_ m.fn (wpAny_mono (run_own F hb hx ⟨hr, rfl⟩ I (vs := [.ref a, y]) (.cons rfl (.cons ry .nil)) h) (fun v s' q => ?_) fun _ _ z => z)
  obtain ⟨z, H', I', rz, b, rfl, q⟩ := q
  cases rz
  exact ⟨.bl b, H', I', rfl, q⟩
section
variable {M : Model} {prog : Program} {w : World} {A : Around} {E : Value → Shared → Prop} {s : Shared} {x : Addr} {ox : Obj} {od : Option Obj}
theorem ifBound_ne {args : List Value} {Q : Option Value → Shared → Prop} (Z : K.In s.heap) (I : PySem.W.InstAt s.heap x ox C od) (hs : PySem.W.findIn K (.ref C) "__ne__" = some (some (.builtin "object.__ne__")))
    (h : wpAny M A (call (.builtin "object.__ne__") (.ref x :: args)) (fun v => Q (some v)) E s) : wpAny M A (callSpecialIfBound? (.ref x) "__ne__" args) Q E s := by
  have fin : wpAny M A (call (.builtin "object.__ne__") ([.ref x] ++ args) >>= fun v => pure (some v)) Q E s := wpAny_bind (wpAny_mono h (fun v s' z => wpAny_pure z) fun _ _ z => z)
  simp only [callSpecialIfBound?, bindSpecialIfBound?]
  refine wpAny_holding (wpAny_bind (wpAny_bind (wpAny_bind (I.type.here ((PySem.W.looks_findIn Z hs).here (wpAny_bind (wpAny_askSetting (wpAny_ite ?_))))))))
  split
  · exact wpAny_bind (wpAny_of_eq (F.cmp_object.ne.bind _) (wpAny_pure fin))
  · exact wpAny_tryCatch (wpAny_bind (wpAny_of_eq (F.cmp_object.ne.bind _) (wpAny_pure fin)))
theorem call_ne {u : Value} {f : Addr} {Q : Value → Shared → Prop} (hu : A.in1.units < cLine) (Z : K.In s.heap) (I : PySem.W.InstAt s.heap x ox C od) (hm : PySem.W.mroIn K C (.type "object") = some true) (hs : PySem.W.findIn K (.ref C) "__eq__" = some (some (.ref f))) (hf : PySem.W.isFn K (.ref f) = true)
    (h : wpAny (model prog w) A.in1 (call (.ref f) [.ref x, u]) (fun v s' => ∃ b, v = .bool b ∧ Q (.bool (!b)) s') E s) : wpAny (model prog w) A (call (.builtin "object.__ne__") [.ref x, u]) Q E s := by
  refine wpAny_call (codeAny_call_builtin F.cmp_object.ne.plain F.cmpEntry_ne (PySem.W.check_slot F.cmpKind_ne F.cmpSplit_ne (I.type.andThen (PySem.W.looks_mroIn Z hm)) (F.cmpArgs_ne _ _) ?_))
  unfold Builtin.«object.__ne__»
  refine wpAny_bind (m := slotArgs "__ne__" 1 _) (wpAny_pure ?_)
  refine wpAny_bind (wpAny_cRoomFor hu ?_)
  refine wpAny_bind (m := callSpecialIfBound? (.ref x) (Str.ofString "__eq__") _) (PySem.W.ifBound_K Z I hs hf (wpAny_mono h (fun v s' z => ?_) fun _ _ z => z))
  obtain ⟨b, rfl, q⟩ := z
  exact wpAny_bind (wpAny_truthy_bool (wpAny_pure q))
end
/-- x != y by x's own == -/
def rNeO (K : PySem.W.Frag) (C : Addr) (sp : Sp) (E : XK) : R2 := fun x y H Q => ∃ a dx fs, x = .ref a ∧ H a = some (.ins C dx fs) ∧ OthK K C H y ∧ sp [x, y] H (fun v H' => ∃ b : Bool, v = .bl b ∧ Q (.bl (!b)) H') E
theorem op_neO (F : FnOk X.prog X.w X.K X.mg X.base CX n f fd ps sp) (m : Meth X.K C "__eq__" f) (hb : Binds X.K fd ps []) (hx : Passes CX X E) (hr : Room (n + 1) X.A) (hne : PySem.W.findIn X.K (.ref C) "__ne__" = some (some (.builtin "object.__ne__"))) (hm : PySem.W.mroIn X.K C (.type "object") = some true) (hK : X.K = K) : OpR X (compareOp .NotEq) (rNeO K C sp E) := by
  subst hK
  intro pins s σ H x y v u Q I rx ry h
  obtain ⟨a, dx, fs, rfl, ha, ho, h⟩ := h
  cases rx
  obtain ⟨mA, J, _⟩ := ins_get I.hok ha
  obtain ⟨od, J, _⟩ := J.look
  obtain ⟨tb, ht, hn⟩ := oth_looks I ry ho
  have one : wpAny (model X.prog X.w) X.A (tryCompare (.ref a) "__ne__" u) (fun r s' => ∃ v, r = some v ∧ EP X pins σ Q v s') X.xe s := by
    unfold tryCompare
    refine wpAny_bind (ifBound_ne I.kIn J hne (call_ne hr.in1.units0 I.kIn J hm m.at_ m.fn (wpAny_mono (run_own F hb hx ⟨hr.in1, rfl⟩ I (vs := [.ref a, y]) (.cons rfl (.cons ry .nil)) h) (fun v s' q => ?_) fun _ _ z => z)))
    obtain ⟨z, H', I', rz, b, rfl, q⟩ := q
    cases rz
    exact ⟨b, rfl, wpAny_pure ⟨_, rfl, .bl (!b), H', I', rfl, q⟩⟩
  show wpAny (model X.prog X.w) X.A (richCompare .NotEq (.ref a) u) (EP X pins σ Q) X.xe s
  unfold richCompare
  simp only [oneThing_ref]
  refine wpAny_holding (wpAny_bind (wpAny_cRoomFor hr.units0 (wpAny_bind (J.type.here (wpAny_bind (ht.here ?_))))))
  split
  · rename_i q
    have e : PySem.W.subIn X.K tb (.ref C) = some false := by
      rcases Bool.or_eq_true_iff.mp hn with e | e
      · rw [beq_iff_eq.mp e] at q; simp at q
      · exact beq_iff_eq.mp e
    refine wpAny_bind ((PySem.W.looks_subIn I.kIn e).here ?_)
    simp only [Bool.false_eq_true, if_false]
    refine wpAny_bind (wpAny_mono one (fun r s' z => ?_) fun _ _ e => e)
    obtain ⟨v, rfl, hq⟩ := z
    exact wpAny_pure hq
  · refine wpAny_bind (wpAny_pure ?_)
    simp only [Bool.false_eq_true, if_false]
    refine wpAny_bind (wpAny_mono one (fun r s' z => ?_) fun _ _ e => e)
    obtain ⟨v, rfl, hq⟩ := z
    exact wpAny_pure hq
/-- a built-in type doesn't go first -/
theorem nf {T : String} {ts : List Value} (e : fastBuiltinMro T = some ts) (h : ts.all (fun t => match t with | .type _ => true | _ => false) = true) : PySem.W.notFirst K C (.type T) = true := by
  have z : PySem.W.subIn K (.type T) (.ref C) = some false := by
    show (fastBuiltinMro T).map (·.contains (.ref C)) = some false
    rw [e]
    refine congrArg some (Bool.eq_false_iff.mpr fun q => ?_)
    have := List.all_eq_true.mp h _ (List.contains_iff_mem.mp q)
    exact absurd this (by simp)
  unfold PySem.W.notFirst
  rw [z]
  simp
end
end Own
/-! x in a list, list == list: items with a == of their own, any answer, that keeps all objects -/
namespace OwnS
open PySem PySem.Spec PyProof.Rows L2
open AutoSeq1 (wpAny_loadPart')
open MeetsSeq MeetsSeq2 MeetsSeq3 SeqRoads2
/-- all of e from i on, k of them -/
def al (e : Nat → Bool) : Nat → Nat → Bool
  | _, 0 => true
  | i, k + 1 => e i && al e (i + 1) k
def an (e : Nat → Bool) : Nat → Nat → Bool
  | _, 0 => false
  | i, k + 1 => e i || an e (i + 1) k
section
variable {prog : Program} {w : World} {A : Around} {R : Result → Shared → Prop}
def ListB (prog : Program) (w : World) (A : Around) (E : Value → Shared → Prop) (l b : Addr) (N : Nat) (e : Nat → Bool) (I : Shared → Prop) : Prop :=
  ∀ s, I s → ∃ (items items2 : Array Value) (n n2 : Nat), s.heap.get? l = some { cls := .type "list", data := .seq items n } ∧ s.heap.get? b = some { cls := .type "list", data := .seq items2 n2 } ∧ items.size = N ∧ items2.size = N ∧
    ∀ i (h1 : i < items.size) (h2 : i < items2.size), wpAny (model prog w) A.in1 (eqBool items[i] items2[i]) (fun r s' => r = e i ∧ I s') E s
theorem eq_loopB (l b : Addr) (N : Nat) (e : Nat → Bool) (I : Shared → Prop) (hl : ListB prog w A (fun e s' => R (.error e) s') l b N e I) (k : Nat) :
    ∀ i : Nat, N - i = k → i ≤ N → (∀ s, I s → R (.ok (.ret (.bool (al e i k)))) s) → ∀ s, I s →
      wpAny (model prog w) A.in1 (Builtin.«list.__eq__.loop» ⟨[.ref l, .ref b, rawInt i, rawInt 2], []⟩) (GQ.FinOf prog w A R) (fun e s' => R (.error e) s') s := by
  induction k with
  | zero =>
    intro i hk hi fin s h
    obtain ⟨items, items2, n, n2, hl1, hb1, hs1, hs2, _⟩ := hl _ h
    have hi' : i = N := by omega
    have hR : R (.ok (.ret (.bool true))) s := fin s h
    obtain ⟨hp, g, d, tk, os⟩ := s
    wp_walk using wpAny_loadPart' hl1, wpAny_loadPart' hb1
    have hi1 : items[((i : Nat) : Int).toNat]? = none := by simp; omega
    have hi2 : items2[((i : Nat) : Int).toNat]? = none := by simp; omega
    rw [hi1, hi2]
    wp_walk using wpAny_loadPart' hl1, wpAny_loadPart' hb1
    show R (.ok (.ret (.bool (items.size == items2.size)))) _
    rw [hs1, hs2]
    simpa using hR
  | succ k ih =>
    intro i hk hi fin s h
    obtain ⟨items, items2, n, n2, hl1, hb1, hs1, hs2, turn⟩ := hl _ h
    have hlt : i < items.size := by omega
    have hlt2 : i < items2.size := by omega
    have ht := turn i hlt hlt2
    obtain ⟨hp, g, d, tk, os⟩ := s
    wp_walk using wpAny_loadPart' hl1, wpAny_loadPart' hb1
    have hi1 : items[((i : Nat) : Int).toNat]? = some items[i] := by simp [hlt]
    have hi2 : items2[((i : Nat) : Int).toNat]? = some items2[i] := by simp [hlt2]
    have hc : ((i : Int) + 1) = ((i + 1 : Nat) : Int) := by omega
    rw [hi1, hi2]
    refine wpAny_bind (wpAny_mono ht (fun r s2 h2 => ?_) fun _ _ x => x)
    obtain ⟨hr, h2⟩ := h2
    subst hr
    cases he : e i with
    | true =>
      have hrec := ih (i + 1) (by omega) (by omega) (fun s hs => by have := fin s hs; rwa [al, he, Bool.true_and] at this) s2 h2
      obtain ⟨hp2, g2, d2, tk2, os2⟩ := s2
      wp_walk
      rw [hc]
      exact ⟨plainId_quiet plain_eq_loop _, codeAny_builtin entry_eq_loop (by
        rw [Around.under_plainId plain_eq_loop _]
        exact hrec)⟩
    | false =>
      have hR := fin s2 h2
      rw [al, he, Bool.false_and] at hR
      obtain ⟨itemsB, items2B, nB, n2B, hl1B, hb1B, hs1B, hs2B, _⟩ := hl _ h2
      obtain ⟨hp2, g2, d2, tk2, os2⟩ := s2
      wp_walk using wpAny_loadPart' hl1B, wpAny_loadPart' hb1B
      have hi1B : itemsB[((i : Nat) : Int).toNat]? = some (itemsB[i]'(by omega)) := by simp
      have hi2B : items2B[((i : Nat) : Int).toNat]? = some (items2B[i]'(by omega)) := by simp
      rw [hi1B, hi2B]
      wp_walk
      exact hR
theorem list_eqB (l b : Addr) (N : Nat) (e : Nat → Bool) (I : Shared → Prop) (hl : ListB prog w A (fun e s' => R (.error e) s') l b N e I)
    (fin : ∀ s, I s → R (.ok (.ret (.bool (al e 0 N)))) s) {s : Shared} (h : I s) :
    wpAny (model prog w) A.in1 (Builtin.«list.__eq__» ⟨[.ref l, .ref b], []⟩) (GQ.FinOf prog w A R) (fun e s' => R (.error e) s') s := by
  obtain ⟨items, items2, n, n2, hl1, hb1, hs1, hs2, _⟩ := hl _ h
  have hrec := eq_loopB (A := A) (R := R) l b N e I hl N 0 (by omega) (Nat.zero_le _) fin s h
  obtain ⟨hp, g, d, tk, os⟩ := s
  have f3 := AutoSeq1.sub_list_list
  have hne : ¬ (items.size != items2.size) = true := by simp [hs1, hs2]
  wp_walk using wpAny_loadPart' hl1, wpAny_loadPart' hb1
  exact ⟨plainId_quiet plain_eq_loop _, codeAny_builtin entry_eq_loop (by
    rw [Around.under_plainId plain_eq_loop _]
    exact hrec)⟩
/-- x is sought in the list -/
def SeekB (prog : Program) (w : World) (A : Around) (E : Value → Shared → Prop) (l : Addr) (x : Value) (N : Nat) (e : Nat → Bool) (I : Shared → Prop) : Prop :=
  ∀ s, I s → ∃ (items : Array Value) (n : Nat), s.heap.get? l = some { cls := .type "list", data := .seq items n } ∧ items.size = N ∧
    ∀ i (h1 : i < items.size), wpAny (model prog w) A.in1 (eqBool items[i] x) (fun r s' => r = e i ∧ I s') E s
theorem in_loopB (l : Addr) (x : Value) (N : Nat) (e : Nat → Bool) (I : Shared → Prop) (hl : SeekB prog w A (fun e s' => R (.error e) s') l x N e I) (k : Nat) :
    ∀ i : Nat, N - i = k → i ≤ N → (∀ s, I s → R (.ok (.ret (.bool (an e i k)))) s) → ∀ s, I s →
      wpAny (model prog w) A.in1 (Builtin.«list.__contains__.loop» ⟨[.ref l, x, rawInt i], []⟩) (GQ.FinOf prog w A R) (fun e s' => R (.error e) s') s := by
  induction k with
  | zero =>
    intro i hk hi fin s h
    obtain ⟨items, n, hl1, hs1, _⟩ := hl _ h
    have hR : R (.ok (.ret (.bool false))) s := fin s h
    obtain ⟨hp, g, d, tk, os⟩ := s
    wp_walk using wpAny_loadPart' hl1
    have hi1 : items[((i : Nat) : Int).toNat]? = none := by simp; omega
    rw [hi1]
    wp_walk
    exact hR
  | succ k ih =>
    intro i hk hi fin s h
    obtain ⟨items, n, hl1, hs1, turn⟩ := hl _ h
    have hlt : i < items.size := by omega
    have ht := turn i hlt
    obtain ⟨hp, g, d, tk, os⟩ := s
    wp_walk using wpAny_loadPart' hl1
    have hi1 : items[((i : Nat) : Int).toNat]? = some items[i] := by simp [hlt]
    have hc : ((i : Int) + 1) = ((i + 1 : Nat) : Int) := by omega
    rw [hi1]
    refine wpAny_bind (wpAny_mono ht (fun r s2 h2 => ?_) fun _ _ x => x)
    obtain ⟨hr, h2⟩ := h2
    subst hr
    cases he : e i with
    | false =>
      have hrec := ih (i + 1) (by omega) (by omega) (fun s hs => by have := fin s hs; rwa [an, he, Bool.false_or] at this) s2 h2
      obtain ⟨hp2, g2, d2, tk2, os2⟩ := s2
      wp_walk
      rw [hc]
      exact ⟨plainId_quiet plain_contains_loop _, codeAny_builtin entry_contains_loop (by
        rw [Around.under_plainId plain_contains_loop _]
        exact hrec)⟩
    | true =>
      have hR := fin s2 h2
      rw [an, he, Bool.true_or] at hR
      obtain ⟨hp2, g2, d2, tk2, os2⟩ := s2
      wp_walk
      exact hR
theorem list_inB (l : Addr) (x : Value) (N : Nat) (e : Nat → Bool) (I : Shared → Prop) (hl : SeekB prog w A (fun e s' => R (.error e) s') l x N e I)
    (fin : ∀ s, I s → R (.ok (.ret (.bool (an e 0 N)))) s) {s : Shared} (h : I s) :
    wpAny (model prog w) A.in1 (Builtin.«list.__contains__» ⟨[.ref l, x], []⟩) (GQ.FinOf prog w A R) (fun e s' => R (.error e) s') s := by
  obtain ⟨items, n, hl1, hs1, _⟩ := hl _ h
  have hrec := in_loopB (A := A) (R := R) l x N e I hl N 0 (by omega) (Nat.zero_le _) fin s h
  obtain ⟨hp, g, d, tk, os⟩ := s
  wp_walk using wpAny_loadPart' hl1
  exact ⟨plainId_quiet plain_contains_loop _, codeAny_builtin entry_contains_loop (by
    rw [Around.under_plainId plain_contains_loop _]
    exact hrec)⟩
end
section
variable {prog : Program} {w : World} {A : Around} {E : Value → Shared → Prop} {s : Shared}
theorem rc_listB {l b : Addr} {N : Nat} {e : Nat → Bool} {Q : Value → Shared → Prop} (hu : A.units < cLine) (I : Shared → Prop) (hl : ListB prog w A E l b N e I)
    (fin : ∀ s, I s → Q (.bool (al e 0 N)) s) (h : I s) : wpAny (model prog w) A (richCompare .Eq (.ref l) (.ref b)) Q E s := by
  obtain ⟨items, items2, n, n2, hl1, hb1, _, _, _⟩ := hl _ h
  refine wpAny_richCompare_same_room (op := .Eq) ⟨_, hl1, rfl⟩ ⟨_, hb1, rfl⟩ F.slot_list_eq (GQ.call_here F.slot_list_eq ⟨_, hl1, rfl⟩ F.entry_list_eq (F.args_list_eq_2 _ _) ?_) hu
  exact list_eqB (R := wants (fun v s' => v ≠ .notImplemented ∧ Q v s') E) l b N e I hl (fun s' q => ⟨(fun x => nomatch x), fin s' q⟩) h
theorem in_listB {l : Addr} {x : Value} {N : Nat} {e : Nat → Bool} {Q : Value → Shared → Prop} (I : Shared → Prop) (hl : SeekB prog w A E l x N e I)
    (fin : ∀ s, I s → Q (.bool (an e 0 N)) s) (h : I s) : wpAny (model prog w) A (compareOp .In x (.ref l)) Q E s := by
  obtain ⟨items, n, hl1, _, _⟩ := hl _ h
  show wpAny _ A (do return .bool (← contains (.ref l) x)) Q E s
  refine wpAny_bind (wpAny_contains_slot ⟨_, hl1, rfl⟩ F.slot_list_contains (wpAny_mono (GQ.call_here (Q := fun v s' => ∃ b, v = .bool b ∧ Q (.bool b) s') F.slot_list_contains ⟨_, hl1, rfl⟩ F.entry_list_contains (F.args_list_contains_2 _ _) ?_) (fun v s' hv => ?_) fun _ _ e => e))
  · exact list_inB (R := wants (fun v s' => ∃ b, v = .bool b ∧ Q (.bool b) s') E) l x N e I hl (fun s' q => ⟨_, rfl, fin s' q⟩) h
  · obtain ⟨b, rfl, hq⟩ := hv
    exact wpAny_truthy_bool (wpAny_pure hq)
end
section
variable {X : Cx} {K : PySem.W.Frag} {CX : CXT} {C f : Addr} {fd : FuncData} {ps : List Str} {E : XK} {n : Nat} {R : Addr → Addr → Bool → Hp → Prop}
/-- what the own == promises: the answer that R tells, all objects kept; the same object is equal to itself -/
def spB (R : Addr → Addr → Bool → Hp → Prop) : Sp := fun vs H Q _ => ∃ a b r, vs = [.ref a, .ref b] ∧ R a b r H ∧ Q (.bl r) H
/-- two instances, and the answer -/
def DB (C : Addr) (R : Addr → Addr → Bool → Hp → Prop) (H : Hp) (x y : V) (r : Bool) : Prop := ∃ a b dx dy fs gs, x = .ref a ∧ y = .ref b ∧ H a = some (.ins C dx fs) ∧ H b = some (.ins C dy gs) ∧ R a b r H ∧ (a = b → r = true)
theorem eqB {pins : List (Addr × Obj)} {σ : L2.St} {H : Hp} {s : Shared} {A : Around} {x y : V} {u v : Value} {r : Bool} {sp : Sp} (hsp : ∀ a b r Q E, R a b r H → Q (.bl r) H → sp [.ref a, .ref b] H Q E) (F : FnOk X.prog X.w X.K X.mg X.base CX n f fd ps sp) (m : Meth X.K C "__eq__" f) (hb : Binds X.K fd ps []) (hx : Passes CX X E) (sb : Sub X n A)
    (I : Inv X pins σ H s) (rx : RelV x u) (ry : RelV y v) (d : DB C R H x y r) : wpAny (model X.prog X.w) A (eqBool u v) (fun z s' => z = r ∧ Inv X pins σ H s') X.xe s := by
  obtain ⟨a, b, dx, dy, fs, gs, rfl, rfl, ha, hb', hr, hs⟩ := d
  cases rx
  cases ry
  by_cases hab : a = b
  · subst hab
    exact SeqAt.EqAt.same (A := A) (s := s) (.ref a) X.prog X.w X.xe _ ⟨(hs rfl).symm, I⟩
  · obtain ⟨mA, J, _⟩ := ins_get I.hok ha
    obtain ⟨mB, J', _⟩ := ins_get I.hok hb'
    obtain ⟨od, J, _⟩ := J.look
    obtain ⟨od', J', _⟩ := J'.look
    obtain ⟨mm, hF⟩ := I.fr
    refine GQ.eqBool_refG hab ?_
    refine PySem.W.cmp_K (op := .Eq) (tb := .ref C) sb.room.units0 hF I.ok.mod.kin J J'.type (by simp [PySem.W.notFirst]) m.at_ m.fn (wpAny_mono (Own.run_own (Q := fun z H' => z = .bl r ∧ H' = H) F hb hx sb I (vs := [.ref a, .ref b]) (.cons rfl (.cons rfl .nil)) (hsp a b r _ E hr ⟨rfl, rfl⟩)) (fun v s' q => ?_) fun _ _ z => z)
    obtain ⟨z, H', I', rz, rfl, rfl⟩ := q
    cases rz
    exact ⟨r, rfl, rfl, I'⟩
/-- [x, ..] == [y, ..] -/
def rEqB (C : Addr) (R : Addr → Addr → Bool → Hp → Prop) : R2 := fun x y H Q => ∃ (a b : Addr) (xs ys : List V) (e : Nat → Bool), x = .ref a ∧ y = .ref b ∧ H a = some (.lst xs) ∧ H b = some (.lst ys) ∧ xs.length = ys.length ∧ (∀ (i : Nat) p q, xs[i]? = some p → ys[i]? = some q → DB C R H p q (e i)) ∧ Q (.bl (al e 0 xs.length)) H
def rInB (C : Addr) (R : Addr → Addr → Bool → Hp → Prop) : R2 := fun x y H Q => ∃ (b : Addr) (ys : List V) (e : Nat → Bool), y = .ref b ∧ H b = some (.lst ys) ∧ (∀ (i : Nat) q, ys[i]? = some q → DB C R H q x (e i)) ∧ Q (.bl (an e 0 ys.length)) H
theorem op_eqB {sp : Sp} (hsp : ∀ H a b r Q E, R a b r H → Q (.bl r) H → sp [.ref a, .ref b] H Q E) (F : FnOk X.prog X.w X.K X.mg X.base CX n f fd ps sp) (m : Meth X.K C "__eq__" f) (hb : Binds X.K fd ps []) (hx : Passes CX X E) (hr : Room (n + 1) X.A) : OpR X (compareOp .Eq) (rEqB C R) := by
  intro pins s σ H x y v u Q I rx ry h
  obtain ⟨a, b, xs, ys, e, rfl, rfl, ha, hb', hl, hd, q⟩ := h
  cases rx
  cases ry
  show wpAny (model X.prog X.w) X.A (richCompare .Eq (.ref a) (.ref b)) (EP X pins σ Q) X.xe s
  refine rc_listB (N := xs.length) (e := e) hr.units0 (fun s' => Inv X pins σ H s') (fun s' I' => ?_) (fun s' I' => ⟨.bl _, H, I', rfl, q⟩) I
  obtain ⟨z, its, k, r, h1⟩ := I'.hok a _ ha
  obtain ⟨z2, its2, k2, r2, h2⟩ := I'.hok b _ hb'
  refine ⟨its.toArray, its2.toArray, k, k2, h1, h2, by rw [List.size_toArray, ← r.length], by rw [List.size_toArray, ← r2.length, ← hl], fun i l1 l2 => ?_⟩
  have g1 : its[i]? = some its.toArray[i] := by
    have h1' : i < its.length := by simpa using l1
    rw [List.getElem?_eq_getElem h1'] <;> simp
  have g2 : its2[i]? = some its2.toArray[i] := by
    have h2' : i < its2.length := by simpa using l2
    rw [List.getElem?_eq_getElem h2'] <;> simp
  have k1 : i < xs.length := by rw [r.length]; simpa using l1
  have k2 : i < ys.length := by rw [r2.length]; simpa using l2
  obtain ⟨u, hu, ru⟩ := r.get (List.getElem?_eq_getElem k1)
  obtain ⟨v, hv, rv⟩ := r2.get (List.getElem?_eq_getElem k2)
  rw [g1] at hu
  rw [g2] at hv
  rw [Option.some.inj hu, Option.some.inj hv]
  exact eqB (hsp H) F m hb hx ⟨hr.in1, rfl⟩ I' ru rv (hd i _ _ (List.getElem?_eq_getElem k1) (List.getElem?_eq_getElem k2))
theorem op_inB {sp : Sp} (hsp : ∀ H a b r Q E, R a b r H → Q (.bl r) H → sp [.ref a, .ref b] H Q E) (F : FnOk X.prog X.w X.K X.mg X.base CX n f fd ps sp) (m : Meth X.K C "__eq__" f) (hb : Binds X.K fd ps []) (hx : Passes CX X E) (hr : Room (n + 1) X.A) : OpR X (compareOp .In) (rInB C R) := by
  intro pins s σ H x y v u Q I rx ry h
  obtain ⟨b, ys, e, rfl, hb', hd, q⟩ := h
  cases ry
  refine in_listB (N := ys.length) (e := e) (fun s' => Inv X pins σ H s') (fun s' I' => ?_) (fun s' I' => ⟨.bl _, H, I', rfl, q⟩) I
  obtain ⟨z2, its2, k2, r2, h2⟩ := I'.hok b _ hb'
  refine ⟨its2.toArray, k2, h2, by rw [List.size_toArray, ← r2.length], fun i l2 => ?_⟩
  have g2 : its2[i]? = some its2.toArray[i] := by
    have h2' : i < its2.length := by simpa using l2
    rw [List.getElem?_eq_getElem h2'] <;> simp
  have k2 : i < ys.length := by rw [r2.length]; simpa using l2
  obtain ⟨v, hv, rv⟩ := r2.get (List.getElem?_eq_getElem k2)
  rw [g2] at hv
  rw [Option.some.inj hv]
  exact eqB (hsp H) F m hb hx ⟨hr.in1, rfl⟩ I' rv rx (hd i _ (List.getElem?_eq_getElem k2))
end
end OwnS
namespace K04
open PySem PySem.Spec PyProof.Rows L2 Evl My TL
def topS (i : Nat) : Stmt := PySem.Challenge.pw_blocksearch_k04_pages_alike.main.body.getD i (.Pass ⟨0, 0, 0, 0⟩)
abbrev N_is_whole : List Str := ["thing"]
theorem sc_is_whole : FnScope N_is_whole ["thing"] (defScope (topS 6)) := ⟨rfl, rfl, rfl, by decide +kernel, rfl, by decide +kernel, by decide +kernel⟩
abbrev N_is_within : List Str := ["thing", "least", "most"]
theorem sc_is_within : FnScope N_is_within ["thing", "least", "most"] (defScope (topS 7)) := ⟨rfl, rfl, rfl, by decide +kernel, rfl, by decide +kernel, by decide +kernel⟩
abbrev N_is_word : List Str := ["thing", "sign"]
theorem sc_is_word : FnScope N_is_word ["thing"] (defScope (topS 11)) := ⟨rfl, rfl, rfl, by decide +kernel, rfl, by decide +kernel, by decide +kernel⟩
abbrev N_are_words : List Str := ["things", "thing"]
theorem sc_are_words : FnScope N_are_words ["things"] (defScope (topS 12)) := ⟨rfl, rfl, rfl, by decide +kernel, rfl, by decide +kernel, by decide +kernel⟩
abbrev N_words_of : List Str := ["text", "words"]
theorem sc_words_of : FnScope N_words_of ["text"] (defScope (topS 13)) := ⟨rfl, rfl, rfl, by decide +kernel, rfl, by decide +kernel, by decide +kernel⟩
abbrev N_check_words : List Str := ["words"]
theorem sc_check_words : FnScope N_check_words ["words"] (defScope (topS 14)) := ⟨rfl, rfl, rfl, by decide +kernel, rfl, by decide +kernel, by decide +kernel⟩
abbrev N_check_page_number : List Str := ["number"]
theorem sc_check_page_number : FnScope N_check_page_number ["number"] (defScope (topS 18)) := ⟨rfl, rfl, rfl, by decide +kernel, rfl, by decide +kernel, by decide +kernel⟩
abbrev N_l_pool : List Str := ["_law_script", "_law_at", "_law_cell", "_law_far"]
theorem sc_l_pool : FnScope N_l_pool ["_law_script", "_law_at"] (defScope (topS 20)) := ⟨rfl, rfl, rfl, by decide +kernel, rfl, by decide +kernel, by decide +kernel⟩
abbrev N_l_take : List Str := ["_law_pool_here", "_law_many", "_law_digit", "_law_turn", "_law_one", "_law_other_here"]
theorem sc_l_take : FnScope N_l_take ["_law_pool_here", "_law_many"] (defScope (topS 21)) := ⟨rfl, rfl, rfl, by decide +kernel, rfl, by decide +kernel, by decide +kernel⟩
abbrev N_l_kinds : List Str := ["_law_pool_here", "_law_some", "_law_start"]
theorem sc_l_kinds : FnScope N_l_kinds ["_law_pool_here"] (defScope (topS 22)) := ⟨rfl, rfl, rfl, by decide +kernel, rfl, by decide +kernel, by decide +kernel⟩
abbrev N_l_words : List Str := ["_law_pool_here", "_law_kinds_here", "_law_most", "_law_k"]
theorem sc_l_words : FnScope N_l_words ["_law_pool_here", "_law_kinds_here", "_law_most"] (defScope (topS 23)) := ⟨rfl, rfl, rfl, by decide +kernel, rfl, by decide +kernel, by decide +kernel⟩
abbrev N_l_other : List Str := ["_law_pool_here", "_law_held", "_law_kinds_here", "_law_sort", "_law_at"]
theorem sc_l_other : FnScope N_l_other ["_law_pool_here", "_law_held", "_law_kinds_here"] (defScope (topS 24)) := ⟨rfl, rfl, rfl, by decide +kernel, rfl, by decide +kernel, by decide +kernel⟩
abbrev N_l_told : List Str := ["_law_page", "_law_number", "_law_held", "_law_text"]
theorem sc_l_told : FnScope N_l_told ["_law_page", "_law_number", "_law_held"] (defScope (topS 25)) := ⟨rfl, rfl, rfl, by decide +kernel, rfl, by decide +kernel, by decide +kernel⟩
abbrev N_law : List Str := ["_law_script", "_law_k", "_law_pool_here", "_law_kinds_here", "_law_held", "_law_other_here", "_law_number", "_law_further", "_law_one", "_law_two", "_law_due", "_law_told_here", "_law_thing", "_law_answer"]
theorem sc_law : FnScope N_law ["_law_script"] (defScope (topS 26)) := ⟨rfl, rfl, rfl, by decide +kernel, rfl, by decide +kernel, by decide +kernel⟩
abbrev N_Page_init : List Str := ["self", "number", "text"]
theorem sc_Page_init : FnScope N_Page_init ["self", "number", "text"] (defScope (inClass (topS 17) 0)) := ⟨rfl, rfl, rfl, by decide +kernel, rfl, by decide +kernel, by decide +kernel⟩
abbrev N_Page_eq : List Str := ["self", "other"]
theorem sc_Page_eq : FnScope N_Page_eq ["self", "other"] (defScope (inClass (topS 17) 1)) := ⟨rfl, rfl, rfl, by decide +kernel, rfl, by decide +kernel, by decide +kernel⟩
abbrev N_Page_len : List Str := ["self"]
theorem sc_Page_len : FnScope N_Page_len ["self"] (defScope (inClass (topS 17) 2)) := ⟨rfl, rfl, rfl, by decide +kernel, rfl, by decide +kernel, by decide +kernel⟩
abbrev N_Page_str : List Str := ["self"]
theorem sc_Page_str : FnScope N_Page_str ["self"] (defScope (inClass (topS 17) 3)) := ⟨rfl, rfl, rfl, by decide +kernel, rfl, by decide +kernel, by decide +kernel⟩
abbrev N_Page_repr : List Str := ["self"]
theorem sc_Page_repr : FnScope N_Page_repr ["self"] (defScope (inClass (topS 17) 4)) := ⟨rfl, rfl, rfl, by decide +kernel, rfl, by decide +kernel, by decide +kernel⟩
abbrev N_Page_words : List Str := ["self"]
theorem sc_Page_words : FnScope N_Page_words ["self"] (defScope (inClass (topS 17) 5)) := ⟨rfl, rfl, rfl, by decide +kernel, rfl, by decide +kernel, by decide +kernel⟩
/-- what the top has left: A the defs' places, FD their data, TK the constants' tokens -/
structure TX (K : PySem.W.Frag) (mg : Str → Option Value) (A : Nat → Addr) (FD : Nat → FuncData) (TK : Nat → Tok) : Prop where
  f_is_whole : Fun K "is_whole" "is_whole" (topS 6) (A 6) (FD 6)
  b_is_whole : Binds K (FD 6) ["thing"] []
  g_is_whole : mg "is_whole" = some (.ref (A 6))
  f_is_within : Fun K "is_within" "is_within" (topS 7) (A 7) (FD 7)
  b_is_within : Binds K (FD 7) ["thing", "least", "most"] []
  g_is_within : mg "is_within" = some (.ref (A 7))
  f_is_word : Fun K "is_word" "is_word" (topS 11) (A 11) (FD 11)
  b_is_word : Binds K (FD 11) ["thing"] []
  g_is_word : mg "is_word" = some (.ref (A 11))
  f_are_words : Fun K "are_words" "are_words" (topS 12) (A 12) (FD 12)
  b_are_words : Binds K (FD 12) ["things"] []
  g_are_words : mg "are_words" = some (.ref (A 12))
  f_words_of : Fun K "words_of" "words_of" (topS 13) (A 13) (FD 13)
  b_words_of : Binds K (FD 13) ["text"] []
  g_words_of : mg "words_of" = some (.ref (A 13))
  f_check_words : Fun K "check_words" "check_words" (topS 14) (A 14) (FD 14)
  b_check_words : Binds K (FD 14) ["words"] []
  g_check_words : mg "check_words" = some (.ref (A 14))
  f_check_page_number : Fun K "check_page_number" "check_page_number" (topS 18) (A 18) (FD 18)
  b_check_page_number : Binds K (FD 18) ["number"] []
  g_check_page_number : mg "check_page_number" = some (.ref (A 18))
  f_l_pool : Fun K "_law_pool" "_law_pool" (topS 20) (A 20) (FD 20)
  b_l_pool : Binds K (FD 20) ["_law_script", "_law_at"] []
  g_l_pool : mg "_law_pool" = some (.ref (A 20))
  f_l_take : Fun K "_law_take" "_law_take" (topS 21) (A 21) (FD 21)
  b_l_take : Binds K (FD 21) ["_law_pool_here", "_law_many"] []
  g_l_take : mg "_law_take" = some (.ref (A 21))
  f_l_kinds : Fun K "_law_kinds" "_law_kinds" (topS 22) (A 22) (FD 22)
  b_l_kinds : Binds K (FD 22) ["_law_pool_here"] []
  g_l_kinds : mg "_law_kinds" = some (.ref (A 22))
  f_l_words : Fun K "_law_words" "_law_words" (topS 23) (A 23) (FD 23)
  b_l_words : Binds K (FD 23) ["_law_pool_here", "_law_kinds_here", "_law_most"] []
  g_l_words : mg "_law_words" = some (.ref (A 23))
  f_l_other : Fun K "_law_other" "_law_other" (topS 24) (A 24) (FD 24)
  b_l_other : Binds K (FD 24) ["_law_pool_here", "_law_held", "_law_kinds_here"] []
  g_l_other : mg "_law_other" = some (.ref (A 24))
  f_l_told : Fun K "_law_told" "_law_told" (topS 25) (A 25) (FD 25)
  b_l_told : Binds K (FD 25) ["_law_page", "_law_number", "_law_held"] []
  g_l_told : mg "_law_told" = some (.ref (A 25))
  f_law : Fun K "law" "law" (topS 26) (A 26) (FD 26)
  b_law : Binds K (FD 26) ["_law_script"] []
  g_law : mg "law" = some (.ref (A 26))
  m_abs : mg "abs" = none
  m_all : mg "all" = none
  m_bool : mg "bool" = none
  m_int : mg "int" = none
  m_isinstance : mg "isinstance" = none
  m_len : mg "len" = none
  m_list : mg "list" = none
  m_max : mg "max" = none
  m_min : mg "min" = none
  m_range : mg "range" = none
  m_repr : mg "repr" = none
  m_str : mg "str" = none
  m_tuple : mg "tuple" = none
  c_MOST_LETTERS : mg "MOST_LETTERS" = some (.int 12 (TK 9))
  c_MOST_WORDS : mg "MOST_WORDS" = some (.int 120 (TK 10))
  c_MOST_NUMBER : mg "MOST_NUMBER" = some (.int 9999 (TK 16))
  k_Wrong : mg "Wrong" = some (.ref (A 2))
  k_NoText : mg "NoText" = some (.ref (A 3))
  k_NoNumber : mg "NoNumber" = some (.ref (A 4))
  k_Page : mg "Page" = some (.ref (A 17))
  cl_Page : Cls K (A 17)
  n_Page_number : NoAttr K (A 17) "number"
  n_Page_in_turn : NoAttr K (A 17) "in_turn"
  f_Page_init : FunD K "__init__" "Page.__init__" (defArgs (inClass (topS 17) 0)) (defBody (inClass (topS 17) 0)) (defScope (inClass (topS 17) 0)) [.str ""] [] (A 27) (FD 27)
  M_Page : Mk K (A 17) (A 27)
  f_Page_eq : Fun K "__eq__" "Page.__eq__" (inClass (topS 17) 1) (A 28) (FD 28)
  b_Page_eq : Binds K (FD 28) ["self", "other"] []
  M_Page_eq : Meth K (A 17) "__eq__" (A 28)
  f_Page_len : Fun K "__len__" "Page.__len__" (inClass (topS 17) 2) (A 29) (FD 29)
  b_Page_len : Binds K (FD 29) ["self"] []
  M_Page_len : Meth K (A 17) "__len__" (A 29)
  f_Page_str : Fun K "__str__" "Page.__str__" (inClass (topS 17) 3) (A 30) (FD 30)
  b_Page_str : Binds K (FD 30) ["self"] []
  M_Page_str : Meth K (A 17) "__str__" (A 30)
  f_Page_repr : Fun K "__repr__" "Page.__repr__" (inClass (topS 17) 4) (A 31) (FD 31)
  b_Page_repr : Binds K (FD 31) ["self"] []
  M_Page_repr : Meth K (A 17) "__repr__" (A 31)
  f_Page_words : Fun K "words" "Page.words" (inClass (topS 17) 5) (A 32) (FD 32)
  b_Page_words : Binds K (FD 32) ["self"] []
  M_Page_words : Meth K (A 17) "words" (A 32)
  ci : PySem.W.findIn K (.ref (A 17)) "__class__" = some (some (.builtin "object.__class__"))
  cs : PySem.W.specialIn K (.builtin "object.__class__") "__get__" = some (some (.builtin "getset_descriptor.__get__"))
  ct : PySem.W.takesIn K (.builtin "object.__class__") = some true
  moP : PySem.W.mroIn K (A 17) (.type "object") = some true
  neP : PySem.W.findIn K (.ref (A 17)) "__ne__" = some (some (.builtin "object.__ne__"))
  kp : PySem.W.kitOne K (.ref (A 17)) (.ref (A 17)) = some true
  kNoneType : PySem.W.kitOne K (.type "NoneType") (.ref (A 17)) = some false
  kint : PySem.W.kitOne K (.type "int") (.ref (A 17)) = some false
  kstr : PySem.W.kitOne K (.type "str") (.ref (A 17)) = some false
  ktuple : PySem.W.kitOne K (.type "tuple") (.ref (A 17)) = some false
  klist : PySem.W.kitOne K (.type "list") (.ref (A 17)) = some false
  kbool : PySem.W.kitOne K (.type "bool") (.ref (A 17)) = some false
section
variable {P : Program} {w : World} {K : PySem.W.Frag} {mg : Str → Option Value} {base : Heap} {A : Nat → Addr} {FD : Nat → FuncData} {TK : Nat → Tok}
/-! ### _law_take -/
def spTake : Sp := fun vs H Q _ => ∃ (p : Addr) (m : Int) (c : Nat), vs = [.ref p, .int m] ∧ Pl H p c ∧ 0 < m ∧ m < 1073741824 ∧ c < 1000000 ∧
  ∀ (d : Int) (H' : Hp), 0 ≤ d → d < m → Pl H' p (c + 1) → Fx p H H' → Q (.int d) H'
set_option maxHeartbeats 4000000 in
theorem ok_l_take (T : TX K mg A FD TK) : FnOk P w K mg base CX0 1 (A 21) (FD 21) ["_law_pool_here", "_law_many"] spTake := by
  refine T.f_l_take.ok sc_l_take (fun vs H Q E h => ?_) (fun cdv A' outer s H vs Q E hr h => ?_)
  · obtain ⟨p, m, c, rfl, _⟩ := h
    rfl
  · obtain ⟨p, m, c, rfl, ⟨g, b, k, hp, hg, hb, hb2, hk⟩, hm, hm2, hc, q⟩ := h
    refine ⟨_, (pss_cons (ps_if (pt_cmpR op_gt (pe_ix (ixLK (K := K) rfl) (pv 0) pe_int (fun _ _ => rfl)) pe_int (nomark _))
      (pss_cons (ps_set (i := 2) sc_l_take.nd rfl (.inl rfl) (pe_op op_mod (pe_ix (ixLK (K := K) rfl) (pv 0) pe_int (fun _ _ => rfl)) (pv 1)))
      (pss_cons (ps_asg (pe_op op_fdiv (pe_ix (ixLK (K := K) rfl) (pv 0) pe_int (fun _ _ => rfl)) (pv 1)) (pg_sub (pv 0) pe_int set_list))
      (pss_one (ps_ret (pv 2)))))
      pss_nil)
      (pss_cons (ps_asg (pe_op op_add (pe_ix (ixLK (K := K) rfl) (pv 0) pe_int (fun _ _ => rfl)) pe_int) (pg_sub (pv 0) pe_int set_list))
      (pss_cons (ps_set (i := 3) sc_l_take.nd rfl (.inl rfl) (pe_ix (ixLK (K := K) rfl) (pv 0) pe_int (fun _ _ => rfl)))
      (pss_cons (ps_set (i := 4) sc_l_take.nd rfl (.inl rfl) (pe_op op_mod (pe_op op_pow (pe_op op_add (pe_op op_add (pe_ix (ixLK (K := K) rfl) (pv 0) pe_int (fun _ _ => rfl)) (pe_op op_mul (pe_op op_mul pe_int (pv 3)) (pv 3))) pe_int) pe_int) pe_int))
      (pss_cons (ps_set (i := 5) sc_l_take.nd rfl (.inl rfl) (pe_op op_mod (pe_op op_add (pe_op op_pow (pv 4) pe_int) (pe_op op_mul pe_int (pv 3))) pe_int))
      (pss_one (ps_ret (pe_op op_mod (pe_op op_fdiv (pe_op op_add (pe_op op_mul (pv 4) pe_int) (pe_op op_mul (pv 5) (pv 5))) pe_int) (pv 1))))))))), ?_⟩
    refine ⟨.ref p, rfl, p, _, 0, .int g, rfl, rfl, SqL.of hp, atI_nat (j := 0) rfl, g, 0, rfl, rfl, _, rfl, ite2 (fun e => ?_) (fun e => ?_)⟩
    · refine ⟨.ref p, rfl, p, _, 0, .int g, rfl, rfl, SqL.of hp, atI_nat (j := 0) rfl, .int m, rfl, g, m, rfl, rfl, hm, ?_⟩
      refine ⟨.ref p, rfl, p, _, 0, .int g, rfl, rfl, SqL.of hp, atI_nat (j := 0) rfl, .int m, rfl, g, m, rfl, rfl, ⟨hm, hm2⟩, .ref p, rfl, p, _, 0, 0, rfl, rfl, hp, rfl, ?_⟩
      refine ⟨.int (g % m), rfl, ?_⟩
      exact q _ _ (Int.emod_nonneg _ (by omega)) (Int.emod_lt_of_pos _ hm) ⟨g / m, b, k, upd_same, Int.ediv_nonneg hg (by omega), hb, hb2, by omega⟩ Fx.upd
    · have hp1 : (upd H p (.lst [.int g, .int b, .int ((k : Int) + 1)])) p = some (.lst [.int g, .int b, .int ((k : Int) + 1)]) := upd_same
      refine ⟨.ref p, rfl, p, _, 2, .int k, rfl, rfl, SqL.of hp, atI_nat (j := 2) rfl, k, 1, rfl, rfl, .ref p, rfl, p, _, 2, 2, rfl, rfl, hp, rfl, ?_⟩
      refine ⟨.ref p, rfl, p, _, 2, .int ((k : Int) + 1), rfl, rfl, SqL.of hp1, atI_nat (j := 2) rfl, ?_⟩
      have t0 : (0 : Int) ≤ (k : Int) + 1 := by omega
      have t1 : (k : Int) + 1 ≤ 1000000 := by omega
      have s1 : 0 ≤ 69621 * ((k : Int) + 1) ∧ 69621 * ((k : Int) + 1) ≤ 69621000000 := by omega
      have s2 : 0 ≤ 69621 * ((k : Int) + 1) * ((k : Int) + 1) := mul_nn s1.1 t0
      have s3 : 69621 * ((k : Int) + 1) * ((k : Int) + 1) ≤ 69621000000 * 1000000 := mul_le s1.1 s1.2 t0 t1
      refine ⟨.ref p, rfl, p, _, 1, .int b, rfl, rfl, SqL.of hp1, atI_nat (j := 1) rfl, .int ((k : Int) + 1), rfl, 69621, (k : Int) + 1, rfl, rfl, .inl ⟨by decide, by decide⟩, .int ((k : Int) + 1), rfl, 69621 * ((k : Int) + 1), (k : Int) + 1, rfl, rfl, .inl ⟨by omega, by omega⟩,
        b, 69621 * ((k : Int) + 1) * ((k : Int) + 1), rfl, rfl, b + 69621 * ((k : Int) + 1) * ((k : Int) + 1), 3, rfl, rfl, b + 69621 * ((k : Int) + 1) * ((k : Int) + 1) + 3, 3, rfl, rfl, ⟨by decide, by decide, natAbs_lt (by omega) (by omega)⟩,
        _, 2147483629, rfl, rfl, (show (0 : Int) < 2147483629 by decide), ?_⟩
      have o0 : 0 ≤ (b + 69621 * ((k : Int) + 1) * ((k : Int) + 1) + 3) ^ Int.toNat 3 % 2147483629 := Int.emod_nonneg _ (by decide)
      have o1 : (b + 69621 * ((k : Int) + 1) * ((k : Int) + 1) + 3) ^ Int.toNat 3 % 2147483629 < 2147483629 := Int.emod_lt_of_pos _ (by decide)
      dsimp only
      generalize (b + 69621 * ((k : Int) + 1) * ((k : Int) + 1) + 3) ^ Int.toNat 3 % 2147483629 = one at o0 o1 ⊢
      refine ⟨.int one, rfl, one, 3, rfl, rfl, ⟨by decide, by decide, natAbs_lt o0 (by omega)⟩, .int ((k : Int) + 1), rfl, 30011, (k : Int) + 1, rfl, rfl, .inl ⟨by decide, by decide⟩, _, _, rfl, rfl, _, 998244353, rfl, rfl, (show (0 : Int) < 998244353 by decide), ?_⟩
      have r0 : 0 ≤ (one ^ Int.toNat 3 + 30011 * ((k : Int) + 1)) % 998244353 := Int.emod_nonneg _ (by decide)
      have r1 : (one ^ Int.toNat 3 + 30011 * ((k : Int) + 1)) % 998244353 < 998244353 := Int.emod_lt_of_pos _ (by decide)
      dsimp only
      generalize (one ^ Int.toNat 3 + 30011 * ((k : Int) + 1)) % 998244353 = other at r0 r1 ⊢
      refine ⟨.int one, rfl, one, 998244353, rfl, rfl, .inl ⟨by omega, by omega⟩, .int other, rfl, .int other, rfl, other, other, rfl, rfl, .inl ⟨by omega, by omega⟩, _, _, rfl, rfl, _, 1013, rfl, rfl, (show (0 : Int) < 1013 ∧ (1013 : Int) < 1073741824 by decide), .int m, rfl, _, m, rfl, rfl, hm, ?_⟩
      exact q _ _ (Int.emod_nonneg _ (by omega)) (Int.emod_lt_of_pos _ hm) ⟨g, b, k + 1, upd_same, hg, hb, hb2, by omega⟩ Fx.upd

/-! ### _law_pool -/
def spPool (K : PySem.W.Frag) : Sp := fun vs H Q _ => ∃ (a : Addr) (ns : List Int) (j : Nat), vs = [.ref a, .int (j : Int)] ∧ SqL K H a (ns.map V.int) ∧ ns.length ≤ 63 ∧ j ≤ 1000 ∧
  ∀ (p : Addr) (H' : Hp), H p = none → Ex H H' → Pl H' p 0 → Q (.ref p) H'
set_option maxHeartbeats 4000000 in
theorem ok_l_pool (T : TX K mg A FD TK) : FnOk P w K mg base CX0 1 (A 20) (FD 20) ["_law_script", "_law_at"] (spPool K) := by
  refine T.f_l_pool.ok sc_l_pool (fun vs H Q E h => ?_) (fun cdv A' outer s H vs Q E hr h => ?_)
  · obtain ⟨a, ns, j, rfl, _⟩ := h
    rfl
  · obtain ⟨a, ns, j, rfl, hS, hn, hj, q⟩ := h
    refine ⟨_, (pss_cons (ps_set (i := 2) sc_l_pool.nd rfl (.inl rfl) pe_int)
      (pss_cut (ps_if (pt_cmpR op_lt (pv 1) (pe_callB (lenK (K := K) rfl) (by rfl) T.m_len (by decide +kernel) (pa_cons (pv 0) pa_nil)) (nomark _))
      (pss_one (ps_set (i := 2) sc_l_pool.nd rfl (.inl rfl) (pe_ix (ixLK (K := K) rfl) (pv 0) (pv 1) (fun _ _ => rfl))))
      pss_nil)
      (pss_cons (ps_set (i := 3) sc_l_pool.nd rfl (.inl rfl) (pe_callB call_abs (by rfl) T.m_abs (by decide +kernel) (pa_cons (pv 2) pa_nil)))
      (pss_one (ps_ret (pe_lst (pa_cons (pe_op op_mul (pv 3) (pe_callTy call_int1 (by rfl) T.m_int (by decide +kernel) (pa_cons (pe_cmpR op_ge (pv 3) (pe_op op_pow pe_int pe_int) (nomark _)) pa_nil))) (pa_cons (pe_op op_add (pe_op op_add (pe_op op_mul (pe_op op_mod (pv 2) pe_int) pe_int) (pe_op op_mul pe_int (pv 1))) pe_int) (pa_cons pe_int pa_nil))))))))), ?_⟩
    refine ⟨fun σ' H' => H' = H ∧ ∃ z : Int, σ' = [some (.ref a), some (.int (j : Int)), some (.int z), none], ?_, ?_⟩
    · refine ⟨.int (j : Int), rfl, .ref a, rfl, a, _, rfl, .inl hS, _, _, rfl, rfl, _, rfl, ite2 (fun e => ?_) (fun e => ?_)⟩
      · have e0 : (j : Int) < ((ns.map V.int).length : Int) := of_decide_eq_true e
        have e1 : j < ns.length := by
          rw [List.length_map] at e0
          omega
        refine ⟨.ref a, rfl, .int (j : Int), rfl, a, _, _, .int ns[j], rfl, rfl, hS, atI_nat (j := j) ?_, rfl, ns[j], rfl⟩
        rw [List.getElem?_map, List.getElem?_eq_getElem e1]
        rfl
      · exact ⟨rfl, 0, rfl⟩
    · rintro σ' H' ⟨rfl, z, rfl⟩
      refine ⟨.int z, rfl, z, rfl, ?_⟩
      have f0 : 0 ≤ (if z < 0 then -z else z) := by split <;> omega
      generalize (if z < 0 then -z else z) = far at f0 ⊢
      refine ⟨.int far, rfl, .int far, rfl, 10, 18, rfl, rfl, ⟨by decide, by decide, by decide⟩, far, _, rfl, rfl, .inr ⟨_, rfl, ?_⟩⟩
      generalize hd : decide ((10 : Int) ^ Int.toNat 18 ≤ far) = big
      have m0 : 0 ≤ z % 2147483647 := Int.emod_nonneg _ (by decide)
      have m1 : z % 2147483647 < 2147483647 := Int.emod_lt_of_pos _ (by decide)
      refine ⟨far, _, rfl, rfl, .inr ⟨?_, ?_⟩, ?_⟩
      · cases big <;> decide
      · cases big <;> decide
      refine ⟨.int z, rfl, z, 2147483647, rfl, rfl, (show (0 : Int) < 2147483647 by decide), ?_⟩
      dsimp only
      generalize z % 2147483647 = y at m0 m1 ⊢
      refine ⟨y, 48271, rfl, rfl, .inl ⟨by omega, by omega⟩, .int (j : Int), rfl, 7919, (j : Int), rfl, rfl, .inl ⟨by decide, by decide⟩, _, _, rfl, rfl, _, 31, rfl, rfl, (by show 3 ≤ sizeLine; decide), fun p np => ?_⟩
      refine q p _ np (ex_upd np) ⟨_, _, 0, upd_same, ?_, ?_, ?_, Nat.le_refl _⟩
      · cases big
        · show (0 : Int) ≤ far * 0
          omega
        · show (0 : Int) ≤ far * 1
          omega
      · omega
      · omega

/-! ### texts: words, pieces between blanks -/
/-- a word: one to twelve letters a to z -/
def isW (z : Str) : Bool := decide (1 ≤ z.cps.size) && decide (z.cps.size ≤ 12) && z.cps.toList.all fun c => decide (97 ≤ c) && decide (c ≤ 122)
def wordV : V → Bool
  | .str z => isW z
  | _ => false
/-- the things that are asked of -/
inductive Th (H : Hp) : V → Prop
  | str (z : Str) (h : z.length ≤ 100000) : Th H (.str z)
  | non : Th H .non
  | bl (b : Bool) : Th H (.bl b)
  | int (i : Int) : Th H (.int i)
  | lst {a : Addr} {xs : List V} (h : H a = some (.lst xs)) : Th H (.ref a)
  | tup {a : Addr} {xs : List V} (h : H a = some (.tup xs)) : Th H (.ref a)
theorem Th.ex {H H' : Hp} {v : V} (t : Th H v) (e : Ex H H') : Th H' v := by
  cases t with
  | str z h => exact .str z h
  | non => exact .non
  | bl b => exact .bl b
  | int i => exact .int i
  | lst h => exact .lst (e _ _ h)
  | tup h => exact .tup (e _ _ h)
theorem Th.exN {H H' : Hp} {v : V} (t : Th H v) (e : LamX.ExtN H H') : Th H' v := by
  cases t with
  | str z h => exact .str z h
  | non => exact .non
  | bl b => exact .bl b
  | int i => exact .int i
  | lst h => exact .lst (e _ _ h (by intro ps z; cases z))
  | tup h => exact .tup (e _ _ h (by intro ps z; cases z))
/-- a text, or a thing of another kind -/
theorem Th.kinds (K : PySem.W.Frag) {H : Hp} {v : V} (t : Th H v) : (∃ z, v = .str z ∧ z.length ≤ 100000) ∨ (∃ ty, TyX K H v (.type ty) ∧ kitB ty "str" = some false ∧ wordV v = false ∧ ∀ z, v ≠ .str z) := by
  cases t with
  | str z h => exact .inl ⟨z, rfl, h⟩
  | non => exact .inr ⟨_, .base .non, by decide +kernel, rfl, fun z e => by cases e⟩
  | bl b => exact .inr ⟨_, .base (.bl b), by decide +kernel, rfl, fun z e => by cases e⟩
  | int i => exact .inr ⟨_, .base (.int i), by decide +kernel, rfl, fun z e => by cases e⟩
  | lst h => exact .inr ⟨_, .base (.lst h), by decide +kernel, rfl, fun z e => by cases e⟩
  | tup h => exact .inr ⟨_, .base (.tup h), by decide +kernel, rfl, fun z e => by cases e⟩
theorem lt_one (a b : Nat) : decide (([a] : List Nat) < [b]) = decide (a < b) := by
  by_cases h : a < b
  · rw [decide_eq_true h]
    exact decide_eq_true (List.Lex.rel h)
  · rw [decide_eq_false h]
    refine decide_eq_false fun z => ?_
    cases z with
    | rel h' => exact h h'
    | cons h' => cases h'
theorem isW_len {z : Str} (h : isW z = true) : z.length ≤ 12 := by
  unfold isW at h
  rw [Bool.and_eq_true, Bool.and_eq_true, decide_eq_true_eq, decide_eq_true_eq] at h
  exact h.1.2
/-! ### split by a blank, joined again -/
theorem spl_len : ∀ (xs acc : List Nat), (spl [32] 0 acc xs).length ≤ xs.length + 1
  | [], acc => Nat.le_refl _
  | c :: r, acc => by
    rw [spl]
    split
    · have := spl_len r []
      show (spl [32] 0 [] r).length + 1 ≤ (c :: r).length + 1
      rw [List.length_cons]
      omega
    · have := spl_len r (acc ++ [c])
      rw [List.length_cons]
      omega
theorem spl_short : ∀ (xs acc : List Nat), ∀ p ∈ spl [32] 0 acc xs, p.length ≤ acc.length + xs.length
  | [], acc, p, h => by
    rw [spl, List.mem_singleton] at h
    rw [h]
    exact Nat.le_refl _
  | c :: r, acc, p, h => by
    rw [spl] at h
    split at h
    · rcases List.mem_cons.mp h with rfl | h
      · omega
      · have := spl_short r [] p h
        rw [List.length_nil] at this
        rw [List.length_cons]
        omega
    · have := spl_short r (acc ++ [c]) p h
      rw [List.length_append, List.length_cons, List.length_nil] at this
      rw [List.length_cons]
      omega
theorem spl_ne (xs acc : List Nat) : spl [32] 0 acc xs ≠ [] := by
  cases xs with
  | nil => rw [spl]; simp
  | cons c r =>
    rw [spl]
    split
    · simp
    · exact spl_ne r (acc ++ [c])
theorem joinL_cons {S p : List Nat} {q : List (List Nat)} (h : q ≠ []) : joinL S (p :: q) = p ++ (S ++ joinL S q) := by
  cases q with
  | nil => exact absurd rfl h
  | cons x r => rw [joinL]
theorem join_spl : ∀ (xs acc : List Nat), joinL [32] (spl [32] 0 acc xs) = acc ++ xs
  | [], acc => by
    rw [spl, joinL, List.append_nil]
  | c :: r, acc => by
    rw [spl]
    split
    · rename_i h
      have hc : c = 32 := by simpa [pre] using h
      show joinL [32] (acc :: spl [32] 0 [] r) = _
      rw [joinL_cons (spl_ne r []), join_spl r [], hc]
      simp
    · rw [join_spl r (acc ++ [c])]
      simp
theorem split_tl (z : Str) : (Txt.split z " ").map tl = spl [32] 0 [] (tl z) := split_spl z " " (by decide) (kind_ok (by decide +kernel))
theorem join_split (z : Str) : Txt.join " " (Txt.split z " ") = z := by
  refine ext_tl ?_
  rw [join_eq, tl_join, split_tl]
  exact (join_spl (tl z) []).trans (List.nil_append _)
theorem tl_len (z : Str) : (tl z).length = z.length := by
  show z.cps.toList.length = z.cps.size
  simp
theorem split_len (z : Str) : (Txt.split z " ").length ≤ z.length + 1 := by
  have h := spl_len (tl z) []
  rw [← split_tl, List.length_map, tl_len] at h
  exact h
theorem split_short {z p : Str} (h : p ∈ Txt.split z " ") : p.length ≤ z.length := by
  have h2 : tl p ∈ spl [32] 0 [] (tl z) := by
    rw [← split_tl]
    exact List.mem_map_of_mem h
  have h3 := spl_short _ _ _ h2
  rw [tl_len, tl_len, List.length_nil] at h3
  omega
/-- the words of a text, if it were one -/
def piecesOf (z : Str) : List Str := if z.length = 0 then [] else Txt.split z " "
def okP (ps : List Str) : Bool := decide (ps.length ≤ 120) && ps.all isW
theorem pieces_len (z : Str) : (piecesOf z).length ≤ z.length + 1 := by
  unfold piecesOf
  split
  · exact Nat.zero_le _
  · exact split_len z
theorem pieces_short {z p : Str} (h : p ∈ piecesOf z) : p.length ≤ z.length := by
  unfold piecesOf at h
  split at h
  · cases h
  · exact split_short h
theorem join_pieces (z : Str) : Txt.join " " (piecesOf z) = z := by
  unfold piecesOf
  split
  · rename_i h
    refine ext_tl ?_
    rw [join_eq, tl_join]
    have : tl z = [] := List.length_eq_zero_iff.mp (by rw [tl_len]; exact h)
    rw [this]
    rfl
  · exact join_split z
/-! ### lists of texts, compared -/
theorem isW_ok {z : Str} (h : isW z = true) : PyData.canLay0 (.str z) = true := by
  unfold isW at h
  rw [Bool.and_eq_true, List.all_eq_true] at h
  show z.cps.all (fun c => decide (c < 0x110000)) = true
  rw [← Array.all_toList, List.all_eq_true]
  intro c hc
  have := h.2 c hc
  rw [Bool.and_eq_true, decide_eq_true_eq, decide_eq_true_eq] at this
  exact decide_eq_true (by omega)
theorem dpS {K : PySem.W.Frag} {H : Hp} : ∀ zs : List Str, DpAll K H (zs.map V.str) (zs.map PyData.str)
  | [] => .nil
  | z :: r => .cons (.str z) (dpS r)
theorem shapeS {zs : List Str} (h : zs.all isW = true) : SeqAt.shaped (.list (zs.map PyData.str)) = true := by
  have h1 : ∀ zs : List Str, zs.all isW = true → PyData.canLayAll0 (zs.map PyData.str) = true := by
    intro zs
    induction zs with
    | nil => intro _; rfl
    | cons z r ih =>
      intro h
      rw [List.all_cons, Bool.and_eq_true] at h
      rw [List.map_cons, PyData.canLayAll0, isW_ok h.1, ih h.2]
      rfl
  have h2 : ∀ zs : List Str, PyData.depthAll (zs.map PyData.str) = 0 := by
    intro zs
    induction zs with
    | nil => rfl
    | cons z r ih =>
      rw [List.map_cons, PyData.depthAll, ih, PyData.depth]
      rfl
  unfold SeqAt.shaped
  rw [PyData.canLay0, PyData.depth, h1 zs h, h2 zs]
  rfl
theorem eqvS {zs : List Str} (h : zs.all isW = true) : PyData.eqv (.list (zs.map PyData.str)) (.list (zs.map PyData.str)) = true := by
  refine SeqAt.eqv_refl _ ?_
  have := shapeS h
  unfold SeqAt.shaped at this
  rw [Bool.and_eq_true] at this
  exact this.1
theorem no_str {x y : Str} {A B : Prop} (h : x ≠ y) (b : B) : if decide (V.str x = V.str y) = true then A else B := by
  rw [decide_eq_false fun z => h (V.str.inj z)]
  exact b
theorem yes_str {x : Str} {A B : Prop} (a : A) : if decide (V.str x = V.str x) = true then A else B := by
  rw [decide_eq_true rfl]
  exact a
theorem yes_le {c A B : Prop} [Decidable c] (h : c) (a : A) : if decide c = true then A else B := by
  rw [decide_eq_true h]
  exact a
theorem no_le {c A B : Prop} [Decidable c] (h : ¬ c) (b : B) : if decide c = true then A else B := by
  rw [decide_eq_false h]
  exact b
theorem joinL_len (S : List Nat) : ∀ ps : List (List Nat), (joinL S ps).length ≤ (ps.map List.length).sum + ps.length * S.length
  | [] => Nat.zero_le _
  | [p] => by
    rw [joinL, List.map_cons, List.sum_cons, List.map_nil, List.sum_nil]
    omega
  | p :: q :: r => by
    have ih := joinL_len S (q :: r)
    rw [joinL, List.length_append, List.length_append, List.map_cons, List.sum_cons, List.length_cons, Nat.add_mul, Nat.one_mul]
    omega
theorem join_len (y : Str) (ps : List Str) : (Txt.join y ps).length ≤ (ps.map (·.length)).sum + ps.length * y.length := by
  have h := joinL_len (tl y) (ps.map tl)
  rw [← tl_join, ← join_eq, tl_len, tl_len, List.length_map, List.map_map] at h
  rw [show (ps.map (·.length)) = ps.map (List.length ∘ tl) from List.map_congr_left fun p _ => (tl_len p).symm]
  exact h
theorem sum_le {ps : List Str} {n : Nat} (h : ∀ p ∈ ps, p.length ≤ n) : (ps.map (·.length)).sum ≤ ps.length * n := by
  induction ps with
  | nil => simp
  | cons p r ih =>
    have h1 := h p (List.mem_cons_self ..)
    have h2 := ih fun x hx => h x (List.mem_cons_of_mem _ hx)
    rw [List.map_cons, List.sum_cons, List.length_cons, Nat.add_mul, Nat.one_mul]
    omega

/-! ### is_whole, is_within, is_word, are_words -/
/-- a word: one to twelve letters a to z -/
def spWholeI : Sp := fun vs H Q _ => ∃ i : Int, vs = [.int i] ∧ RetV (.bl true) H Q
theorem ok_is_whole (T : TX K mg A FD TK) : FnOk P w K mg base CX0 1 (A 6) (FD 6) ["thing"] spWholeI := by
  refine T.f_is_whole.ok sc_is_whole (fun vs H Q E h => ?_) (fun cdv A' outer s H vs Q E hr h => ?_)
  · obtain ⟨i, rfl, _⟩ := h
    rfl
  · obtain ⟨i, rfl, q⟩ := h
    refine ⟨_, (pss_one (ps_ret (pe_and (pe_callB (isiK (K := K) rfl) (by rfl) T.m_isinstance (by decide +kernel) (pa_cons (pv 0) (pa_cons (pe_bltn (v := .ty "int") (by rfl) T.m_int (by decide +kernel) rfl) pa_nil))) (pe_one (pe_not (pe_callB (isiK (K := K) rfl) (by rfl) T.m_isinstance (by decide +kernel) (pa_cons (pv 0) (pa_cons (pe_bltn (v := .ty "bool") (by rfl) T.m_bool (by decide +kernel) rfl) pa_nil)))))))), ?_⟩
    refine ⟨.int i, rfl, .int i, .ty "int", .type "int", .type "int", true, rfl, .ty _, .base (.int i), kit_ty (by decide +kernel), true, rfl, iteT ?_⟩
    exact ⟨.int i, rfl, .int i, .ty "bool", .type "int", .type "bool", false, rfl, .ty _, .base (.int i), kit_ty (by decide +kernel), false, rfl, ret_v q⟩
def spWithinI : Sp := fun vs H Q _ => ∃ i lo hi : Int, vs = [.int i, .int lo, .int hi] ∧ RetV (.bl (decide (lo ≤ i) && decide (i ≤ hi))) H Q
theorem ok_is_within (T : TX K mg A FD TK) : FnOk P w K mg base CX0 2 (A 7) (FD 7) ["thing", "least", "most"] spWithinI := by
  have G_is_whole := ok_is_whole (P := P) (w := w) (base := base) T
  refine T.f_is_within.ok sc_is_within (fun vs H Q E h => ?_) (fun cdv A' outer s H vs Q E hr h => ?_)
  · obtain ⟨i, lo, hi, rfl, _⟩ := h
    rfl
  · obtain ⟨i, lo, hi, rfl, q⟩ := h
    refine ⟨_, (pss_one (ps_ret (pe_and (pe_call G_is_whole hr (by rfl) T.g_is_whole T.f_is_whole.kp T.b_is_whole .nil pass0 (pa_cons (pv 0) pa_nil)) (pe_one (pe_chain op_le op_le (pv 1) (pv 0) (pv 2)))))), ?_⟩
    refine ⟨.int i, rfl, i, rfl, fun H1 e1 => ⟨true, rfl, iteT ?_⟩⟩
    refine ⟨.int lo, rfl, .int i, rfl, lo, i, rfl, rfl, _, rfl, ite2 (fun c => ?_) (fun c => ?_)⟩
    · refine ⟨.int hi, rfl, i, hi, rfl, rfl, ?_⟩
      have z := q.go e1
      rw [c, Bool.true_and] at z
      exact z
    · have z := q.go e1
      rw [Bool.eq_false_iff.mpr c, Bool.false_and] at z
      exact z
def spWordS : Sp := fun vs H Q _ => ∃ z : Str, vs = [.str z] ∧ z.length ≤ 100000 ∧ RetV (.bl (isW z)) H Q
set_option maxHeartbeats 4000000 in
theorem ok_is_word (T : TX K mg A FD TK) : FnOk P w K mg base CX0 1 (A 11) (FD 11) ["thing"] spWordS := by
  refine T.f_is_word.ok sc_is_word (fun vs H Q E h => ?_) (fun cdv A' outer s H vs Q E hr h => ?_)
  · obtain ⟨z, rfl, _⟩ := h
    rfl
  · obtain ⟨z, rfl, hz, q⟩ := h
    refine ⟨_, (pss_cons (ps_if (PW.pt (pw_or (pt_not (pt_val (pe_callB (isiK (K := K) rfl) (by rfl) T.m_isinstance (by decide +kernel) (pa_cons (pv 0) (pa_cons (pe_bltn (v := .ty "str") (by rfl) T.m_str (by decide +kernel) rfl) pa_nil))))) (pw_or1 (pt_not (pt_chain op_le op_le pe_int (pe_callB call_len_str (by rfl) T.m_len (by decide +kernel) (pa_cons (pv 0) pa_nil)) (pe_glob (v := .int 12) (by rfl) T.c_MOST_LETTERS ⟨_, rfl⟩))))))
      (pss_one (ps_ret pe_bl))
      pss_nil)
      (pss_one (ps_ret (pe_callB (allK (K := K) rfl rfl) (by rfl) T.m_all (by decide +kernel) (pa_cons (pe_lc (own := [("sign", 1)])  rfl sc_is_word.nd (pi_str (pv 0)) (blkOk_by (own := [("sign", 1)]) (N := N_is_word) (sc := defScope (topS 11)) (by decide +kernel)) (fun _ _ _ _ _ => (pg_name (i := 1) sc_is_word.nd rfl (Or.inl rfl))) (fun _ _ _ _ _ => pts_nil) (fun _ _ _ _ _ => (pe_chain op_le_str op_le_str pe_str (pv 1) pe_str))) pa_nil))))), ?_⟩
    refine ⟨.str z, rfl, .str z, .ty "str", .type "str", .type "str", true, rfl, .ty _, .base (.str z), kit_ty (by decide +kernel), true, rfl, iteF ?_⟩
    have no : ¬ (decide ((1 : Int) ≤ (z.length : Int)) = true ∧ decide ((z.length : Int) ≤ 12) = true) → isW z = false := fun h => by
      unfold isW
      have e : z.length = z.cps.size := rfl
      by_cases h1 : 1 ≤ z.cps.size
      · by_cases h2 : z.cps.size ≤ 12
        · exact absurd ⟨decide_eq_true (by omega), decide_eq_true (by omega)⟩ h
        · rw [decide_eq_false h2, Bool.and_false, Bool.false_and]
      · rw [decide_eq_false h1, Bool.false_and, Bool.false_and]
    refine ⟨.str z, rfl, z, rfl, sz hz, 1, (z.length : Int), rfl, rfl, _, rfl, ite2 (fun c1 => ?_) (fun c1 => ?_)⟩
    · refine ⟨(z.length : Int), 12, rfl, rfl, _, rfl, ?_⟩
      by_cases c2 : (z.length : Int) ≤ 12
      · rw [decide_eq_true c2]
        refine iteF ?_
        have e : z.length = z.cps.size := rfl
        have c1' : (1 : Int) ≤ (z.length : Int) := of_decide_eq_true c1
        refine ⟨.str z, rfl, z, rfl, fun D hD => ?_⟩
        refine lc_it (walk_str (z := z)) (fun i H' => Ex H H' ∧ H' D = some (.lst ((z.cps.toList.take i).map fun c => .bl (decide (97 ≤ c) && decide (c ≤ 122))))) ⟨Ex.new hD, upd_same⟩ (fun _ _ _ _ => True.intro) (fun i x H1 H2 hi p y => ?_) (fun H1 p => ?_)
        · obtain ⟨p1, p2⟩ := p
          obtain ⟨rfl, c, hc, rfl⟩ := y
          have g : z.cps.toList[i]? = some c := by
            rw [Array.getElem?_toList]
            exact hc
          have stepE : (z.cps.toList.take (i + 1)).map (fun c => V.bl (decide (97 ≤ c) && decide (c ≤ 122))) = (z.cps.toList.take i).map (fun c => V.bl (decide (97 ≤ c) && decide (c ≤ 122))) ++ [V.bl (decide (97 ≤ c) && decide (c ≤ 122))] := by
            rw [List.take_add_one, g, List.map_append]
            rfl
          have lenE : ((z.cps.toList.take i).map (fun c => V.bl (decide (97 ≤ c) && decide (c ≤ 122)))).length < sizeLine := by
            rw [List.length_map, List.length_take]
            refine sz_lt ?_
            have : z.cps.toList.length = z.cps.size := by simp
            omega
          refine ⟨rfl, .str ⟨#[c]⟩, rfl, _, _, rfl, rfl, _, rfl, ?_⟩
          have e1 : (!decide (((⟨#[c]⟩ : Str).cps.toList) < (Str.ofString "a").cps.toList)) = decide (97 ≤ c) := by
            show (!decide ([c] < [97])) = _
            rw [lt_one]
            by_cases h : 97 ≤ c
            · rw [decide_eq_true h, decide_eq_false (by omega)]
              rfl
            · rw [decide_eq_false h, decide_eq_true (by omega)]
              rfl
          have e2 : (!decide ((Str.ofString "z").cps.toList < (⟨#[c]⟩ : Str).cps.toList)) = decide (c ≤ 122) := by
            show (!decide ([122] < [c])) = _
            rw [lt_one]
            by_cases h : c ≤ 122
            · rw [decide_eq_true h, decide_eq_false (by omega)]
              rfl
            · rw [decide_eq_false h, decide_eq_true (by omega)]
              rfl
          refine ite2 (fun b1 => ?_) (fun b1 => ?_)
          · refine ⟨_, _, rfl, rfl, _, p2, lenE, Ex.mut p1 hD, ?_⟩
            rw [upd_same, stepE, ← e1, ← e2, b1, Bool.true_and]
          · refine ⟨_, p2, lenE, Ex.mut p1 hD, ?_⟩
            rw [upd_same, stepE, ← e1, Bool.eq_false_iff.mpr b1, Bool.false_and]
        · obtain ⟨p1, p2⟩ := p
          refine ⟨D, (z.cps.toList.map fun c => (decide (97 ≤ c) && decide (c ≤ 122))), rfl, SqL.of ?_, ?_⟩
          · rw [p2, List.take_of_length_le (by simp), List.map_map]
            rfl
          · have v := q.go p1
            have ev : isW z = ((z.cps.toList.map fun c => (decide (97 ≤ c) && decide (c ≤ 122))).all id) := by
              unfold isW
              rw [decide_eq_true (by omega), decide_eq_true (by omega), List.all_map]
              rfl
            rw [ev] at v
            exact v
      · rw [decide_eq_false c2]
        refine iteT ?_
        have v := ret_v q
        rw [no (fun h => c2 (of_decide_eq_true h.2))] at v
        exact v
    · have v := ret_v q
      rw [no (fun h => c1 h.1)] at v
      exact ⟨false, rfl, v⟩
/-- a list or a tuple of texts -/
def spWordsT (K : PySem.W.Frag) : Sp := fun vs H Q _ => ∃ (a : Addr) (zs : List Str), vs = [.ref a] ∧ (SqL K H a (zs.map V.str) ∨ SqT K H a (zs.map V.str)) ∧ zs.length ≤ 1000 ∧ (∀ z ∈ zs, z.length ≤ 100000) ∧ RetV (.bl (zs.all isW)) H Q
set_option maxHeartbeats 4000000 in
theorem ok_are_words (T : TX K mg A FD TK) : FnOk P w K mg base CX0 2 (A 12) (FD 12) ["things"] (spWordsT K) := by
  have G_is_word := ok_is_word (P := P) (w := w) (base := base) T
  refine T.f_are_words.ok sc_are_words (fun vs H Q E h => ?_) (fun cdv A' outer s H vs Q E hr h => ?_)
  · obtain ⟨a, zs, rfl, _⟩ := h
    rfl
  · obtain ⟨a, zs, rfl, hS, hl, hz, q⟩ := h
    refine ⟨_, (pss_one (ps_ret (pe_callB (allK (K := K) rfl rfl) (by rfl) T.m_all (by decide +kernel) (pa_cons (pe_lc (own := [("thing", 1)])  rfl sc_are_words.nd (piOr (piLK (K := K) rfl (pv 0)) (piTK (K := K) rfl (pv 0))) (blkOk_by (own := [("thing", 1)]) (N := N_are_words) (sc := defScope (topS 12)) (by decide +kernel)) (fun _ _ _ _ _ => (pg_name (i := 1) sc_are_words.nd rfl (Or.inl rfl))) (fun _ _ _ _ _ => pts_nil) (fun _ _ _ _ _ => (pe_call G_is_word hr (by rfl) T.g_is_word T.f_is_word.kp T.b_is_word .nil pass0 (pa_cons (pv 1) pa_nil)))) pa_nil)))), ?_⟩
    have fin : ∀ D H1, Ex H H1 → H1 D = some (.lst ((zs.take zs.length).map fun z => .bl (isW z))) → ∃ (p : Addr) (bs : List Bool), [V.ref D] = [V.ref p] ∧ SqL K H1 p (bs.map V.bl) ∧ Q (.bl (bs.all id)) H1 := fun D H1 p1 p2 => by
      refine ⟨D, zs.map isW, rfl, SqL.of ?_, ?_⟩
      · rw [p2, List.take_of_length_le (Nat.le_refl _), List.map_map]
        rfl
      · have v := q.go p1
        rw [show ((zs.map isW).all id) = zs.all isW by rw [List.all_map]; rfl]
        exact v
    have step : ∀ (D : Addr) (i : Nat) (x : V) (H1 : Hp), H D = none → (zs.map V.str)[i]? = some x → Ex H H1 ∧ H1 D = some (.lst ((zs.take i).map fun z => .bl (isW z))) → ∃ z, x = .str z ∧ z.length ≤ 100000 ∧ ∀ H2, Ex H1 H2 → ∃ acc, H2 D = some (.lst acc) ∧ acc.length < sizeLine ∧ Ex H (upd H2 D (.lst (acc ++ [.bl (isW z)]))) ∧ (upd H2 D (.lst (acc ++ [.bl (isW z)]))) D = some (.lst ((zs.take (i + 1)).map fun z => .bl (isW z))) := fun D i x H1 hD hx p => by
      obtain ⟨p1, p2⟩ := p
      rw [List.getElem?_map] at hx
      obtain ⟨z, g, rfl⟩ := Option.map_eq_some_iff.mp hx
      refine ⟨z, rfl, hz z (List.mem_of_getElem? g), fun H2 e2 => ⟨_, e2 _ _ p2, ?_, Ex.mut (p1.trans e2) hD, ?_⟩⟩
      · rw [List.length_map, List.length_take]
        exact sz_lt (by omega)
      · rw [upd_same, List.take_add_one, g, List.map_append]
        rfl
    rcases hS with hS | hS
    · refine .inl ⟨.ref a, rfl, a, rfl, ⟨_, hS⟩, fun D hD => ?_⟩
      refine lc_list (xs := zs.map V.str) (fun i H' => Ex H H' ∧ H' D = some (.lst ((zs.take i).map fun z => .bl (isW z)))) ⟨Ex.new hD, upd_same⟩ (fun i H' _ p => ex_l p.1 hS) (fun i x H1 hx p => ?_) (fun H1 p => ?_)
      · obtain ⟨z, rfl, hz', k⟩ := step D i x H1 hD hx p
        exact ⟨rfl, .str z, rfl, z, rfl, hz', fun H2 e2 => k H2 e2⟩
      · rw [List.length_map] at p
        exact fin D H1 p.1 p.2
    · refine .inr ⟨.ref a, rfl, a, rfl, ⟨_, hS⟩, fun D hD => ?_⟩
      refine lc_tup (xs := zs.map V.str) (fun i H' => Ex H H' ∧ H' D = some (.lst ((zs.take i).map fun z => .bl (isW z)))) ⟨Ex.new hD, upd_same⟩ (fun i H' _ p => ex_t p.1 hS) (fun i x H1 hx p => ?_) (fun H1 p => ?_)
      · obtain ⟨z, rfl, hz', k⟩ := step D i x H1 hD hx p
        exact ⟨rfl, .str z, rfl, z, rfl, hz', fun H2 e2 => k H2 e2⟩
      · rw [List.length_map] at p
        exact fin D H1 p.1 p.2

/-! ### words joined by blanks -/
theorem no32 {z : Str} (h : isW z = true) : 32 ∉ tl z := fun m => by
  unfold isW at h
  rw [Bool.and_eq_true, List.all_eq_true] at h
  have := h.2 32 m
  revert this
  decide
theorem isW_one {z : Str} (h : isW z = true) : 1 ≤ z.length := by
  unfold isW at h
  rw [Bool.and_eq_true, Bool.and_eq_true, decide_eq_true_eq, decide_eq_true_eq] at h
  exact h.1.1
theorem pieces_join {zs : List Str} (h : zs.all isW = true) : piecesOf (Txt.join " " zs) = zs := by
  cases zs with
  | nil => decide +kernel
  | cons z r =>
    have h1 : isW z = true := by
      rw [List.all_cons, Bool.and_eq_true] at h
      exact h.1
    have h2 : ¬ (Txt.join " " (z :: r)).length = 0 := by
      have e : (tl (Txt.join " " (z :: r))).length = (Txt.join " " (z :: r)).length := tl_len _
      rw [join_eq, tl_join] at e
      have l1 := isW_one h1
      rw [← tl_len] at l1
      intro e0
      rw [join_eq] at e0
      rw [e0, List.map_cons] at e
      cases r with
      | nil =>
        have e : (tl z).length = 0 := e
        omega
      | cons y t =>
        rw [List.map_cons, joinL, List.length_append] at e
        omega
    unfold piecesOf
    rw [if_neg h2]
    exact split_join (y := " ") (s := 32) (S := []) (by decide +kernel) (by decide +kernel) (by simp) fun p hp => no32 (List.all_eq_true.mp h p hp)
theorem len_sum (zs : List Str) (h : zs.all isW = true) : (zs.map (·.length)).sum ≤ 12 * zs.length := by
  induction zs with
  | nil => exact Nat.le_refl _
  | cons z r ih =>
    rw [List.all_cons, Bool.and_eq_true] at h
    have := ih h.2
    have := isW_len h.1
    rw [List.map_cons, List.sum_cons, List.length_cons]
    omega
theorem eqvAllS : ∀ zs ys : List Str, PyData.eqvAll (zs.map PyData.str) (ys.map PyData.str) = decide (zs = ys)
  | [], [] => by simp [PyData.eqvAll]
  | [], y :: ys => by simp [PyData.eqvAll]
  | z :: zs, [] => by simp [PyData.eqvAll]
  | z :: zs, y :: ys => by
    rw [List.map_cons, List.map_cons, PyData.eqvAll, eqvAllS zs ys, PyData.eqv]
    by_cases h1 : z = y
    · subst h1
      by_cases h2 : zs = ys
      · simp [h2]
      · simp [h2]
    · rw [show (z == y) = false from beq_eq_false_iff_ne.mpr h1, Bool.false_and]
      simp [h1]
theorem eqvL2 (zs ys : List Str) : PyData.eqv (.list (zs.map PyData.str)) (.list (ys.map PyData.str)) = decide (zs = ys) := by
  rw [PyData.eqv]
  exact eqvAllS zs ys
theorem eqvT2 (zs ys : List Str) : PyData.eqv (.tuple (zs.map PyData.str)) (.tuple (ys.map PyData.str)) = decide (zs = ys) := by
  rw [PyData.eqv]
  exact eqvAllS zs ys
theorem shapeT {zs : List Str} (h : zs.all isW = true) : SeqAt.shaped (.tuple (zs.map PyData.str)) = true := by
  have := shapeS h
  unfold SeqAt.shaped at this ⊢
  rw [show PyData.canLay0 (.tuple (zs.map PyData.str)) = PyData.canLay0 (.list (zs.map PyData.str)) by simp only [PyData.canLay0], show PyData.depth (.tuple (zs.map PyData.str)) = PyData.depth (.list (zs.map PyData.str)) by simp only [PyData.depth]]
  exact this
/-- signs that stand for themselves -/
theorem plain_sign : ∀ c, c < 123 → (c = 32 ∨ 97 ≤ c) → Builtin.Str.reprChar 39 c = [c] := by decide +kernel
theorem foldl_plain : ∀ (l : List Nat) (acc : Array Nat), (∀ c ∈ l, c = 32 ∨ (97 ≤ c ∧ c ≤ 122)) → l.foldl (fun out c => out ++ (Builtin.Str.reprChar 39 c).toArray) acc = acc ++ l.toArray
  | [], acc, _ => by simp
  | c :: r, acc, h => by
    have hc := h c (List.mem_cons_self ..)
    rw [List.foldl_cons, plain_sign c (by omega) (by omega), foldl_plain r _ fun d hd => h d (List.mem_cons_of_mem _ hd)]
    simp
theorem mem_joinL {c s : Nat} : ∀ {ps : List (List Nat)}, c ∈ joinL [s] ps → c = s ∨ ∃ p ∈ ps, c ∈ p
  | [], h => by cases h
  | [p], h => .inr ⟨p, List.mem_cons_self .., h⟩
  | p :: q :: r, h => by
    rw [joinL] at h
    rcases List.mem_append.mp h with h | h
    · exact .inr ⟨p, List.mem_cons_self .., h⟩
    · rcases List.mem_append.mp h with h | h
      · exact .inl (List.mem_singleton.mp h)
      · rcases mem_joinL h with h | ⟨x, hx, h⟩
        · exact .inl h
        · exact .inr ⟨x, List.mem_cons_of_mem _ hx, h⟩
theorem join_plain {zs : List Str} (h : zs.all isW = true) : ∀ c ∈ tl (Txt.join " " zs), c = 32 ∨ (97 ≤ c ∧ c ≤ 122) := by
  intro c hc
  rw [join_eq, tl_join] at hc
  rcases mem_joinL (s := 32) hc with h2 | ⟨p, hp, h2⟩
  · exact .inl h2
  · obtain ⟨z, hz, rfl⟩ := List.mem_map.mp hp
    have w := List.all_eq_true.mp h z hz
    unfold isW at w
    rw [Bool.and_eq_true, List.all_eq_true] at w
    have := w.2 c h2
    rw [Bool.and_eq_true, decide_eq_true_eq, decide_eq_true_eq] at this
    exact .inr this
theorem repr_join {zs : List Str} (h : zs.all isW = true) : reprText (Txt.join " " zs) = Str.ofString "'" ++ Txt.join " " zs ++ Str.ofString "'" := by
  have hp := join_plain h
  generalize Txt.join " " zs = z at hp ⊢
  have hq : reprQuote z = 39 := by
    unfold reprQuote
    have : z.cps.contains 39 = false := by
      rw [Bool.eq_false_iff]
      intro hc
      have := hp 39 (by
        show 39 ∈ z.cps.toList
        simpa using hc)
      omega
    rw [this, Bool.false_and]
    rfl
  refine ext_tl ?_
  unfold reprText
  rw [hq]
  show ((z.cps.foldl (fun out c => out ++ (Builtin.Str.reprChar 39 c).toArray) #[39]).push 39).toList = _
  rw [← Array.foldl_toList, foldl_plain _ _ hp]
  show _ = (Str.ofString "'" ++ z ++ Str.ofString "'").cps.toList
  show _ = ((Str.ofString "'").cps ++ z.cps ++ (Str.ofString "'").cps).toList
  rw [show (Str.ofString "'").cps = #[39] by decide +kernel]
  simp
theorem join_le {zs : List Str} (h : zs.all isW = true) (hl : zs.length ≤ 120) : (Txt.join " " zs).length ≤ 1560 := by
  have h1 := join_len " " zs
  have h2 := len_sum zs h
  rw [show (Str.ofString " ").length = 1 by decide +kernel] at h1
  omega

/-! ### _law_kinds -/
def nine : List Str := ["a", "b", "ab", "ba", "aa", "bab", "abcdefghijkl", "z", "aab"]
theorem nineW : (nine ++ nine).all isW = true := by decide +kernel
theorem nine_cut (j k : Nat) (hj : j < 9) (hk : k < 5) : ∃ zs : List Str, cutV (nine.map V.str ++ nine.map V.str) (some (j : Int)) (some ((j : Int) + 1 + (k : Int))) = zs.map V.str ∧ 1 ≤ zs.length ∧ zs.length ≤ 5 ∧ zs.all isW = true := by
  refine ⟨((nine ++ nine).drop j).take (1 + k), ?_, ?_, ?_, ?_⟩
  · unfold cutV
    rw [show ((j : Int) + 1 + (k : Int)) = ((j + 1 + k : Nat) : Int) by omega, HT.sIx_nat, HT.sIx_nat, ← List.map_append, List.length_map]
    rw [show (nine ++ nine).length = 18 from rfl, show min j 18 = j by omega, show min (j + 1 + k) 18 - j = 1 + k by omega, List.map_take, List.map_drop]
  · rw [List.length_take, List.length_drop, show (nine ++ nine).length = 18 from rfl]
    omega
  · rw [List.length_take, List.length_drop, show (nine ++ nine).length = 18 from rfl]
    omega
  · rw [List.all_eq_true]
    intro x hx
    exact List.all_eq_true.mp nineW x (List.mem_of_mem_drop (List.mem_of_mem_take hx))
/-- a list of one to five words at a -/
def Kn (H : Hp) (a : Addr) (zs : List Str) : Prop := H a = some (.lst (zs.map V.str)) ∧ 1 ≤ zs.length ∧ zs.length ≤ 5 ∧ zs.all isW = true
theorem Kn.ne {H : Hp} {a p : Addr} {zs : List Str} {c : Nat} (h : Kn H a zs) (hp : Pl H p c) : a ≠ p := by
  obtain ⟨g, b, k, h1, _⟩ := hp
  obtain ⟨h2, h3, _⟩ := h
  refine ne_of h2 h1 fun z => ?_
  cases zs with
  | nil => simp at h3
  | cons x r =>
    injection z with z
    rw [List.map_cons] at z
    injection z with z _
    cases z
theorem Kn.fx {H H' : Hp} {a p : Addr} {zs : List Str} {c : Nat} (h : Kn H a zs) (hp : Pl H p c) (f : Fx p H H') : Kn H' a zs := ⟨f a _ (h.ne hp) h.1, h.2⟩
theorem Kn.ex {H H' : Hp} {a : Addr} {zs : List Str} (h : Kn H a zs) (e : Ex H H') : Kn H' a zs := ⟨e _ _ h.1, h.2⟩
def spKinds : Sp := fun vs H Q _ => ∃ (p : Addr) (c : Nat), vs = [.ref p] ∧ Pl H p c ∧ c < 900000 ∧ ∀ (l : Addr) (zs : List Str) (H' : Hp), H l = none → Kn H' l zs → Pl H' p (c + 2) → Fx p H H' → Q (.ref l) H'
set_option maxHeartbeats 8000000 in
theorem ok_l_kinds (T : TX K mg A FD TK) : FnOk P w K mg base CX0 2 (A 22) (FD 22) ["_law_pool_here"] spKinds := by
  have G_l_take := ok_l_take (P := P) (w := w) (base := base) T
  refine T.f_l_kinds.ok (k := 1) sc_l_kinds (fun vs H Q E h => ?_) (fun cdv A' outer s H vs Q E hr h => ?_)
  · obtain ⟨p, c, rfl, _⟩ := h
    rfl
  · obtain ⟨p, c, rfl, hp, hc, q⟩ := h
    refine ⟨_, (pss_cons (ps_set (i := 1) sc_l_kinds.nd rfl (.inl rfl) (pe_lst (pa_cons pe_str (pa_cons pe_str (pa_cons pe_str (pa_cons pe_str (pa_cons pe_str (pa_cons pe_str (pa_cons pe_str (pa_cons pe_str (pa_cons pe_str pa_nil)))))))))))
      (pss_cons (ps_set (i := 2) sc_l_kinds.nd rfl (.inl rfl) (pe_call G_l_take hr (by rfl) T.g_l_take T.f_l_take.kp T.b_l_take .nil pass0 (pa_cons (pv 0) (pa_cons pe_int pa_nil))))
      (pss_one (ps_ret (pe_slice (slLK (K := K) rfl) (pe_op op_cat (pv 1) (pv 1)) (po_some (pv 2)) (po_some (pe_op op_add (pe_op op_add (pv 2) pe_int) (pe_call G_l_take hr (by rfl) T.g_l_take T.f_l_take.kp T.b_l_take .nil pass0 (pa_cons (pv 0) (pa_cons pe_int pa_nil)))))))))), ?_⟩
    refine ⟨by show 9 ≤ sizeLine; decide, fun s0 n0 => ?_⟩
    have e1 : Ex H (upd H s0 (.lst (nine.map V.str))) := Ex.new n0
    have hs1 : (upd H s0 (.lst (nine.map V.str))) s0 = some (.lst (nine.map V.str)) := upd_same
    have nsp : s0 ≠ p := by
      obtain ⟨xs, hx⟩ := hp.some
      exact (ne_of_none hx n0).symm
    refine ⟨.ref p, rfl, p, 9, c, rfl, hp.ex e1, by decide, by decide, by omega, fun d H2 d0 d1 hp2 f2 => ?_⟩
    have hs2 : H2 s0 = some (.lst (nine.map V.str)) := f2 _ _ nsp hs1
    refine ⟨.ref s0, rfl, .ref s0, rfl, s0, s0, _, _, rfl, rfl, hs2, hs2, by show 18 ≤ sizeLine; decide, fun r nr => ?_⟩
    have e3 : Ex H2 (upd H2 r (.lst (nine.map V.str ++ nine.map V.str))) := Ex.new nr
    have hr3 : (upd H2 r (.lst (nine.map V.str ++ nine.map V.str))) r = some (.lst (nine.map V.str ++ nine.map V.str)) := upd_same
    have nrp : r ≠ p := by
      obtain ⟨xs, hx⟩ := hp2.some
      exact (ne_of_none hx nr).symm
    refine ⟨.int d, rfl, d, rfl, .int d, rfl, d, 1, rfl, rfl, .ref p, rfl, p, 5, c + 1, rfl, hp2.ex e3, by decide, by decide, by omega, fun k H4 k0 k1 hp4 f4 => ?_⟩
    refine ⟨d + 1, k, rfl, rfl, d + 1 + k, rfl, r, _, rfl, SqL.of (f4 _ _ nrp hr3), fun l nl => ?_⟩
    obtain ⟨j, rfl⟩ := Int.eq_ofNat_of_zero_le d0
    obtain ⟨i, rfl⟩ := Int.eq_ofNat_of_zero_le k0
    obtain ⟨zs, ez, l1, l5, hw⟩ := nine_cut j i (by omega) (by omega)
    have fr : Fx p H H4 := ((Fx.ex e1).trans f2).trans ((Fx.ex e3).trans f4)
    refine q l zs _ (fx_free fr hp4 nl) ⟨?_, l1, l5, hw⟩ (hp4.ex (Ex.new nl)) (fr.trans (Fx.ex (Ex.new nl)))
    rw [upd_same, ez]

/-! ### _law_words, of any most -/
theorem pool_ne {H : Hp} {p a : Addr} {c : Nat} (h : Pl H p c) (n : H a = none) : a ≠ p := by
  obtain ⟨xs, hx⟩ := h.some
  exact (ne_of_none hx n).symm
theorem pl_upd {H : Hp} {p a : Addr} {c : Nat} {o : HO} (h : Pl H p c) (n : a ≠ p) : Pl (upd H a o) p c := by
  obtain ⟨g, b, k, x1, x2⟩ := h
  exact ⟨g, b, k, by rw [upd_ne n.symm]; exact x1, x2⟩
theorem at_word {zs : List Str} {d : Int} (h0 : 0 ≤ d) (h1 : d < (zs.length : Int)) (hw : zs.all isW = true) : ∃ z : Str, atI (zs.map V.str) d = some (.str z) ∧ isW z = true := by
  obtain ⟨j, rfl⟩ := Int.eq_ofNat_of_zero_le h0
  have hj : j < zs.length := by omega
  refine ⟨zs[j], atI_nat ?_, List.all_eq_true.mp hw _ (List.getElem_mem hj)⟩
  rw [List.getElem?_map, List.getElem?_eq_getElem hj]
  rfl
def spWordsK : Sp := fun vs H Q _ => ∃ (p kk : Addr) (zs : List Str) (c m : Nat), vs = [.ref p, .ref kk, .int (m : Int)] ∧ m ≤ 100 ∧ Pl H p c ∧ Kn H kk zs ∧ c < 900000 ∧ ∀ (l : Addr) (ys : List Str) (H' : Hp), l ≠ p → H l = none → H' l = some (.lst (ys.map V.str)) → ys.length ≤ m → ys.all isW = true → Pl H' p (c + 1 + m) → Fx p H H' → Q (.ref l) H'
set_option maxHeartbeats 8000000 in
theorem ok_l_words (T : TX K mg A FD TK) : FnOk P w K mg base CX0 2 (A 23) (FD 23) ["_law_pool_here", "_law_kinds_here", "_law_most"] spWordsK := by
  have G_l_take := ok_l_take (P := P) (w := w) (base := base) T
  refine T.f_l_words.ok (k := 1) sc_l_words (fun vs H Q E h => ?_) (fun cdv A' outer s H vs Q E hr h => ?_)
  · obtain ⟨p, kk, zs, c, m, rfl, _⟩ := h
    rfl
  · obtain ⟨p, kk, zs, c, m, rfl, hm, hp, hk, hc, q⟩ := h
    refine ⟨_, (pss_one (ps_ret (pe_lc (own := [("_law_k", 3)])  rfl sc_l_words.nd (pi_range1 (by rfl) T.m_range (pa_cons (pe_call G_l_take hr (by rfl) T.g_l_take T.f_l_take.kp T.b_l_take .nil pass0 (pa_cons (pv 0) (pa_cons (pe_op op_add (pv 2) pe_int) pa_nil))) pa_nil)) (blkOk_by (own := [("_law_k", 3)]) (N := N_l_words) (sc := defScope (topS 23)) (by decide +kernel)) (fun _ _ _ _ _ => (pg_name (i := 3) sc_l_words.nd rfl (Or.inl rfl))) (fun _ _ _ _ _ => pts_nil) (fun _ _ _ _ _ => (pe_ix (ixLK (K := K) rfl) (pv 1) (pe_call G_l_take hr (by rfl) T.g_l_take T.f_l_take.kp T.b_l_take .nil pass0 (pa_cons (pv 0) (pa_cons (pe_callB (lenK (K := K) rfl) (by rfl) T.m_len (by decide +kernel) (pa_cons (pv 1) pa_nil)) pa_nil))) (fun _ _ => rfl)))))), ?_⟩
    refine ⟨.ref p, rfl, .int (m : Int), rfl, (m : Int), 1, rfl, rfl, p, (m : Int) + 1, c, rfl, hp, by omega, by omega, by omega, fun n H2 n0 n1 hp2 f2 => ?_⟩
    refine ⟨n, rfl, by omega, by omega, fun D nD => ?_⟩
    have nDp := pool_ne hp2 nD
    have hk2 := hk.fx hp f2
    have nDk : D ≠ kk := (ne_of_none hk2.1 nD).symm
    refine lc_range (lo := 0) (n := n.toNat) (fun i H' => ∃ ys : List Str, ys.length = i ∧ ys.all isW = true ∧ H' D = some (.lst (ys.map V.str)) ∧ Pl H' p (c + 1 + i) ∧ Fx p H2 H') ⟨[], rfl, rfl, upd_same, hp2.ex (Ex.new nD), Fx.ex (Ex.new nD)⟩ (fun i H3 hi pv => ?_) (fun H3 pv => ?_)
    · obtain ⟨ys, yl, y1, hD, hp3, f3⟩ := pv
      have hk3 := hk2.fx hp2 f3
      refine ⟨rfl, .ref kk, rfl, .ref p, rfl, .ref kk, rfl, kk, _, rfl, .inl (SqL.of hk3.1), p, ((zs.map V.str).length : Int), c + 1 + i, rfl, hp3, ?_, ?_, by omega, fun e H4 e0 e1 hp4 f4 => ?_⟩
      · rw [List.length_map]
        have := hk3.2.1
        omega
      · rw [List.length_map]
        have := hk3.2.2.1
        omega
      rw [List.length_map] at e1
      have hk4 := hk3.fx hp3 f4
      obtain ⟨z, az, wz⟩ := at_word e0 e1 hk3.2.2.2
      refine ⟨kk, _, e, .str z, rfl, rfl, SqL.of hk4.1, az, _, f4 _ _ nDp hD, ?_, ys ++ [z], ?_, ?_, ?_, ?_, ?_⟩
      · rw [List.length_map]
        exact sz_lt (by omega)
      · rw [List.length_append, yl]
        rfl
      · rw [List.all_append, y1, List.all_cons, wz]
        rfl
      · rw [upd_same, List.map_append]
        rfl
      · exact pl_upd hp4 nDp
      · intro x o nx hx
        rw [upd_ne (ne_of_none hx nD)]
        exact f4 _ _ nx (f3 _ _ nx hx)
    · obtain ⟨ys, yl, y1, hD, hp3, f3⟩ := pv
      exact q D ys H3 nDp (fx_free f2 hp2 nD) hD (by omega) y1 (hp3.mono (by omega)) (f2.trans f3)

/-! ### words_of, Page(..): no refusal -/
def spCheckW : Sp := fun vs H Q _ => ∃ (a : Addr) (zs : List Str), vs = [.ref a] ∧ H a = some (.lst (zs.map V.str)) ∧ okP zs = true ∧ RetV .non H Q
set_option maxHeartbeats 4000000 in
theorem ok_check_words (T : TX K mg A FD TK) : FnOk P w K mg base CX0 3 (A 14) (FD 14) ["words"] spCheckW := by
  have G_are_words := ok_are_words (P := P) (w := w) (base := base) T
  refine T.f_check_words.ok sc_check_words (fun vs H Q E h => ?_) (fun cdv A' outer s H vs Q E hr h => ?_)
  · obtain ⟨a, zs, rfl, _⟩ := h
    rfl
  · obtain ⟨a, zs, rfl, hS, ho, q⟩ := h
    unfold okP at ho
    rw [Bool.and_eq_true, decide_eq_true_eq] at ho
    refine ⟨_, (pss_cons (ps_if (pt_cmpR op_gt (pe_callB (lenK (K := K) rfl) (by rfl) T.m_len (by decide +kernel) (pa_cons (pv 0) pa_nil)) (pe_glob (v := .int 120) (by rfl) T.c_MOST_WORDS ⟨_, rfl⟩) (nomark _))
      (pss_one ps_never)
      pss_nil)
      (pss_one (ps_if (pt_not (pt_val (pe_call G_are_words hr (by rfl) T.g_are_words T.f_are_words.kp T.b_are_words .nil pass0 (pa_cons (pv 0) pa_nil))))
      (pss_one ps_never)
      pss_nil))), ?_⟩
    refine ⟨.ref a, rfl, a, _, rfl, .inl (SqL.of hS), _, 120, rfl, rfl, _, rfl, ite2 (fun e => ?_) (fun e => ?_)⟩
    · have e : (120 : Int) < ((zs.map V.str).length : Int) := of_decide_eq_true e
      rw [List.length_map] at e
      omega
    · refine ⟨.ref a, rfl, a, zs, rfl, .inl (SqL.of hS), by omega, fun z hz => ?_, fun H1 e1 => ⟨_, rfl, ?_⟩⟩
      · have := isW_len (List.all_eq_true.mp ho.2 z hz)
        omega
      · rw [ho.2]
        exact q.go e1
def spWordsOf : Sp := fun vs H Q _ => ∃ z : Str, vs = [.str z] ∧ z.length ≤ 20000 ∧ okP (piecesOf z) = true ∧ RetL ((piecesOf z).map V.str) H Q
set_option maxHeartbeats 4000000 in
theorem ok_words_of (T : TX K mg A FD TK) : FnOk P w K mg base CX0 4 (A 13) (FD 13) ["text"] spWordsOf := by
  have G_check_words := ok_check_words (P := P) (w := w) (base := base) T
  refine T.f_words_of.ok sc_words_of (fun vs H Q E h => ?_) (fun cdv A' outer s H vs Q E hr h => ?_)
  · obtain ⟨z, rfl, _⟩ := h
    rfl
  · obtain ⟨z, rfl, hl, ho, q⟩ := h
    refine ⟨_, (pss_cons (ps_if (pt_not (pt_val (pe_callB (isiK (K := K) rfl) (by rfl) T.m_isinstance (by decide +kernel) (pa_cons (pv 0) (pa_cons (pe_bltn (v := .ty "str") (by rfl) T.m_str (by decide +kernel) rfl) pa_nil)))))
      (pss_one ps_never)
      pss_nil)
      (pss_cons (ps_set (i := 1) sc_words_of.nd rfl (.inl rfl) (pe_ifExp (pt_truth (pv 0) (by intro _; rfl)) (pe_split (pv 0) pe_str) (pe_lst pa_nil)))
      (pss_cons (ps_expr (pe_call G_check_words hr (by rfl) T.g_check_words T.f_check_words.kp T.b_check_words .nil pass0 (pa_cons (pv 1) pa_nil)))
      (pss_one (ps_ret (pv 1)))))), ?_⟩
    refine ⟨.str z, rfl, .str z, .ty "str", .type "str", .type "str", true, rfl, .ty _, .base (.str z), kit_ty (by decide +kernel), true, rfl, ?_⟩
    have fin : ∀ (p : Addr), H p = none → spCheckW [.ref p] (upd H p (.lst ((piecesOf z).map V.str))) (fun _ H' => ∃ v : V, ([some (.str z), some (.ref p)] : L2.St)[1]? = some (some v) ∧ Q v H') (fun _ _ _ => False) := fun p np =>
      ⟨p, _, rfl, upd_same, ho, fun H2 e2 => ⟨.ref p, rfl, q p H2 np ((Ex.new np).trans e2) (e2 _ _ upd_same)⟩⟩
    refine ⟨.str z, rfl, ((z.length : Int) != 0), ⟨sz (by omega), rfl⟩, ?_⟩
    by_cases h0 : z.length = 0
    · rw [show ((z.length : Int) != 0) = false by rw [h0]; rfl]
      refine ⟨Nat.zero_le _, fun p np => ?_⟩
      have f := fin p np
      rw [show piecesOf z = [] by unfold piecesOf; rw [if_pos h0]] at f
      exact ⟨.ref p, rfl, f⟩
    · rw [show ((z.length : Int) != 0) = true by simp [h0]]
      refine ⟨.str z, rfl, ⟨_, rfl⟩, z, " ", rfl, rfl, by decide +kernel, sz (by omega), fun p np => ?_⟩
      have f := fin p np
      rw [show piecesOf z = Txt.split z " " by unfold piecesOf; rw [if_neg h0]] at f
      exact ⟨.ref p, rfl, f⟩
def spCheckN : Sp := fun vs H Q _ => ∃ n : Int, vs = [.int n] ∧ 1 ≤ n ∧ n ≤ 9999 ∧ RetV .non H Q
set_option maxHeartbeats 4000000 in
theorem ok_check_page_number (T : TX K mg A FD TK) : FnOk P w K mg base CX0 3 (A 18) (FD 18) ["number"] spCheckN := by
  have G_is_within := ok_is_within (P := P) (w := w) (base := base) T
  refine T.f_check_page_number.ok sc_check_page_number (fun vs H Q E h => ?_) (fun cdv A' outer s H vs Q E hr h => ?_)
  · obtain ⟨n, rfl, _⟩ := h
    rfl
  · obtain ⟨n, rfl, h1, h2, q⟩ := h
    refine ⟨_, (pss_one (ps_if (pt_not (pt_val (pe_call G_is_within hr (by rfl) T.g_is_within T.f_is_within.kp T.b_is_within .nil pass0 (pa_cons (pv 0) (pa_cons pe_int (pa_cons (pe_glob (v := .int 9999) (by rfl) T.c_MOST_NUMBER ⟨_, rfl⟩) pa_nil))))))
      (pss_one ps_never)
      pss_nil)), ?_⟩
    refine ⟨.int n, rfl, n, 1, 9999, rfl, fun H1 e1 => ⟨_, rfl, ?_⟩⟩
    rw [decide_eq_true h1, decide_eq_true h2]
    exact q.go e1
/-- all but x stays -/
def ExI (x : Addr) (H H' : Hp) : Prop := ∀ b o, b ≠ x → H b = some o → H' b = some o
def spPInit (C : Addr) : Sp := fun vs H Q _ => ∃ (x dx : Addr) (n : Int) (z : Str), vs = [.ref x, .int n, .str z] ∧ H x = some (.ins C dx []) ∧ 1 ≤ n ∧ n ≤ 9999 ∧ z.length ≤ 20000 ∧ okP (piecesOf z) = true ∧
  ∀ H' t, ExI x H H' → H' x = some (.ins C dx [("number", .int n), ("in_turn", .ref t)]) → H' t = some (.tup ((piecesOf z).map V.str)) → Q .non H'
set_option maxHeartbeats 4000000 in
theorem ok_pinit (T : TX K mg A FD TK) : FnOk P w K mg base CX0 5 (A 27) (FD 27) ["self", "number", "text"] (spPInit (A 17)) := by
  have G_check_page_number := (ok_check_page_number (P := P) (w := w) (base := base) T).mono (show 3 ≤ 4 by decide)
  have G_words_of := ok_words_of (P := P) (w := w) (base := base) T
  refine T.f_Page_init.ok (k := 4) sc_Page_init (fun vs H Q E h => ?_) (fun cdv A' outer s H vs Q E hr h => ?_)
  · obtain ⟨x, dx, n, z, rfl, _⟩ := h
    rfl
  · obtain ⟨x, dx, n, z, rfl, hx, n1, n2, hl, ho, q⟩ := h
    refine ⟨_, (pss_cons (ps_expr (pe_call G_check_page_number hr (by rfl) T.g_check_page_number T.f_check_page_number.kp T.b_check_page_number .nil pass0 (pa_cons (pv 1) pa_nil)))
      (pss_cons (ps_fld (pv 0) (pv 1) rfl)
      (pss_one (ps_fld (pv 0) (pe_callTy (tupK (K := K) rfl) (by rfl) T.m_tuple (by decide +kernel) (pa_cons (pe_call G_words_of hr (by rfl) T.g_words_of T.f_words_of.kp T.b_words_of .nil pass0 (pa_cons (pv 2) pa_nil)) pa_nil)) rfl)))), ?_⟩
    refine ⟨.int n, rfl, n, rfl, n1, n2, fun H0 e0 => ?_⟩
    refine ⟨.int n, rfl, .ref x, rfl, x, A 17, dx, [], rfl, e0 _ _ hx, T.cl_Page, T.n_Page_number, (by show 0 < 1000; decide), ?_⟩
    have i1 : ExI x H (upd H0 x (.ins (A 17) dx (putF "number" (.int n) []))) := fun b o nb h => by rw [upd_ne nb]; exact e0 _ _ h
    have hx1 : (upd H0 x (.ins (A 17) dx (putF "number" (.int n) []))) x = some (.ins (A 17) dx (putF "number" (.int n) [])) := upd_same
    generalize (upd H0 x (.ins (A 17) dx (putF "number" (.int n) []))) = H1 at i1 hx1 ⊢
    refine ⟨.str z, rfl, z, rfl, hl, ho, fun p H2 np e2 hp => ?_⟩
    refine ⟨p, _, rfl, .inl ⟨SqL.of hp, fun tt ntt => ?_⟩⟩
    have e3 := Ex.new (o := .tup ((piecesOf z).map V.str)) ntt
    have hx3 := e3 _ _ (e2 _ _ hx1)
    refine ⟨.ref x, rfl, x, A 17, dx, _, rfl, hx3, T.cl_Page, T.n_Page_in_turn, (by show 1 < 1000; decide), q _ tt (fun b o nb h => ?_) upd_same ?_⟩
    · rw [upd_ne nb]
      exact e3 _ _ (e2 _ _ (i1 _ _ nb h))
    · rw [upd_ne (ne_of_none (e2 _ _ hx1) ntt).symm]
      exact upd_same

/-! ### a page, its methods -/
/-- at p stands a page of the number n and the words ws -/
def PageAt (C : Addr) (H : Hp) (p : Addr) (n : Int) (ws : List Str) : Prop := ∃ (dx t : Addr), H p = some (.ins C dx [("number", .int n), ("in_turn", .ref t)]) ∧ H t = some (.tup (ws.map V.str)) ∧ ws.length ≤ 120 ∧ ws.all isW = true
theorem PageAt.ex {C : Addr} {H H' : Hp} {p : Addr} {n : Int} {ws : List Str} (h : PageAt C H p n ws) (e : Ex H H') : PageAt C H' p n ws := by
  obtain ⟨dx, t, h1, h2, h3⟩ := h
  exact ⟨dx, t, e _ _ h1, e _ _ h2, h3⟩
def spPWords (C : Addr) : Sp := fun vs H Q _ => ∃ (p : Addr) (n : Int) (ws : List Str), vs = [.ref p] ∧ PageAt C H p n ws ∧ RetL (ws.map V.str) H Q
set_option maxHeartbeats 4000000 in
theorem ok_p_words (T : TX K mg A FD TK) : FnOk P w K mg base CX0 1 (A 32) (FD 32) ["self"] (spPWords (A 17)) := by
  refine T.f_Page_words.ok sc_Page_words (fun vs H Q E h => ?_) (fun cdv A' outer s H vs Q E hr h => ?_)
  · obtain ⟨p, n, ws, rfl, _⟩ := h
    rfl
  · obtain ⟨p, n, ws, rfl, ⟨dx, t, h1, h2, _⟩, q⟩ := h
    refine ⟨_, (pss_one (ps_ret (pe_callTy (listK (K := K) rfl) (by rfl) T.m_list (by decide +kernel) (pa_cons (fldK (K := K) rfl (pv 0) rfl) pa_nil)))), ?_⟩
    exact ⟨.ref p, rfl, p, A 17, dx, _, .ref t, rfl, h1, T.cl_Page, T.n_Page_in_turn, rfl, t, _, rfl, .inr (SqT.of h2), fun l nl => q l _ nl (Ex.new nl) upd_same⟩
def spPLen (C : Addr) : Sp := fun vs H Q _ => ∃ (p : Addr) (n : Int) (ws : List Str), vs = [.ref p] ∧ PageAt C H p n ws ∧ Q (.int (ws.length : Int)) H
set_option maxHeartbeats 4000000 in
theorem ok_p_len (T : TX K mg A FD TK) : FnOk P w K mg base CX0 1 (A 29) (FD 29) ["self"] (spPLen (A 17)) := by
  refine T.f_Page_len.ok sc_Page_len (fun vs H Q E h => ?_) (fun cdv A' outer s H vs Q E hr h => ?_)
  · obtain ⟨p, n, ws, rfl, _⟩ := h
    rfl
  · obtain ⟨p, n, ws, rfl, ⟨dx, t, h1, h2, _⟩, q⟩ := h
    refine ⟨_, (pss_one (ps_ret (pe_callB (lenK (K := K) rfl) (by rfl) T.m_len (by decide +kernel) (pa_cons (fldK (K := K) rfl (pv 0) rfl) pa_nil)))), ?_⟩
    refine ⟨.ref p, rfl, p, A 17, dx, _, .ref t, rfl, h1, T.cl_Page, T.n_Page_in_turn, rfl, t, _, rfl, .inr (SqT.of h2), ?_⟩
    rw [List.length_map]
    exact q
def spPStr (C : Addr) : Sp := fun vs H Q _ => ∃ (p : Addr) (n : Int) (ws : List Str), vs = [.ref p] ∧ PageAt C H p n ws ∧ Q (.str (Txt.join " " ws)) H
set_option maxHeartbeats 4000000 in
theorem ok_p_str (T : TX K mg A FD TK) : FnOk P w K mg base CX0 1 (A 30) (FD 30) ["self"] (spPStr (A 17)) := by
  refine T.f_Page_str.ok sc_Page_str (fun vs H Q E h => ?_) (fun cdv A' outer s H vs Q E hr h => ?_)
  · obtain ⟨p, n, ws, rfl, _⟩ := h
    rfl
  · obtain ⟨p, n, ws, rfl, ⟨dx, t, h1, h2, h3, h4⟩, q⟩ := h
    refine ⟨_, (pss_one (ps_ret (pe_join pe_str (fldK (K := K) rfl (pv 0) rfl)))), ?_⟩
    have ls := len_sum ws h4
    refine ⟨⟨_, rfl⟩, .ref p, rfl, p, A 17, dx, _, .ref t, rfl, h1, T.cl_Page, T.n_Page_in_turn, rfl, " ", t, ws, rfl, rfl, .inr (SqT.of h2), ?_, q⟩
    rw [show (Str.ofString " ").length = 1 by decide +kernel]
    omega

/-! ### Page(n, text), ==, repr -/
theorem mk_page {C : Addr} {H : Hp} {x dx : Addr} {n : Int} {ws : List Str} {R : Hp → Prop} {E : XK} (nx : H x = none) (ndx : H dx = none) (h1 : 1 ≤ n) (h2 : n ≤ 9999) (hl : ws.length ≤ 120) (hw : ws.all isW = true) (q : ∀ H', Ex H H' → PageAt C H' x n ws → R H') :
    spPInit C [.ref x, .int n, .str (Txt.join " " ws)] (upd (upd H dx (.own x)) x (.ins C dx [])) (fun v H2 => v = .non ∧ R H2) E := by
  have ep := pieces_join hw
  refine ⟨x, dx, n, _, rfl, upd_same, h1, h2, by have := join_le hw hl; omega, ?_, fun H' t i hx ht => ⟨rfl, q H' (fun c o h => ?_) ⟨dx, t, hx, ?_, hl, hw⟩⟩⟩
  · rw [ep]
    unfold okP
    rw [decide_eq_true hl, hw]
    rfl
  · refine i c o (ne_of_none h nx) ?_
    rw [upd_ne (ne_of_none h nx), upd_ne (ne_of_none h ndx)]
    exact h
  · rw [ep] at ht
    exact ht
def PEqR (C : Addr) (a b : Addr) (r : Bool) (H : Hp) : Prop := ∃ n m ws vs, PageAt C H a n ws ∧ PageAt C H b m vs ∧ r = (decide (n = m) && decide (ws = vs))
/-- a thing of a built-in kind -/
def Bare (K : PySem.W.Frag) (H : Hp) (y : V) : Prop := ∃ T, TyX K H y (.type T) ∧ T ∈ ["NoneType", "int", "str", "tuple", "list", "bool"]
def spPEq (K : PySem.W.Frag) (C : Addr) : Sp := fun vs H Q _ => ∃ (a : Addr) (n : Int) (ws : List Str) (y : V), vs = [.ref a, y] ∧ PageAt C H a n ws ∧ ((∃ b m vs', y = .ref b ∧ PageAt C H b m vs' ∧ Q (.bl (decide (n = m) && decide (ws = vs'))) H) ∨ (Bare K H y ∧ Q (.bl false) H))
theorem pageEq {K : PySem.W.Frag} {C : Addr} : ∀ H a b r Q E, PEqR C a b r H → Q (.bl r) H → spPEq K C [.ref a, .ref b] H Q E := fun H a b r Q E h q => by
  obtain ⟨n, m, ws, vs, h1, h2, rfl⟩ := h
  exact ⟨a, n, ws, .ref b, rfl, h1, .inl ⟨b, m, vs, rfl, h2, q⟩⟩
set_option maxHeartbeats 4000000 in
theorem ok_peq (T : TX K mg A FD TK) : FnOk P w K mg base CX0 1 (A 28) (FD 28) ["self", "other"] (spPEq K (A 17)) := by
  refine T.f_Page_eq.ok sc_Page_eq (fun vs H Q E h => ?_) (fun cdv A' outer s H vs Q E hr h => ?_)
  · obtain ⟨a, n, ws, y, rfl, _⟩ := h
    rfl
  · obtain ⟨a, n, ws, y, rfl, ⟨da, ta, ha, hta, la, wa⟩, hy⟩ := h
    refine ⟨_, (pss_one (ps_ret (pe_and (pe_callB (isiK (K := K) rfl) (by rfl) T.m_isinstance (by decide +kernel) (pa_cons (pv 1) (pa_cons (pe_glob (v := .ref (A 17)) (by rfl) T.k_Page rfl) pa_nil))) (pe_and (pe_cmpR op_eq (fldK (K := K) rfl (pv 0) rfl) (fldK (K := K) rfl (pv 1) rfl) (nomark _)) (pe_one (pe_cmpR (eqDK (K := K) rfl hr.units) (fldK (K := K) rfl (pv 0) rfl) (fldK (K := K) rfl (pv 1) rfl) (nomark _))))))), ?_⟩
    rcases hy with ⟨b, m, vs', rfl, ⟨db, tb, hb, htb, lb, wb⟩, q⟩ | ⟨⟨ty, ht, hm⟩, q⟩
    · refine ⟨.ref b, rfl, .ref b, .ref (A 17), _, .ref (A 17), true, rfl, .own _, .base (.ins hb T.cl_Page T.ci T.cs T.ct T.moP), T.kp, true, rfl, ?_⟩
      refine ⟨.ref a, rfl, a, _, da, _, _, rfl, ha, T.cl_Page, T.n_Page_number, rfl, .ref b, rfl, b, _, db, _, _, rfl, hb, T.cl_Page, T.n_Page_number, rfl, rfl, _, rfl, ite2 (fun c => ?_) (fun c => ?_)⟩
      · have c : n = m := V.int.inj (of_decide_eq_true c)
        rw [decide_eq_true c, Bool.true_and] at q
        refine ⟨.ref a, rfl, a, _, da, _, _, rfl, ha, T.cl_Page, T.n_Page_in_turn, rfl, .ref b, rfl, b, _, db, _, _, rfl, hb, T.cl_Page, T.n_Page_in_turn, rfl, _, _, .tup (SqT.of hta) (dpS ws), .tup (SqT.of htb) (dpS vs'), shapeT wa, shapeT wb, ?_⟩
        rw [eqvT2]
        exact q
      · have c' : ¬ n = m := fun z => c (decide_eq_true (congrArg V.int z))
        rw [decide_eq_false c', Bool.false_and] at q
        exact q
    · have hk : PySem.W.kitOne K (.type ty) (.ref (A 17)) = some false := by
        simp only [List.mem_cons, List.not_mem_nil, or_false] at hm
        rcases hm with rfl | rfl | rfl | rfl | rfl | rfl
        · exact T.kNoneType
        · exact T.kint
        · exact T.kstr
        · exact T.ktuple
        · exact T.klist
        · exact T.kbool
      exact ⟨y, rfl, y, .ref (A 17), _, .ref (A 17), false, rfl, .own _, ht, hk, false, rfl, q⟩
theorem num_le {n : Int} (h1 : 1 ≤ n) (h2 : n ≤ 9999) : (Str.ofString (toString n)).length ≤ 4 := toString_length_le (by omega) (k := 4) (by decide) (by omega)
theorem num_log {n : Int} (h1 : 1 ≤ n) (h2 : n ≤ 9999) : n.natAbs.log2 < 1920 := by
  have : n.natAbs < 2 ^ 14 := by omega
  exact Nat.lt_of_lt_of_le ((Nat.log2_lt (by omega)).mpr this) (by decide)
/-- Page(3, 'a b') -/
def shown (n : Int) (ws : List Str) : Str := Str.ofString "Page(" ++ Str.ofString (toString n) ++ Str.ofString ", '" ++ Txt.join " " ws ++ Str.ofString "')"
theorem tl_app (x y : Str) : tl (x ++ y) = tl x ++ tl y := by
  show (x.cps ++ y.cps).toList = x.cps.toList ++ y.cps.toList
  simp
theorem app_len (x y : Str) : (x ++ y).length = x.length + y.length := by
  rw [← tl_len, ← tl_len, ← tl_len, tl_app, List.length_append]
theorem shown_is (n : Int) (ws : List Str) (h : ws.all isW = true) : ((((Str.empty ++ Str.ofString "Page(") ++ Str.ofString (toString n)) ++ Str.ofString ", ") ++ reprText (Txt.join " " ws)) ++ Str.ofString ")" = shown n ws := by
  rw [repr_join h]
  unfold shown
  refine ext_tl ?_
  rw [tl_app, tl_app, tl_app, tl_app, tl_app, tl_app, tl_app, tl_app, tl_app, tl_app, tl_app]
  rw [show tl (Str.ofString ", '") = tl (Str.ofString ", ") ++ tl (Str.ofString "'") by decide +kernel, show tl (Str.ofString "')") = tl (Str.ofString "'") ++ tl (Str.ofString ")") by decide +kernel, show tl Str.empty = [] by decide +kernel]
  simp only [List.nil_append, List.append_assoc]
theorem repr_len {ws : List Str} (h : ws.all isW = true) (hl : ws.length ≤ 120) : (reprText (Txt.join " " ws)).length ≤ 1562 := by
  rw [repr_join h, app_len, app_len, show (Str.ofString "'").length = 1 by decide +kernel]
  have := join_le h hl
  omega
def spPRepr (C : Addr) : Sp := fun vs H Q _ => ∃ (p : Addr) (n : Int) (ws : List Str), vs = [.ref p] ∧ PageAt C H p n ws ∧ 1 ≤ n ∧ n ≤ 9999 ∧ Q (.str (shown n ws)) H
set_option maxHeartbeats 4000000 in
theorem ok_p_repr (T : TX K mg A FD TK) : FnOk P w K mg base CX0 4 (A 31) (FD 31) ["self"] (spPRepr (A 17)) := by
  have G_Page_str := ok_p_str (P := P) (w := w) (base := base) T
  refine T.f_Page_repr.ok (k := 3) sc_Page_repr (fun vs H Q E h => ?_) (fun cdv A' outer s H vs Q E hr h => ?_)
  · obtain ⟨p, n, ws, rfl, _⟩ := h
    rfl
  · obtain ⟨p, n, ws, rfl, hP, n1, n2, q⟩ := h
    obtain ⟨dx, t, h1, h2, h3, h4⟩ := id hP
    refine ⟨_, (pss_one (ps_ret (pe_joined (PJ.cons pe_str (PJ.cons (pe_fmt (fldK (K := K) rfl (pv 0) rfl)) (PJ.cons pe_str (PJ.cons (pe_fmtR (pe_callTy (Own.cr_strO G_Page_str T.M_Page_str T.b_Page_str pass0 hr) (by rfl) T.m_str (by decide +kernel) (pa_cons (pv 0) pa_nil))) (PJ.cons pe_str PJ.nil)))))))), ?_⟩
    have l1 := num_le n1 n2
    have l2 := repr_len h4 h3
    have l3 : (Str.empty).length = 0 := by decide +kernel
    have l4 : (Str.ofString "Page(").length = 5 := by decide +kernel
    have l5 : (Str.ofString ", ").length = 2 := by decide +kernel
    have l6 : (Str.ofString ")").length = 1 := by decide +kernel
    refine ⟨_, rfl, ?_, .ref p, rfl, p, A 17, dx, _, .int n, rfl, h1, T.cl_Page, T.n_Page_number, rfl, .inr ⟨n, rfl, num_log n1 n2, _, rfl, ?_, _, rfl, ?_, .ref p, rfl, p, dx, _, rfl, h1, p, n, ws, rfl, hP, _, rfl, .inl ⟨_, rfl, sz (by omega), _, rfl, ?_, _, rfl, ?_, ?_⟩⟩⟩
    · rw [app_len]
      exact sz (by omega)
    · rw [app_len, app_len]
      exact sz (by omega)
    · rw [app_len, app_len, app_len]
      exact sz (by omega)
    · rw [app_len, app_len, app_len, app_len]
      exact sz (by omega)
    · rw [app_len, app_len, app_len, app_len, app_len]
      exact sz (by omega)
    · rw [shown_is n ws h4]
      exact q

/-! ### _law_told, _law_other -/
def spTold (C : Addr) : Sp := fun vs H Q _ => ∃ (p h : Addr) (n : Int) (ws : List Str), vs = [.ref p, .int n, .ref h] ∧ PageAt C H p n ws ∧ H h = some (.lst (ws.map V.str)) ∧ 1 ≤ n ∧ n ≤ 9999 ∧ Q (.bl true) H
set_option maxHeartbeats 8000000 in
theorem ok_l_told (T : TX K mg A FD TK) : FnOk P w K mg base CX0 6 (A 25) (FD 25) ["_law_page", "_law_number", "_law_held"] (spTold (A 17)) := by
  have G_Page_len := (ok_p_len (P := P) (w := w) (base := base) T).mono (show 1 ≤ 4 by decide)
  have G_Page_str := (ok_p_str (P := P) (w := w) (base := base) T).mono (show 1 ≤ 3 by decide)
  have G_Page_repr := ok_p_repr (P := P) (w := w) (base := base) T
  refine T.f_l_told.ok (k := 5) sc_l_told (fun vs H Q E h => ?_) (fun cdv A' outer s H vs Q E hr h => ?_)
  · obtain ⟨p, h, n, ws, rfl, _⟩ := h
    rfl
  · obtain ⟨p, h, n, ws, rfl, hP, hh, n1, n2, q⟩ := h
    obtain ⟨dx, t, h1, h2, h3, h4⟩ := id hP
    have ls := len_sum ws h4
    have jl := join_le h4 h3
    refine ⟨_, (pss_cons (ps_set (i := 3) sc_l_told.nd rfl (.inl rfl) (pe_join pe_str (pv 2)))
      (pss_cons (ps_if (PW.pt (pw_or (pt_cmpR op_ne (pe_callB (Own.cr_lenO G_Page_len T.M_Page_len T.b_Page_len pass0 hr) (by rfl) T.m_len (by decide +kernel) (pa_cons (pv 0) pa_nil)) (pe_callB (lenK (K := K) rfl) (by rfl) T.m_len (by decide +kernel) (pa_cons (pv 2) pa_nil)) (nomark _)) (pw_or1 (pt_cmpR op_ne (pe_callTy (Own.cr_strO G_Page_str T.M_Page_str T.b_Page_str pass0 hr) (by rfl) T.m_str (by decide +kernel) (pa_cons (pv 0) pa_nil)) (pv 3) (nomark _)))))
      (pss_one (ps_ret pe_bl))
      pss_nil)
      (pss_one (ps_ret (pe_cmpR op_eq (pe_callB (Own.cr_reprO G_Page_repr T.M_Page_repr T.b_Page_repr pass0 hr) (by rfl) T.m_repr (by decide +kernel) (pa_cons (pv 0) pa_nil)) (pe_op op_add_str (pe_op op_add_str (pe_op op_add_str (pe_op op_add_str pe_str (pe_callTy call_str_int (by rfl) T.m_str (by decide +kernel) (pa_cons (pv 1) pa_nil))) pe_str) (pv 3)) pe_str) (nomark _)))))), ?_⟩
    refine ⟨⟨_, rfl⟩, .ref h, rfl, " ", h, ws, rfl, rfl, .inl (SqL.of hh), ?_, ?_⟩
    · rw [show (Str.ofString " ").length = 1 by decide +kernel]
      omega
    refine ⟨.ref p, rfl, p, dx, _, rfl, h1, p, n, ws, rfl, hP, _, rfl, ⟨by omega, by omega⟩, .ref h, rfl, h, _, rfl, .inl (SqL.of hh), rfl, _, rfl, ?_⟩
    rw [List.length_map, decide_eq_true rfl]
    refine ⟨.ref p, rfl, p, dx, _, rfl, h1, p, n, ws, rfl, hP, _, rfl, .str (Txt.join " " ws), rfl, rfl, _, rfl, ?_⟩
    rw [decide_eq_true rfl]
    refine ⟨.ref p, rfl, p, dx, _, rfl, h1, p, n, ws, rfl, hP, n1, n2, _, rfl, ?_⟩
    have l1 := num_le n1 n2
    have l4 : (Str.ofString "Page(").length = 5 := by decide +kernel
    have l5 : (Str.ofString ", '").length = 3 := by decide +kernel
    have l6 : (Str.ofString "')").length = 2 := by decide +kernel
    refine ⟨.int n, rfl, n, rfl, num_log n1 n2, _, _, rfl, rfl, ?_, _, _, rfl, rfl, ?_, .str (Txt.join " " ws), rfl, _, _, rfl, rfl, ?_, _, _, rfl, rfl, ?_, rfl, ?_⟩
    · exact sz (by omega)
    · rw [app_len]
      exact sz (by omega)
    · rw [app_len, app_len]
      exact sz (by omega)
    · rw [app_len, app_len, app_len]
      exact sz (by omega)
    · show Q (.bl (decide (V.str (shown n ws) = V.str (shown n ws)))) H
      rw [decide_eq_true rfl]
      exact q

theorem cut_words (zs : List Str) (lo hi : Option Int) (h : zs.all isW = true) : ∃ ys : List Str, cutV (zs.map V.str) lo hi = ys.map V.str ∧ ys.length ≤ zs.length ∧ ys.all isW = true := by
  refine ⟨(zs.drop (HT.sIx (zs.map V.str).length 0 lo)).take (HT.sIx (zs.map V.str).length (zs.map V.str).length hi - HT.sIx (zs.map V.str).length 0 lo), ?_, ?_, ?_⟩
  · unfold cutV
    rw [List.map_take, List.map_drop]
  · rw [List.length_take, List.length_drop]
    omega
  · rw [List.all_eq_true]
    intro x hx
    exact List.all_eq_true.mp h x (List.mem_of_mem_drop (List.mem_of_mem_take hx))
def spOther : Sp := fun vs H Q _ => ∃ (p h kk : Addr) (zs ks : List Str) (c : Nat), vs = [.ref p, .ref h, .ref kk] ∧ h ≠ p ∧ Pl H p c ∧ c < 800000 ∧ H h = some (.lst (zs.map V.str)) ∧ zs.length ≤ 20 ∧ zs.all isW = true ∧ Kn H kk ks ∧
  ∀ (l : Addr) (ys : List Str) (H' : Hp), l ≠ p → H l = none → H' l = some (.lst (ys.map V.str)) → ys.length ≤ 100 → ys.all isW = true → Pl H' p (c + 3) → Fx p H H' → Q (.ref l) H'
set_option maxHeartbeats 8000000 in
theorem ok_l_other (T : TX K mg A FD TK) : FnOk P w K mg base CX0 2 (A 24) (FD 24) ["_law_pool_here", "_law_held", "_law_kinds_here"] spOther := by
  have G_l_take := ok_l_take (P := P) (w := w) (base := base) T
  refine T.f_l_other.ok (k := 1) sc_l_other (fun vs H Q E h => ?_) (fun cdv A' outer s H vs Q E hr h => ?_)
  · obtain ⟨p, h, kk, zs, ks, c, rfl, _⟩ := h
    rfl
  · obtain ⟨p, h, kk, zs, ks, c, rfl, nhp, hp, hc, hh, hl, hw, hk, q⟩ := h
    refine ⟨_, (pss_cons (ps_set (i := 3) sc_l_other.nd rfl (.inl rfl) (pe_call G_l_take hr (by rfl) T.g_l_take T.f_l_take.kp T.b_l_take .nil pass0 (pa_cons (pv 0) (pa_cons pe_int pa_nil))))
      (pss_cons (ps_set (i := 4) sc_l_other.nd rfl (.inl rfl) (pe_call G_l_take hr (by rfl) T.g_l_take T.f_l_take.kp T.b_l_take .nil pass0 (pa_cons (pv 0) (pa_cons (pe_op op_add (pe_callB (lenK (K := K) rfl) (by rfl) T.m_len (by decide +kernel) (pa_cons (pv 1) pa_nil)) pe_int) pa_nil))))
      (pss_cons (ps_if (pt_cmpR op_eq (pv 3) pe_int (nomark _))
      (pss_one (ps_ret (pe_op op_cat (pe_op op_cat (pe_slice (slLK (K := K) rfl) (pv 1) po_none (po_some (pv 4))) (pe_lst (pa_cons (pe_ix (ixLK (K := K) rfl) (pv 2) (pe_call G_l_take hr (by rfl) T.g_l_take T.f_l_take.kp T.b_l_take .nil pass0 (pa_cons (pv 0) (pa_cons (pe_callB (lenK (K := K) rfl) (by rfl) T.m_len (by decide +kernel) (pa_cons (pv 2) pa_nil)) pa_nil))) (fun _ _ => rfl)) pa_nil))) (pe_slice (slLK (K := K) rfl) (pv 1) (po_some (pe_op op_add (pv 4) pe_int)) po_none))))
      pss_nil)
      (pss_cons (ps_if (pt_cmpR op_eq (pv 3) pe_int (nomark _))
      (pss_one (ps_ret (pe_op op_cat (pe_slice (slLK (K := K) rfl) (pv 1) po_none (po_some (pv 4))) (pe_slice (slLK (K := K) rfl) (pv 1) (po_some (pe_op op_add (pv 4) pe_int)) po_none))))
      pss_nil)
      (pss_cons (ps_if (pt_cmpR op_eq (pv 3) pe_int (nomark _))
      (pss_one (ps_ret (pe_op op_cat (pe_op op_cat (pe_slice (slLK (K := K) rfl) (pv 1) po_none (po_some (pv 4))) (pe_revL (pe_slice (slLK (K := K) rfl) (pv 1) (po_some (pv 4)) (po_some (pe_op op_add (pv 4) pe_int))))) (pe_slice (slLK (K := K) rfl) (pv 1) (po_some (pe_op op_add (pv 4) pe_int)) po_none))))
      pss_nil)
      (pss_one (ps_ret (pe_callTy (listK (K := K) rfl) (by rfl) T.m_list (by decide +kernel) (pa_cons (pv 1) pa_nil))))))))), ?_⟩
    refine ⟨.ref p, rfl, p, 6, c, rfl, hp, by decide, by decide, by omega, fun d H1 d0 d1 hp1 f1 => ?_⟩
    have hh1 := f1 _ _ nhp hh
    refine ⟨.ref p, rfl, .ref h, rfl, h, _, rfl, .inl (SqL.of hh1), _, 1, rfl, rfl, p, _, c + 1, rfl, hp1, ?_, ?_, by omega, fun a H2 a0 a1 hp2 f2 => ?_⟩
    · rw [List.length_map]
      omega
    · rw [List.length_map]
      omega
    have hh2 := f2 _ _ nhp hh1
    have hk2 := (hk.fx hp f1).fx hp1 f2
    have f12 := f1.trans f2
    obtain ⟨y1, e1, l1, w1⟩ := cut_words zs none (some a) hw
    obtain ⟨y2, e2, l2, w2⟩ := cut_words zs (some (a + 1)) none hw
    have allA : ∀ {x y : List Str}, x.all isW = true → y.all isW = true → (x ++ y).all isW = true := fun hx hy => by rw [List.all_append, hx, hy]; rfl
    refine ⟨.int d, rfl, rfl, _, rfl, ite2 (fun _ => ?_) (fun _ => ?_)⟩
    · refine ⟨.ref h, rfl, .int a, rfl, a, rfl, h, _, rfl, SqL.of hh2, fun b1 nb1 => ?_⟩
      have x3 := Ex.new (o := .lst (cutV (zs.map V.str) none (some a))) nb1
      have g1 : (upd H2 b1 (.lst (cutV (zs.map V.str) none (some a)))) b1 = some (.lst (y1.map V.str)) := by rw [upd_same, e1]
      have n1p := pool_ne hp2 nb1
      generalize (upd H2 b1 (.lst (cutV (zs.map V.str) none (some a)))) = H3 at x3 g1 ⊢
      have hk3 := hk2.ex x3
      refine ⟨.ref kk, rfl, .ref p, rfl, .ref kk, rfl, kk, _, rfl, .inl (SqL.of hk3.1), p, ((ks.map V.str).length : Int), c + 2, rfl, hp2.ex x3, ?_, ?_, by omega, fun e H4 e0 e1' hp4 f4 => ?_⟩
      · rw [List.length_map]
        have := hk3.2.1
        omega
      · rw [List.length_map]
        have := hk3.2.2.1
        omega
      rw [List.length_map] at e1'
      have hk4 := hk3.fx (hp2.ex x3) f4
      obtain ⟨z, az, wz⟩ := at_word e0 e1' hk4.2.2.2
      refine ⟨kk, _, e, .str z, rfl, rfl, SqL.of hk4.1, az, by show 1 ≤ sizeLine; decide, fun b2 nb2 => ?_⟩
      have x5 := Ex.new (o := .lst [.str z]) nb2
      have g2 := upd_same (H := H4) (a := b2) (o := .lst [.str z])
      generalize (upd H4 b2 (.lst [.str z])) = H5 at x5 g2 ⊢
      have g1' := x5 _ _ (f4 _ _ n1p g1)
      refine ⟨b1, b2, _, _, rfl, rfl, g1', g2, ?_, fun b3 nb3 => ?_⟩
      · rw [List.length_map]
        exact sz (by show y1.length + 1 ≤ _; omega)
      have x6 := Ex.new (o := .lst (y1.map V.str ++ [.str z])) nb3
      have g3 : (upd H5 b3 (.lst (y1.map V.str ++ [.str z]))) b3 = some (.lst ((y1 ++ [z]).map V.str)) := by rw [upd_same, List.map_append]; rfl
      generalize (upd H5 b3 (.lst (y1.map V.str ++ [.str z]))) = H6 at x6 g3 ⊢
      have hh6 := x6 _ _ (x5 _ _ (f4 _ _ nhp (x3 _ _ hh2)))
      refine ⟨.ref h, rfl, .int a, rfl, a, 1, rfl, rfl, a + 1, rfl, h, _, rfl, SqL.of hh6, fun b4 nb4 => ?_⟩
      have x7 := Ex.new (o := .lst (cutV (zs.map V.str) (some (a + 1)) none)) nb4
      have g4 : (upd H6 b4 (.lst (cutV (zs.map V.str) (some (a + 1)) none))) b4 = some (.lst (y2.map V.str)) := by rw [upd_same, e2]
      generalize (upd H6 b4 (.lst (cutV (zs.map V.str) (some (a + 1)) none))) = H7 at x7 g4 ⊢
      have hp7 := ((hp4.ex x5).ex x6).ex x7
      refine ⟨b3, b4, _, _, rfl, rfl, x7 _ _ g3, g4, ?_, fun b5 nb5 => ?_⟩
      · rw [List.length_map, List.length_map, List.length_append]
        exact sz (by show y1.length + 1 + y2.length ≤ _; omega)
      have fr : Fx p H H7 := (f12.trans (Fx.ex x3)).trans (f4.trans ((Fx.ex x5).trans ((Fx.ex x6).trans (Fx.ex x7))))
      refine q b5 ((y1 ++ [z]) ++ y2) _ (pool_ne hp7 nb5) (fx_free fr hp7 nb5) ?_ ?_ ?_ (hp7.ex (Ex.new nb5)) (fr.trans (Fx.ex (Ex.new nb5)))
      · rw [upd_same, List.map_append (l₁ := y1 ++ [z])]
      · rw [List.length_append, List.length_append]
        show y1.length + 1 + y2.length ≤ 100
        omega
      · exact allA (allA w1 (by rw [List.all_cons, wz]; rfl)) w2
    refine ⟨.int d, rfl, rfl, _, rfl, ite2 (fun _ => ?_) (fun _ => ?_)⟩
    · refine ⟨.ref h, rfl, .int a, rfl, a, rfl, h, _, rfl, SqL.of hh2, fun b1 nb1 => ?_⟩
      have x3 := Ex.new (o := .lst (cutV (zs.map V.str) none (some a))) nb1
      have g1 : (upd H2 b1 (.lst (cutV (zs.map V.str) none (some a)))) b1 = some (.lst (y1.map V.str)) := by rw [upd_same, e1]
      generalize (upd H2 b1 (.lst (cutV (zs.map V.str) none (some a)))) = H3 at x3 g1 ⊢
      refine ⟨.ref h, rfl, .int a, rfl, a, 1, rfl, rfl, a + 1, rfl, h, _, rfl, SqL.of (x3 _ _ hh2), fun b4 nb4 => ?_⟩
      have x7 := Ex.new (o := .lst (cutV (zs.map V.str) (some (a + 1)) none)) nb4
      have g4 : (upd H3 b4 (.lst (cutV (zs.map V.str) (some (a + 1)) none))) b4 = some (.lst (y2.map V.str)) := by rw [upd_same, e2]
      generalize (upd H3 b4 (.lst (cutV (zs.map V.str) (some (a + 1)) none))) = H7 at x7 g4 ⊢
      have hp7 := (hp2.ex x3).ex x7
      refine ⟨b1, b4, _, _, rfl, rfl, x7 _ _ g1, g4, ?_, fun b5 nb5 => ?_⟩
      · rw [List.length_map, List.length_map]
        exact sz (by omega)
      have fr : Fx p H H7 := f12.trans ((Fx.ex x3).trans (Fx.ex x7))
      refine q b5 (y1 ++ y2) _ (pool_ne hp7 nb5) (fx_free fr hp7 nb5) ?_ ?_ (allA w1 w2) ((hp7.ex (Ex.new nb5)).mono (by omega)) (fr.trans (Fx.ex (Ex.new nb5)))
      · rw [upd_same, List.map_append]
      · rw [List.length_append]
        omega
    refine ⟨.int d, rfl, rfl, _, rfl, ite2 (fun _ => ?_) (fun _ => ?_)⟩
    · obtain ⟨y3, e3, l3, w3⟩ := cut_words zs (some a) (some (a + 2)) hw
      obtain ⟨y4, e4, l4, w4⟩ := cut_words zs (some (a + 2)) none hw
      refine ⟨.ref h, rfl, .int a, rfl, a, rfl, h, _, rfl, SqL.of hh2, fun b1 nb1 => ?_⟩
      have x3 := Ex.new (o := .lst (cutV (zs.map V.str) none (some a))) nb1
      have g1 : (upd H2 b1 (.lst (cutV (zs.map V.str) none (some a)))) b1 = some (.lst (y1.map V.str)) := by rw [upd_same, e1]
      generalize (upd H2 b1 (.lst (cutV (zs.map V.str) none (some a)))) = H3 at x3 g1 ⊢
      refine ⟨.ref h, rfl, .int a, rfl, a, rfl, .int a, rfl, a, 2, rfl, rfl, a + 2, rfl, h, _, rfl, SqL.of (x3 _ _ hh2), fun b2 nb2 => ?_⟩
      have x4 := Ex.new (o := .lst (cutV (zs.map V.str) (some a) (some (a + 2)))) nb2
      have g2 : (upd H3 b2 (.lst (cutV (zs.map V.str) (some a) (some (a + 2))))) b2 = some (.lst (y3.map V.str)) := by rw [upd_same, e3]
      generalize (upd H3 b2 (.lst (cutV (zs.map V.str) (some a) (some (a + 2))))) = H4 at x4 g2 ⊢
      refine ⟨b2, _, rfl, SqL.of g2, fun b3 nb3 => ?_⟩
      have x5 := Ex.new (o := .lst (y3.map V.str).reverse) nb3
      have g3 : (upd H4 b3 (.lst (y3.map V.str).reverse)) b3 = some (.lst (y3.reverse.map V.str)) := by rw [upd_same, List.map_reverse]
      generalize (upd H4 b3 (.lst (y3.map V.str).reverse)) = H5 at x5 g3 ⊢
      refine ⟨b1, b3, _, _, rfl, rfl, x5 _ _ (x4 _ _ g1), g3, ?_, fun b4 nb4 => ?_⟩
      · rw [List.length_map, List.length_map, List.length_reverse]
        exact sz (by omega)
      have x6 := Ex.new (o := .lst (y1.map V.str ++ y3.reverse.map V.str)) nb4
      have g4 : (upd H5 b4 (.lst (y1.map V.str ++ y3.reverse.map V.str))) b4 = some (.lst ((y1 ++ y3.reverse).map V.str)) := by rw [upd_same, List.map_append]
      generalize (upd H5 b4 (.lst (y1.map V.str ++ y3.reverse.map V.str))) = H6 at x6 g4 ⊢
      have hh6 := x6 _ _ (x5 _ _ (x4 _ _ (x3 _ _ hh2)))
      refine ⟨.ref h, rfl, .int a, rfl, a, 2, rfl, rfl, a + 2, rfl, h, _, rfl, SqL.of hh6, fun b5 nb5 => ?_⟩
      have x7 := Ex.new (o := .lst (cutV (zs.map V.str) (some (a + 2)) none)) nb5
      have g5 : (upd H6 b5 (.lst (cutV (zs.map V.str) (some (a + 2)) none))) b5 = some (.lst (y4.map V.str)) := by rw [upd_same, e4]
      generalize (upd H6 b5 (.lst (cutV (zs.map V.str) (some (a + 2)) none))) = H7 at x7 g5 ⊢
      have hp7 := ((((hp2.ex x3).ex x4).ex x5).ex x6).ex x7
      refine ⟨b4, b5, _, _, rfl, rfl, x7 _ _ g4, g5, ?_, fun b6 nb6 => ?_⟩
      · rw [List.length_map, List.length_map, List.length_append, List.length_reverse]
        exact sz (by omega)
      have fr : Fx p H H7 := f12.trans ((Fx.ex x3).trans ((Fx.ex x4).trans ((Fx.ex x5).trans ((Fx.ex x6).trans (Fx.ex x7)))))
      refine q b6 ((y1 ++ y3.reverse) ++ y4) _ (pool_ne hp7 nb6) (fx_free fr hp7 nb6) ?_ ?_ (allA (allA w1 (by rw [List.all_reverse]; exact w3)) w4) ((hp7.ex (Ex.new nb6)).mono (by omega)) (fr.trans (Fx.ex (Ex.new nb6)))
      · rw [upd_same, List.map_append (l₁ := y1 ++ y3.reverse)]
      · rw [List.length_append, List.length_append, List.length_reverse]
        omega
    refine ⟨.ref h, rfl, h, _, rfl, .inl (SqL.of hh2), fun l nl => ?_⟩
    exact q l zs _ (pool_ne hp2 nl) (fx_free f12 hp2 nl) upd_same (by omega) hw ((hp2.ex (Ex.new nl)).mono (by omega)) (f12.trans (Fx.ex (Ex.new nl)))

/-! ### the law -/
def spLaw (K : PySem.W.Frag) : Sp := fun vs H Q _ => ∃ (a : Addr) (ns : List Int), vs = [.ref a] ∧ SqL K H a (ns.map V.int) ∧ ns.length ≤ 63 ∧ ∀ H', Q (.bl true) H'
theorem fx_new {p : Addr} {H H1 H2 : Hp} (n : H p = none) (e : Ex H H1) (f : Fx p H1 H2) : Ex H H2 := fun a o h => f a o (ne_of_none h n) (e a o h)
theorem maxmin (n : Nat) : 1 ≤ (if (if (n : Int) < 8 then (n : Int) else 8) > 1 then (if (n : Int) < 8 then (n : Int) else 8) else 1) ∧ (if (if (n : Int) < 8 then (n : Int) else 8) > 1 then (if (n : Int) < 8 then (n : Int) else 8) else 1) ≤ 8 := by
  constructor
  · split <;> split <;> omega
  · split <;> split <;> omega
theorem bindsP (T : TX K mg A FD TK) : ∃ ds, Vals ([] : List V) ds ∧ Binds K (FD 27) ["self", "number", "text"] ds := by
  obtain ⟨ds2, R2, B2⟩ := T.f_Page_init.binds1 (ps := ["self", "number", "text"]) 3 1 (by simp) rfl (fun _ _ _ _ _ _ _ us its hl1 hl2 => match us, its, hl1, hl2 with | [_, _, _], [_], _, _ => ⟨_, rfl, rfl⟩)
  exact ⟨ds2, R2, B2⟩
theorem PageAt.uniq {C : Addr} {H : Hp} {p : Addr} {n m : Int} {ws vs : List Str} (h : PageAt C H p n ws) (h2 : PageAt C H p m vs) : n = m ∧ ws = vs := by
  obtain ⟨dx, t, a1, a2, _⟩ := h
  obtain ⟨dy, u, b1, b2, _⟩ := h2
  rw [a1] at b1
  injection b1 with b1
  injection b1 with _ _ b1
  injection b1 with e1 b1
  injection b1 with e2 _
  injection e1 with _ e1
  injection e2 with _ e2
  injection e1 with e1
  injection e2 with e2
  subst e2
  rw [a2] at b2
  injection b2 with b2
  injection b2 with b2
  exact ⟨e1, (List.map_inj_right (fun x y h => V.str.inj h)).mp b2⟩
theorem PEqR.ex {C a b : Addr} {r : Bool} {H H' : Hp} (h : PEqR C a b r H) (e : Ex H H') : PEqR C a b r H' := by
  obtain ⟨n, m, ws, vs, h1, h2, h3⟩ := h
  exact ⟨n, m, ws, vs, h1.ex e, h2.ex e, h3⟩
theorem one_get {x q : V} {i : Nat} (h : [x][i]? = some q) : q = x := by
  match i, h with
  | 0, h => exact (Option.some.inj h).symm
  | i + 1, h => simp at h
theorem five_get {d x : V} {i : Nat} (h : [d, d, d, d, d][i]? = some x) : x = d ∧ i < 5 := by
  match i, h with
  | 0, h => exact ⟨(Option.some.inj h).symm, by decide⟩
  | 1, h => exact ⟨(Option.some.inj h).symm, by decide⟩
  | 2, h => exact ⟨(Option.some.inj h).symm, by decide⟩
  | 3, h => exact ⟨(Option.some.inj h).symm, by decide⟩
  | 4, h => exact ⟨(Option.some.inj h).symm, by decide⟩
  | i + 5, h => simp at h
theorem bare_nf {K : PySem.W.Frag} {C : Addr} {H : Hp} {y : V} (h : Bare K H y) : ∃ T, TyX K H y (.type T) ∧ PySem.W.notFirst K C (.type T) = true := by
  obtain ⟨ty, ht, hm⟩ := h
  refine ⟨ty, ht, ?_⟩
  simp only [List.mem_cons, List.not_mem_nil, or_false] at hm
  rcases hm with rfl | rfl | rfl | rfl | rfl | rfl <;> exact Own.nf rfl rfl
theorem decide_eq_comm {α : Type} [DecidableEq α] (x y : α) : decide (x = y) = decide (y = x) := by
  by_cases h : x = y
  · rw [decide_eq_true h, decide_eq_true h.symm]
  · rw [decide_eq_false h, decide_eq_false fun z => h z.symm]
theorem jbound {ws : List Str} (h : ws.all isW = true) (hl : ws.length ≤ 120) : (ws.map (·.length)).sum + ws.length * (Str.ofString " ").length ≤ 16777216 := by
  have := len_sum ws h
  rw [show (Str.ofString " ").length = 1 by decide +kernel]
  omega
theorem due_step {K : PySem.W.Frag} {σ : L2.St} {H : Hp} {Q : VK} {i j k l : Nat} {n m : Int} {a b : Addr} {ws us : List Str} (h1 : σ[i]? = some (some (.int n))) (h2 : σ[j]? = some (some (.int m))) (h3 : σ[k]? = some (some (.ref a))) (h4 : σ[l]? = some (some (.ref b)))
    (ha : H a = some (.lst (ws.map V.str))) (hb : H b = some (.lst (us.map V.str))) (ww : ws.all isW = true) (wu : us.all isW = true) (q : Q (.bl (decide (n = m) && decide (ws = us))) H) : tAndV (tOp rEq (tVar i) (tVar j)) (tOp (rEqD K) (tVar k) (tVar l)) σ H Q := by
  refine ⟨.int n, h1, .int m, h2, rfl, _, rfl, ite2 (fun c => ?_) (fun c => ?_)⟩
  · rw [decide_eq_true (V.int.inj (of_decide_eq_true c)), Bool.true_and] at q
    refine ⟨.ref a, h3, .ref b, h4, _, _, .lst (SqL.of ha) (dpS ws), .lst (SqL.of hb) (dpS us), shapeS ww, shapeS wu, ?_⟩
    rw [eqvL2]
    exact q
  · rw [decide_eq_false (fun z => c (decide_eq_true (congrArg V.int z))), Bool.false_and] at q
    exact q
set_option maxHeartbeats 16000000 in
theorem ok_law (T : TX K mg A FD TK) : FnOk P w K mg base CX0 9 (A 26) (FD 26) ["_law_script"] (spLaw K) := by
  have G_l_pool := (ok_l_pool (P := P) (w := w) (base := base) T).mono (show 1 ≤ 8 by decide)
  have G_l_take := (ok_l_take (P := P) (w := w) (base := base) T).mono (show 1 ≤ 8 by decide)
  have G_l_kinds := (ok_l_kinds (P := P) (w := w) (base := base) T).mono (show 2 ≤ 8 by decide)
  have G_l_words := (ok_l_words (P := P) (w := w) (base := base) T).mono (show 2 ≤ 8 by decide)
  have G_l_other := (ok_l_other (P := P) (w := w) (base := base) T).mono (show 2 ≤ 8 by decide)
  have G_l_told := (ok_l_told (P := P) (w := w) (base := base) T).mono (show 6 ≤ 8 by decide)
  have G_Page := (ok_pinit (P := P) (w := w) (base := base) T).mono (show 5 ≤ 7 by decide)
  have G_Page_words := (ok_p_words (P := P) (w := w) (base := base) T).mono (show 1 ≤ 8 by decide)
  have G_Page_repr := (ok_p_repr (P := P) (w := w) (base := base) T).mono (show 4 ≤ 7 by decide)
  have G_Page_eq := (ok_peq (P := P) (w := w) (base := base) T).mono (show 1 ≤ 8 by decide)
  have G_Page_eq7 := (ok_peq (P := P) (w := w) (base := base) T).mono (show 1 ≤ 7 by decide)
  obtain ⟨dsb, R2_Page, B2_Page⟩ := bindsP T
  refine T.f_law.ok (k := 8) sc_law (fun vs H Q E h => ?_) (fun cdv A' outer s H vs Q E hr h => ?_)
  · obtain ⟨a, ns, rfl, _⟩ := h
    rfl
  · obtain ⟨a, ns, rfl, hS, hn, q⟩ := h
    refine ⟨_, (pss_cons (ps_for PassesOwn.never rfl (pi_range1 (by rfl) T.m_range (pa_cons (pe_callB (call_max2 rfl) (by rfl) T.m_max (by decide +kernel) (pa_cons pe_int (pa_cons (pe_callB (call_min2 rfl) (by rfl) T.m_min (by decide +kernel) (pa_cons pe_int (pa_cons (pe_callB (lenK (K := K) rfl) (by rfl) T.m_len (by decide +kernel) (pa_cons (pv 0) pa_nil)) pa_nil))) pa_nil))) pa_nil)) (pg_name (i := 1) sc_law.nd rfl (.inl rfl))
      (pss_cons (ps_set (i := 2) sc_law.nd rfl (.inl rfl) (pe_call G_l_pool hr (by rfl) T.g_l_pool T.f_l_pool.kp T.b_l_pool .nil pass0 (pa_cons (pv 0) (pa_cons (pv 1) pa_nil))))
      (pss_cons (ps_set (i := 3) sc_law.nd rfl (.inl rfl) (pe_call G_l_kinds hr (by rfl) T.g_l_kinds T.f_l_kinds.kp T.b_l_kinds .nil pass0 (pa_cons (pv 2) pa_nil)))
      (pss_cons (ps_set (i := 4) sc_law.nd rfl (.inl rfl) (pe_call G_l_words hr (by rfl) T.g_l_words T.f_l_words.kp T.b_l_words .nil pass0 (pa_cons (pv 2) (pa_cons (pv 3) (pa_cons pe_int pa_nil)))))
      (pss_cons (ps_set (i := 5) sc_law.nd rfl (.inl rfl) (pe_call G_l_other hr (by rfl) T.g_l_other T.f_l_other.kp T.b_l_other .nil pass0 (pa_cons (pv 2) (pa_cons (pv 4) (pa_cons (pv 3) pa_nil)))))
      (pss_cons (ps_set (i := 6) sc_law.nd rfl (.inl rfl) (pe_op op_add pe_int (pe_call G_l_take hr (by rfl) T.g_l_take T.f_l_take.kp T.b_l_take .nil pass0 (pa_cons (pv 2) (pa_cons pe_int pa_nil)))))
      (pss_cons (ps_set (i := 7) sc_law.nd rfl (.inl rfl) (pe_ix (ixLK (K := K) rfl) (pe_lst (pa_cons (pv 6) (pa_cons (pe_op op_add pe_int (pe_call G_l_take hr (by rfl) T.g_l_take T.f_l_take.kp T.b_l_take .nil pass0 (pa_cons (pv 2) (pa_cons pe_int pa_nil)))) pa_nil))) (pe_call G_l_take hr (by rfl) T.g_l_take T.f_l_take.kp T.b_l_take .nil pass0 (pa_cons (pv 2) (pa_cons pe_int pa_nil))) (fun _ _ => rfl)))
      (pss_cons (ps_par (by rfl) sc_law.nd (i := 8) (j := 9) rfl rfl (by decide) rfl rfl (pa_cons (pe_make T.M_Page G_Page hr (by rfl) T.k_Page B2_Page R2_Page pass0 (pa_cons (pv 6) (pa_cons (pe_join pe_str (pv 4)) pa_nil))) (pa_cons (pe_make T.M_Page G_Page hr (by rfl) T.k_Page B2_Page R2_Page pass0 (pa_cons (pv 7) (pa_cons (pe_join pe_str (pv 5)) pa_nil))) pa_nil)) (by rfl))
      (pss_cons (ps_set (i := 10) sc_law.nd rfl (.inl rfl) (pe_and (pe_cmpR op_eq (pv 6) (pv 7) (nomark _)) (pe_one (pe_cmpR (eqDK (K := K) rfl hr.units) (pv 4) (pv 5) (nomark _)))))
      (pss_cons (ps_set (i := 11) sc_law.nd rfl (.inl rfl) (pe_lst (pa_cons (pe_cmpR (Own.op_eqO G_Page_eq T.M_Page_eq T.b_Page_eq pass0 hr (K := K) rfl) (pv 8) (pv 9) (nomark _)) (pa_cons (pe_cmpR (Own.op_eqO G_Page_eq T.M_Page_eq T.b_Page_eq pass0 hr (K := K) rfl) (pv 9) (pv 8) (nomark _)) (pa_cons (pe_not (pe_cmpR (Own.op_neO G_Page_eq7 T.M_Page_eq T.b_Page_eq pass0 hr T.neP T.moP (K := K) rfl) (pv 8) (pv 9) (nomark _))) (pa_cons (pe_cmpR (OwnS.op_inB (R := PEqR (A 17)) pageEq G_Page_eq7 T.M_Page_eq T.b_Page_eq pass0 hr) (pv 8) (pe_lst (pa_cons (pv 9) pa_nil)) (by rfl)) (pa_cons (pe_cmpR (OwnS.op_eqB (R := PEqR (A 17)) pageEq G_Page_eq7 T.M_Page_eq T.b_Page_eq pass0 hr) (pe_lst (pa_cons (pv 8) (pa_cons (pv 9) pa_nil))) (pe_lst (pa_cons (pv 9) (pa_cons (pv 8) pa_nil))) (nomark _)) pa_nil)))))))
      (pss_cons (ps_if (PW.pt (pw_or (pt_cmpR (neDK (K := K) rfl hr.units) (pv 11) (pe_op op_rep (pe_lst (pa_cons (pv 10) pa_nil)) pe_int) (nomark _)) (pw_or1 (pt_not (pt_val (pe_callB (allK (K := K) rfl rfl) (by rfl) T.m_all (by decide +kernel) (pa_cons (pe_lc (own := [("_law_answer", 13)])  rfl sc_law.nd (piLK (K := K) rfl (pv 11)) (blkOk_by (own := [("_law_answer", 13)]) (N := N_law) (sc := defScope (topS 26)) (by decide +kernel)) (fun _ _ _ _ _ => (pg_name (i := 13) sc_law.nd rfl (Or.inl rfl))) (fun _ _ _ _ _ => pts_nil) (fun _ _ _ _ _ => (pe_callB (isiK (K := K) rfl) (by rfl) T.m_isinstance (by decide +kernel) (pa_cons (pv 13) (pa_cons (pe_bltn (v := .ty "bool") (by rfl) T.m_bool (by decide +kernel) rfl) pa_nil))))) pa_nil)))))))
      (pss_one (ps_ret pe_bl))
      pss_nil)
      (pss_cons (ps_expr (pe_bm PySem.F.plainAttrs_list PySem.F.slot_list_append PySem.F.type_list_append mt_append (pe_meth0 (pv 8) T.cl_Page T.M_Page_words G_Page_words hr T.b_Page_words .nil pass0) (pa_cons pe_str pa_nil)))
      (pss_cons (ps_if (PW.pt (pw_or (pt_not (pt_val (pe_call G_l_told hr (by rfl) T.g_l_told T.f_l_told.kp T.b_l_told .nil pass0 (pa_cons (pv 8) (pa_cons (pv 6) (pa_cons (pv 4) pa_nil)))))) (pw_or1 (pt_not (pt_val (pe_call G_l_told hr (by rfl) T.g_l_told T.f_l_told.kp T.b_l_told .nil pass0 (pa_cons (pv 9) (pa_cons (pv 7) (pa_cons (pv 5) pa_nil)))))))))
      (pss_one (ps_ret pe_bl))
      pss_nil)
      (pss_cons (ps_if (PW.pt (pw_or (pt_cmpR (Own.op_neO G_Page_eq7 T.M_Page_eq T.b_Page_eq pass0 hr T.neP T.moP (K := K) rfl) (pv 8) (pe_make T.M_Page G_Page hr (by rfl) T.k_Page B2_Page R2_Page pass0 (pa_cons (pv 6) (pa_cons (pe_join pe_str (pv 4)) pa_nil))) (nomark _)) (pw_or1 (pt_cmpR (Own.op_eqO G_Page_eq T.M_Page_eq T.b_Page_eq pass0 hr (K := K) rfl) (pv 8) (pe_make T.M_Page G_Page hr (by rfl) T.k_Page B2_Page R2_Page pass0 (pa_cons (pe_op op_add (pe_op op_mod (pv 6) pe_int) pe_int) (pa_cons (pe_join pe_str (pv 4)) pa_nil))) (nomark _)))))
      (pss_one (ps_ret pe_bl))
      pss_nil)
      (pss_one (ps_for PassesOwn.never rfl (piTK (K := K) rfl (pe_tup (pa_cons pe_non (pa_cons (pv 6) (pa_cons (pe_join pe_str (pv 4)) (pa_cons (pe_tup (pa_cons (pv 6) (pa_cons (pe_join pe_str (pv 4)) pa_nil))) (pa_cons (pv 4) (pa_cons pe_bl (pa_cons (pe_callB (Own.cr_reprO G_Page_repr T.M_Page_repr T.b_Page_repr pass0 hr) (by rfl) T.m_repr (by decide +kernel) (pa_cons (pv 8) pa_nil)) pa_nil))))))))) (pg_name (i := 12) sc_law.nd rfl (.inl rfl))
      (pss_one (ps_if (PW.pt (pw_or (pt_cmpR op_notBl (pe_cmpR (Own.op_eqO G_Page_eq T.M_Page_eq T.b_Page_eq pass0 hr (K := K) rfl) (pv 8) (pv 12) (nomark _)) pe_bl (nomark _)) (pw_or1 (pt_cmpR op_notBl (pe_cmpR (Own.op_neO G_Page_eq7 T.M_Page_eq T.b_Page_eq pass0 hr T.neP T.moP (K := K) rfl) (pv 8) (pv 12) (nomark _)) pe_bl (nomark _)))))
      (pss_one (ps_ret pe_bl))
      pss_nil))))))))))))))))))
      (pss_one (ps_ret pe_bl))), ?_⟩
    refine ⟨.ref a, rfl, a, _, rfl, .inl hS, 8, _, rfl, 1, _, rfl, (if (if ((ns.map V.int).length : Int) < 8 then ((ns.map V.int).length : Int) else 8) > 1 then (if ((ns.map V.int).length : Int) < 8 then ((ns.map V.int).length : Int) else 8) else 1), rfl, ?_, ?_, ?_⟩
    · have := maxmin (ns.map V.int).length
      omega
    · have := maxmin (ns.map V.int).length
      omega
    have hmm := maxmin (ns.map V.int).length
    generalize (if (if ((ns.map V.int).length : Int) < 8 then ((ns.map V.int).length : Int) else 8) > 1 then (if ((ns.map V.int).length : Int) < 8 then ((ns.map V.int).length : Int) else 8) else 1) = nn at hmm ⊢
    refine for_range (lo := 0) (n := nn.toNat) (fun i σ' H' => ∃ y1 y2 y3 y4 y5 y6 y7 y8 y9 y10 y11 y12 y13 : Option V, σ' = [some (.ref a), y1, y2, y3, y4, y5, y6, y7, y8, y9, y10, y11, y12, y13] ∧ Ex H H') ⟨none, none, none, none, none, none, none, none, none, none, none, none, none, rfl, Ex.refl H⟩ (fun i σ' H' hi pv => ?_) (fun σ' H' pv => q H')
    obtain ⟨y1, y2, y3, y4, y5, y6, y7, y8, y9, y10, y11, y12, y13, rfl, e0⟩ := pv
    refine ⟨.ref a, rfl, .int ((0 : Int) + i), rfl, a, ns, i, ?_, ex_l e0 hS, hn, by omega, fun p H1 np e1 hp1 => ?_⟩
    · show [V.ref a, V.int ((0 : Int) + i)] = [V.ref a, V.int (i : Int)]
      rw [Int.zero_add]
    refine ⟨.ref p, rfl, p, 0, rfl, hp1, by decide, fun kk zs H2 nkk hk2 hp2 f2 => ?_⟩
    have x2 : Ex H' H2 := fx_new np e1 f2
    refine ⟨.ref p, rfl, .ref kk, rfl, p, kk, zs, 2, 12, rfl, by decide, hp2, hk2, by decide, fun h ws H3 nhp nh hh lw ww hp3 f3 => ?_⟩
    have hk3 := hk2.fx hp2 f3
    have x3 : Ex H' H3 := fun b o h => f3 _ _ (ne_of_none h np) (x2 _ _ h)
    refine ⟨.ref p, rfl, .ref h, rfl, .ref kk, rfl, p, h, kk, ws, zs, _, rfl, nhp, hp3, by decide, hh, by omega, ww, hk3, fun o us H4 nop no ho lu wu hp4 f4 => ?_⟩
    have hh4 := f4 _ _ nhp hh
    have x4 : Ex H' H4 := fun b o h => f4 _ _ (ne_of_none h np) (x3 _ _ h)
    refine ⟨.ref p, rfl, p, 9999, _, rfl, hp4, by decide, by decide, by decide, fun n' H5 n0 n1 hp5 f5 => ⟨1, n', rfl, rfl, ?_⟩⟩
    have hh5 := f5 _ _ nhp hh4
    have ho5 := f5 _ _ nop ho
    have x5 : Ex H' H5 := fun b o h => f5 _ _ (ne_of_none h np) (x4 _ _ h)
    refine ⟨.int (1 + n'), rfl, .ref p, rfl, p, 9999, _, rfl, hp5, by decide, by decide, by decide, fun m' H6 m0 m1 hp6 f6 => ⟨1, m', rfl, rfl, by show 2 ≤ sizeLine; decide, fun l nl => ?_⟩⟩
    have hh6 := f6 _ _ nhp hh5
    have ho6 := f6 _ _ nop ho5
    have x6 : Ex H' H6 := fun b o h => f6 _ _ (ne_of_none h np) (x5 _ _ h)
    have xl := Ex.new (o := .lst [.int (1 + n'), .int (1 + m')]) nl
    have gl := upd_same (H := H6) (a := l) (o := .lst [.int (1 + n'), .int (1 + m')])
    have nlp := pool_ne hp6 nl
    generalize (upd H6 l (.lst [.int (1 + n'), .int (1 + m')])) = H7 at xl gl ⊢
    refine ⟨.ref p, rfl, p, 2, _, rfl, hp6.ex xl, by decide, by decide, by decide, fun t H8 t0 t1 hp8 f8 => ?_⟩
    have hh8 := f8 _ _ nhp (xl _ _ hh6)
    have ho8 := f8 _ _ nop (xl _ _ ho6)
    have x8 : Ex H' H8 := fun b o h => f8 _ _ (ne_of_none h np) (xl _ _ (x6 _ _ h))
    obtain ⟨m, gm, mm0, mm1⟩ : ∃ m : Int, atI [V.int (1 + n'), V.int (1 + m')] t = some (.int m) ∧ 1 ≤ m ∧ m ≤ 9999 := by
      obtain ⟨tn, rfl⟩ := Int.eq_ofNat_of_zero_le t0
      match tn, t1 with
      | 0, _ => exact ⟨1 + n', rfl, by omega, by omega⟩
      | 1, _ => exact ⟨1 + m', rfl, by omega, by omega⟩
      | k + 2, z => exact absurd z (by omega)
    refine ⟨l, _, t, .int m, rfl, rfl, SqL.of (f8 _ _ nlp gl), gm, ?_⟩
    have hp8' := hp8
    clear gm gl f8
    have n1' : 1 ≤ 1 + n' := by omega
    have n2' : 1 + n' ≤ 9999 := by omega
    have jw := jbound ww (show ws.length ≤ 120 by omega)
    have ju := jbound wu (show us.length ≤ 120 by omega)
    -- the two pages
    refine ⟨.int (1 + n'), rfl, ⟨_, rfl⟩, .ref h, rfl, " ", h, ws, rfl, rfl, .inl (SqL.of hh8), jw, fun b1 dx1 nb1 ndx1 _ => mk_page nb1 ndx1 n1' n2' (by omega) ww fun H9 x9 hP1 => ?_⟩
    refine ⟨.int m, rfl, ⟨_, rfl⟩, .ref o, rfl, " ", o, us, rfl, rfl, .inl (SqL.of (x9 _ _ ho8)), ju, fun b2 dx2 nb2 ndx2 _ => mk_page nb2 ndx2 mm0 mm1 (by omega) wu fun HA xA hP2 => ?_⟩
    refine ⟨_, _, rfl, ?_⟩
    have hPA := hP1.ex xA
    have hhA := xA _ _ (x9 _ _ hh8)
    have hoA := xA _ _ (x9 _ _ ho8)
    have xxA : Ex H' HA := (x8.trans x9).trans xA
    refine due_step (K := K) (n := 1 + n') (m := m) (ws := ws) (us := us) (a := h) (b := o) rfl rfl rfl rfl hhA hoA ww wu ?_
    obtain ⟨due, hdue⟩ : ∃ due : Bool, due = (decide (1 + n' = m) && decide (ws = us)) := ⟨_, rfl⟩
    have R12 : PEqR (A 17) b1 b2 due HA := ⟨_, _, _, _, hPA, hP2, hdue⟩
    have R21 : PEqR (A 17) b2 b1 due HA := ⟨_, _, _, _, hP2, hPA, by rw [hdue, decide_eq_comm (1 + n') m, decide_eq_comm ws us]⟩
    rw [← hdue]
    clear hdue nb1 ndx1 nb2 ndx2
    obtain ⟨d1, t1', hb1, ht1, _⟩ := id hPA
    obtain ⟨d2, t2', hb2, ht2, _⟩ := id hP2
    -- five answers
    refine ⟨.ref b1, rfl, .ref b2, rfl, b1, d1, _, rfl, hb1, .inl ⟨b2, d2, _, rfl, hb2⟩, pageEq _ _ _ due _ _ R12 ⟨due, rfl, ?_⟩⟩
    refine ⟨.ref b2, rfl, .ref b1, rfl, b2, d2, _, rfl, hb2, .inl ⟨b1, d1, _, rfl, hb1⟩, pageEq _ _ _ due _ _ R21 ⟨due, rfl, ?_⟩⟩
    refine ⟨.ref b1, rfl, .ref b2, rfl, b1, d1, _, rfl, hb1, .inl ⟨b2, d2, _, rfl, hb2⟩, pageEq _ _ _ due _ _ R12 ⟨due, rfl, _, rfl, ?_⟩⟩
    rw [Bool.not_not]
    refine ⟨.ref b1, rfl, .ref b2, rfl, by show 1 ≤ sizeLine; decide, fun l1 nl1 => ?_⟩
    have xB := Ex.new (o := .lst [.ref b2]) nl1
    have g1 := upd_same (H := HA) (a := l1) (o := .lst [.ref b2])
    generalize (upd HA l1 (.lst [.ref b2])) = HB at xB g1 ⊢
    have R21B := R21.ex xB
    have same21 : b2 = b1 → due = true := fun z => by
      obtain ⟨n, m, ws, vs, p1, p2, rfl⟩ := id R21
      subst z
      obtain ⟨e1, e2⟩ := p1.uniq p2
      rw [e1, e2, decide_eq_true rfl, decide_eq_true rfl]
      rfl
    refine ⟨l1, _, fun _ => due, rfl, g1, fun i q hq => ?_, ?_⟩
    · obtain rfl := one_get hq
      exact ⟨b2, b1, d2, d1, _, _, rfl, rfl, xB _ _ hb2, xB _ _ hb1, R21B, same21⟩
    rw [show OwnS.an (fun _ => due) 0 [V.ref b2].length = due from Bool.or_false due]
    refine ⟨.ref b1, rfl, .ref b2, rfl, by show 2 ≤ sizeLine; decide, fun l2 nl2 => ?_⟩
    have xC := Ex.new (o := .lst [.ref b1, .ref b2]) nl2
    have g2 := upd_same (H := HB) (a := l2) (o := .lst [.ref b1, .ref b2])
    generalize (upd HB l2 (.lst [.ref b1, .ref b2])) = HC at xC g2 ⊢
    refine ⟨.ref b2, rfl, .ref b1, rfl, by show 2 ≤ sizeLine; decide, fun l3 nl3 => ?_⟩
    have xD := Ex.new (o := .lst [.ref b2, .ref b1]) nl3
    have g3 := upd_same (H := HC) (a := l3) (o := .lst [.ref b2, .ref b1])
    generalize (upd HC l3 (.lst [.ref b2, .ref b1])) = HD at xD g3 ⊢
    have xAD : Ex HA HD := (xB.trans xC).trans xD
    have R12D := R12.ex xAD
    have R21D := R21.ex xAD
    refine ⟨l2, l3, _, _, fun _ => due, rfl, rfl, xD _ _ g2, g3, rfl, fun i x y hx hy => ?_, ?_⟩
    · match i, hx, hy with
      | 0, hx, hy =>
        cases hx
        cases hy
        exact ⟨b1, b2, d1, d2, _, _, rfl, rfl, xAD _ _ hb1, xAD _ _ hb2, R12D, fun z => same21 z.symm⟩
      | 1, hx, hy =>
        cases hx
        cases hy
        exact ⟨b2, b1, d2, d1, _, _, rfl, rfl, xAD _ _ hb2, xAD _ _ hb1, R21D, same21⟩
      | i + 2, hx, _ => simp at hx
    rw [show OwnS.al (fun _ => due) 0 [V.ref b1, V.ref b2].length = due by cases due <;> rfl]
    refine ⟨by show 5 ≤ sizeLine; decide, fun L nL => ?_⟩
    have xE := Ex.new (o := .lst [.bl due, .bl due, .bl due, .bl due, .bl due]) nL
    have gL := upd_same (H := HD) (a := L) (o := .lst [.bl due, .bl due, .bl due, .bl due, .bl due])
    generalize (upd HD L (.lst [.bl due, .bl due, .bl due, .bl due, .bl due])) = HE at xE gL ⊢
    have xAE := xAD.trans xE
    -- told != [due] * 5
    refine ⟨.ref L, rfl, .bl due, rfl, by show 1 ≤ sizeLine; decide, fun l4 nl4 => ?_⟩
    have xF := Ex.new (o := .lst [.bl due]) nl4
    have g4 := upd_same (H := HE) (a := l4) (o := .lst [.bl due])
    generalize (upd HE l4 (.lst [.bl due])) = HF at xF g4 ⊢
    refine ⟨l4, 5, _, rfl, rfl, g4, by decide, by decide, by show 5 ≤ sizeLine; decide, fun l5 nl5 => ?_⟩
    have xG := Ex.new (o := .lst (List.replicate (5 : Int).toNat [V.bl due]).flatten) nl5
    have g5 : (upd HF l5 (.lst (List.replicate (5 : Int).toNat [V.bl due]).flatten)) l5 = some (.lst [.bl due, .bl due, .bl due, .bl due, .bl due]) := upd_same
    generalize (upd HF l5 (.lst (List.replicate (5 : Int).toNat [V.bl due]).flatten)) = HG at xG g5 ⊢
    have gLG := xG _ _ (xF _ _ gL)
    have five : DpAll K HG [.bl due, .bl due, .bl due, .bl due, .bl due] [.bool due, .bool due, .bool due, .bool due, .bool due] := .cons (.bl _) (.cons (.bl _) (.cons (.bl _) (.cons (.bl _) (.cons (.bl _) .nil))))
    have sh5 : SeqAt.shaped (.list [.bool due, .bool due, .bool due, .bool due, .bool due]) = true := by cases due <;> decide +kernel
    refine ⟨_, _, .lst (SqL.of gLG) five, .lst (SqL.of g5) five, sh5, sh5, _, rfl, ?_⟩
    rw [SeqAt.eqv_refl _ (by
      have := sh5
      unfold SeqAt.shaped at this
      rw [Bool.and_eq_true] at this
      exact this.1)]
    have xAG := (xAE.trans xF).trans xG
    refine iteF ?_
    refine ⟨.ref L, rfl, L, rfl, ⟨_, SqL.of gLG⟩, fun D nD => ?_⟩
    refine lc_list (xs := [.bl due, .bl due, .bl due, .bl due, .bl due]) (fun i H' => Ex HG H' ∧ H' D = some (.lst (List.replicate i (.bl true)))) ⟨Ex.new nD, upd_same⟩ (fun i H' _ p => ex_l p.1 (SqL.of gLG)) (fun i x HH hx p => ?_) (fun HH p => ?_)
    · obtain ⟨p1, p2⟩ := p
      obtain ⟨rfl, hi5⟩ := five_get hx
      refine ⟨rfl, .bl due, rfl, .bl due, .ty "bool", .type "bool", .type "bool", true, rfl, .ty _, .base (.bl due), kit_ty (by decide +kernel), _, p2, ?_, Ex.mut p1 nD, ?_⟩
      · rw [List.length_replicate]
        exact sz_lt (by omega)
      · rw [upd_same, List.replicate_succ']
    obtain ⟨xGH, gD⟩ := p
    refine ⟨D, List.replicate 5 true, rfl, SqL.of gD, _, rfl, ?_⟩
    have xAH := xAG.trans xGH
    have hPH := hPA.ex xAH
    -- one.words().append('a')
    refine ⟨.ref b1, rfl, b1, d1, _, rfl, xAH _ _ hb1, rfl, b1, 1 + n', ws, rfl, hPH, fun lw Hw nlw xw hlw => ⟨.inl ⟨rfl, _, SqL.of hlw⟩, lw, _, _, rfl, rfl, hlw, ?_, ?_⟩⟩
    · rw [List.length_map]
      exact sz_lt (by omega)
    have xI : Ex HH (upd Hw lw (.lst (ws.map V.str ++ [.str "a"]))) := Ex.mut xw nlw
    generalize (upd Hw lw (.lst (ws.map V.str ++ [.str "a"]))) = HI at xI ⊢
    have xAI := xAH.trans xI
    have hPI := hPA.ex xAI
    have hP2I := hP2.ex xAI
    have hhI := xAI _ _ hhA
    have hoI := xAI _ _ hoA
    have hb1I := xAI _ _ hb1
    -- told
    refine ⟨.ref b1, rfl, .int (1 + n'), rfl, .ref h, rfl, b1, h, 1 + n', ws, rfl, hPI, hhI, n1', n2', true, rfl, iteF ?_⟩
    refine ⟨.ref b2, rfl, .int m, rfl, .ref o, rfl, b2, o, m, us, rfl, hP2I, hoI, mm0, mm1, true, rfl, ?_⟩
    -- like and unlike pages
    refine ⟨.ref b1, rfl, .int (1 + n'), rfl, ⟨_, rfl⟩, .ref h, rfl, " ", h, ws, rfl, rfl, .inl (SqL.of hhI), jw, fun b3 dx3 nb3 ndx3 _ => mk_page nb3 ndx3 n1' n2' (by omega) ww fun HJ xJ hP3 => ?_⟩
    obtain ⟨d3, t3', hb3, _⟩ := id hP3
    refine ⟨b1, d1, _, rfl, xJ _ _ hb1I, .inl ⟨b3, d3, _, rfl, hb3⟩, pageEq _ _ _ true _ _ ⟨_, _, _, _, hPI.ex xJ, hP3, by rw [decide_eq_true rfl, decide_eq_true rfl]; rfl⟩ ⟨true, rfl, _, rfl, iteF ?_⟩⟩
    have nx1 : 1 ≤ (1 + n') % 9999 + 1 := by omega
    have nx2 : (1 + n') % 9999 + 1 ≤ 9999 := by omega
    have nx3 : ¬ (1 + n') = (1 + n') % 9999 + 1 := by omega
    refine ⟨.ref b1, rfl, .int (1 + n'), rfl, 1 + n', 9999, rfl, rfl, (by show (0 : Int) < 9999; decide), (1 + n') % 9999, 1, rfl, rfl, ⟨_, rfl⟩, .ref h, rfl, " ", h, ws, rfl, rfl, .inl (SqL.of (xJ _ _ hhI)), jw, fun b4 dx4 nb4 ndx4 _ => mk_page nb4 ndx4 nx1 nx2 (by omega) ww fun HK xK hP4 => ?_⟩
    obtain ⟨d4, t4', hb4, _⟩ := id hP4
    have xIK := xJ.trans xK
    have hhK := xIK _ _ hhI
    have hb1K := xIK _ _ hb1I
    have hPK := hPI.ex xIK
    have xKK : Ex H' HK := (xxA.trans xAI).trans xIK
    refine ⟨b1, d1, _, rfl, hb1K, .inl ⟨b4, d4, _, rfl, hb4⟩, pageEq _ _ _ false _ _ ⟨_, _, _, _, hPK, hP4, by rw [decide_eq_false nx3]; rfl⟩ ⟨false, rfl, _, rfl, ?_⟩⟩
    -- things that are no pages
    refine ⟨.int (1 + n'), rfl, ⟨_, rfl⟩, .ref h, rfl, " ", h, ws, rfl, rfl, .inl (SqL.of hhK), jw, .int (1 + n'), rfl, ⟨_, rfl⟩, .ref h, rfl, " ", h, ws, rfl, rfl, .inl (SqL.of hhK), jw, by show 2 ≤ sizeLine; decide, fun tp ntp => ?_⟩
    have xL := Ex.new (o := .tup [.int (1 + n'), .str (Txt.join " " ws)]) ntp
    have gtp := upd_same (H := HK) (a := tp) (o := .tup [.int (1 + n'), .str (Txt.join " " ws)])
    generalize (upd HK tp (.tup [.int (1 + n'), .str (Txt.join " " ws)])) = HL at xL gtp ⊢
    refine ⟨.ref h, rfl, .ref b1, rfl, b1, d1, _, rfl, xL _ _ hb1K, b1, 1 + n', ws, rfl, hPK.ex xL, n1', n2', _, rfl, by show 7 ≤ sizeLine; decide, fun tt ntt => ?_⟩
    have xM := Ex.new (o := .tup [.non, .int (1 + n'), .str (Txt.join " " ws), .ref tp, .ref h, .bl true, .str (shown (1 + n') ws)]) ntt
    have gtt := upd_same (H := HL) (a := tt) (o := .tup [.non, .int (1 + n'), .str (Txt.join " " ws), .ref tp, .ref h, .bl true, .str (shown (1 + n') ws)])
    generalize (upd HL tt (.tup [.non, .int (1 + n'), .str (Txt.join " " ws), .ref tp, .ref h, .bl true, .str (shown (1 + n') ws)])) = HM at xM gtt ⊢
    have hhM := xM _ _ (xL _ _ hhK)
    have gtpM := xM _ _ gtp
    have hbM := xM _ _ (xL _ _ hb1K)
    have hPM := (hPK.ex xL).ex xM
    have xKM : Ex H' HM := (xKK.trans xL).trans xM
    refine ⟨tt, rfl, ⟨_, SqT.of gtt⟩, ?_⟩
    refine for_tup (K := K) (xs := [.non, .int (1 + n'), .str (Txt.join " " ws), .ref tp, .ref h, .bl true, .str (shown (1 + n') ws)]) (fun j σ2 Hm => ∃ y12 : Option V, σ2 = [some (.ref a), some (.int ((0 : Int) + i)), some (.ref p), some (.ref kk), some (.ref h), some (.ref o), some (.int (1 + n')), some (.int m), some (.ref b1), some (.ref b2), some (.bl due), some (.ref L), y12, y13] ∧ Hm = HM) ⟨y12, rfl, rfl⟩
      (fun j σ2 Hm hj pv => ?_) (fun j x σ2 Hm hx pv => ?_) (fun σ2 Hm pv => ?_)
    · obtain ⟨y12, rfl, rfl⟩ := pv
      exact SqT.of gtt
    · obtain ⟨y12, rfl, rfl⟩ := pv
      have bx : Bare K Hm x := by
        match j, hx with
        | 0, hx => cases hx; exact ⟨_, .base .non, by simp⟩
        | 1, hx => cases hx; exact ⟨_, .base (.int _), by simp⟩
        | 2, hx => cases hx; exact ⟨_, .base (.str _), by simp⟩
        | 3, hx => cases hx; exact ⟨_, .base (.tup gtpM), by simp⟩
        | 4, hx => cases hx; exact ⟨_, .base (.lst hhM), by simp⟩
        | 5, hx => cases hx; exact ⟨_, .base (.bl _), by simp⟩
        | 6, hx => cases hx; exact ⟨_, .base (.str _), by simp⟩
        | j + 7, hx => simp at hx
      have ox : Own.OthK K (A 17) Hm x := .inr (bare_nf bx)
      refine ⟨.ref b1, rfl, x, rfl, b1, d1, _, rfl, hbM, ox, b1, 1 + n', ws, x, rfl, hPM, .inr ⟨bx, false, rfl, false, false, rfl, rfl, _, rfl, iteF ?_⟩⟩
      refine ⟨.ref b1, rfl, x, rfl, b1, d1, _, rfl, hbM, ox, b1, 1 + n', ws, x, rfl, hPM, .inr ⟨bx, false, rfl, true, true, rfl, rfl, _, rfl, ?_⟩⟩
      exact ⟨some x, rfl, rfl⟩
    · obtain ⟨y12, rfl, rfl⟩ := pv
      exact ⟨_, _, _, _, _, _, _, _, _, _, _, _, _, rfl, e0.trans xKM⟩

end
set_option maxHeartbeats 8000000 in
theorem all_mk {l : PySem.W.OpenLaw} {w : World} {K : PySem.W.Frag} {h : Heap} {mg : Str → Option Value} {fa : Addr} (X : K.In h) (G : h.Ns mainGlobals mg) (hfa : mg "law" = some (.ref fa))
    {f6 : Addr} {od6 an6 : Option Addr} {sl6 : Array (Option Value)} {oc6 kV6 dc6 pm6 cd6 ct6 : Value}
    (a6 : PySem.W.nsIn K mainGlobals "is_whole" = some (some (.ref f6))) (l6 : K.lookup f6 = some ⟨oc6, od6, .func (PySem.W.fnOf "is_whole" "is_whole" (defArgs (topS 6)) (defBody (topS 6)) (defScope (topS 6)) .none kV6 dc6 pm6 an6 cd6 ct6), sl6⟩) (c6 : PySem.W.codeIn K cd6 "is_whole" = true) (k6 : PySem.W.keepIn K (.ref f6) = true)
    {f7 : Addr} {od7 an7 : Option Addr} {sl7 : Array (Option Value)} {oc7 kV7 dc7 pm7 cd7 ct7 : Value}
    (a7 : PySem.W.nsIn K mainGlobals "is_within" = some (some (.ref f7))) (l7 : K.lookup f7 = some ⟨oc7, od7, .func (PySem.W.fnOf "is_within" "is_within" (defArgs (topS 7)) (defBody (topS 7)) (defScope (topS 7)) .none kV7 dc7 pm7 an7 cd7 ct7), sl7⟩) (c7 : PySem.W.codeIn K cd7 "is_within" = true) (k7 : PySem.W.keepIn K (.ref f7) = true)
    {f11 : Addr} {od11 an11 : Option Addr} {sl11 : Array (Option Value)} {oc11 kV11 dc11 pm11 cd11 ct11 : Value}
    (a11 : PySem.W.nsIn K mainGlobals "is_word" = some (some (.ref f11))) (l11 : K.lookup f11 = some ⟨oc11, od11, .func (PySem.W.fnOf "is_word" "is_word" (defArgs (topS 11)) (defBody (topS 11)) (defScope (topS 11)) .none kV11 dc11 pm11 an11 cd11 ct11), sl11⟩) (c11 : PySem.W.codeIn K cd11 "is_word" = true) (k11 : PySem.W.keepIn K (.ref f11) = true)
    {f12 : Addr} {od12 an12 : Option Addr} {sl12 : Array (Option Value)} {oc12 kV12 dc12 pm12 cd12 ct12 : Value}
    (a12 : PySem.W.nsIn K mainGlobals "are_words" = some (some (.ref f12))) (l12 : K.lookup f12 = some ⟨oc12, od12, .func (PySem.W.fnOf "are_words" "are_words" (defArgs (topS 12)) (defBody (topS 12)) (defScope (topS 12)) .none kV12 dc12 pm12 an12 cd12 ct12), sl12⟩) (c12 : PySem.W.codeIn K cd12 "are_words" = true) (k12 : PySem.W.keepIn K (.ref f12) = true)
    {f13 : Addr} {od13 an13 : Option Addr} {sl13 : Array (Option Value)} {oc13 kV13 dc13 pm13 cd13 ct13 : Value}
    (a13 : PySem.W.nsIn K mainGlobals "words_of" = some (some (.ref f13))) (l13 : K.lookup f13 = some ⟨oc13, od13, .func (PySem.W.fnOf "words_of" "words_of" (defArgs (topS 13)) (defBody (topS 13)) (defScope (topS 13)) .none kV13 dc13 pm13 an13 cd13 ct13), sl13⟩) (c13 : PySem.W.codeIn K cd13 "words_of" = true) (k13 : PySem.W.keepIn K (.ref f13) = true)
    {f14 : Addr} {od14 an14 : Option Addr} {sl14 : Array (Option Value)} {oc14 kV14 dc14 pm14 cd14 ct14 : Value}
    (a14 : PySem.W.nsIn K mainGlobals "check_words" = some (some (.ref f14))) (l14 : K.lookup f14 = some ⟨oc14, od14, .func (PySem.W.fnOf "check_words" "check_words" (defArgs (topS 14)) (defBody (topS 14)) (defScope (topS 14)) .none kV14 dc14 pm14 an14 cd14 ct14), sl14⟩) (c14 : PySem.W.codeIn K cd14 "check_words" = true) (k14 : PySem.W.keepIn K (.ref f14) = true)
    {f18 : Addr} {od18 an18 : Option Addr} {sl18 : Array (Option Value)} {oc18 kV18 dc18 pm18 cd18 ct18 : Value}
    (a18 : PySem.W.nsIn K mainGlobals "check_page_number" = some (some (.ref f18))) (l18 : K.lookup f18 = some ⟨oc18, od18, .func (PySem.W.fnOf "check_page_number" "check_page_number" (defArgs (topS 18)) (defBody (topS 18)) (defScope (topS 18)) .none kV18 dc18 pm18 an18 cd18 ct18), sl18⟩) (c18 : PySem.W.codeIn K cd18 "check_page_number" = true) (k18 : PySem.W.keepIn K (.ref f18) = true)
    {f20 : Addr} {od20 an20 : Option Addr} {sl20 : Array (Option Value)} {oc20 kV20 dc20 pm20 cd20 ct20 : Value}
    (a20 : PySem.W.nsIn K mainGlobals "_law_pool" = some (some (.ref f20))) (l20 : K.lookup f20 = some ⟨oc20, od20, .func (PySem.W.fnOf "_law_pool" "_law_pool" (defArgs (topS 20)) (defBody (topS 20)) (defScope (topS 20)) .none kV20 dc20 pm20 an20 cd20 ct20), sl20⟩) (c20 : PySem.W.codeIn K cd20 "_law_pool" = true) (k20 : PySem.W.keepIn K (.ref f20) = true)
    {f21 : Addr} {od21 an21 : Option Addr} {sl21 : Array (Option Value)} {oc21 kV21 dc21 pm21 cd21 ct21 : Value}
    (a21 : PySem.W.nsIn K mainGlobals "_law_take" = some (some (.ref f21))) (l21 : K.lookup f21 = some ⟨oc21, od21, .func (PySem.W.fnOf "_law_take" "_law_take" (defArgs (topS 21)) (defBody (topS 21)) (defScope (topS 21)) .none kV21 dc21 pm21 an21 cd21 ct21), sl21⟩) (c21 : PySem.W.codeIn K cd21 "_law_take" = true) (k21 : PySem.W.keepIn K (.ref f21) = true)
    {f22 : Addr} {od22 an22 : Option Addr} {sl22 : Array (Option Value)} {oc22 kV22 dc22 pm22 cd22 ct22 : Value}
    (a22 : PySem.W.nsIn K mainGlobals "_law_kinds" = some (some (.ref f22))) (l22 : K.lookup f22 = some ⟨oc22, od22, .func (PySem.W.fnOf "_law_kinds" "_law_kinds" (defArgs (topS 22)) (defBody (topS 22)) (defScope (topS 22)) .none kV22 dc22 pm22 an22 cd22 ct22), sl22⟩) (c22 : PySem.W.codeIn K cd22 "_law_kinds" = true) (k22 : PySem.W.keepIn K (.ref f22) = true)
    {f23 : Addr} {od23 an23 : Option Addr} {sl23 : Array (Option Value)} {oc23 kV23 dc23 pm23 cd23 ct23 : Value}
    (a23 : PySem.W.nsIn K mainGlobals "_law_words" = some (some (.ref f23))) (l23 : K.lookup f23 = some ⟨oc23, od23, .func (PySem.W.fnOf "_law_words" "_law_words" (defArgs (topS 23)) (defBody (topS 23)) (defScope (topS 23)) .none kV23 dc23 pm23 an23 cd23 ct23), sl23⟩) (c23 : PySem.W.codeIn K cd23 "_law_words" = true) (k23 : PySem.W.keepIn K (.ref f23) = true)
    {f24 : Addr} {od24 an24 : Option Addr} {sl24 : Array (Option Value)} {oc24 kV24 dc24 pm24 cd24 ct24 : Value}
    (a24 : PySem.W.nsIn K mainGlobals "_law_other" = some (some (.ref f24))) (l24 : K.lookup f24 = some ⟨oc24, od24, .func (PySem.W.fnOf "_law_other" "_law_other" (defArgs (topS 24)) (defBody (topS 24)) (defScope (topS 24)) .none kV24 dc24 pm24 an24 cd24 ct24), sl24⟩) (c24 : PySem.W.codeIn K cd24 "_law_other" = true) (k24 : PySem.W.keepIn K (.ref f24) = true)
    {f25 : Addr} {od25 an25 : Option Addr} {sl25 : Array (Option Value)} {oc25 kV25 dc25 pm25 cd25 ct25 : Value}
    (a25 : PySem.W.nsIn K mainGlobals "_law_told" = some (some (.ref f25))) (l25 : K.lookup f25 = some ⟨oc25, od25, .func (PySem.W.fnOf "_law_told" "_law_told" (defArgs (topS 25)) (defBody (topS 25)) (defScope (topS 25)) .none kV25 dc25 pm25 an25 cd25 ct25), sl25⟩) (c25 : PySem.W.codeIn K cd25 "_law_told" = true) (k25 : PySem.W.keepIn K (.ref f25) = true)
    {f26 : Addr} {od26 an26 : Option Addr} {sl26 : Array (Option Value)} {oc26 kV26 dc26 pm26 cd26 ct26 : Value}
    (a26 : PySem.W.nsIn K mainGlobals "law" = some (some (.ref f26))) (l26 : K.lookup f26 = some ⟨oc26, od26, .func (PySem.W.fnOf "law" "law" (defArgs (topS 26)) (defBody (topS 26)) (defScope (topS 26)) .none kV26 dc26 pm26 an26 cd26 ct26), sl26⟩) (c26 : PySem.W.codeIn K cd26 "law" = true) (k26 : PySem.W.keepIn K (.ref f26) = true)
    (z_abs : PySem.W.nsIn K mainGlobals "abs" = some none)
    (z_all : PySem.W.nsIn K mainGlobals "all" = some none)
    (z_bool : PySem.W.nsIn K mainGlobals "bool" = some none)
    (z_int : PySem.W.nsIn K mainGlobals "int" = some none)
    (z_isinstance : PySem.W.nsIn K mainGlobals "isinstance" = some none)
    (z_len : PySem.W.nsIn K mainGlobals "len" = some none)
    (z_list : PySem.W.nsIn K mainGlobals "list" = some none)
    (z_max : PySem.W.nsIn K mainGlobals "max" = some none)
    (z_min : PySem.W.nsIn K mainGlobals "min" = some none)
    (z_range : PySem.W.nsIn K mainGlobals "range" = some none)
    (z_repr : PySem.W.nsIn K mainGlobals "repr" = some none)
    (z_str : PySem.W.nsIn K mainGlobals "str" = some none)
    (z_tuple : PySem.W.nsIn K mainGlobals "tuple" = some none)
    {tk9 : Tok} (e9 : PySem.W.nsIn K mainGlobals "MOST_LETTERS" = some (some (.int 12 tk9)))
    {tk10 : Tok} (e10 : PySem.W.nsIn K mainGlobals "MOST_WORDS" = some (some (.int 120 tk10)))
    {tk16 : Tok} (e16 : PySem.W.nsIn K mainGlobals "MOST_NUMBER" = some (some (.int 9999 tk16)))
    {f2 : Addr} (a2 : PySem.W.nsIn K mainGlobals "Wrong" = some (some (.ref f2)))
    {f3 : Addr} (a3 : PySem.W.nsIn K mainGlobals "NoText" = some (some (.ref f3)))
    {f4 : Addr} (a4 : PySem.W.nsIn K mainGlobals "NoNumber" = some (some (.ref f4)))
    {f17 : Addr} (a17 : PySem.W.nsIn K mainGlobals "Page" = some (some (.ref f17)))
    (pg17 : PySem.W.plainGet K f17 Str.empty = true) (hd17 : PySem.W.hasDictIn K f17 = true) (po17 : PySem.W.plainOver K f17 = true) (sa17 : PySem.W.findIn K (.ref f17) "__setattr__" = some (some (.builtin "object.__setattr__"))) (mk17 : PySem.W.makesIn K f17 = true) (kc17 : PySem.W.keepIn K (.ref f17) = true)
    (na17_number : PySem.W.findIn K (.ref f17) "number" = some none)
    (na17_in_turn : PySem.W.findIn K (.ref f17) "in_turn" = some none)
    {f27 : Addr} {od27 an27 : Option Addr} {sl27 : Array (Option Value)} {oc27 kV27 dc27 pm27 cd27 ct27 : Value}
    (a27 : PySem.W.findIn K (.ref f17) "__init__" = some (some (.ref f27))) (i27 : PySem.W.isFn K (.ref f27) = true)
    {DT27 nd27 : Nat} {ocd27 : Value} {odd27 : Option Addr} {sld27 : Array (Option Value)} {td27_0 : Tok}
    (l27 : K.lookup f27 = some ⟨oc27, od27, .func (PySem.W.fnOf "__init__" "Page.__init__" (defArgs (inClass (topS 17) 0)) (defBody (inClass (topS 17) 0)) (defScope (inClass (topS 17) 0)) (.ref DT27) kV27 dc27 pm27 an27 cd27 ct27), sl27⟩) (c27 : PySem.W.codeIn K cd27 "Page.__init__" = true) (k27 : PySem.W.keepIn K (.ref f27) = true)
    (dt27 : K.lookup DT27 = some ⟨ocd27, odd27, .seq #[.str "" td27_0] nd27, sld27⟩)
    {f28 : Addr} {od28 an28 : Option Addr} {sl28 : Array (Option Value)} {oc28 kV28 dc28 pm28 cd28 ct28 : Value}
    (a28 : PySem.W.findIn K (.ref f17) "__eq__" = some (some (.ref f28))) (i28 : PySem.W.isFn K (.ref f28) = true)
    (l28 : K.lookup f28 = some ⟨oc28, od28, .func (PySem.W.fnOf "__eq__" "Page.__eq__" (defArgs (inClass (topS 17) 1)) (defBody (inClass (topS 17) 1)) (defScope (inClass (topS 17) 1)) .none kV28 dc28 pm28 an28 cd28 ct28), sl28⟩) (c28 : PySem.W.codeIn K cd28 "Page.__eq__" = true) (k28 : PySem.W.keepIn K (.ref f28) = true)
    {f29 : Addr} {od29 an29 : Option Addr} {sl29 : Array (Option Value)} {oc29 kV29 dc29 pm29 cd29 ct29 : Value}
    (a29 : PySem.W.findIn K (.ref f17) "__len__" = some (some (.ref f29))) (i29 : PySem.W.isFn K (.ref f29) = true)
    (l29 : K.lookup f29 = some ⟨oc29, od29, .func (PySem.W.fnOf "__len__" "Page.__len__" (defArgs (inClass (topS 17) 2)) (defBody (inClass (topS 17) 2)) (defScope (inClass (topS 17) 2)) .none kV29 dc29 pm29 an29 cd29 ct29), sl29⟩) (c29 : PySem.W.codeIn K cd29 "Page.__len__" = true) (k29 : PySem.W.keepIn K (.ref f29) = true)
    {f30 : Addr} {od30 an30 : Option Addr} {sl30 : Array (Option Value)} {oc30 kV30 dc30 pm30 cd30 ct30 : Value}
    (a30 : PySem.W.findIn K (.ref f17) "__str__" = some (some (.ref f30))) (i30 : PySem.W.isFn K (.ref f30) = true)
    (l30 : K.lookup f30 = some ⟨oc30, od30, .func (PySem.W.fnOf "__str__" "Page.__str__" (defArgs (inClass (topS 17) 3)) (defBody (inClass (topS 17) 3)) (defScope (inClass (topS 17) 3)) .none kV30 dc30 pm30 an30 cd30 ct30), sl30⟩) (c30 : PySem.W.codeIn K cd30 "Page.__str__" = true) (k30 : PySem.W.keepIn K (.ref f30) = true)
    {f31 : Addr} {od31 an31 : Option Addr} {sl31 : Array (Option Value)} {oc31 kV31 dc31 pm31 cd31 ct31 : Value}
    (a31 : PySem.W.findIn K (.ref f17) "__repr__" = some (some (.ref f31))) (i31 : PySem.W.isFn K (.ref f31) = true)
    (l31 : K.lookup f31 = some ⟨oc31, od31, .func (PySem.W.fnOf "__repr__" "Page.__repr__" (defArgs (inClass (topS 17) 4)) (defBody (inClass (topS 17) 4)) (defScope (inClass (topS 17) 4)) .none kV31 dc31 pm31 an31 cd31 ct31), sl31⟩) (c31 : PySem.W.codeIn K cd31 "Page.__repr__" = true) (k31 : PySem.W.keepIn K (.ref f31) = true)
    {f32 : Addr} {od32 an32 : Option Addr} {sl32 : Array (Option Value)} {oc32 kV32 dc32 pm32 cd32 ct32 : Value}
    (a32 : PySem.W.findIn K (.ref f17) "words" = some (some (.ref f32))) (i32 : PySem.W.isFn K (.ref f32) = true)
    (l32 : K.lookup f32 = some ⟨oc32, od32, .func (PySem.W.fnOf "words" "Page.words" (defArgs (inClass (topS 17) 5)) (defBody (inClass (topS 17) 5)) (defScope (inClass (topS 17) 5)) .none kV32 dc32 pm32 an32 cd32 ct32), sl32⟩) (c32 : PySem.W.codeIn K cd32 "Page.words" = true) (k32 : PySem.W.keepIn K (.ref f32) = true)
    (ff_ci : PySem.W.findIn K (.ref f17) "__class__" = some (some (.builtin "object.__class__")))
    (ff_cs : PySem.W.specialIn K (.builtin "object.__class__") "__get__" = some (some (.builtin "getset_descriptor.__get__")))
    (ff_ct : PySem.W.takesIn K (.builtin "object.__class__") = some true)
    (ff_moP : PySem.W.mroIn K f17 (.type "object") = some true)
    (ff_neP : PySem.W.findIn K (.ref f17) "__ne__" = some (some (.builtin "object.__ne__")))
    (ff_kp : PySem.W.kitOne K (.ref f17) (.ref f17) = some true)
    (ff_kNoneType : PySem.W.kitOne K (.type "NoneType") (.ref f17) = some false)
    (ff_kint : PySem.W.kitOne K (.type "int") (.ref f17) = some false)
    (ff_kstr : PySem.W.kitOne K (.type "str") (.ref f17) = some false)
    (ff_ktuple : PySem.W.kitOne K (.type "tuple") (.ref f17) = some false)
    (ff_klist : PySem.W.kitOne K (.type "list") (.ref f17) = some false)
    (ff_kbool : PySem.W.kitOne K (.type "bool") (.ref f17) = some false)
    : ∃ fd : FuncData, (∀ (s : Shared) (v : Value), BindsTo s fd ⟨[v], []⟩ [("_law_script", v)]) ∧ ∀ base : Heap, K.In base → base.Ns mainGlobals mg → FnOk l.prog w K mg base CX0 9 fa fd ["_law_script"] (spLaw K) := by
  have e := hfa.symm.trans (PySem.W.mg_of X G a26)
  cases e
  let A : Nat → Addr := fun i => ([0, 0, f2, f3, f4, 0, f6, f7, 0, 0, 0, f11, f12, f13, f14, 0, 0, f17, f18, 0, f20, f21, f22, f23, f24, f25, fa, f27, f28, f29, f30, f31, f32] : List Addr).getD i 0
  let FD : Nat → FuncData := fun i => ([PySem.W.fnOf "law" "law" (defArgs (topS 26)) (defBody (topS 26)) (defScope (topS 26)) .none kV26 dc26 pm26 an26 cd26 ct26, PySem.W.fnOf "law" "law" (defArgs (topS 26)) (defBody (topS 26)) (defScope (topS 26)) .none kV26 dc26 pm26 an26 cd26 ct26, PySem.W.fnOf "law" "law" (defArgs (topS 26)) (defBody (topS 26)) (defScope (topS 26)) .none kV26 dc26 pm26 an26 cd26 ct26, PySem.W.fnOf "law" "law" (defArgs (topS 26)) (defBody (topS 26)) (defScope (topS 26)) .none kV26 dc26 pm26 an26 cd26 ct26, PySem.W.fnOf "law" "law" (defArgs (topS 26)) (defBody (topS 26)) (defScope (topS 26)) .none kV26 dc26 pm26 an26 cd26 ct26, PySem.W.fnOf "law" "law" (defArgs (topS 26)) (defBody (topS 26)) (defScope (topS 26)) .none kV26 dc26 pm26 an26 cd26 ct26, PySem.W.fnOf "is_whole" "is_whole" (defArgs (topS 6)) (defBody (topS 6)) (defScope (topS 6)) .none kV6 dc6 pm6 an6 cd6 ct6, PySem.W.fnOf "is_within" "is_within" (defArgs (topS 7)) (defBody (topS 7)) (defScope (topS 7)) .none kV7 dc7 pm7 an7 cd7 ct7, PySem.W.fnOf "law" "law" (defArgs (topS 26)) (defBody (topS 26)) (defScope (topS 26)) .none kV26 dc26 pm26 an26 cd26 ct26, PySem.W.fnOf "law" "law" (defArgs (topS 26)) (defBody (topS 26)) (defScope (topS 26)) .none kV26 dc26 pm26 an26 cd26 ct26, PySem.W.fnOf "law" "law" (defArgs (topS 26)) (defBody (topS 26)) (defScope (topS 26)) .none kV26 dc26 pm26 an26 cd26 ct26, PySem.W.fnOf "is_word" "is_word" (defArgs (topS 11)) (defBody (topS 11)) (defScope (topS 11)) .none kV11 dc11 pm11 an11 cd11 ct11, PySem.W.fnOf "are_words" "are_words" (defArgs (topS 12)) (defBody (topS 12)) (defScope (topS 12)) .none kV12 dc12 pm12 an12 cd12 ct12, PySem.W.fnOf "words_of" "words_of" (defArgs (topS 13)) (defBody (topS 13)) (defScope (topS 13)) .none kV13 dc13 pm13 an13 cd13 ct13, PySem.W.fnOf "check_words" "check_words" (defArgs (topS 14)) (defBody (topS 14)) (defScope (topS 14)) .none kV14 dc14 pm14 an14 cd14 ct14, PySem.W.fnOf "law" "law" (defArgs (topS 26)) (defBody (topS 26)) (defScope (topS 26)) .none kV26 dc26 pm26 an26 cd26 ct26, PySem.W.fnOf "law" "law" (defArgs (topS 26)) (defBody (topS 26)) (defScope (topS 26)) .none kV26 dc26 pm26 an26 cd26 ct26, PySem.W.fnOf "law" "law" (defArgs (topS 26)) (defBody (topS 26)) (defScope (topS 26)) .none kV26 dc26 pm26 an26 cd26 ct26, PySem.W.fnOf "check_page_number" "check_page_number" (defArgs (topS 18)) (defBody (topS 18)) (defScope (topS 18)) .none kV18 dc18 pm18 an18 cd18 ct18, PySem.W.fnOf "law" "law" (defArgs (topS 26)) (defBody (topS 26)) (defScope (topS 26)) .none kV26 dc26 pm26 an26 cd26 ct26, PySem.W.fnOf "_law_pool" "_law_pool" (defArgs (topS 20)) (defBody (topS 20)) (defScope (topS 20)) .none kV20 dc20 pm20 an20 cd20 ct20, PySem.W.fnOf "_law_take" "_law_take" (defArgs (topS 21)) (defBody (topS 21)) (defScope (topS 21)) .none kV21 dc21 pm21 an21 cd21 ct21, PySem.W.fnOf "_law_kinds" "_law_kinds" (defArgs (topS 22)) (defBody (topS 22)) (defScope (topS 22)) .none kV22 dc22 pm22 an22 cd22 ct22, PySem.W.fnOf "_law_words" "_law_words" (defArgs (topS 23)) (defBody (topS 23)) (defScope (topS 23)) .none kV23 dc23 pm23 an23 cd23 ct23, PySem.W.fnOf "_law_other" "_law_other" (defArgs (topS 24)) (defBody (topS 24)) (defScope (topS 24)) .none kV24 dc24 pm24 an24 cd24 ct24, PySem.W.fnOf "_law_told" "_law_told" (defArgs (topS 25)) (defBody (topS 25)) (defScope (topS 25)) .none kV25 dc25 pm25 an25 cd25 ct25, PySem.W.fnOf "law" "law" (defArgs (topS 26)) (defBody (topS 26)) (defScope (topS 26)) .none kV26 dc26 pm26 an26 cd26 ct26, PySem.W.fnOf "__init__" "Page.__init__" (defArgs (inClass (topS 17) 0)) (defBody (inClass (topS 17) 0)) (defScope (inClass (topS 17) 0)) (.ref DT27) kV27 dc27 pm27 an27 cd27 ct27, PySem.W.fnOf "__eq__" "Page.__eq__" (defArgs (inClass (topS 17) 1)) (defBody (inClass (topS 17) 1)) (defScope (inClass (topS 17) 1)) .none kV28 dc28 pm28 an28 cd28 ct28, PySem.W.fnOf "__len__" "Page.__len__" (defArgs (inClass (topS 17) 2)) (defBody (inClass (topS 17) 2)) (defScope (inClass (topS 17) 2)) .none kV29 dc29 pm29 an29 cd29 ct29, PySem.W.fnOf "__str__" "Page.__str__" (defArgs (inClass (topS 17) 3)) (defBody (inClass (topS 17) 3)) (defScope (inClass (topS 17) 3)) .none kV30 dc30 pm30 an30 cd30 ct30, PySem.W.fnOf "__repr__" "Page.__repr__" (defArgs (inClass (topS 17) 4)) (defBody (inClass (topS 17) 4)) (defScope (inClass (topS 17) 4)) .none kV31 dc31 pm31 an31 cd31 ct31, PySem.W.fnOf "words" "Page.words" (defArgs (inClass (topS 17) 5)) (defBody (inClass (topS 17) 5)) (defScope (inClass (topS 17) 5)) .none kV32 dc32 pm32 an32 cd32 ct32] : List FuncData).getD i (PySem.W.fnOf "law" "law" (defArgs (topS 26)) (defBody (topS 26)) (defScope (topS 26)) .none kV26 dc26 pm26 an26 cd26 ct26)
  let TK : Nat → Tok := fun i => ([0, 0, 0, 0, 0, 0, 0, 0, 0, tk9, tk10, 0, 0, 0, 0, 0, tk16] : List Tok).getD i 0
  have T : TX K mg A FD TK := {
    f_is_whole := fun_mk (st := topS 6) l6 c6 k6
    b_is_whole := (fun_mk (st := topS 6) l6 c6 k6).binds (ps := ["thing"]) fun _ _ _ _ _ _ us hl => match us, hl with | [_], _ => rfl
    g_is_whole := PySem.W.mg_of X G a6
    f_is_within := fun_mk (st := topS 7) l7 c7 k7
    b_is_within := (fun_mk (st := topS 7) l7 c7 k7).binds (ps := ["thing", "least", "most"]) fun _ _ _ _ _ _ us hl => match us, hl with | [_, _, _], _ => rfl
    g_is_within := PySem.W.mg_of X G a7
    f_is_word := fun_mk (st := topS 11) l11 c11 k11
    b_is_word := (fun_mk (st := topS 11) l11 c11 k11).binds (ps := ["thing"]) fun _ _ _ _ _ _ us hl => match us, hl with | [_], _ => rfl
    g_is_word := PySem.W.mg_of X G a11
    f_are_words := fun_mk (st := topS 12) l12 c12 k12
    b_are_words := (fun_mk (st := topS 12) l12 c12 k12).binds (ps := ["things"]) fun _ _ _ _ _ _ us hl => match us, hl with | [_], _ => rfl
    g_are_words := PySem.W.mg_of X G a12
    f_words_of := fun_mk (st := topS 13) l13 c13 k13
    b_words_of := (fun_mk (st := topS 13) l13 c13 k13).binds (ps := ["text"]) fun _ _ _ _ _ _ us hl => match us, hl with | [_], _ => rfl
    g_words_of := PySem.W.mg_of X G a13
    f_check_words := fun_mk (st := topS 14) l14 c14 k14
    b_check_words := (fun_mk (st := topS 14) l14 c14 k14).binds (ps := ["words"]) fun _ _ _ _ _ _ us hl => match us, hl with | [_], _ => rfl
    g_check_words := PySem.W.mg_of X G a14
    f_check_page_number := fun_mk (st := topS 18) l18 c18 k18
    b_check_page_number := (fun_mk (st := topS 18) l18 c18 k18).binds (ps := ["number"]) fun _ _ _ _ _ _ us hl => match us, hl with | [_], _ => rfl
    g_check_page_number := PySem.W.mg_of X G a18
    f_l_pool := fun_mk (st := topS 20) l20 c20 k20
    b_l_pool := (fun_mk (st := topS 20) l20 c20 k20).binds (ps := ["_law_script", "_law_at"]) fun _ _ _ _ _ _ us hl => match us, hl with | [_, _], _ => rfl
    g_l_pool := PySem.W.mg_of X G a20
    f_l_take := fun_mk (st := topS 21) l21 c21 k21
    b_l_take := (fun_mk (st := topS 21) l21 c21 k21).binds (ps := ["_law_pool_here", "_law_many"]) fun _ _ _ _ _ _ us hl => match us, hl with | [_, _], _ => rfl
    g_l_take := PySem.W.mg_of X G a21
    f_l_kinds := fun_mk (st := topS 22) l22 c22 k22
    b_l_kinds := (fun_mk (st := topS 22) l22 c22 k22).binds (ps := ["_law_pool_here"]) fun _ _ _ _ _ _ us hl => match us, hl with | [_], _ => rfl
    g_l_kinds := PySem.W.mg_of X G a22
    f_l_words := fun_mk (st := topS 23) l23 c23 k23
    b_l_words := (fun_mk (st := topS 23) l23 c23 k23).binds (ps := ["_law_pool_here", "_law_kinds_here", "_law_most"]) fun _ _ _ _ _ _ us hl => match us, hl with | [_, _, _], _ => rfl
    g_l_words := PySem.W.mg_of X G a23
    f_l_other := fun_mk (st := topS 24) l24 c24 k24
    b_l_other := (fun_mk (st := topS 24) l24 c24 k24).binds (ps := ["_law_pool_here", "_law_held", "_law_kinds_here"]) fun _ _ _ _ _ _ us hl => match us, hl with | [_, _, _], _ => rfl
    g_l_other := PySem.W.mg_of X G a24
    f_l_told := fun_mk (st := topS 25) l25 c25 k25
    b_l_told := (fun_mk (st := topS 25) l25 c25 k25).binds (ps := ["_law_page", "_law_number", "_law_held"]) fun _ _ _ _ _ _ us hl => match us, hl with | [_, _, _], _ => rfl
    g_l_told := PySem.W.mg_of X G a25
    f_law := fun_mk (st := topS 26) l26 c26 k26
    b_law := (fun_mk (st := topS 26) l26 c26 k26).binds (ps := ["_law_script"]) fun _ _ _ _ _ _ us hl => match us, hl with | [_], _ => rfl
    g_law := PySem.W.mg_of X G a26
    m_abs := PySem.W.mg_none_of X G z_abs
    m_all := PySem.W.mg_none_of X G z_all
    m_bool := PySem.W.mg_none_of X G z_bool
    m_int := PySem.W.mg_none_of X G z_int
    m_isinstance := PySem.W.mg_none_of X G z_isinstance
    m_len := PySem.W.mg_none_of X G z_len
    m_list := PySem.W.mg_none_of X G z_list
    m_max := PySem.W.mg_none_of X G z_max
    m_min := PySem.W.mg_none_of X G z_min
    m_range := PySem.W.mg_none_of X G z_range
    m_repr := PySem.W.mg_none_of X G z_repr
    m_str := PySem.W.mg_none_of X G z_str
    m_tuple := PySem.W.mg_none_of X G z_tuple
    c_MOST_LETTERS := PySem.W.mg_of X G e9
    c_MOST_WORDS := PySem.W.mg_of X G e10
    c_MOST_NUMBER := PySem.W.mg_of X G e16
    k_Wrong := PySem.W.mg_of X G a2
    k_NoText := PySem.W.mg_of X G a3
    k_NoNumber := PySem.W.mg_of X G a4
    k_Page := PySem.W.mg_of X G a17
    cl_Page := ⟨pg17, hd17, po17, sa17⟩
    n_Page_number := na17_number
    n_Page_in_turn := na17_in_turn
    f_Page_init := ⟨⟨oc27, od27, .ref DT27, kV27, dc27, pm27, an27, cd27, ct27, sl27, rfl, l27, c27, .inr ⟨by simp, DT27, _, [_], nd27, rfl, dt27, rfl, (.cons ⟨_, rfl⟩ .nil)⟩, .inl rfl⟩, k27⟩
    M_Page := ⟨mk17, a27, i27, kc17⟩
    f_Page_eq := fun_mk (st := inClass (topS 17) 1) l28 c28 k28
    b_Page_eq := (fun_mk (st := inClass (topS 17) 1) l28 c28 k28).binds (ps := ["self", "other"]) fun _ _ _ _ _ _ us hl => match us, hl with | [_, _], _ => rfl
    M_Page_eq := ⟨a28, i28, k28⟩
    f_Page_len := fun_mk (st := inClass (topS 17) 2) l29 c29 k29
    b_Page_len := (fun_mk (st := inClass (topS 17) 2) l29 c29 k29).binds (ps := ["self"]) fun _ _ _ _ _ _ us hl => match us, hl with | [_], _ => rfl
    M_Page_len := ⟨a29, i29, k29⟩
    f_Page_str := fun_mk (st := inClass (topS 17) 3) l30 c30 k30
    b_Page_str := (fun_mk (st := inClass (topS 17) 3) l30 c30 k30).binds (ps := ["self"]) fun _ _ _ _ _ _ us hl => match us, hl with | [_], _ => rfl
    M_Page_str := ⟨a30, i30, k30⟩
    f_Page_repr := fun_mk (st := inClass (topS 17) 4) l31 c31 k31
    b_Page_repr := (fun_mk (st := inClass (topS 17) 4) l31 c31 k31).binds (ps := ["self"]) fun _ _ _ _ _ _ us hl => match us, hl with | [_], _ => rfl
    M_Page_repr := ⟨a31, i31, k31⟩
    f_Page_words := fun_mk (st := inClass (topS 17) 5) l32 c32 k32
    b_Page_words := (fun_mk (st := inClass (topS 17) 5) l32 c32 k32).binds (ps := ["self"]) fun _ _ _ _ _ _ us hl => match us, hl with | [_], _ => rfl
    M_Page_words := ⟨a32, i32, k32⟩
    ci := ff_ci
    cs := ff_cs
    ct := ff_ct
    moP := ff_moP
    neP := ff_neP
    kp := ff_kp
    kNoneType := ff_kNoneType
    kint := ff_kint
    kstr := ff_kstr
    ktuple := ff_ktuple
    klist := ff_klist
    kbool := ff_kbool }
  exact ⟨FD 26, fun s v => .of_eq rfl, fun base _ _ => ok_law T⟩
end K04
open PySem PySem.W PyProof.Rows
set_option maxHeartbeats 0 in
theorem PySem.Challenge.cw_blocksearch_k04_pages_alike_holds : PySem.Challenge.rw_blocksearch_k04_pages_alike.Holds := by
  w_on; o_law; k_head; (case hw => w_witness2)
  k_fill
  refine L2.walk_of (l := PySem.Challenge.rw_blocksearch_k04_pages_alike) (n := 63) (k := 9) (x := "_law_script") (CX := fun _ => L2.CX0) (sp := fun w => K04.spLaw _) rfl (by decide) rfl ⟨rfl, by decide, by decide⟩ (fun w h Y => PySem.W.kIn_of Y) ?F (fun _ _ a ns hl _ hS => ⟨a, ns, rfl, hS, hl, fun _ => rfl⟩) (fun _ _ _ _ _ h => h)
  case F =>
    intro w mg fa h KX G hmg
    refine' K04.all_mk KX G hmg ?a6 ?l6 ?c6 ?k6 ?a7 ?l7 ?c7 ?k7 ?a11 ?l11 ?c11 ?k11 ?a12 ?l12 ?c12 ?k12 ?a13 ?l13 ?c13 ?k13 ?a14 ?l14 ?c14 ?k14 ?a18 ?l18 ?c18 ?k18 ?a20 ?l20 ?c20 ?k20 ?a21 ?l21 ?c21 ?k21 ?a22 ?l22 ?c22 ?k22 ?a23 ?l23 ?c23 ?k23 ?a24 ?l24 ?c24 ?k24 ?a25 ?l25 ?c25 ?k25 ?a26 ?l26 ?c26 ?k26 ?z_abs ?z_all ?z_bool ?z_int ?z_isinstance ?z_len ?z_list ?z_max ?z_min ?z_range ?z_repr ?z_str ?z_tuple ?e9 ?e10 ?e16 ?a2 ?a3 ?a4 ?a17 ?pg17 ?hd17 ?po17 ?sa17 ?mk17 ?kc17 ?na17_number ?na17_in_turn ?a27 ?i27 ?l27 ?c27 ?k27 ?dt27 ?a28 ?i28 ?l28 ?c28 ?k28 ?a29 ?i29 ?l29 ?c29 ?k29 ?a30 ?i30 ?l30 ?c30 ?k30 ?a31 ?i31 ?l31 ?c31 ?k31 ?a32 ?i32 ?l32 ?c32 ?k32 ?ff_ci ?ff_cs ?ff_ct ?ff_moP ?ff_neP ?ff_kp ?ff_kNoneType ?ff_kint ?ff_kstr ?ff_ktuple ?ff_klist ?ff_kbool
    (case a6 => k_is)
    (case l6 => k_is)
    (case c6 => k_is)
    (case k6 => k_is)
    (case a7 => k_is)
    (case l7 => k_is)
    (case c7 => k_is)
    (case k7 => k_is)
    (case a11 => k_is)
    (case l11 => k_is)
    (case c11 => k_is)
    (case k11 => k_is)
    (case a12 => k_is)
    (case l12 => k_is)
    (case c12 => k_is)
    (case k12 => k_is)
    (case a13 => k_is)
    (case l13 => k_is)
    (case c13 => k_is)
    (case k13 => k_is)
    (case a14 => k_is)
    (case l14 => k_is)
    (case c14 => k_is)
    (case k14 => k_is)
    (case a18 => k_is)
    (case l18 => k_is)
    (case c18 => k_is)
    (case k18 => k_is)
    (case a20 => k_is)
    (case l20 => k_is)
    (case c20 => k_is)
    (case k20 => k_is)
    (case a21 => k_is)
    (case l21 => k_is)
    (case c21 => k_is)
    (case k21 => k_is)
    (case a22 => k_is)
    (case l22 => k_is)
    (case c22 => k_is)
    (case k22 => k_is)
    (case a23 => k_is)
    (case l23 => k_is)
    (case c23 => k_is)
    (case k23 => k_is)
    (case a24 => k_is)
    (case l24 => k_is)
    (case c24 => k_is)
    (case k24 => k_is)
    (case a25 => k_is)
    (case l25 => k_is)
    (case c25 => k_is)
    (case k25 => k_is)
    (case a26 => k_is)
    (case l26 => k_is)
    (case c26 => k_is)
    (case k26 => k_is)
    (case z_abs => k_is)
    (case z_all => k_is)
    (case z_bool => k_is)
    (case z_int => k_is)
    (case z_isinstance => k_is)
    (case z_len => k_is)
    (case z_list => k_is)
    (case z_max => k_is)
    (case z_min => k_is)
    (case z_range => k_is)
    (case z_repr => k_is)
    (case z_str => k_is)
    (case z_tuple => k_is)
    (case e9 => k_is)
    (case e10 => k_is)
    (case e16 => k_is)
    (case a2 => k_is)
    (case a3 => k_is)
    (case a4 => k_is)
    (case a17 => k_is)
    (case pg17 => k_is)
    (case hd17 => k_is)
    (case po17 => k_is)
    (case sa17 => k_is)
    (case mk17 => k_is)
    (case kc17 => k_is)
    (case na17_number => k_is)
    (case na17_in_turn => k_is)
    (case a27 => k_is)
    (case i27 => k_is)
    (case l27 => k_is)
    (case c27 => k_is)
    (case k27 => k_is)
    (case dt27 => k_is)
    (case a28 => k_is)
    (case i28 => k_is)
    (case l28 => k_is)
    (case c28 => k_is)
    (case k28 => k_is)
    (case a29 => k_is)
    (case i29 => k_is)
    (case l29 => k_is)
    (case c29 => k_is)
    (case k29 => k_is)
    (case a30 => k_is)
    (case i30 => k_is)
    (case l30 => k_is)
    (case c30 => k_is)
    (case k30 => k_is)
    (case a31 => k_is)
    (case i31 => k_is)
    (case l31 => k_is)
    (case c31 => k_is)
    (case k31 => k_is)
    (case a32 => k_is)
    (case i32 => k_is)
    (case l32 => k_is)
    (case c32 => k_is)
    (case k32 => k_is)
    (case ff_ci => k_is)
    (case ff_cs => k_is)
    (case ff_ct => k_is)
    (case ff_moP => k_is)
    (case ff_neP => k_is)
    (case ff_kp => kernel_rfl)
    (case ff_kNoneType => kernel_rfl)
    (case ff_kint => kernel_rfl)
    (case ff_kstr => kernel_rfl)
    (case ff_ktuple => kernel_rfl)
    (case ff_klist => kernel_rfl)
    (case ff_kbool => kernel_rfl)

