import PyProof.Rows.All
import Wide.All
import OpenK.AllK
import Wide.FinOn
import HandS.ForMost
import HandS.Wide
import HandS.Style
import HandS.Evl
import HandS.WideBits
import HandS.ClsMeth
import KE.KOpsOwn
import PyProof.TwoTypes
import PyProof.ListMulRoad
import PyProof.NeKinds
import HandS.IsInst
import KE.KEqDict
import PySem.Challenge.RW_twozeros_k07_whole_sums_in_any_order
set_option Elab.async false
set_option linter.all false
set_option maxRecDepth 100000
set_option maxHeartbeats 4000000
namespace Tz
open PySem L2
/-! ### heaps -/
/-- all but z is as it was -/
def Fw (z : Addr) (H H' : Hp) : Prop := ∀ a o, a ≠ z → H a = some o → H' a = some o
theorem Fw.refl (z : Addr) (H : Hp) : Fw z H H := fun _ _ _ h => h
theorem Fw.trans {z : Addr} {H H1 H2 : Hp} (a : Fw z H H1) (b : Fw z H1 H2) : Fw z H H2 := fun x o n h => b x o n (a x o n h)
theorem Fw.new {z : Addr} {H : Hp} {p : Addr} {o : HO} (h : H p = none) : Fw z H (upd H p o) := fun a u _ e => by
  rw [upd_ne (ne_of_none e h)]
  exact e
theorem Fw.at {z : Addr} {H : Hp} {o : HO} : Fw z H (upd H z o) := fun a u n e => by
  rw [upd_ne n]
  exact e
/-- all is as it was -/
def Ex (H H' : Hp) : Prop := ∀ a o, H a = some o → H' a = some o
theorem Ex.refl (H : Hp) : Ex H H := fun _ _ h => h
theorem Ex.trans {H H1 H2 : Hp} (a : Ex H H1) (b : Ex H1 H2) : Ex H H2 := fun x o h => b x o (a x o h)
theorem Ex.fw {z : Addr} {H H' : Hp} (e : Ex H H') : Fw z H H' := fun a o _ h => e a o h
theorem Ex.new {H : Hp} {p : Addr} {o : HO} (h : H p = none) : Ex H (upd H p o) := fun a u e => by
  rw [upd_ne (ne_of_none e h)]
  exact e
/-- a new object, told without its heap -/
theorem anew {H : Hp} {o : HO} {Q : V → Hp → Prop} (k : ∀ p H', H p = none → H' p = some o → Ex H H' → Q (.ref p) H') : ∀ p, H p = none → Q (.ref p) (upd H p o) := fun p hp => k p _ hp upd_same (Ex.new hp)
theorem sq {K : PySem.W.Frag} {H : Hp} {a : Addr} {xs : List V} (h : H a = some (.lst xs)) : SqL K H a xs := Or.inl (Or.inl h)
theorem sqt {K : PySem.W.Frag} {H : Hp} {a : Addr} {xs : List V} (h : H a = some (.tup xs)) : SqT K H a xs := Or.inl (Or.inl h)
theorem szl {n : Nat} (h : n ≤ 10000) : n ≤ sizeLine := Nat.le_trans h (by decide)
theorem gat {H H1 : Hp} {p : Addr} {o : HO} (g : upd H p o = H1) : H1 p = some o := by rw [← g]; exact upd_same
theorem gex {H H1 : Hp} {p : Addr} {o : HO} (g : upd H p o = H1) (h : H p = none) : Ex H H1 := by rw [← g]; exact Ex.new h
theorem gfw {H H1 : Hp} {p : Addr} {o : HO} (g : upd H p o = H1) : Fw p H H1 := by rw [← g]; exact Fw.at
/-! ### the pen -/
structure PenAt (H : Hp) (z c : Addr) (cells : List Int) (t : Nat) : Prop where
  pen : ∃ ix left : Int, H z = some (.lst [.ref c, .int ix, .int left]) ∧ 0 ≤ ix ∧ ix ≤ t ∧ 0 ≤ left
  cs : H c = some (.lst (cells.map V.int))
  ne : c ≠ z
  few : cells.length ≤ 63
theorem PenAt.ex {H H' : Hp} {z c : Addr} {cells : List Int} {t : Nat} (h : PenAt H z c cells t) (e : Ex H H') : PenAt H' z c cells t := by
  obtain ⟨⟨i, l, h1, h2⟩, h3, h4, h5⟩ := h
  exact ⟨⟨i, l, e _ _ h1, h2⟩, e _ _ h3, h4, h5⟩
theorem PenAt.mono {H : Hp} {z c : Addr} {cells : List Int} {t u : Nat} (h : PenAt H z c cells t) (e : t ≤ u) : PenAt H z c cells u := by
  obtain ⟨⟨i, l, h1, h2, h3, h6⟩, h4, h5, h7⟩ := h
  exact ⟨⟨i, l, h1, h2, by omega, h6⟩, h4, h5, h7⟩
theorem cell_get {cells : List Int} {j : Nat} (h : j < cells.length) : ∃ v : Int, (cells.map V.int)[j]? = some (.int v) := by
  refine ⟨cells[j], ?_⟩
  rw [List.getElem?_map, List.getElem?_eq_getElem h] <;> rfl
/-- one draw: what it asks, what it gives -/
def spDraw : Sp := fun vs H Q _ => ∃ z c cells t many, vs = [.ref z, .int many] ∧ PenAt H z c cells t ∧ t ≤ 100000 ∧ 0 < many ∧ many ≤ 100000 ∧
  ∀ n H', 0 ≤ n → n < many → PenAt H' z c cells (t + 1) → Fw z H H' → Q (.int n) H'
def spPen (K : PySem.W.Frag) : Sp := fun vs H Q _ => ∃ (a : Addr) (ns : List Int), vs = [.ref a] ∧ SqL K H a (ns.map V.int) ∧ ns.length ≤ 63 ∧
  ∀ z c H', PenAt H' z c ns 0 → Ex H H' → H z = none → H c = none → Q (.ref z) H'
def spWidth : Sp := fun vs H Q _ => ∃ z c cells t, vs = [.ref z] ∧ PenAt H z c cells t ∧ t ≤ 90000 ∧
  ∀ n H', 1 ≤ n → n ≤ 64 → PenAt H' z c cells (t + 2) → Fw z H H' → Q (.int n) H'
def spValue : Sp := fun vs H Q _ => ∃ z c cells t, ∃ w : Nat, vs = [.ref z, .int w] ∧ PenAt H z c cells t ∧ t ≤ 90000 ∧ 1 ≤ w ∧ w ≤ 64 ∧
  ∀ n H', 0 ≤ n → n < 2 ^ w → PenAt H' z c cells (t + 3) → Fw z H H' → Q (.int n) H'
/-! ### mathematics -/
theorem emod_bd {a m : Int} (h : 0 < m) : 0 ≤ a % m ∧ a % m < m := ⟨Int.emod_nonneg _ (by omega), Int.emod_lt_of_pos _ h⟩
theorem sq_le {i : Int} (h0 : 0 ≤ i) (h1 : i ≤ 100000) : 0 ≤ i * i ∧ i * i ≤ 10000000000 := by
  refine ⟨Int.mul_nonneg h0 h0, ?_⟩
  have := Int.mul_le_mul h1 h1 h0 (by decide : (0 : Int) ≤ 100000)
  omega
theorem mul_bd {a b A B : Int} (a0 : 0 ≤ a) (a1 : a ≤ A) (b0 : 0 ≤ b) (b1 : b ≤ B) : 0 ≤ a * b ∧ a * b ≤ A * B :=
  ⟨Int.mul_nonneg a0 b0, Int.mul_le_mul a1 b1 b0 (by omega)⟩
theorem cpow_of {i j : Int} (h0 : 0 ≤ i) (h1 : i < 18446744073709551616) (h2 : 0 ≤ j) (h3 : j ≤ 1000000) : CPow i j := ⟨h2, h3, by omega⟩
theorem draw_pw5 {cell ix a b : Int} (h0 : 0 ≤ ix) (h1 : ix ≤ 100000) (ha : 0 ≤ a) (ha2 : a ≤ 1000000) (hb : 0 ≤ b) (hb2 : b ≤ 1000000) : CPow (cell % 2147483563 + a * ix + b) 5 := by
  have h := emod_bd (a := cell) (m := 2147483563) (by decide)
  have m := mul_bd ha ha2 h0 h1
  exact cpow_of (by omega) (by omega) (by decide) (by decide)
theorem draw_pw3 {m ix c d e : Int} (h0 : 0 ≤ ix) (h1 : ix ≤ 100000) (m0 : 0 ≤ m) (m1 : m < 2147483629) (hc : 0 ≤ c) (hc2 : c ≤ 1000000) (hd : 0 ≤ d) (hd2 : d ≤ 1000000) (he : 0 ≤ e) (he2 : e ≤ 1000000) :
    CPow (m * (2 * ix + c) + d * ix * ix + e) 3 := by
  have a := mul_bd m0 (A := 2147483629) (by omega) (b := 2 * ix + c) (by omega) (B := 1200000) (by omega)
  have b := mul_bd hd hd2 h0 h1
  have g := mul_bd b.1 b.2 h0 h1
  exact cpow_of (by omega) (by omega) (by decide) (by decide)
theorem pow18 : (10 : Int) ^ (18 : Int).toNat = 1000000000000000000 := by decide
theorem pow_gt {n : Nat} (h : 1 ≤ n) : (1 : Int) < 2 ^ n := by
  obtain ⟨m, rfl⟩ : ∃ m, n = m + 1 := ⟨n - 1, by omega⟩
  have := Int.pow_pos (n := (2 : Int)) (m := m) (by decide)
  rw [Int.pow_succ]
  omega
theorem pow_le64 {n : Nat} (h : n ≤ 64) : (2 : Int) ^ n ≤ 18446744073709551616 := by
  have h1 : (2 : Nat) ^ n ≤ 2 ^ 64 := Nat.pow_le_pow_right (by decide) h
  have h2 : ((2 ^ n : Nat) : Int) = 2 ^ n := by rw [Int.natCast_pow] <;> rfl
  have h3 : (2 : Nat) ^ 64 = 18446744073709551616 := by decide
  omega
theorem and_top {wd : Nat} {x : Int} (hx : 0 ≤ x) : 0 ≤ Builtin.bitAnd x (2 ^ wd - 1) ∧ Builtin.bitAnd x (2 ^ wd - 1) < 2 ^ wd := by
  have e : Builtin.bitAnd x (2 ^ wd - 1) = x % 2 ^ wd := PySem.W.kbt_mask x wd
  rw [e]
  exact emod_bd (Int.pow_pos (by decide))
theorem back {H H' : Hp} {p : Addr} (e : Ex H H') (h : H' p = none) : H p = none := by
  cases q : H p with
  | none => rfl
  | some o =>
    rw [e _ _ q] at h
    cases h
theorem cut63 (n : Nat) : HT.sIx n n (some 63) = min 63 n := by
  show HT.sIx n n (some (63 : Int)) = min 63 n
  simp [HT.sIx]
  all_goals omega
theorem dp_ints {K : PySem.W.Frag} {H : Hp} : ∀ cells : List Int, DpAll K H (cells.map V.int) (cells.map PyData.int)
  | [] => DpAll.nil
  | c :: r => DpAll.cons (Dp.int c) (dp_ints r)
theorem lay_ints : ∀ cells : List Int, PyData.canLayAll0 (cells.map PyData.int) = true
  | [] => by rw [List.map_nil, PyData.canLayAll0]
  | c :: r => by rw [List.map_cons, PyData.canLayAll0, PyData.canLay0, lay_ints r] <;> rfl
theorem deep_ints : ∀ cells : List Int, PyData.depthAll (cells.map PyData.int) = 0
  | [] => by rw [List.map_nil, PyData.depthAll]
  | c :: r => by rw [List.map_cons, PyData.depthAll, PyData.depth, deep_ints r] <;> rfl
theorem shaped_ints (cells : List Int) : SeqAt.shaped (.list (cells.map PyData.int)) = true := by
  unfold SeqAt.shaped
  rw [PyData.canLay0, lay_ints, PyData.depth, deep_ints] <;> decide
end Tz
namespace TzOwn
open PySem L2 ClX
section
variable {X : Cx} {CX : CXT} {k : Nat} {f C g p : Addr} {fd : FuncData} {ps : List Str} {sp : Sp} {E : XK} {pins : List (Addr × Obj)} {σ : L2.St} {H : Hp} {s : Shared} {mc : Value} {m : Str} {o e : Expr} {es : List Expr} {apos pos : Pos} {ta : TE} {t : TA} {pl : Sem Bool}
theorem back_cmp {Q : VK} {u : Value} {s' : Shared} (h : EP X pins σ Q u s') : PySem.W.CmpBack (EP X pins σ Q) u s' := by
  obtain ⟨v, H', I, r, q⟩ := id h
  cases v with
  | non => cases (show u = Value.none from r); exact h
  | bl b => cases (show u = Value.bool b from r); exact h
  | int i => obtain ⟨t, e⟩ := (show ∃ t, u = Value.int i t from r); subst e; exact h
  | str i => obtain ⟨t, e⟩ := (show ∃ t, u = Value.str i t from r); subst e; exact h
  | byt i => obtain ⟨t, e⟩ := (show ∃ t, u = Value.bytes i t from r); subst e; exact h
  | flt i => obtain ⟨t, e⟩ := (show ∃ t, u = Value.float i t from r); subst e; exact h
  | ref a => cases (show u = Value.ref a from r); exact h
  | ty a => cases (show u = Value.type a from r); exact h
theorem inst_at (I : Inv X pins σ H s) {a dx : Addr} {fs : List (Str × V)} (h : H a = some (.ins C dx fs)) : ∃ od, PySem.W.InstAt s.heap a (PySem.W.instObj C dx) C (some od) := by
  obtain ⟨mA, J, _⟩ := ins_get I.hok h
  obtain ⟨od, J, _⟩ := J.look
  exact ⟨od, J⟩
/-- a, b instances of the class at C: its own method, by its promise -/
def rOwn (C : Addr) (sp : Sp) (E : XK) : R2 := fun x y H Q => ∃ a b dx dy fs gs, x = .ref a ∧ y = .ref b ∧ H a = some (.ins C dx fs) ∧ H b = some (.ins C dy gs) ∧ sp [.ref a, .ref b] H Q E
/-- a an instance, b an int -/
def rOwnI (C : Addr) (sp : Sp) (E : XK) : R2 := fun x y H Q => ∃ a n dx fs, x = .ref a ∧ y = .int n ∧ H a = some (.ins C dx fs) ∧ sp [.ref a, .int n] H Q E
def rIOwn (C : Addr) (sp : Sp) (E : XK) : R2 := fun x y H Q => ∃ a n dx fs, x = .int n ∧ y = .ref a ∧ H a = some (.ins C dx fs) ∧ sp [.ref a, .int n] H Q E
def rOwn1 (C : Addr) (sp : Sp) (E : XK) : V → Hp → VK → Prop := fun x H Q => ∃ a dx fs, x = .ref a ∧ H a = some (.ins C dx fs) ∧ sp [.ref a] H Q E
theorem op_own {op : Operator} {nm : Str} (F : FnOk X.prog X.w X.K X.mg X.base CX k f fd ps sp) (hr : Room k X.A) (M : Meth X.K C nm f) (hn : PySem.dunder op.info.2 = nm) (sf : PySem.W.selfFirst X.K C = true) (hb : Binds X.K fd ps []) (hx : Passes CX X E) :
    OpR X (binaryOp op) (rOwn C sp E) := by
  intro pins s σ H x y v u Q I rx ry h
  obtain ⟨a, b, dx, dy, fs, gs, rfl, rfl, ha, hb', q⟩ := h
  cases rx
  cases ry
  obtain ⟨od, J⟩ := inst_at I ha
  obtain ⟨od', J'⟩ := inst_at I hb'
  obtain ⟨m, hF⟩ := I.fr
  refine PySem.W.binop_K hF I.ok.mod.kin J J'.type sf (hn ▸ M.at_) M.fn ?_
  exact thn (run_fn (us := [.ref a, .ref b]) (vs := [.ref a, .ref b]) F hr hb .nil hx I (.cons rfl (.cons rfl .nil)) q) fun _ _ z => back_cmp z
theorem op_ownI {op : Operator} {nm nr : Str} {fo ro rc : Option Value} (F : FnOk X.prog X.w X.K X.mg X.base CX k f fd ps sp) (hr : Room k X.A) (M : Meth X.K C nm f) (hn : PySem.dunder op.info.2 = nm) (sf : PySem.W.selfFirst X.K C = true) (hb : Binds X.K fd ps []) (hx : Passes CX X E)
    (hnr : dunderR op.info.2 = nr) (hc : PySem.W.findIn X.K (.ref C) nr = some rc) (hp : rc = none ∨ ∃ g : Addr, rc = some (.ref g)) (h1 : PySem.W.findIn X.K (.type "int") nm = some fo) (h2 : PySem.W.findIn X.K (.type "int") nr = some ro)
    (hsub : PySem.W.subIn X.K (.type "int") (.ref C) = some false) :
    OpR X (binaryOp op) (rOwnI C sp E) := by
  intro pins s σ H x y v u Q I rx ry h
  obtain ⟨a, n, dx, fs, rfl, rfl, ha, q⟩ := h
  cases rx
  obtain ⟨t, rfl⟩ := ry
  obtain ⟨od, J⟩ := inst_at I ha
  obtain ⟨m, hF⟩ := I.fr
  refine PySem.W.ksp_binT (T := "int") hF I.ok.mod.kin J rfl sf (hn ▸ M.at_) M.fn (hnr ▸ hc) hp (hn ▸ h1) (hnr ▸ h2) hsub ?_
  exact thn (run_fn (us := [.ref a, .int n t]) (vs := [.ref a, .int n]) F hr hb .nil hx I (.cons rfl (.cons ⟨_, rfl⟩ .nil)) q) fun _ _ z => back_cmp z
theorem un_inv_own {nm : Str} (F : FnOk X.prog X.w X.K X.mg X.base CX k f fd ps sp) (hr : Room k X.A) (M : Meth X.K C nm f) (hn : "__invert__" = nm) (hb : Binds X.K fd ps []) (hx : Passes CX X E) : UnR X (unaryOp .Invert) (rOwn1 C sp E) := by
  intro pins s σ H x v Q I rx h
  obtain ⟨a, dx, fs, rfl, ha, q⟩ := h
  cases rx
  obtain ⟨od, J⟩ := inst_at I ha
  obtain ⟨m, hF⟩ := I.fr
  refine PySem.W.ksp_inv hF I.ok.mod.kin J (hn ▸ M.at_) M.fn ?_
  exact run_fn (us := [.ref a]) (vs := [.ref a]) F hr hb .nil hx I (.cons rfl .nil) q
theorem cmp_own {op : CmpOp} {nm : Str} (F : FnOk X.prog X.w X.K X.mg X.base CX k f fd ps sp) (hr : Room k X.A) (M : Meth X.K C nm f) (hn : (cmpInfo op).2.1 = nm) (ho : compareOp op = richCompare op) (hb : Binds X.K fd ps []) (hx : Passes CX X E) : OpR X (compareOp op) (rOwn C sp E) := by
  intro pins s σ H x y v u Q I rx ry h
  obtain ⟨a, b, dx, dy, fs, gs, rfl, rfl, ha, hb', q⟩ := h
  cases rx
  cases ry
  obtain ⟨od, J⟩ := inst_at I ha
  obtain ⟨od', J'⟩ := inst_at I hb'
  obtain ⟨m, hF⟩ := I.fr
  rw [ho]
  refine PySem.W.cmp_K (op := op) (tb := .ref C) hr.units0 hF I.ok.mod.kin J J'.type (by simp [PySem.W.notFirst]) (hn ▸ M.at_) M.fn ?_
  exact thn (run_fn (us := [.ref a, .ref b]) (vs := [.ref a, .ref b]) F hr hb .nil hx I (.cons rfl (.cons rfl .nil)) q) fun _ _ z => back_cmp z
theorem int_mul_ins (n : Int) (t : Tok) (x C dx : Addr) : Meets (Builtin.«int.__mul__» ⟨[.int n t, .ref x], []⟩) (fun _ R s => s.heap.get? x = some (PySem.W.instObj C dx) ∧ R (.ok (.ret Value.notImplemented)) s) :=
  .of_wp fun prog w A R s h => by obtain ⟨hp, g, d, tk, os⟩ := s; obtain ⟨hl, h⟩ := h; wp_walk; exact ⟨_, rfl, h⟩
theorem int_add_ins (n : Int) (t : Tok) (x C dx : Addr) : Meets (Builtin.«int.__add__» ⟨[.int n t, .ref x], []⟩) (fun _ R s => s.heap.get? x = some (PySem.W.instObj C dx) ∧ R (.ok (.ret Value.notImplemented)) s) :=
  .of_wp fun prog w A R s h => by obtain ⟨hp, g, d, tk, os⟩ := s; obtain ⟨hl, h⟩ := h; wp_walk; exact ⟨_, rfl, h⟩
theorem int_sub_ins (n : Int) (t : Tok) (x C dx : Addr) : Meets (Builtin.«int.__sub__» ⟨[.int n t, .ref x], []⟩) (fun _ R s => s.heap.get? x = some (PySem.W.instObj C dx) ∧ R (.ok (.ret Value.notImplemented)) s) :=
  .of_wp fun prog w A R s h => by obtain ⟨hp, g, d, tk, os⟩ := s; obtain ⟨hl, h⟩ := h; wp_walk; exact ⟨_, rfl, h⟩
theorem int_xor_ins (n : Int) (t : Tok) (x C dx : Addr) : Meets (Builtin.«int.__xor__» ⟨[.int n t, .ref x], []⟩) (fun _ R s => s.heap.get? x = some (PySem.W.instObj C dx) ∧ R (.ok (.ret Value.notImplemented)) s) :=
  .of_wp fun prog w A R s h => by obtain ⟨hp, g, d, tk, os⟩ := s; obtain ⟨hl, h⟩ := h; wp_walk; exact ⟨_, rfl, h⟩
/-- int op instance: the left one declines, the class's reflected method answers -/
theorem op_iown {op : Operator} {nm nl : Str} {fl : Addr} {idl : String} {B : Builtin} (F : FnOk X.prog X.w X.K X.mg X.base CX k f fd ps sp) (hr : Room k X.A) (M : Meth X.K C nm f) (hn : dunderR op.info.2 = nm) (ML : Meth X.K C nl fl) (hnl : PySem.dunder op.info.2 = nl) (sf : PySem.W.selfFirst X.K C = true)
    (hb : Binds X.K fd ps []) (hx : Passes CX X E) (hsub : PySem.W.subIn X.K (.ref C) (.type "int") = some false)
    (fills : fillsNumberSlot (.type "int") op.info.2 = pure true) (slot : Slot "int" (PySem.dunder op.info.2) idl) (entry : entryFor table idl = some B) (args : ∀ n t a, argsOk idl ⟨[.int n t, .ref a], []⟩)
    (meets : ∀ n t x dx, Meets (B ⟨[.int n t, .ref x], []⟩) (fun _ R s => s.heap.get? x = some (PySem.W.instObj C dx) ∧ R (.ok (.ret Value.notImplemented)) s)) :
    OpR X (binaryOp op) (rIOwn C sp E) := by
  intro pins s σ H x y v u Q I rx ry h
  obtain ⟨a, n, dx, fs, rfl, rfl, ha, q⟩ := h
  cases ry
  obtain ⟨t, rfl⟩ := rx
  obtain ⟨mA, J0, _⟩ := ins_get I.hok ha
  obtain ⟨od, J, _⟩ := J0.look
  have Xk := I.kIn
  obtain ⟨cd, rest, hcd, hm⟩ := PySem.W.ksp_first sf
  rcases hi : op.info with ⟨sym, nm'⟩
  rw [hi] at hn hnl fills slot
  dsimp only at hn hnl fills slot
  have L3 : PySem.W.Looks (model X.prog X.w) s.heap (fillsNumberSlot (.ref C) nm') true := PySem.W.fills_K Xk hcd hm (hnl ▸ ML.at_)
  have L5 : PySem.W.Looks (model X.prog X.w) s.heap (isSubtype (.ref C) (.type "int")) false := PySem.W.looks_subIn Xk hsub
  have hne : (Value.type "int" == Value.ref C) = false := Bool.eq_false_iff.mpr fun q => by cases beq_iff_eq.mp q
  have L0 : typeOf (.int n t) = pure (.type "int") := rfl
  simp only [binaryOp, hi]
  refine wpAny_holding (wpAny_bind ?_)
  unfold binaryOp1
  refine wpAny_bind (wpAny_of_eq L0 (wpAny_bind (J.type.here (wpAny_bind (wpAny_of_eq fills ?_)))))
  simp only [hne, Bool.false_eq_true, if_false]
  refine wpAny_bind (L3.here ?_)
  simp only [Bool.and_self, if_true]
  refine wpAny_bind (L5.here ?_)
  have hpy : numberSlotInPython (.type "int") nm' = pure false := rfl
  simp only [Bool.false_eq_true, if_false, pure_bind, Bool.not_false, Bool.and_self, if_true, hpy]
  refine wpAny_bind (wpAny_tryMethod_declines (T := "int") rfl slot (call_meets slot rfl entry (args n t a) (meets n t a dx) ⟨J0.obj, rfl, ?_⟩))
  refine wpAny_bind ?_
  have z := PySem.W.ksp_try (Q := EP X pins σ Q) Xk J (hn ▸ M.at_) M.fn (thn (run_fn (us := [.ref a, .int n t]) (vs := [.ref a, .int n]) F hr hb .nil hx I (.cons rfl (.cons ⟨_, rfl⟩ .nil)) q) fun _ _ z => back_cmp z)
  refine wpAny_mono z (fun r s' hr' => ?_) fun _ _ e => e
  obtain ⟨v, rfl, hq⟩ := hr'
  exact wpAny_bind (wpAny_rule (wpAny_pure (wpAny_pure hq)))
/-- C.m is a staticmethod: its record at p, its def at g -/
structure SMet (K : PySem.W.Frag) (C : Addr) (mc : Value) (m : Str) (p g : Addr) : Prop where
  at_ : PySem.W.findCls K (.ref C) mc m = some (.get (.builtin "staticmethod.__get__") (.ref p) .none (.ref C))
  rc : ∃ rest, PySem.W.recIn K p "staticmethod" = some (.ref g :: rest)
  kp : PySem.W.keepIn K (.ref g) = true
theorem getsmet_ok {b : Bool} {A : Around} {E : Value → Shared → Prop} {Q : Value → Shared → Prop} (I : Inv X pins σ H s) (r : CRead X.K C mc) (c : SMet X.K C mc m p g)
    (h : ∀ s', Inv X pins σ H s' → Q (.ref g) s') : wpAny (model X.prog X.w) A (getAttr (.ref C) m b) Q E s := by
  obtain ⟨rest, hp⟩ := c.rc
  refine PySem.W.cls_bind I.kIn r.rd c.at_ ?_
  exact wpAny_call (PySem.W.sm_get (s := { s with toks := s.toks + 1 }) I.kIn hp (PySem.W.handed_on rfl (h _ (I.tok _))))
def tSMeth (C : Addr) (sp : Sp) (E : XK) (ta : TE) (t : TA) : TE := fun σ H Q => ta σ H fun x H1 => x = .ref C ∧ t σ H1 fun vs H2 => sp vs H2 Q E
theorem pe_smeth (he : PE X o ta) (r : CRead X.K C mc) (c : SMet X.K C mc m p g) (F : FnOk X.prog X.w X.K X.mg X.base CX k g fd ps sp) (hr : Room k X.A) (hb : Binds X.K fd ps []) (hx : Passes CX X E) (ha : PA X (e :: es) t)
    (hst : starEach (e :: es) X.env = (false, eval e X.env) :: starEach es X.env := by rfl) (hpl : (backTo pos (starEach es X.env)).any (·.1) = false := by rfl)
    (ht : eval (.Call (.Attribute o m apos) (e :: es) [] pos) X.env = (do
      let ov ← eval o X.env
      standAt apos.atName
      let (f, first) ← holding [ov] (getMethod ov m pl)
      callWith pos f first (backTo pos (starEach (e :: es) X.env)) (backToKw pos (keywordEach [] X.env))) := by rfl) :
    PE X (.Call (.Attribute o m apos) (e :: es) [] pos) (tSMeth C sp E ta t) := by
  refine ⟨fun pins s σ H Q I h => ?_⟩
  refine PySem.W.methodCall_KW (pl := pl) (thn (he.run pins s σ H _ I h) fun u s1 ⟨x, H1, I1, rx, ex, q⟩ => ?_) ht
  subst ex
  obtain rfl : u = Value.ref C := rx
  refine PySem.W.method_cls I1.kIn r.ga (getsmet_ok I1 r c fun s2 I2 => ?_)
  refine PySem.W.callWith_K (first := []) (h₀ := X.base) I.ok.mod.kin c.kp (thn (ha.run pos _ s2 σ H1 _ I2 q) fun us s3 ⟨vs, H2, I3, rv, q2⟩ => ⟨I3.kIn, ?_⟩) hst hpl
  exact run_fn (us := us) (vs := vs) F hr hb .nil hx I3 rv (by rw [List.append_nil]; exact q2)
end
end TzOwn
namespace TzOwn
open PySem L2 SeqAt
section
variable {X : Cx}
/-- xs != [], xs == [], whatever the items are: the second list is empty -/
def rNeNil : R2 := fun x y H Q => ∃ a b xs, x = .ref a ∧ y = .ref b ∧ H a = some (.lst xs) ∧ H b = some (.lst []) ∧ Q (.bl (!xs.isEmpty)) H
def rEqNil : R2 := fun x y H Q => ∃ a b xs, x = .ref a ∧ y = .ref b ∧ H a = some (.lst xs) ∧ H b = some (.lst []) ∧ Q (.bl xs.isEmpty) H
theorem op_neNil (hu : X.A.units < cLine) : OpR X (compareOp .NotEq) rNeNil := by
  intro pins s σ H x y v u Q I rx ry h
  obtain ⟨a, b, xs, rfl, rfl, ha, hb, q⟩ := h
  cases rx
  cases ry
  obtain ⟨_, its, n, r, e⟩ := I.hok a _ ha
  obtain ⟨_, its2, n2, r2, e2⟩ := I.hok b _ hb
  have l2 : its2 = [] := List.length_eq_zero_iff.mp r2.length.symm
  subst l2
  show wpAny (model X.prog X.w) X.A (richCompare .NotEq (.ref a) (.ref b)) (EP X pins σ Q) X.xe s
  cases xs with
  | nil =>
    have l1 : its = [] := List.length_eq_zero_iff.mp r.length.symm
    subst l1
    exact RcNeAt.lists (e := fun _ => true) ⟨_, e, rfl, n, rfl⟩ ⟨_, e2, rfl, n2, rfl⟩ rfl hu (fun i h1 => absurd h1 (Nat.not_lt_zero _)) _ _ _ _ ⟨.bl false, H, I, rfl, q⟩
  | cons y ys =>
    have l1 : its.length = ys.length + 1 := r.length.symm
    exact RcNeAt.lists_lengths ⟨_, e, rfl, n, rfl⟩ ⟨_, e2, rfl, n2, rfl⟩ (by simp [l1]) hu _ _ _ _ ⟨.bl true, H, I, rfl, q⟩
end
end TzOwn
namespace Tz
open PySem L2
/-! ### mathematics of carried sums -/
/-- the greatest value -/
def mw (w : Nat) : Int := 2 ^ w - 1
theorem mw_pos {w : Nat} (h : 1 ≤ w) : 1 ≤ mw w := by
  have := pow_gt h
  unfold mw
  omega
theorem mw_64 {w : Nat} (h : w ≤ 64) : mw w < 18446744073709551616 := by
  have := pow_le64 h
  unfold mw
  omega
theorem mw_lt {w : Nat} {v : Int} : v < 2 ^ w ↔ v ≤ mw w := by
  unfold mw
  omega
/-- the value of a sum of words whose plain sum is n -/
def cr (w : Nat) (n : Int) : Int := if 0 < n then (n - 1) % mw w + 1 else 0
theorem cr_bd {w : Nat} (h : 1 ≤ w) (n : Int) : 0 ≤ cr w n ∧ cr w n ≤ mw w := by
  have hm := mw_pos h
  unfold cr
  split
  · have := emod_bd (a := n - 1) (m := mw w) (by omega)
    omega
  · omega
theorem cr_pos {w : Nat} (h : 1 ≤ w) {n : Int} (hn : 0 < n) : 1 ≤ cr w n := by
  have hm := mw_pos h
  unfold cr
  rw [if_pos hn]
  have := emod_bd (a := n - 1) (m := mw w) (by omega)
  omega
theorem cr_zero (w : Nat) : cr w 0 = 0 := rfl
theorem cr_non {w : Nat} {n : Int} (h : ¬ 0 < n) : cr w n = 0 := if_neg h
/-- the one word from 1 to M with the rest of n -/
theorem cr_eq {w : Nat} {n r q : Int} (hn : 0 < n) (h1 : 1 ≤ r) (h2 : r ≤ mw w) (e : n = r + mw w * q) : cr w n = r := by
  unfold cr
  rw [if_pos hn, show n - 1 = (r - 1) + mw w * q by omega, Int.add_mul_emod_self_left, Int.emod_eq_of_lt (by omega) (by omega)]
  omega
theorem cr_ex {w : Nat} (n : Int) (hn : 0 < n) : ∃ q, n = cr w n + mw w * q := by
  refine ⟨(n - 1) / mw w, ?_⟩
  unfold cr
  rw [if_pos hn]
  have := Int.emod_add_mul_ediv (n - 1) (mw w)
  omega
theorem cr_self {w : Nat} {x : Int} (h0 : 0 ≤ x) (h1 : x ≤ mw w) : cr w x = x := by
  by_cases h : 0 < x
  · exact cr_eq (q := 0) h (by omega) h1 (by omega)
  · rw [cr_non h]
    omega
/-- the carry may be done ahead -/
theorem cr_add {w : Nat} (h : 1 ≤ w) {a b : Int} (ha : 0 ≤ a) (hb : 0 ≤ b) : cr w (cr w a + b) = cr w (a + b) := by
  by_cases h0 : 0 < a
  · obtain ⟨q, e⟩ := cr_ex (w := w) a h0
    have p1 := cr_pos h h0
    have p2 := cr_bd h (a + b)
    have p3 := cr_pos h (n := a + b) (by omega)
    obtain ⟨r, e2⟩ := cr_ex (w := w) (a + b) (by omega)
    refine cr_eq (q := r - q) (by omega) p3 p2.2 ?_
    rw [Int.mul_sub]
    omega
  · rw [cr_non h0, show a = 0 by omega]
theorem cr_add2 {w : Nat} (h : 1 ≤ w) {a b : Int} (ha : 0 ≤ a) (hb : 0 ≤ b) : cr w (cr w a + cr w b) = cr w (a + b) := by
  rw [cr_add h ha (cr_bd h b).1, Int.add_comm, cr_add h hb ha, Int.add_comm]
theorem cr_mul {w : Nat} (h : 1 ≤ w) {k a : Int} (hk : 0 ≤ k) (ha : 0 ≤ a) : cr w (k * cr w a) = cr w (k * a) := by
  by_cases h0 : 0 < a
  · by_cases k0 : 0 < k
    · obtain ⟨q, e⟩ := cr_ex (w := w) a h0
      have p1 := cr_pos h h0
      have hka := Int.mul_pos k0 h0
      have hkc := Int.mul_pos k0 (show 0 < cr w a by omega)
      have p2 := cr_bd h (k * a)
      have p3 := cr_pos h hka
      obtain ⟨r, e2⟩ := cr_ex (w := w) (k * a) hka
      refine cr_eq (q := r - k * q) hkc p3 p2.2 ?_
      have e3 : k * a = k * cr w a + mw w * (k * q) := by
        conv => lhs; rw [e]
        rw [Int.mul_add, Int.mul_left_comm]
      rw [Int.mul_sub]
      omega
    · rw [show k = 0 by omega, Int.zero_mul, Int.zero_mul]
  · rw [cr_non h0, show a = 0 by omega]
/-! ### what a word is -/
/-- its attributes, in the order in which __init__ stores them -/
def wf (w : Nat) (v : Int) : List (Str × V) :=
  putF "is_full" (.bl (v == mw w)) (putF "is_empty" (.bl (v == 0)) (putF "rest" (.int (v % mw w)) (putF "value" (.int v) (putF "width" (.int w) []))))
theorem sne : (¬ (("width" : Str) = "value")) ∧ (¬ (("width" : Str) = "rest")) ∧ (¬ (("width" : Str) = "is_empty")) ∧ (¬ (("width" : Str) = "is_full")) ∧ (¬ (("value" : Str) = "rest")) ∧ (¬ (("value" : Str) = "is_empty")) ∧ (¬ (("value" : Str) = "is_full")) ∧
    (¬ (("rest" : Str) = "is_empty")) ∧ (¬ (("rest" : Str) = "is_full")) ∧ (¬ (("is_empty" : Str) = "is_full")) := by decide +kernel
theorem wf_width (w : Nat) (v : Int) : (wf w v).lookup ("width" : Str) = some (.int w) := by
  unfold wf
  rw [lookup_putF, if_neg sne.2.2.2.1, lookup_putF, if_neg sne.2.2.1, lookup_putF, if_neg sne.2.1, lookup_putF, if_neg sne.1, lookup_putF, if_pos rfl]
theorem wf_value (w : Nat) (v : Int) : (wf w v).lookup ("value" : Str) = some (.int v) := by
  unfold wf
  rw [lookup_putF, if_neg sne.2.2.2.2.2.2.1, lookup_putF, if_neg sne.2.2.2.2.2.1, lookup_putF, if_neg sne.2.2.2.2.1, lookup_putF, if_pos rfl]
theorem wf_rest (w : Nat) (v : Int) : (wf w v).lookup ("rest" : Str) = some (.int (v % mw w)) := by
  unfold wf
  rw [lookup_putF, if_neg sne.2.2.2.2.2.2.2.2.1, lookup_putF, if_neg sne.2.2.2.2.2.2.2.1, lookup_putF, if_pos rfl]
theorem wf_is_empty (w : Nat) (v : Int) : (wf w v).lookup ("is_empty" : Str) = some (.bl (v == 0)) := by
  unfold wf
  rw [lookup_putF, if_neg sne.2.2.2.2.2.2.2.2.2, lookup_putF, if_pos rfl]
theorem wf_is_full (w : Nat) (v : Int) : (wf w v).lookup ("is_full" : Str) = some (.bl (v == mw w)) := by
  unfold wf
  rw [lookup_putF, if_pos rfl]
theorem wf_no (w : Nat) (v : Int) {m : Str} (h1 : ¬ m = "width") (h2 : ¬ m = "value") (h3 : ¬ m = "rest") (h4 : ¬ m = "is_empty") (h5 : ¬ m = "is_full") : (wf w v).lookup m = none := by
  unfold wf
  rw [lookup_putF, if_neg h5, lookup_putF, if_neg h4, lookup_putF, if_neg h3, lookup_putF, if_neg h2, lookup_putF, if_neg h1]
  all_goals rfl
structure WordAt (C : Addr) (H : Hp) (x : Addr) (w : Nat) (v : Int) : Prop where
  ob : ∃ dx, H x = some (.ins C dx (wf w v))
  w1 : 1 ≤ w
  w64 : w ≤ 64
  v0 : 0 ≤ v
  vm : v ≤ mw w
theorem WordAt.ex {C : Addr} {H H' : Hp} {x : Addr} {w : Nat} {v : Int} (h : WordAt C H x w v) (e : Ex H H') : WordAt C H' x w v := by
  obtain ⟨⟨dx, h1⟩, h2, h3, h4, h5⟩ := h
  exact ⟨⟨dx, e _ _ h1⟩, h2, h3, h4, h5⟩
theorem WordAt.fw {C : Addr} {H H' : Hp} {x z : Addr} {w : Nat} {v : Int} (h : WordAt C H x w v) (e : Fw z H H') (n : x ≠ z) : WordAt C H' x w v := by
  obtain ⟨⟨dx, h1⟩, h2, h3, h4, h5⟩ := h
  exact ⟨⟨dx, e _ _ n h1⟩, h2, h3, h4, h5⟩
theorem WordAt.ne_pen {C : Addr} {H : Hp} {x z c : Addr} {w t : Nat} {v : Int} {cells : List Int} (h : WordAt C H x w v) (p : PenAt H z c cells t) : x ≠ z := by
  obtain ⟨⟨dx, h1⟩, _⟩ := h
  obtain ⟨⟨i, l, h2, _⟩, _⟩ := p
  exact ne_of h1 h2 (by intro q; cases q)
/-! ### promises -/
def spIsFromI : Sp := fun vs H Q _ => ∃ v lo hi : Int, vs = [.int v, .int lo, .int hi] ∧ ∀ b : Bool, (b = true ↔ lo ≤ v ∧ v ≤ hi) → Q (.bl b) H
def spMost : Sp := fun vs H Q _ => ∃ w : Nat, vs = [.int w] ∧ 1 ≤ w ∧ w ≤ 64 ∧ Q (.int (mw w)) H
def spCheckedWidth : Sp := fun vs H Q _ => ∃ w : Nat, vs = [.int w] ∧ 1 ≤ w ∧ w ≤ 64 ∧ Q (.int w) H
def spWordInit (C : Addr) : Sp := fun vs H Q _ => ∃ p dx, ∃ w : Nat, ∃ v : Int, vs = [.ref p, .int w, .int v] ∧ H p = some (.ins C dx []) ∧ 1 ≤ w ∧ w ≤ 64 ∧ 0 ≤ v ∧ v ≤ mw w ∧
  ∀ H', H' p = some (.ins C dx (wf w v)) → (∀ b o, H b = some o → b ≠ p → H' b = some o) → Q .non H'
def spCarried : Sp := fun vs H Q _ => ∃ w : Nat, ∃ n : Int, vs = [.int w, .int n] ∧ 1 ≤ w ∧ w ≤ 64 ∧ Q (.int (cr w n)) H
/-- a new word -/
def NewW (C : Addr) (w : Nat) (v : Int) (H : Hp) (Q : VK) : Prop := ∀ p H', H p = none → Ex H H' → WordAt C H' p w v → Q (.ref p) H'
theorem NewW.go {C : Addr} {w : Nat} {v : Int} {H H1 H2 : Hp} {Q : VK} {p : Addr} (k : NewW C w v H Q) (e : Ex H H1) (n : H1 p = none) (e2 : Ex H1 H2) (W : WordAt C H2 p w v) : Q (.ref p) H2 := k p H2 (back e n) (e.trans e2) W
def spSumWord (C : Addr) : Sp := fun vs H Q _ => ∃ w : Nat, ∃ a b : Int, vs = [.int w, .int a, .int b] ∧ 1 ≤ w ∧ w ≤ 64 ∧ NewW C w (cr w (a + b)) H Q
def spDiffWord (C : Addr) : Sp := fun vs H Q _ => ∃ w : Nat, ∃ a b : Int, vs = [.int w, .int a, .int b] ∧ 1 ≤ w ∧ w ≤ 64 ∧ NewW C w (cr w (a + (mw w - b))) H Q
def spTimes : Sp := fun vs H Q _ => ∃ k : Int, vs = [.int k] ∧ 0 ≤ k ∧ k ≤ 1000000000000000000000000000000 ∧ Q (.int k) H
def spTurned (C : Addr) : Sp := fun vs H Q _ => ∃ x, ∃ w : Nat, ∃ v k : Int, vs = [.ref x, .int k] ∧ WordAt C H x w v ∧ NewW C w (cr w (v * 2 ^ (k % w).toNat)) H Q
def spOperand (C : Addr) : Sp := fun vs H Q _ => ∃ x y, ∃ w : Nat, ∃ u v : Int, vs = [.ref x, .ref y] ∧ WordAt C H x w u ∧ WordAt C H y w v ∧ Q (.int v) H
def spAdd (C : Addr) : Sp := fun vs H Q _ => ∃ x y, ∃ w : Nat, ∃ u v : Int, vs = [.ref x, .ref y] ∧ WordAt C H x w u ∧ WordAt C H y w v ∧ NewW C w (cr w (u + v)) H Q
def spSub (C : Addr) : Sp := fun vs H Q _ => ∃ x y, ∃ w : Nat, ∃ u v : Int, vs = [.ref x, .ref y] ∧ WordAt C H x w u ∧ WordAt C H y w v ∧ NewW C w (cr w (u + (mw w - v))) H Q
def spEq (C : Addr) : Sp := fun vs H Q _ => ∃ x y, ∃ w1 w2 : Nat, ∃ u v : Int, vs = [.ref x, .ref y] ∧ WordAt C H x w1 u ∧ WordAt C H y w2 v ∧ Q (.bl (decide (w1 = w2) && decide (u = v))) H
def spLike (C : Addr) : Sp := fun vs H Q _ => ∃ x y, ∃ w : Nat, ∃ u v : Int, vs = [.ref x, .ref y] ∧ WordAt C H x w u ∧ WordAt C H y w v ∧ Q (.bl (decide (u % mw w = v % mw w))) H
def spMulI (C : Addr) : Sp := fun vs H Q _ => ∃ x, ∃ w : Nat, ∃ u k : Int, vs = [.ref x, .int k] ∧ WordAt C H x w u ∧ 0 ≤ k ∧ k ≤ 1000000000000000000000000000000 ∧ NewW C w (cr w (k * u)) H Q
def spShlI (C : Addr) : Sp := fun vs H Q _ => ∃ x, ∃ w : Nat, ∃ u k : Int, vs = [.ref x, .int k] ∧ WordAt C H x w u ∧ 0 ≤ k ∧ k ≤ 1000000000000000000000000000000 ∧ NewW C w (cr w (u * 2 ^ (k % w).toNat)) H Q
def spInv (C : Addr) : Sp := fun vs H Q _ => ∃ x, ∃ w : Nat, ∃ u : Int, vs = [.ref x] ∧ WordAt C H x w u ∧ NewW C w (mw w - u) H Q
def spConst (C : Addr) (f : Nat → Int) : Sp := fun vs H Q _ => ∃ w : Nat, vs = [.int w] ∧ 1 ≤ w ∧ w ≤ 64 ∧ NewW C w (f w) H Q
/-- a new instance and its __init__ -/
theorem mk_word {C : Addr} {w : Nat} {v : Int} {H : Hp} {Q : VK} {E : XK} (w1 : 1 ≤ w) (w64 : w ≤ 64) (v0 : 0 ≤ v) (vm : v ≤ mw w) (k : NewW C w v H Q) :
    ∀ x dx, H x = none → H dx = none → dx ≠ x → spWordInit C [.ref x, .int w, .int v] (upd (upd H dx (.own x)) x (.ins C dx [])) (fun u H2 => u = .non ∧ Q (.ref x) H2) E := fun x dx nx ndx _ =>
  ⟨x, dx, w, v, rfl, upd_same, w1, w64, v0, vm, fun H' hx hk => ⟨rfl, k x H' nx (fun b o e => hk b o (by rw [upd_ne (ne_of_none e nx), upd_ne (ne_of_none e ndx)]; exact e) (ne_of_none e nx)) ⟨⟨dx, hx⟩, w1, w64, v0, vm⟩⟩⟩
theorem kit_self {K : PySem.W.Frag} {v : Value} : PySem.W.kitOne K v v = some true := by
  unfold PySem.W.kitOne
  rw [if_pos (beq_self_eq_true v)]
/-! ### rows of words -/
inductive Ws (C : Addr) (H : Hp) (w : Nat) : List Addr → List Int → Prop where
  | nil : Ws C H w [] []
  | cons {x : Addr} {v : Int} {xs : List Addr} {vs : List Int} (h : WordAt C H x w v) (t : Ws C H w xs vs) : Ws C H w (x :: xs) (v :: vs)
theorem Ws.len {C : Addr} {H : Hp} {w : Nat} {xs : List Addr} {vs : List Int} (h : Ws C H w xs vs) : xs.length = vs.length := by
  induction h with
  | nil => rfl
  | cons _ _ ih => rw [List.length_cons, List.length_cons, ih]
theorem Ws.get {C : Addr} {H : Hp} {w : Nat} {xs : List Addr} {vs : List Int} (h : Ws C H w xs vs) : ∀ {i : Nat}, i < xs.length → ∃ x v, xs[i]? = some x ∧ vs[i]? = some v ∧ WordAt C H x w v := by
  induction h with
  | nil => intro i hi; exact absurd hi (Nat.not_lt_zero _)
  | @cons x v xs vs h t ih =>
    intro i hi
    cases i with
    | zero => exact ⟨x, v, rfl, rfl, h⟩
    | succ i => exact ih (by simpa using hi)
theorem Ws.fw {C : Addr} {H H' : Hp} {w : Nat} {xs : List Addr} {vs : List Int} (h : Ws C H w xs vs) (k : ∀ x v, WordAt C H x w v → WordAt C H' x w v) : Ws C H' w xs vs := by
  induction h with
  | nil => exact .nil
  | cons h _ ih => exact .cons (k _ _ h) ih
theorem Ws.app {C : Addr} {H : Hp} {w : Nat} {xs ys : List Addr} {vs us : List Int} (h : Ws C H w xs vs) (g : Ws C H w ys us) : Ws C H w (xs ++ ys) (vs ++ us) := by
  induction h with
  | nil => exact g
  | cons h _ ih => exact .cons h ih
theorem Ws.take {C : Addr} {H : Hp} {w : Nat} {xs : List Addr} {vs : List Int} (h : Ws C H w xs vs) : ∀ n, Ws C H w (xs.take n) (vs.take n) := by
  induction h with
  | nil => intro n; rw [List.take_nil, List.take_nil]; exact .nil
  | cons h _ ih =>
    intro n
    cases n with
    | zero => exact .nil
    | succ n => exact .cons h (ih n)
theorem Ws.drop {C : Addr} {H : Hp} {w : Nat} {xs : List Addr} {vs : List Int} (h : Ws C H w xs vs) : ∀ n, Ws C H w (xs.drop n) (vs.drop n) := by
  induction h with
  | nil => intro n; rw [List.drop_nil, List.drop_nil]; exact .nil
  | @cons x v xs vs h t ih =>
    intro n
    cases n with
    | zero => exact .cons h t
    | succ n => exact ih n
theorem Ws.erase {C : Addr} {H : Hp} {w : Nat} {xs : List Addr} {vs : List Int} (h : Ws C H w xs vs) : ∀ n, Ws C H w (xs.eraseIdx n) (vs.eraseIdx n) := by
  induction h with
  | nil => intro n; exact .nil
  | @cons x v xs vs h t ih =>
    intro n
    cases n with
    | zero => exact t
    | succ n => exact .cons h (ih n)
theorem Ws.nonneg {C : Addr} {H : Hp} {w : Nat} {xs : List Addr} {vs : List Int} (h : Ws C H w xs vs) : 0 ≤ vs.sum := by
  induction h with
  | nil => exact Int.le_refl 0
  | cons h _ ih =>
    have := h.v0
    rw [List.sum_cons]
    omega
theorem sum_erase : ∀ {vs : List Int} {i : Nat} {v : Int}, vs[i]? = some v → vs.sum = v + (vs.eraseIdx i).sum
  | [], i, v, h => by simp at h
  | a :: r, 0, v, h => by
    have e : a = v := Option.some.inj h
    subst e
    rw [List.sum_cons, List.eraseIdx_cons_zero]
  | a :: r, i + 1, v, h => by
    have ih := sum_erase (vs := r) (i := i) (v := v) h
    rw [List.sum_cons, ih, List.eraseIdx_cons_succ, List.sum_cons]
    omega
theorem sum_mid : ∀ {vs : List Int} {i : Nat} {a b : Int}, vs[i]? = some a → vs[i + 1]? = some b → vs.sum = (vs.take i).sum + (a + b) + (vs.drop (i + 2)).sum
  | [], i, a, b, h, _ => by simp at h
  | [c], i, a, b, _, h => by simp at h
  | c :: d :: r, 0, a, b, h, h' => by
    have e : c = a := Option.some.inj h
    have e' : d = b := Option.some.inj h'
    subst e e'
    show (c :: d :: r).sum = 0 + (c + d) + r.sum
    rw [List.sum_cons, List.sum_cons]
    omega
  | c :: d :: r, i + 1, a, b, h, h' => by
    have ih := sum_mid (vs := d :: r) (i := i) (a := a) (b := b) h h'
    rw [List.sum_cons, ih, List.take_succ_cons, List.sum_cons]
    show c + ((List.take i (d :: r)).sum + (a + b) + (List.drop (i + 2) (d :: r)).sum) = c + (List.take i (d :: r)).sum + (a + b) + (List.drop (i + 2) (d :: r)).sum
    omega
/-! ### one operation, told by words -/
section
variable {C : Addr} {E : XK} {H : Hp} {Q : VK} {a b : Addr} {w w' : Nat} {u v k : Int}
theorem g_add (Wa : WordAt C H a w u) (Wb : WordAt C H b w v) (q : NewW C w (cr w (u + v)) H Q) : TzOwn.rOwn C (spAdd C) E (.ref a) (.ref b) H Q := by
  obtain ⟨da, ha⟩ := Wa.ob
  obtain ⟨db, hb⟩ := Wb.ob
  exact ⟨a, b, da, db, _, _, rfl, rfl, ha, hb, a, b, w, u, v, rfl, Wa, Wb, q⟩
theorem g_sub (Wa : WordAt C H a w u) (Wb : WordAt C H b w v) (q : NewW C w (cr w (u + (mw w - v))) H Q) : TzOwn.rOwn C (spSub C) E (.ref a) (.ref b) H Q := by
  obtain ⟨da, ha⟩ := Wa.ob
  obtain ⟨db, hb⟩ := Wb.ob
  exact ⟨a, b, da, db, _, _, rfl, rfl, ha, hb, a, b, w, u, v, rfl, Wa, Wb, q⟩
theorem g_eq (Wa : WordAt C H a w u) (Wb : WordAt C H b w v) (q : Q (.bl (decide (u = v))) H) : TzOwn.rOwn C (spEq C) E (.ref a) (.ref b) H Q := by
  obtain ⟨da, ha⟩ := Wa.ob
  obtain ⟨db, hb⟩ := Wb.ob
  refine ⟨a, b, da, db, _, _, rfl, rfl, ha, hb, a, b, w, w, u, v, rfl, Wa, Wb, ?_⟩
  rw [decide_eq_true (rfl : w = w), Bool.true_and]
  exact q
/-- .. two that are equal -/
theorem g_eqT (Wa : WordAt C H a w u) (Wb : WordAt C H b w v) (e : u = v) (q : Q (.bl true) H) : TzOwn.rOwn C (spEq C) E (.ref a) (.ref b) H Q := g_eq Wa Wb (by rw [decide_eq_true e]; exact q)
theorem g_rmul (Wa : WordAt C H a w u) (k0 : 0 ≤ k) (k1 : k ≤ 1000000000000000000000000000000) (q : NewW C w (cr w (k * u)) H Q) : TzOwn.rIOwn C (spMulI C) E (.int k) (.ref a) H Q := by
  obtain ⟨da, ha⟩ := Wa.ob
  exact ⟨a, k, da, _, rfl, rfl, ha, a, w, u, k, rfl, Wa, k0, k1, q⟩
theorem g_mul (Wa : WordAt C H a w u) (k0 : 0 ≤ k) (k1 : k ≤ 1000000000000000000000000000000) (q : NewW C w (cr w (k * u)) H Q) : TzOwn.rOwnI C (spMulI C) E (.ref a) (.int k) H Q := by
  obtain ⟨da, ha⟩ := Wa.ob
  exact ⟨a, k, da, _, rfl, rfl, ha, a, w, u, k, rfl, Wa, k0, k1, q⟩
theorem g_shl (Wa : WordAt C H a w u) (k0 : 0 ≤ k) (k1 : k ≤ 1000000000000000000000000000000) (q : NewW C w (cr w (u * 2 ^ (k % w).toNat)) H Q) : TzOwn.rOwnI C (spShlI C) E (.ref a) (.int k) H Q := by
  obtain ⟨da, ha⟩ := Wa.ob
  exact ⟨a, k, da, _, rfl, rfl, ha, a, w, u, k, rfl, Wa, k0, k1, q⟩
theorem g_inv (Wa : WordAt C H a w u) (q : NewW C w (mw w - u) H Q) : TzOwn.rOwn1 C (spInv C) E (.ref a) H Q := by
  obtain ⟨da, ha⟩ := Wa.ob
  exact ⟨a, da, _, rfl, ha, a, w, u, rfl, Wa, q⟩
end
theorem Fw.mut {z p : Addr} {H H' : Hp} {o : HO} (e : Fw z H H') (h : H p = none) : Fw z H (upd H' p o) := fun a u n ha => by
  rw [upd_ne (ne_of_none ha h)]
  exact e a u n ha
theorem PenAt.upd {H : Hp} {z c b : Addr} {cells : List Int} {t : Nat} {o : HO} (h : PenAt H z c cells t) (bz : b ≠ z) (bc : b ≠ c) : PenAt (upd H b o) z c cells t := by
  obtain ⟨⟨i, l, h1, h2⟩, h3, h4, h5⟩ := h
  exact ⟨⟨i, l, by rw [upd_ne bz.symm]; exact h1, h2⟩, by rw [upd_ne bc.symm]; exact h3, h4, h5⟩
theorem PenAt.off {H : Hp} {z c b : Addr} {cells : List Int} {t : Nat} (h : PenAt H z c cells t) (n : H b = none) : b ≠ z ∧ b ≠ c := by
  obtain ⟨⟨i, l, h1, _⟩, h3, _⟩ := h
  exact ⟨(ne_of_none h1 n).symm, (ne_of_none h3 n).symm⟩
theorem seqIx {i n : Nat} (h : i < n) : seqIndex? (i : Int) n = some i := by
  have e : ixN n (i : Int) = some i := by
    unfold ixN
    rw [if_pos (by omega), if_pos (by omega), Int.toNat_natCast]
  exact (ixN_seq e).1
theorem erase_map {α β : Type} (f : α → β) : ∀ (xs : List α) (i : Nat), (xs.map f).eraseIdx i = (xs.eraseIdx i).map f
  | [], _ => rfl
  | _ :: _, 0 => rfl
  | x :: r, i + 1 => by
    rw [List.map_cons, List.eraseIdx_cons_succ, List.eraseIdx_cons_succ, List.map_cons, erase_map f r i]
theorem eqv_ints (ns ms : List Int) : PyData.eqv (.list (ns.map PyData.int)) (.list (ms.map PyData.int)) = decide (ns = ms) := by
  rw [← SeqAt.same_eq_eqv _ _ (by simp only [SeqAt.noMix]; exact PySem.W.noMix_ints ns ms)]
  simp only [PySem.Spec.same]
  exact PySem.W.same_ints ns ms
theorem WordAt.off {C : Addr} {H : Hp} {x b : Addr} {w : Nat} {v : Int} {ys : List V} {o : HO} (h : WordAt C H x w v) (hb : H b = some (.lst ys)) : WordAt C (upd H b o) x w v := by
  obtain ⟨⟨dx, h1⟩, h2, h3, h4, h5⟩ := h
  exact ⟨⟨dx, by rw [upd_ne (ne_of h1 hb (by intro q; cases q))]; exact h1⟩, h2, h3, h4, h5⟩
theorem atI_neg1 {α : Type} {xs : List α} {v : α} {n : Nat} (hn : xs.length = n + 1) (h : xs[n]? = some v) : atI xs (-1) = some v := by
  unfold atI ixN
  rw [if_neg (by decide), if_pos (by omega), hn]
  show xs[((-1 : Int) + ((n + 1 : Nat) : Int)).toNat]? = some v
  rw [show ((-1 : Int) + ((n + 1 : Nat) : Int)).toNat = n by omega]
  exact h
theorem sum_zero : ∀ {vs : List Int}, (∀ v ∈ vs, 0 ≤ v) → (vs.sum = 0 ↔ vs = List.replicate vs.length 0)
  | [], _ => ⟨fun _ => rfl, fun _ => rfl⟩
  | a :: r, h => by
    have ih := sum_zero (vs := r) fun v hv => h v (List.mem_cons_of_mem _ hv)
    have a0 := h a List.mem_cons_self
    have r0 : 0 ≤ r.sum := by
      have : ∀ l : List Int, (∀ v ∈ l, 0 ≤ v) → 0 ≤ l.sum := by
        intro l
        induction l with
        | nil => intro _; exact Int.le_refl 0
        | cons x t iht =>
          intro hx
          have := hx x List.mem_cons_self
          have := iht fun v hv => hx v (List.mem_cons_of_mem _ hv)
          rw [List.sum_cons]
          omega
      exact this r fun v hv => h v (List.mem_cons_of_mem _ hv)
    rw [List.sum_cons, List.length_cons, List.replicate_succ]
    constructor
    · intro e
      rw [show a = 0 by omega, ← ih.mp (by omega)]
    · intro e
      injection e with e1 e2
      rw [e1, ih.mpr e2]
      all_goals rfl
theorem rep_flat (v : Int) : ∀ n : Nat, (List.replicate n [V.int v]).flatten = (List.replicate n v).map V.int
  | 0 => rfl
  | n + 1 => by
    rw [List.replicate_succ, List.flatten_cons, rep_flat v n, List.replicate_succ, List.map_cons]
    all_goals rfl
theorem yes_go {σ : L2.St} {H : Hp} {A B : Hp → Prop} (h : A H) : tYes σ H fun b H3 => if b = true then A H3 else B H3 := by
  show (if true = true then A H else B H)
  rw [if_pos rfl]
  exact h
theorem mk_word1 {C x dx : Addr} {w : Nat} {v : Int} {H : Hp} {Q : VK} {E : XK} (w1 : 1 ≤ w) (w64 : w ≤ 64) (v0 : 0 ≤ v) (vm : v ≤ mw w) (nx : H x = none) (ndx : H dx = none) (k : ∀ H', Ex H H' → WordAt C H' x w v → Q .non H') :
    spWordInit C [.ref x, .int w, .int v] (upd (upd H dx (.own x)) x (.ins C dx [])) Q E :=
  ⟨x, dx, w, v, rfl, upd_same, w1, w64, v0, vm, fun H' hx hk => k H' (fun b o e => hk b o (by rw [upd_ne (ne_of_none e nx), upd_ne (ne_of_none e ndx)]; exact e) (ne_of_none e nx)) ⟨⟨dx, hx⟩, w1, w64, v0, vm⟩⟩
end Tz
namespace Tz
open PySem L2
/-! ### the law's own promises -/
def spMixed (C : Addr) : Sp := fun vs H Q _ => ∃ z c cells t l w xs us, vs = [.ref z, .ref l] ∧ PenAt H z c cells t ∧ t ≤ 80000 ∧ H l = some (.lst (xs.map V.ref)) ∧ l ≠ z ∧ Ws C H w xs us ∧ xs.length ≤ 8 ∧
  ∀ q ys ws H', PenAt H' z c cells (t + 8) → Fw z H H' → H' q = some (.lst (ys.map V.ref)) → q ≠ z → Ws C H' w ys ws → ys.length = xs.length → ws.sum = us.sum → Q (.ref q) H'
def spGrouped (C : Addr) : Sp := fun vs H Q _ => ∃ z c cells t l w xs us, vs = [.ref z, .ref l] ∧ PenAt H z c cells t ∧ t ≤ 80000 ∧ H l = some (.lst (xs.map V.ref)) ∧ l ≠ z ∧ Ws C H w xs us ∧ xs.length ≤ 8 ∧ 1 ≤ xs.length ∧
  ∀ p H', PenAt H' z c cells (t + 8) → Fw z H H' → WordAt C H' p w (cr w us.sum) → Q (.ref p) H'
def spPair (C : Addr) : Sp := fun vs H Q _ => ∃ x y, ∃ w : Nat, ∃ u v k : Int, vs = [.int w, .ref x, .ref y, .int k] ∧ WordAt C H x w u ∧ WordAt C H y w v ∧ 0 ≤ k ∧ k ≤ 100 ∧ ∀ H', Ex H H' → Q (.bl true) H'
def spLaw (K : PySem.W.Frag) : Sp := fun vs H Q _ => ∃ (a : Addr) (ns : List Int), vs = [.ref a] ∧ SqL K H a (ns.map V.int) ∧ ns.length ≤ 63 ∧ ∀ H', Q (.bl true) H'
/-! ### mathematics -/
theorem cut_to {α : Type} (f : α → V) (xs : List α) (i : Nat) : cutV (xs.map f) none (some (i : Int)) = (xs.take i).map f := by
  unfold cutV
  rw [HT.sIx_none, HT.sIx_nat, List.drop_zero, Nat.sub_zero, List.length_map, ← List.map_take]
  congr 1
  rw [List.take_eq_take_iff]
  omega
theorem cut_from {α : Type} (f : α → V) (xs : List α) (i : Nat) : cutV (xs.map f) (some (i : Int)) none = (xs.drop i).map f := by
  unfold cutV
  rw [HT.sIx_none, HT.sIx_nat, List.length_map, ← List.map_drop, List.take_of_length_le (by rw [List.length_map, List.length_drop]; omega)]
  congr 1
  by_cases h : i ≤ xs.length
  · rw [Nat.min_eq_left h]
  · rw [List.drop_eq_nil_of_le (by omega), List.drop_eq_nil_of_le (by omega)]
theorem cr_shl {w : Nat} (h : 1 ≤ w) {a : Int} (e : Nat) (ha : 0 ≤ a) : cr w (cr w a * 2 ^ e) = cr w (a * 2 ^ e) := by
  rw [Int.mul_comm, cr_mul h (two_pow_nn e) ha, Int.mul_comm]
/-- an odd modulus goes past powers of two -/
theorem odd_part {m : Int} (hm : m % 2 = 1) : ∀ (e : Nat) (x : Int), x * 2 ^ e % m = 0 → x % m = 0
  | 0, x, h => by rwa [Int.pow_zero, Int.mul_one] at h
  | e + 1, x, h => by
    have h1 : x * 2 * 2 ^ e % m = 0 := by rw [Int.mul_assoc, ← Int.pow_succ']; exact h
    have h2 := odd_part hm e (x * 2) h1
    obtain ⟨c, hc⟩ := Int.dvd_of_emod_eq_zero h2
    obtain ⟨j, hj⟩ : ∃ j, m = 2 * j + 1 := ⟨m / 2, by omega⟩
    have h3 : c = 2 * (x - j * c) := by
      have : x * 2 = 2 * (j * c) + c := by rw [hc, hj, Int.add_mul, Int.one_mul, Int.mul_assoc]
      omega
    have h4 : x = m * (x - j * c) := by
      have : x * 2 = (m * (x - j * c)) * 2 := by
        rw [hc]
        conv => lhs; rw [h3]
        rw [Int.mul_left_comm, Int.mul_comm]
      omega
    exact Int.emod_eq_zero_of_dvd ⟨_, h4⟩
theorem mw_odd {w : Nat} (h : 1 ≤ w) : mw w % 2 = 1 := by
  obtain ⟨m, rfl⟩ : ∃ m, w = m + 1 := ⟨w - 1, by omega⟩
  unfold mw
  rw [Int.pow_succ]
  omega
theorem cr_full {w : Nat} (h : 1 ≤ w) {n q : Int} (hn : 0 < n) (e : n = mw w * q) : cr w n = mw w := by
  have hm := mw_pos h
  refine cr_eq (q := q - 1) hn (by omega) (by omega) ?_
  rw [Int.mul_sub, Int.mul_one]
  omega
/-- complements go past turns -/
theorem inv_shl {w : Nat} (h : 1 ≤ w) (e : Nat) {x : Int} (h0 : 0 ≤ x) (h1 : x ≤ mw w) : mw w - cr w (x * 2 ^ e) = cr w ((mw w - x) * 2 ^ e) := by
  have hm := mw_pos h
  have hp : (0 : Int) < 2 ^ e := Int.pow_pos (by decide)
  by_cases x0 : x = 0
  · subst x0
    rw [Int.zero_mul, cr_zero, Int.sub_zero, cr_full h (q := 2 ^ e) (Int.mul_pos (by omega) hp) rfl]
  · by_cases xm : x = mw w
    · subst xm
      rw [Int.sub_self, Int.zero_mul, cr_zero, cr_full h (q := 2 ^ e) (Int.mul_pos (by omega) hp) rfl, Int.sub_self]
    · have xp : 0 < x * 2 ^ e := Int.mul_pos (by omega) hp
      have yp : 0 < (mw w - x) * 2 ^ e := Int.mul_pos (by omega) hp
      obtain ⟨q, hq⟩ := cr_ex (w := w) _ xp
      have b := cr_bd h (x * 2 ^ e)
      have b1 := cr_pos h xp
      have ne : cr w (x * 2 ^ e) ≠ mw w := fun c => by
        have z : x * 2 ^ e % mw w = 0 := by
          rw [hq, c]
          have : mw w + mw w * q = mw w * (1 + q) := by rw [Int.mul_add, Int.mul_one]
          rw [this]
          exact Int.mul_emod_right _ _
        have z2 := odd_part (mw_odd h) e x z
        rw [Int.emod_eq_of_lt h0 (by omega)] at z2
        exact x0 z2
      refine (cr_eq (q := 2 ^ e - 1 - q) yp (by omega) (by omega) ?_).symm
      rw [Int.sub_mul, Int.mul_sub, Int.mul_sub, Int.mul_one]
      omega
theorem cr_mod {w : Nat} (_ : 1 ≤ w) {n : Int} (hn : 0 ≤ n) : cr w n % mw w = n % mw w := by
  by_cases h0 : 0 < n
  · obtain ⟨q, e⟩ := cr_ex (w := w) n h0
    conv => rhs; rw [e]
    rw [Int.add_mul_emod_self_left]
  · rw [show n = 0 by omega, cr_zero]
/-- the complement of a sum has the rest of the sum of complements -/
theorem inv_like {w : Nat} (h : 1 ≤ w) {x y : Int} (hx : 0 ≤ x) (hx1 : x ≤ mw w) (hy : 0 ≤ y) (hy1 : y ≤ mw w) : (mw w - cr w (x + y)) % mw w = cr w ((mw w - x) + (mw w - y)) % mw w := by
  rw [cr_mod h (n := (mw w - x) + (mw w - y)) (by omega)]
  by_cases h0 : 0 < x + y
  · obtain ⟨q, e⟩ := cr_ex (w := w) (x + y) h0
    have e2 : mw w - cr w (x + y) = (mw w - x + (mw w - y)) + mw w * (q - 1) := by
      rw [Int.mul_sub, Int.mul_one]
      omega
    rw [e2, Int.add_mul_emod_self_left]
  · have e2 : mw w - x + (mw w - y) = mw w + mw w * 1 := by
      rw [Int.mul_one]
      omega
    rw [e2, Int.add_mul_emod_self_left, cr_non h0, Int.sub_zero]
end Tz
namespace Tz
open PySem L2
def top (i : Nat) : Stmt := PySem.Challenge.pw_twozeros_k07_whole_sums_in_any_order.main.body.getD i (.Pass ⟨0, 0, 0, 0⟩)
abbrev s_is_whole : Stmt := top 7
abbrev s_is_from : Stmt := top 8
abbrev s_most_value : Stmt := top 12
abbrev s_checked_width : Stmt := top 11
abbrev s_Word_init_ : Stmt := inClass (top 10) 1
abbrev s_carried_round : Stmt := top 13
abbrev s_sum_word : Stmt := top 14
abbrev s_difference_word : Stmt := top 15
abbrev s_checked_times : Stmt := top 18
abbrev s_turned : Stmt := top 16
abbrev s_operand_value : Stmt := top 19
abbrev s_Word_add_ : Stmt := inClass (top 10) 11
abbrev s_Word_sub_ : Stmt := inClass (top 10) 13
abbrev s_Word_rmul_ : Stmt := inClass (top 10) 18
abbrev s_Word_mul_ : Stmt := inClass (top 10) 17
abbrev s_Word_lshift_ : Stmt := inClass (top 10) 19
abbrev s_Word_invert_ : Stmt := inClass (top 10) 10
abbrev s_Word_eq_ : Stmt := inClass (top 10) 21
abbrev s_Word_like : Stmt := inClass (top 10) 5
abbrev s_Word_full : Stmt := inClass (top 10) 3
abbrev s_Word_empty : Stmt := inClass (top 10) 2
abbrev s_law_pen : Stmt := top 24
abbrev s_law_draw : Stmt := top 25
abbrev s_law_width : Stmt := top 26
abbrev s_law_value : Stmt := top 27
abbrev s_law_grouped : Stmt := top 28
abbrev s_law_mixed : Stmt := top 29
abbrev s_law_pair_right : Stmt := top 30
abbrev s_law : Stmt := top 31
structure FnG (K : PySem.W.Frag) (mg : Str → Option Value) (x : Str) (st : Stmt) where
  a : Addr
  fd : FuncData
  F : Fun K x x st a fd
  m : mg x = some (.ref a)
structure FnM (K : PySem.W.Frag) (C : Addr) (x q : Str) (st : Stmt) where
  a : Addr
  fd : FuncData
  F : Fun K x q st a fd
  M : Meth K C x a
structure Kl (K : PySem.W.Frag) (mg : Str → Option Value) (x : Str) where
  C : Addr
  cl : Cls K C
  m : mg x = some (.ref C)
  mks : PySem.W.makesIn K C = true
  kp : PySem.W.keepIn K (.ref C) = true
structure CoI (mg : Str → Option Value) (x : Str) (n : Int) where
  t : Tok
  m : mg x = some (.int n t)
structure FnS (K : PySem.W.Frag) (C : Addr) (x q : Str) (st : Stmt) where
  a : Addr
  fd : FuncData
  F : Fun K x q st a fd
  p : Addr
  S : TzOwn.SMet K C (.type "type") x p a
structure KlX (K : PySem.W.Frag) (C : Addr) where
  rd : ClX.CRead K C (.type "type")
  sf : PySem.W.selfFirst K C = true
  ha : PySem.W.findIn K (.ref C) "__class__" = some (some (.builtin "object.__class__"))
  hn : PySem.W.specialIn K (.builtin "object.__class__") "__get__" = some (some (.builtin "getset_descriptor.__get__"))
  ht : PySem.W.takesIn K (.builtin "object.__class__") = some true
  hm : PySem.W.mroIn K C (.type "object") = some true
  si : PySem.W.subIn K (.type "int") (.ref C) = some false
  sw : PySem.W.subIn K (.ref C) (.type "int") = some false
  ic : PySem.W.isClsIn K C = true
  ty : PySem.W.typeIn K (.ref C) = some (.type "type")
structure CoC (K : PySem.W.Frag) (C : Addr) (x : Str) (n : Int) where
  t : Tok
  c : ClX.CVal K C (.type "type") x (.int n) (.int n t)
structure IntM (K : PySem.W.Frag) (nm nr : Str) where
  fo : Option Value
  ro : Option Value
  h1 : PySem.W.findIn K (.type "int") nm = some fo
  h2 : PySem.W.findIn K (.type "int") nr = some ro
structure Tx (K : PySem.W.Frag) (mg : Str → Option Value) where
  b_int : mg "int" = none
  b_len : mg "len" = none
  b_abs : mg "abs" = none
  b_list : mg "list" = none
  b_isinstance : mg "isinstance" = none
  b_bool : mg "bool" = none
  b_range : mg "range" = none
  b_sum : mg "sum" = none
  c_MOST_TIMES : CoI mg "MOST_TIMES" 1000000000000000000000000000000
  k_Word : Kl K mg "Word"
  n_Word_width : NoAttr K k_Word.C "width"
  n_Word_value : NoAttr K k_Word.C "value"
  n_Word_rest : NoAttr K k_Word.C "rest"
  n_Word_is_empty : NoAttr K k_Word.C "is_empty"
  n_Word_is_full : NoAttr K k_Word.C "is_full"
  n_Word___rlshift__ : NoAttr K k_Word.C "__rlshift__"
  x_Word : KlX K k_Word.C
  cc_Word_MOST_WIDTH : CoC K k_Word.C "MOST_WIDTH" 64
  i_int_lshift : IntM K "__lshift__" "__rlshift__"
  f_is_whole : FnG K mg "is_whole" s_is_whole
  f_is_from : FnG K mg "is_from" s_is_from
  f_most_value : FnG K mg "most_value" s_most_value
  f_checked_width : FnG K mg "checked_width" s_checked_width
  f_Word_init_ : FnM K k_Word.C "__init__" "Word.__init__" s_Word_init_
  f_carried_round : FnG K mg "carried_round" s_carried_round
  f_sum_word : FnG K mg "sum_word" s_sum_word
  f_difference_word : FnG K mg "difference_word" s_difference_word
  f_checked_times : FnG K mg "checked_times" s_checked_times
  f_turned : FnG K mg "turned" s_turned
  f_operand_value : FnG K mg "operand_value" s_operand_value
  f_Word_add_ : FnM K k_Word.C "__add__" "Word.__add__" s_Word_add_
  f_Word_sub_ : FnM K k_Word.C "__sub__" "Word.__sub__" s_Word_sub_
  f_Word_rmul_ : FnM K k_Word.C "__rmul__" "Word.__rmul__" s_Word_rmul_
  f_Word_mul_ : FnM K k_Word.C "__mul__" "Word.__mul__" s_Word_mul_
  f_Word_lshift_ : FnM K k_Word.C "__lshift__" "Word.__lshift__" s_Word_lshift_
  f_Word_invert_ : FnM K k_Word.C "__invert__" "Word.__invert__" s_Word_invert_
  f_Word_eq_ : FnM K k_Word.C "__eq__" "Word.__eq__" s_Word_eq_
  f_Word_like : FnM K k_Word.C "like" "Word.like" s_Word_like
  f_Word_full : FnS K k_Word.C "full" "Word.full" s_Word_full
  f_Word_empty : FnS K k_Word.C "empty" "Word.empty" s_Word_empty
  f_law_pen : FnG K mg "_law_pen" s_law_pen
  f_law_draw : FnG K mg "_law_draw" s_law_draw
  f_law_width : FnG K mg "_law_width" s_law_width
  f_law_value : FnG K mg "_law_value" s_law_value
  f_law_grouped : FnG K mg "_law_grouped" s_law_grouped
  f_law_mixed : FnG K mg "_law_mixed" s_law_mixed
  f_law_pair_right : FnG K mg "_law_pair_right" s_law_pair_right
  f_law : FnG K mg "law" s_law
section
variable {P : Program} {w : World} {K : PySem.W.Frag} {mg : Str → Option Value} {base : Heap}
theorem mk_Word (T : Tx K mg) : Mk K T.k_Word.C T.f_Word_init_.a := ⟨T.k_Word.mks, T.f_Word_init_.M.at_, T.f_Word_init_.M.fn, T.k_Word.kp⟩
theorem sc_is_whole : FnScope ["value"] ["value"] (defScope s_is_whole) := ⟨rfl, rfl, rfl, by decide +kernel, rfl, by decide +kernel, by decide +kernel⟩
theorem bd_is_whole (T : Tx K mg) : Binds K T.f_is_whole.fd ["value"] [] := T.f_is_whole.F.binds (ps := ["value"]) fun _ _ _ _ _ _ us hl => match us, hl with | [_], _ => rfl
theorem sc_is_from : FnScope ["value", "least", "most"] ["value", "least", "most"] (defScope s_is_from) := ⟨rfl, rfl, rfl, by decide +kernel, rfl, by decide +kernel, by decide +kernel⟩
theorem bd_is_from (T : Tx K mg) : Binds K T.f_is_from.fd ["value", "least", "most"] [] := T.f_is_from.F.binds (ps := ["value", "least", "most"]) fun _ _ _ _ _ _ us hl => match us, hl with | [_, _, _], _ => rfl
theorem sc_most_value : FnScope ["width"] ["width"] (defScope s_most_value) := ⟨rfl, rfl, rfl, by decide +kernel, rfl, by decide +kernel, by decide +kernel⟩
theorem bd_most_value (T : Tx K mg) : Binds K T.f_most_value.fd ["width"] [] := T.f_most_value.F.binds (ps := ["width"]) fun _ _ _ _ _ _ us hl => match us, hl with | [_], _ => rfl
theorem sc_checked_width : FnScope ["width"] ["width"] (defScope s_checked_width) := ⟨rfl, rfl, rfl, by decide +kernel, rfl, by decide +kernel, by decide +kernel⟩
theorem bd_checked_width (T : Tx K mg) : Binds K T.f_checked_width.fd ["width"] [] := T.f_checked_width.F.binds (ps := ["width"]) fun _ _ _ _ _ _ us hl => match us, hl with | [_], _ => rfl
theorem sc_Word_init_ : FnScope ["self", "width", "value", "most"] ["self", "width", "value"] (defScope s_Word_init_) := ⟨rfl, rfl, rfl, by decide +kernel, rfl, by decide +kernel, by decide +kernel⟩
theorem bd_Word_init_ (T : Tx K mg) : Binds K T.f_Word_init_.fd ["self", "width", "value"] [] := T.f_Word_init_.F.binds (ps := ["self", "width", "value"]) fun _ _ _ _ _ _ us hl => match us, hl with | [_, _, _], _ => rfl
theorem sc_carried_round : FnScope ["width", "number"] ["width", "number"] (defScope s_carried_round) := ⟨rfl, rfl, rfl, by decide +kernel, rfl, by decide +kernel, by decide +kernel⟩
theorem bd_carried_round (T : Tx K mg) : Binds K T.f_carried_round.fd ["width", "number"] [] := T.f_carried_round.F.binds (ps := ["width", "number"]) fun _ _ _ _ _ _ us hl => match us, hl with | [_, _], _ => rfl
theorem sc_sum_word : FnScope ["width", "one", "other"] ["width", "one", "other"] (defScope s_sum_word) := ⟨rfl, rfl, rfl, by decide +kernel, rfl, by decide +kernel, by decide +kernel⟩
theorem bd_sum_word (T : Tx K mg) : Binds K T.f_sum_word.fd ["width", "one", "other"] [] := T.f_sum_word.F.binds (ps := ["width", "one", "other"]) fun _ _ _ _ _ _ us hl => match us, hl with | [_, _, _], _ => rfl
theorem sc_difference_word : FnScope ["width", "one", "other"] ["width", "one", "other"] (defScope s_difference_word) := ⟨rfl, rfl, rfl, by decide +kernel, rfl, by decide +kernel, by decide +kernel⟩
theorem bd_difference_word (T : Tx K mg) : Binds K T.f_difference_word.fd ["width", "one", "other"] [] := T.f_difference_word.F.binds (ps := ["width", "one", "other"]) fun _ _ _ _ _ _ us hl => match us, hl with | [_, _, _], _ => rfl
theorem sc_checked_times : FnScope ["times"] ["times"] (defScope s_checked_times) := ⟨rfl, rfl, rfl, by decide +kernel, rfl, by decide +kernel, by decide +kernel⟩
theorem bd_checked_times (T : Tx K mg) : Binds K T.f_checked_times.fd ["times"] [] := T.f_checked_times.F.binds (ps := ["times"]) fun _ _ _ _ _ _ us hl => match us, hl with | [_], _ => rfl
theorem sc_turned : FnScope ["word", "places"] ["word", "places"] (defScope s_turned) := ⟨rfl, rfl, rfl, by decide +kernel, rfl, by decide +kernel, by decide +kernel⟩
theorem bd_turned (T : Tx K mg) : Binds K T.f_turned.fd ["word", "places"] [] := T.f_turned.F.binds (ps := ["word", "places"]) fun _ _ _ _ _ _ us hl => match us, hl with | [_, _], _ => rfl
theorem sc_operand_value : FnScope ["word", "other"] ["word", "other"] (defScope s_operand_value) := ⟨rfl, rfl, rfl, by decide +kernel, rfl, by decide +kernel, by decide +kernel⟩
theorem bd_operand_value (T : Tx K mg) : Binds K T.f_operand_value.fd ["word", "other"] [] := T.f_operand_value.F.binds (ps := ["word", "other"]) fun _ _ _ _ _ _ us hl => match us, hl with | [_, _], _ => rfl
theorem sc_Word_add_ : FnScope ["self", "other"] ["self", "other"] (defScope s_Word_add_) := ⟨rfl, rfl, rfl, by decide +kernel, rfl, by decide +kernel, by decide +kernel⟩
theorem bd_Word_add_ (T : Tx K mg) : Binds K T.f_Word_add_.fd ["self", "other"] [] := T.f_Word_add_.F.binds (ps := ["self", "other"]) fun _ _ _ _ _ _ us hl => match us, hl with | [_, _], _ => rfl
theorem sc_Word_sub_ : FnScope ["self", "other"] ["self", "other"] (defScope s_Word_sub_) := ⟨rfl, rfl, rfl, by decide +kernel, rfl, by decide +kernel, by decide +kernel⟩
theorem bd_Word_sub_ (T : Tx K mg) : Binds K T.f_Word_sub_.fd ["self", "other"] [] := T.f_Word_sub_.F.binds (ps := ["self", "other"]) fun _ _ _ _ _ _ us hl => match us, hl with | [_, _], _ => rfl
theorem sc_Word_rmul_ : FnScope ["self", "other"] ["self", "other"] (defScope s_Word_rmul_) := ⟨rfl, rfl, rfl, by decide +kernel, rfl, by decide +kernel, by decide +kernel⟩
theorem bd_Word_rmul_ (T : Tx K mg) : Binds K T.f_Word_rmul_.fd ["self", "other"] [] := T.f_Word_rmul_.F.binds (ps := ["self", "other"]) fun _ _ _ _ _ _ us hl => match us, hl with | [_, _], _ => rfl
theorem sc_Word_mul_ : FnScope ["self", "other"] ["self", "other"] (defScope s_Word_mul_) := ⟨rfl, rfl, rfl, by decide +kernel, rfl, by decide +kernel, by decide +kernel⟩
theorem bd_Word_mul_ (T : Tx K mg) : Binds K T.f_Word_mul_.fd ["self", "other"] [] := T.f_Word_mul_.F.binds (ps := ["self", "other"]) fun _ _ _ _ _ _ us hl => match us, hl with | [_, _], _ => rfl
theorem sc_Word_lshift_ : FnScope ["self", "other"] ["self", "other"] (defScope s_Word_lshift_) := ⟨rfl, rfl, rfl, by decide +kernel, rfl, by decide +kernel, by decide +kernel⟩
theorem bd_Word_lshift_ (T : Tx K mg) : Binds K T.f_Word_lshift_.fd ["self", "other"] [] := T.f_Word_lshift_.F.binds (ps := ["self", "other"]) fun _ _ _ _ _ _ us hl => match us, hl with | [_, _], _ => rfl
theorem sc_Word_invert_ : FnScope ["self"] ["self"] (defScope s_Word_invert_) := ⟨rfl, rfl, rfl, by decide +kernel, rfl, by decide +kernel, by decide +kernel⟩
theorem bd_Word_invert_ (T : Tx K mg) : Binds K T.f_Word_invert_.fd ["self"] [] := T.f_Word_invert_.F.binds (ps := ["self"]) fun _ _ _ _ _ _ us hl => match us, hl with | [_], _ => rfl
theorem sc_Word_eq_ : FnScope ["self", "other"] ["self", "other"] (defScope s_Word_eq_) := ⟨rfl, rfl, rfl, by decide +kernel, rfl, by decide +kernel, by decide +kernel⟩
theorem bd_Word_eq_ (T : Tx K mg) : Binds K T.f_Word_eq_.fd ["self", "other"] [] := T.f_Word_eq_.F.binds (ps := ["self", "other"]) fun _ _ _ _ _ _ us hl => match us, hl with | [_, _], _ => rfl
theorem sc_Word_like : FnScope ["self", "other"] ["self", "other"] (defScope s_Word_like) := ⟨rfl, rfl, rfl, by decide +kernel, rfl, by decide +kernel, by decide +kernel⟩
theorem bd_Word_like (T : Tx K mg) : Binds K T.f_Word_like.fd ["self", "other"] [] := T.f_Word_like.F.binds (ps := ["self", "other"]) fun _ _ _ _ _ _ us hl => match us, hl with | [_, _], _ => rfl
theorem sc_Word_full : FnScope ["width"] ["width"] (defScope s_Word_full) := ⟨rfl, rfl, rfl, by decide +kernel, rfl, by decide +kernel, by decide +kernel⟩
theorem bd_Word_full (T : Tx K mg) : Binds K T.f_Word_full.fd ["width"] [] := T.f_Word_full.F.binds (ps := ["width"]) fun _ _ _ _ _ _ us hl => match us, hl with | [_], _ => rfl
theorem sc_Word_empty : FnScope ["width"] ["width"] (defScope s_Word_empty) := ⟨rfl, rfl, rfl, by decide +kernel, rfl, by decide +kernel, by decide +kernel⟩
theorem bd_Word_empty (T : Tx K mg) : Binds K T.f_Word_empty.fd ["width"] [] := T.f_Word_empty.F.binds (ps := ["width"]) fun _ _ _ _ _ _ us hl => match us, hl with | [_], _ => rfl
theorem sc_law_pen : FnScope ["_law_script"] ["_law_script"] (defScope s_law_pen) := ⟨rfl, rfl, rfl, by decide +kernel, rfl, by decide +kernel, by decide +kernel⟩
theorem bd_law_pen (T : Tx K mg) : Binds K T.f_law_pen.fd ["_law_script"] [] := T.f_law_pen.F.binds (ps := ["_law_script"]) fun _ _ _ _ _ _ us hl => match us, hl with | [_], _ => rfl
theorem sc_law_draw : FnScope ["_law_pen_here", "_law_many", "_law_digit", "_law_at", "_law_cell", "_law_great", "_law_mixed_here"] ["_law_pen_here", "_law_many"] (defScope s_law_draw) := ⟨rfl, rfl, rfl, by decide +kernel, rfl, by decide +kernel, by decide +kernel⟩
theorem bd_law_draw (T : Tx K mg) : Binds K T.f_law_draw.fd ["_law_pen_here", "_law_many"] [] := T.f_law_draw.F.binds (ps := ["_law_pen_here", "_law_many"]) fun _ _ _ _ _ _ us hl => match us, hl with | [_, _], _ => rfl
theorem sc_law_width : FnScope ["_law_pen_here"] ["_law_pen_here"] (defScope s_law_width) := ⟨rfl, rfl, rfl, by decide +kernel, rfl, by decide +kernel, by decide +kernel⟩
theorem bd_law_width (T : Tx K mg) : Binds K T.f_law_width.fd ["_law_pen_here"] [] := T.f_law_width.F.binds (ps := ["_law_pen_here"]) fun _ _ _ _ _ _ us hl => match us, hl with | [_], _ => rfl
theorem sc_law_value : FnScope ["_law_pen_here", "_law_width_here", "_law_top", "_law_low", "_law_high", "_law_some"] ["_law_pen_here", "_law_width_here"] (defScope s_law_value) := ⟨rfl, rfl, rfl, by decide +kernel, rfl, by decide +kernel, by decide +kernel⟩
theorem bd_law_value (T : Tx K mg) : Binds K T.f_law_value.fd ["_law_pen_here", "_law_width_here"] [] := T.f_law_value.F.binds (ps := ["_law_pen_here", "_law_width_here"]) fun _ _ _ _ _ _ us hl => match us, hl with | [_, _], _ => rfl
theorem sc_law_grouped : FnScope ["_law_pen_here", "_law_words", "_law_left", "_law_at"] ["_law_pen_here", "_law_words"] (defScope s_law_grouped) := ⟨rfl, rfl, rfl, by decide +kernel, rfl, by decide +kernel, by decide +kernel⟩
theorem bd_law_grouped (T : Tx K mg) : Binds K T.f_law_grouped.fd ["_law_pen_here", "_law_words"] [] := T.f_law_grouped.F.binds (ps := ["_law_pen_here", "_law_words"]) fun _ _ _ _ _ _ us hl => match us, hl with | [_, _], _ => rfl
theorem sc_law_mixed : FnScope ["_law_pen_here", "_law_words", "_law_left", "_law_found"] ["_law_pen_here", "_law_words"] (defScope s_law_mixed) := ⟨rfl, rfl, rfl, by decide +kernel, rfl, by decide +kernel, by decide +kernel⟩
theorem bd_law_mixed (T : Tx K mg) : Binds K T.f_law_mixed.fd ["_law_pen_here", "_law_words"] [] := T.f_law_mixed.F.binds (ps := ["_law_pen_here", "_law_words"]) fun _ _ _ _ _ _ us hl => match us, hl with | [_, _], _ => rfl
theorem sc_law_pair_right : FnScope ["_law_width_here", "_law_one", "_law_other", "_law_times", "_law_both", "_law_brim"] ["_law_width_here", "_law_one", "_law_other", "_law_times"] (defScope s_law_pair_right) := ⟨rfl, rfl, rfl, by decide +kernel, rfl, by decide +kernel, by decide +kernel⟩
theorem bd_law_pair_right (T : Tx K mg) : Binds K T.f_law_pair_right.fd ["_law_width_here", "_law_one", "_law_other", "_law_times"] [] := T.f_law_pair_right.F.binds (ps := ["_law_width_here", "_law_one", "_law_other", "_law_times"]) fun _ _ _ _ _ _ us hl => match us, hl with | [_, _, _, _], _ => rfl
theorem sc_law : FnScope ["_law_script", "_law_pen_here", "_law_turn", "_law_width_here", "_law_top", "_law_many", "_law_values", "_law_words", "_law_due", "_law_again", "_law_found", "_law_k", "_law_value_here"] ["_law_script"] (defScope s_law) := ⟨rfl, rfl, rfl, by decide +kernel, rfl, by decide +kernel, by decide +kernel⟩
theorem bd_law (T : Tx K mg) : Binds K T.f_law.fd ["_law_script"] [] := T.f_law.F.binds (ps := ["_law_script"]) fun _ _ _ _ _ _ us hl => match us, hl with | [_], _ => rfl
end
section
variable {P : Program} {w : World} {K : PySem.W.Frag} {mg : Str → Option Value} {base : Heap}
def spWholeI : Sp := fun vs H Q _ => ∃ v : Int, vs = [.int v] ∧ Q (.bl true) H

theorem ok_is_whole (T : Tx K mg) : FnOk P w K mg base CX0 1 T.f_is_whole.a T.f_is_whole.fd ["value"] spWholeI := by
  refine T.f_is_whole.F.ok sc_is_whole (fun vs H Q E h => ?_) (fun cdv A outer s H vs Q E hr h => ?_)
  · obtain ⟨v, rfl, _⟩ := h
    rfl
  · obtain ⟨v, rfl, k⟩ := h
    refine ⟨_, (pss_one (ps_ret (pe_and (pe_callB call_isi (by rfl) T.b_isinstance (by decide +kernel) (pa_cons (pv 0) (pa_cons (pe_bltn (v := .ty "int") (by rfl) T.b_int (by decide +kernel) rfl) pa_nil))) (pe_one (pe_not (pe_callB call_isi (by rfl) T.b_isinstance (by decide +kernel) (pa_cons (pv 0) (pa_cons (pe_bltn (v := .ty "bool") (by rfl) T.b_bool (by decide +kernel) rfl) pa_nil)))))))), ?_⟩

    refine ⟨_, rfl, _, _, _, _, true, rfl, .ty "int", .base (.int _), kit_ty (by decide +kernel), true, rfl, iteT ?_⟩
    refine ⟨_, rfl, _, _, _, _, false, rfl, .ty "bool", .base (.int _), kit_ty (by decide +kernel), false, rfl, k⟩
theorem ok_is_from (T : Tx K mg) : FnOk P w K mg base CX0 2 T.f_is_from.a T.f_is_from.fd ["value", "least", "most"] spIsFromI := by
  refine T.f_is_from.F.ok sc_is_from (fun vs H Q E h => ?_) (fun cdv A outer s H vs Q E hr h => ?_)
  · obtain ⟨v, lo, hi, rfl, _⟩ := h
    rfl
  · obtain ⟨v, lo, hi, rfl, k⟩ := h
    refine ⟨_, (pss_one (ps_ret (pe_and (pe_call (ok_is_whole T) (hr.mono (by decide)) (by rfl) T.f_is_whole.m T.f_is_whole.F.kp (bd_is_whole T) .nil pass0 (pa_cons (pv 0) pa_nil)) (pe_one (pe_chain op_le op_le (pv 1) (pv 0) (pv 2)))))), ?_⟩

    refine ⟨_, rfl, v, rfl, _, rfl, iteT ?_⟩
    refine ⟨_, rfl, _, rfl, _, _, rfl, rfl, _, rfl, ?_⟩
    refine ite2 (fun h1 => ?_) (fun h1 => ?_)
    · refine ⟨_, rfl, _, _, rfl, rfl, ?_⟩
      exact k _ ⟨fun h2 => ⟨of_decide_eq_true h1, of_decide_eq_true h2⟩, fun h2 => decide_eq_true h2.2⟩
    · exact k _ ⟨fun h2 => absurd h2 Bool.false_ne_true, fun h2 => absurd (decide_eq_true h2.1) h1⟩
theorem ok_most_value (T : Tx K mg) : FnOk P w K mg base CX0 2 T.f_most_value.a T.f_most_value.fd ["width"] spMost := by
  refine T.f_most_value.F.ok sc_most_value (fun vs H Q E h => ?_) (fun cdv A outer s H vs Q E hr h => ?_)
  · obtain ⟨wd, rfl, _⟩ := h
    rfl
  · obtain ⟨wd, rfl, w1, w64, k⟩ := h
    refine ⟨_, (pss_one (ps_ret (pe_op op_sub (pe_op op_shl pe_int (pv 0)) pe_int))), ?_⟩

    refine ⟨_, rfl, _, _, rfl, rfl, ⟨by omega, by omega, by decide⟩, _, _, rfl, rfl, ?_⟩
    have et : (1 : Int) * 2 ^ (wd : Int).toNat - 1 = mw wd := by
      rw [Int.one_mul, Int.toNat_natCast]
      all_goals rfl
    dsimp only
    rw [et]
    exact k
theorem ok_checked_width (T : Tx K mg) : FnOk P w K mg base CX0 3 T.f_checked_width.a T.f_checked_width.fd ["width"] spCheckedWidth := by
  refine T.f_checked_width.F.ok sc_checked_width (fun vs H Q E h => ?_) (fun cdv A outer s H vs Q E hr h => ?_)
  · obtain ⟨wd, rfl, _⟩ := h
    rfl
  · obtain ⟨wd, rfl, w1, w64, k⟩ := h
    refine ⟨_, (pss_cons (ps_if (pt_not (pt_val (pe_call (ok_is_from T) (hr.mono (by decide)) (by rfl) T.f_is_from.m T.f_is_from.F.kp (bd_is_from T) .nil pass0 (pa_cons (pv 0) (pa_cons pe_int (pa_cons (ClX.pe_cval (pe_glob (v := .ref T.k_Word.C) (by rfl) T.k_Word.m rfl)) pa_nil)))))) (pss_one ps_never) pss_nil)
      (pss_one (ps_ret (pv 0)))), ?_⟩

    refine ⟨_, rfl, T.k_Word.C, _, .int 64, _, rfl, T.x_Word.rd, T.cc_Word_MOST_WIDTH.c, _, _, _, rfl, fun b hb => ?_⟩
    have e : b = true := hb.mpr ⟨by omega, by omega⟩
    subst e
    refine ⟨_, rfl, iteF ?_⟩
    exact ⟨_, rfl, k⟩
theorem ok_Word_init_ (T : Tx K mg) : FnOk P w K mg base CX0 4 T.f_Word_init_.a T.f_Word_init_.fd ["self", "width", "value"] (spWordInit T.k_Word.C) := by
  refine T.f_Word_init_.F.ok sc_Word_init_ (fun vs H Q E h => ?_) (fun cdv A outer s H vs Q E hr h => ?_)
  · obtain ⟨p, dx, wd, v, rfl, _⟩ := h
    rfl
  · obtain ⟨p, dx, wd, v, rfl, hp, w1, w64, v0, vm, k⟩ := h
    refine ⟨_, (pss_cons (ps_set (i := 3) sc_Word_init_.nd rfl (Or.inl rfl) (pe_call (ok_most_value T) (hr.mono (by decide)) (by rfl) T.f_most_value.m T.f_most_value.F.kp (bd_most_value T) .nil pass0 (pa_cons (pe_call (ok_checked_width T) (hr.mono (by decide)) (by rfl) T.f_checked_width.m T.f_checked_width.F.kp (bd_checked_width T) .nil pass0 (pa_cons (pv 1) pa_nil)) pa_nil)))
      (pss_cons (ps_if (pt_not (pt_val (pe_call (ok_is_from T) (hr.mono (by decide)) (by rfl) T.f_is_from.m T.f_is_from.F.kp (bd_is_from T) .nil pass0 (pa_cons (pv 2) (pa_cons pe_int (pa_cons (pv 3) pa_nil)))))) (pss_one ps_never) pss_nil)
      (pss_cons (ps_fld (pv 0) (pv 1) rfl)
      (pss_cons (ps_fld (pv 0) (pv 2) rfl)
      (pss_cons (ps_fld (pv 0) (pe_op op_mod (pv 2) (pv 3)) rfl)
      (pss_cons (ps_fld (pv 0) (pe_cmpR op_eq (pv 2) pe_int (nomark _)) rfl)
      (pss_one (ps_fld (pv 0) (pe_cmpR op_eq (pv 2) (pv 3) (nomark _)) rfl)))))))), ?_⟩

    have hM := mw_pos w1
    refine ⟨_, rfl, wd, rfl, w1, w64, wd, rfl, w1, w64, ?_⟩
    refine ⟨_, rfl, _, rfl, _, _, _, rfl, fun b hb => ?_⟩
    have e : b = true := hb.mpr ⟨v0, vm⟩
    subst e
    refine ⟨_, rfl, iteF ?_⟩
    refine ⟨_, rfl, _, rfl, p, _, dx, _, rfl, hp, T.k_Word.cl, T.n_Word_width, by show 0 < 1000; decide, ?_⟩
    refine ⟨_, rfl, _, rfl, p, _, dx, _, rfl, upd_same, T.k_Word.cl, T.n_Word_value, by show 1 < 1000; decide, ?_⟩
    refine ⟨_, rfl, _, rfl, _, _, rfl, rfl, by omega, _, rfl, p, _, dx, _, rfl, upd_same, T.k_Word.cl, T.n_Word_rest, by show 2 < 1000; decide, ?_⟩
    refine ⟨_, rfl, rfl, _, rfl, p, _, dx, _, rfl, upd_same, T.k_Word.cl, T.n_Word_is_empty, by show 3 < 1000; decide, ?_⟩
    refine ⟨_, rfl, _, rfl, rfl, _, rfl, p, _, dx, _, rfl, upd_same, T.k_Word.cl, T.n_Word_is_full, by show 4 < 1000; decide, ?_⟩
    refine k _ ?_ fun b o e hb => ?_
    · rw [upd_same]
      unfold wf
      rw [dec_int, dec_int]
    · rw [upd_ne hb, upd_ne hb, upd_ne hb, upd_ne hb, upd_ne hb]
      exact e
theorem ok_carried_round (T : Tx K mg) : FnOk P w K mg base CX0 3 T.f_carried_round.a T.f_carried_round.fd ["width", "number"] spCarried := by
  refine T.f_carried_round.F.ok sc_carried_round (fun vs H Q E h => ?_) (fun cdv A outer s H vs Q E hr h => ?_)
  · obtain ⟨wd, n, rfl, _⟩ := h
    rfl
  · obtain ⟨wd, n, rfl, w1, w64, k⟩ := h
    refine ⟨_, (pss_one (ps_ret (pe_ifExp (pt_cmpR op_gt (pv 1) pe_int (nomark _)) (pe_op op_add (pe_op op_mod (pe_op op_sub (pv 1) pe_int) (pe_call (ok_most_value T) (hr.mono (by decide)) (by rfl) T.f_most_value.m T.f_most_value.F.kp (bd_most_value T) .nil pass0 (pa_cons (pv 0) pa_nil))) pe_int) pe_int))), ?_⟩

    have hM := mw_pos w1
    refine ⟨_, rfl, _, _, rfl, rfl, _, rfl, ?_⟩
    refine ite2 (fun h1 => ?_) (fun h1 => ?_)
    · have h1 := of_decide_eq_true h1
      refine ⟨_, rfl, _, _, rfl, rfl, _, rfl, wd, rfl, w1, w64, _, _, rfl, rfl, by omega, _, _, rfl, rfl, ?_⟩
      have e : (n - 1) % mw wd + 1 = cr wd n := by
        unfold cr
        rw [if_pos h1]
      dsimp only
      rw [e]
      exact k
    · have e : cr wd n = 0 := cr_non fun h => h1 (decide_eq_true h)
      rw [e] at k
      exact k
theorem ok_sum_word (T : Tx K mg) : FnOk P w K mg base CX0 6 T.f_sum_word.a T.f_sum_word.fd ["width", "one", "other"] (spSumWord T.k_Word.C) := by
  refine T.f_sum_word.F.ok sc_sum_word (fun vs H Q E h => ?_) (fun cdv A outer s H vs Q E hr h => ?_)
  · obtain ⟨wd, a, b, rfl, _⟩ := h
    rfl
  · obtain ⟨wd, a, b, rfl, w1, w64, k⟩ := h
    refine ⟨_, (pss_one (ps_ret (pe_make (mk_Word T) (ok_Word_init_ T) (hr.mono (by decide)) (by rfl) T.k_Word.m (bd_Word_init_ T) .nil pass0 (pa_cons (pv 0) (pa_cons (pe_call (ok_carried_round T) (hr.mono (by decide)) (by rfl) T.f_carried_round.m T.f_carried_round.F.kp (bd_carried_round T) .nil pass0 (pa_cons (pv 0) (pa_cons (pe_op op_add (pv 1) (pv 2)) pa_nil))) pa_nil))))), ?_⟩

    have cb := cr_bd w1 (a + b)
    refine ⟨_, rfl, _, rfl, _, rfl, _, rfl, _, _, rfl, rfl, wd, _, rfl, w1, w64, ?_⟩
    exact mk_word w1 w64 cb.1 cb.2 k
theorem ok_difference_word (T : Tx K mg) : FnOk P w K mg base CX0 7 T.f_difference_word.a T.f_difference_word.fd ["width", "one", "other"] (spDiffWord T.k_Word.C) := by
  refine T.f_difference_word.F.ok sc_difference_word (fun vs H Q E h => ?_) (fun cdv A outer s H vs Q E hr h => ?_)
  · obtain ⟨wd, a, b, rfl, _⟩ := h
    rfl
  · obtain ⟨wd, a, b, rfl, w1, w64, k⟩ := h
    refine ⟨_, (pss_one (ps_ret (pe_call (ok_sum_word T) (hr.mono (by decide)) (by rfl) T.f_sum_word.m T.f_sum_word.F.kp (bd_sum_word T) .nil pass0 (pa_cons (pv 0) (pa_cons (pv 1) (pa_cons (pe_op op_sub (pe_call (ok_most_value T) (hr.mono (by decide)) (by rfl) T.f_most_value.m T.f_most_value.F.kp (bd_most_value T) .nil pass0 (pa_cons (pv 0) pa_nil)) (pv 2)) pa_nil)))))), ?_⟩

    refine ⟨_, rfl, _, rfl, _, rfl, wd, rfl, w1, w64, _, rfl, _, _, rfl, rfl, wd, _, _, rfl, w1, w64, k⟩
theorem ok_checked_times (T : Tx K mg) : FnOk P w K mg base CX0 3 T.f_checked_times.a T.f_checked_times.fd ["times"] spTimes := by
  refine T.f_checked_times.F.ok sc_checked_times (fun vs H Q E h => ?_) (fun cdv A outer s H vs Q E hr h => ?_)
  · obtain ⟨n, rfl, _⟩ := h
    rfl
  · obtain ⟨n, rfl, n0, n1, k⟩ := h
    refine ⟨_, (pss_cons (ps_if (pt_not (pt_val (pe_call (ok_is_from T) (hr.mono (by decide)) (by rfl) T.f_is_from.m T.f_is_from.F.kp (bd_is_from T) .nil pass0 (pa_cons (pv 0) (pa_cons pe_int (pa_cons (pe_glob (v := .int 1000000000000000000000000000000) (by rfl) T.c_MOST_TIMES.m ⟨_, rfl⟩) pa_nil)))))) (pss_one ps_never) pss_nil)
      (pss_one (ps_ret (pv 0)))), ?_⟩

    refine ⟨_, rfl, _, _, _, rfl, fun b hb => ?_⟩
    have e : b = true := hb.mpr ⟨n0, n1⟩
    subst e
    refine ⟨_, rfl, iteF ?_⟩
    exact ⟨_, rfl, k⟩
theorem ok_turned (T : Tx K mg) : FnOk P w K mg base CX0 6 T.f_turned.a T.f_turned.fd ["word", "places"] (spTurned T.k_Word.C) := by
  refine T.f_turned.F.ok sc_turned (fun vs H Q E h => ?_) (fun cdv A outer s H vs Q E hr h => ?_)
  · obtain ⟨x, wd, v, n, rfl, _⟩ := h
    rfl
  · obtain ⟨x, wd, v, n, rfl, W, k⟩ := h
    refine ⟨_, (pss_one (ps_ret (pe_make (mk_Word T) (ok_Word_init_ T) (hr.mono (by decide)) (by rfl) T.k_Word.m (bd_Word_init_ T) .nil pass0 (pa_cons (pe_fld (pv 0) rfl) (pa_cons (pe_call (ok_carried_round T) (hr.mono (by decide)) (by rfl) T.f_carried_round.m T.f_carried_round.F.kp (bd_carried_round T) .nil pass0 (pa_cons (pe_fld (pv 0) rfl) (pa_cons (pe_op op_shl (pe_fld (pv 0) rfl) (pe_op op_mod (pv 1) (pe_fld (pv 0) rfl))) pa_nil))) pa_nil))))), ?_⟩

    obtain ⟨⟨dx, hx⟩, w1, w64, v0, vm⟩ := W
    have hb := emod_bd (a := n) (m := (wd : Int)) (by omega)
    have cb := cr_bd w1 (v * 2 ^ (n % wd).toNat)
    have m64 := mw_64 w64
    refine ⟨_, rfl, x, _, dx, _, _, rfl, hx, T.k_Word.cl, T.n_Word_width, wf_width _ _, ?_⟩
    refine ⟨_, rfl, x, _, dx, _, _, rfl, hx, T.k_Word.cl, T.n_Word_width, wf_width _ _, ?_⟩
    refine ⟨_, rfl, x, _, dx, _, _, rfl, hx, T.k_Word.cl, T.n_Word_value, wf_value _ _, ?_⟩
    refine ⟨_, rfl, _, rfl, x, _, dx, _, _, rfl, hx, T.k_Word.cl, T.n_Word_width, wf_width _ _, _, _, rfl, rfl, by omega, _, _, rfl, rfl, ⟨by omega, by omega, by omega⟩, ?_⟩
    refine ⟨wd, _, rfl, w1, w64, ?_⟩
    exact mk_word w1 w64 cb.1 cb.2 k
theorem ok_operand_value (T : Tx K mg) : FnOk P w K mg base CX0 2 T.f_operand_value.a T.f_operand_value.fd ["word", "other"] (spOperand T.k_Word.C) := by
  refine T.f_operand_value.F.ok sc_operand_value (fun vs H Q E h => ?_) (fun cdv A outer s H vs Q E hr h => ?_)
  · obtain ⟨x, y, wd, u, v, rfl, _⟩ := h
    rfl
  · obtain ⟨x, y, wd, u, v, rfl, W, W', k⟩ := h
    refine ⟨_, (pss_cons (ps_if (pt_not (pt_val (pe_callB call_isi (by rfl) T.b_isinstance (by decide +kernel) (pa_cons (pv 1) (pa_cons (pe_glob (v := .ref T.k_Word.C) (by rfl) T.k_Word.m rfl) pa_nil))))) (pss_one ps_never) pss_nil)
      (pss_cons (ps_if (pt_cmpR op_ne (pe_fld (pv 1) rfl) (pe_fld (pv 0) rfl) (nomark _)) (pss_one ps_never) pss_nil)
      (pss_one (ps_ret (pe_fld (pv 1) rfl))))), ?_⟩

    obtain ⟨⟨dx, hx⟩, w1, w64, _, _⟩ := W
    obtain ⟨⟨dy, hy⟩, _, _, v0, vm⟩ := W'
    refine ⟨_, rfl, _, _, _, _, true, rfl, .own _, .base (.ins hy T.k_Word.cl T.x_Word.ha T.x_Word.hn T.x_Word.ht T.x_Word.hm), kit_self, _, rfl, iteF ?_⟩
    refine ⟨_, rfl, y, _, dy, _, _, rfl, hy, T.k_Word.cl, T.n_Word_width, wf_width _ _, ?_⟩
    refine ⟨_, rfl, x, _, dx, _, _, rfl, hx, T.k_Word.cl, T.n_Word_width, wf_width _ _, rfl, _, rfl, iteNS rfl ?_⟩
    exact ⟨_, rfl, y, _, dy, _, _, rfl, hy, T.k_Word.cl, T.n_Word_value, wf_value _ _, k⟩
theorem ok_Word_add_ (T : Tx K mg) : FnOk P w K mg base CX0 7 T.f_Word_add_.a T.f_Word_add_.fd ["self", "other"] (spAdd T.k_Word.C) := by
  refine T.f_Word_add_.F.ok sc_Word_add_ (fun vs H Q E h => ?_) (fun cdv A outer s H vs Q E hr h => ?_)
  · obtain ⟨x, y, wd, u, v, rfl, _⟩ := h
    rfl
  · obtain ⟨x, y, wd, u, v, rfl, W, W', k⟩ := h
    refine ⟨_, (pss_one (ps_ret (pe_call (ok_sum_word T) (hr.mono (by decide)) (by rfl) T.f_sum_word.m T.f_sum_word.F.kp (bd_sum_word T) .nil pass0 (pa_cons (pe_fld (pv 0) rfl) (pa_cons (pe_fld (pv 0) rfl) (pa_cons (pe_call (ok_operand_value T) (hr.mono (by decide)) (by rfl) T.f_operand_value.m T.f_operand_value.F.kp (bd_operand_value T) .nil pass0 (pa_cons (pv 0) (pa_cons (pv 1) pa_nil))) pa_nil)))))), ?_⟩
    obtain ⟨⟨dx, hx⟩, w1, w64, u0, um⟩ := id W

    refine ⟨_, rfl, x, _, dx, _, _, rfl, hx, T.k_Word.cl, T.n_Word_width, wf_width _ _, ?_⟩
    refine ⟨_, rfl, x, _, dx, _, _, rfl, hx, T.k_Word.cl, T.n_Word_value, wf_value _ _, ?_⟩
    exact ⟨_, rfl, _, rfl, x, y, wd, u, v, rfl, W, W', wd, u, v, rfl, w1, w64, k⟩
theorem ok_Word_sub_ (T : Tx K mg) : FnOk P w K mg base CX0 8 T.f_Word_sub_.a T.f_Word_sub_.fd ["self", "other"] (spSub T.k_Word.C) := by
  refine T.f_Word_sub_.F.ok sc_Word_sub_ (fun vs H Q E h => ?_) (fun cdv A outer s H vs Q E hr h => ?_)
  · obtain ⟨x, y, wd, u, v, rfl, _⟩ := h
    rfl
  · obtain ⟨x, y, wd, u, v, rfl, W, W', k⟩ := h
    refine ⟨_, (pss_one (ps_ret (pe_call (ok_difference_word T) (hr.mono (by decide)) (by rfl) T.f_difference_word.m T.f_difference_word.F.kp (bd_difference_word T) .nil pass0 (pa_cons (pe_fld (pv 0) rfl) (pa_cons (pe_fld (pv 0) rfl) (pa_cons (pe_call (ok_operand_value T) (hr.mono (by decide)) (by rfl) T.f_operand_value.m T.f_operand_value.F.kp (bd_operand_value T) .nil pass0 (pa_cons (pv 0) (pa_cons (pv 1) pa_nil))) pa_nil)))))), ?_⟩
    obtain ⟨⟨dx, hx⟩, w1, w64, u0, um⟩ := id W

    refine ⟨_, rfl, x, _, dx, _, _, rfl, hx, T.k_Word.cl, T.n_Word_width, wf_width _ _, ?_⟩
    refine ⟨_, rfl, x, _, dx, _, _, rfl, hx, T.k_Word.cl, T.n_Word_value, wf_value _ _, ?_⟩
    exact ⟨_, rfl, _, rfl, x, y, wd, u, v, rfl, W, W', wd, u, v, rfl, w1, w64, k⟩
theorem ok_Word_rmul_int (T : Tx K mg) : FnOk P w K mg base CX0 6 T.f_Word_rmul_.a T.f_Word_rmul_.fd ["self", "other"] (spMulI T.k_Word.C) := by
  refine T.f_Word_rmul_.F.ok sc_Word_rmul_ (fun vs H Q E h => ?_) (fun cdv A outer s H vs Q E hr h => ?_)
  · obtain ⟨x, wd, u, n, rfl, _⟩ := h
    rfl
  · obtain ⟨x, wd, u, n, rfl, W, n0, n1, k⟩ := h
    refine ⟨_, (pss_one (ps_ret (pe_make (mk_Word T) (ok_Word_init_ T) (hr.mono (by decide)) (by rfl) T.k_Word.m (bd_Word_init_ T) .nil pass0 (pa_cons (pe_fld (pv 0) rfl) (pa_cons (pe_call (ok_carried_round T) (hr.mono (by decide)) (by rfl) T.f_carried_round.m T.f_carried_round.F.kp (bd_carried_round T) .nil pass0 (pa_cons (pe_fld (pv 0) rfl) (pa_cons (pe_op op_mul (pe_call (ok_checked_times T) (hr.mono (by decide)) (by rfl) T.f_checked_times.m T.f_checked_times.F.kp (bd_checked_times T) .nil pass0 (pa_cons (pv 1) pa_nil)) (pe_fld (pv 0) rfl)) pa_nil))) pa_nil))))), ?_⟩
    obtain ⟨⟨dx, hx⟩, w1, w64, u0, um⟩ := id W

    have cb := cr_bd w1 (n * u)
    have m64 := mw_64 w64
    refine ⟨_, rfl, x, _, dx, _, _, rfl, hx, T.k_Word.cl, T.n_Word_width, wf_width _ _, ?_⟩
    refine ⟨_, rfl, x, _, dx, _, _, rfl, hx, T.k_Word.cl, T.n_Word_width, wf_width _ _, ?_⟩
    refine ⟨_, rfl, n, rfl, n0, n1, _, rfl, x, _, dx, _, _, rfl, hx, T.k_Word.cl, T.n_Word_value, wf_value _ _, _, _, rfl, rfl, .inr ⟨by omega, by omega⟩, wd, _, rfl, w1, w64, ?_⟩
    exact mk_word w1 w64 cb.1 cb.2 k
theorem ok_Word_mul_int (T : Tx K mg) : FnOk P w K mg base CX0 6 T.f_Word_mul_.a T.f_Word_mul_.fd ["self", "other"] (spMulI T.k_Word.C) := by
  refine T.f_Word_mul_.F.ok sc_Word_mul_ (fun vs H Q E h => ?_) (fun cdv A outer s H vs Q E hr h => ?_)
  · obtain ⟨x, wd, u, n, rfl, _⟩ := h
    rfl
  · obtain ⟨x, wd, u, n, rfl, W, n0, n1, k⟩ := h
    refine ⟨_, (pss_one (ps_ret (pe_make (mk_Word T) (ok_Word_init_ T) (hr.mono (by decide)) (by rfl) T.k_Word.m (bd_Word_init_ T) .nil pass0 (pa_cons (pe_fld (pv 0) rfl) (pa_cons (pe_call (ok_carried_round T) (hr.mono (by decide)) (by rfl) T.f_carried_round.m T.f_carried_round.F.kp (bd_carried_round T) .nil pass0 (pa_cons (pe_fld (pv 0) rfl) (pa_cons (pe_op op_mul (pe_call (ok_checked_times T) (hr.mono (by decide)) (by rfl) T.f_checked_times.m T.f_checked_times.F.kp (bd_checked_times T) .nil pass0 (pa_cons (pv 1) pa_nil)) (pe_fld (pv 0) rfl)) pa_nil))) pa_nil))))), ?_⟩
    obtain ⟨⟨dx, hx⟩, w1, w64, u0, um⟩ := id W

    have cb := cr_bd w1 (n * u)
    have m64 := mw_64 w64
    refine ⟨_, rfl, x, _, dx, _, _, rfl, hx, T.k_Word.cl, T.n_Word_width, wf_width _ _, ?_⟩
    refine ⟨_, rfl, x, _, dx, _, _, rfl, hx, T.k_Word.cl, T.n_Word_width, wf_width _ _, ?_⟩
    refine ⟨_, rfl, n, rfl, n0, n1, _, rfl, x, _, dx, _, _, rfl, hx, T.k_Word.cl, T.n_Word_value, wf_value _ _, _, _, rfl, rfl, .inr ⟨by omega, by omega⟩, wd, _, rfl, w1, w64, ?_⟩
    exact mk_word w1 w64 cb.1 cb.2 k
theorem ok_Word_lshift_int (T : Tx K mg) : FnOk P w K mg base CX0 7 T.f_Word_lshift_.a T.f_Word_lshift_.fd ["self", "other"] (spShlI T.k_Word.C) := by
  refine T.f_Word_lshift_.F.ok sc_Word_lshift_ (fun vs H Q E h => ?_) (fun cdv A outer s H vs Q E hr h => ?_)
  · obtain ⟨x, wd, u, n, rfl, _⟩ := h
    rfl
  · obtain ⟨x, wd, u, n, rfl, W, n0, n1, k⟩ := h
    refine ⟨_, (pss_one (ps_ret (pe_call (ok_turned T) (hr.mono (by decide)) (by rfl) T.f_turned.m T.f_turned.F.kp (bd_turned T) .nil pass0 (pa_cons (pv 0) (pa_cons (pe_call (ok_checked_times T) (hr.mono (by decide)) (by rfl) T.f_checked_times.m T.f_checked_times.F.kp (bd_checked_times T) .nil pass0 (pa_cons (pv 1) pa_nil)) pa_nil))))), ?_⟩

    exact ⟨_, rfl, _, rfl, n, rfl, n0, n1, x, wd, u, n, rfl, W, k⟩
theorem ok_Word_invert_ (T : Tx K mg) : FnOk P w K mg base CX0 6 T.f_Word_invert_.a T.f_Word_invert_.fd ["self"] (spInv T.k_Word.C) := by
  refine T.f_Word_invert_.F.ok sc_Word_invert_ (fun vs H Q E h => ?_) (fun cdv A outer s H vs Q E hr h => ?_)
  · obtain ⟨x, wd, u, rfl, _⟩ := h
    rfl
  · obtain ⟨x, wd, u, rfl, W, k⟩ := h
    refine ⟨_, (pss_one (ps_ret (pe_make (mk_Word T) (ok_Word_init_ T) (hr.mono (by decide)) (by rfl) T.k_Word.m (bd_Word_init_ T) .nil pass0 (pa_cons (pe_fld (pv 0) rfl) (pa_cons (pe_op op_sub (pe_call (ok_most_value T) (hr.mono (by decide)) (by rfl) T.f_most_value.m T.f_most_value.F.kp (bd_most_value T) .nil pass0 (pa_cons (pe_fld (pv 0) rfl) pa_nil)) (pe_fld (pv 0) rfl)) pa_nil))))), ?_⟩
    obtain ⟨⟨dx, hx⟩, w1, w64, u0, um⟩ := id W

    refine ⟨_, rfl, x, _, dx, _, _, rfl, hx, T.k_Word.cl, T.n_Word_width, wf_width _ _, ?_⟩
    refine ⟨_, rfl, x, _, dx, _, _, rfl, hx, T.k_Word.cl, T.n_Word_width, wf_width _ _, wd, rfl, w1, w64, _, rfl, x, _, dx, _, _, rfl, hx, T.k_Word.cl, T.n_Word_value, wf_value _ _, _, _, rfl, rfl, ?_⟩
    exact mk_word w1 w64 (by omega) (by omega) k
theorem ok_Word_eq_ (T : Tx K mg) : FnOk P w K mg base CX0 2 T.f_Word_eq_.a T.f_Word_eq_.fd ["self", "other"] (spEq T.k_Word.C) := by
  refine T.f_Word_eq_.F.ok sc_Word_eq_ (fun vs H Q E h => ?_) (fun cdv A outer s H vs Q E hr h => ?_)
  · obtain ⟨x, y, w1, w2, u, v, rfl, _⟩ := h
    rfl
  · obtain ⟨x, y, w1, w2, u, v, rfl, W, W', k⟩ := h
    refine ⟨_, (pss_one (ps_ret (pe_and (pe_callB call_isi (by rfl) T.b_isinstance (by decide +kernel) (pa_cons (pv 1) (pa_cons (pe_glob (v := .ref T.k_Word.C) (by rfl) T.k_Word.m rfl) pa_nil))) (pe_and (pe_cmpR op_eq (pe_fld (pv 0) rfl) (pe_fld (pv 1) rfl) (nomark _)) (pe_one (pe_cmpR op_eq (pe_fld (pv 0) rfl) (pe_fld (pv 1) rfl) (nomark _))))))), ?_⟩

    obtain ⟨⟨dx, hx⟩, _, _, _, _⟩ := W
    obtain ⟨⟨dy, hy⟩, _, _, _, _⟩ := W'
    refine ⟨_, rfl, _, _, _, _, true, rfl, .own _, .base (.ins hy T.k_Word.cl T.x_Word.ha T.x_Word.hn T.x_Word.ht T.x_Word.hm), kit_self, _, rfl, iteT ?_⟩
    refine ⟨_, rfl, x, _, dx, _, _, rfl, hx, T.k_Word.cl, T.n_Word_width, wf_width _ _, ?_⟩
    refine ⟨_, rfl, y, _, dy, _, _, rfl, hy, T.k_Word.cl, T.n_Word_width, wf_width _ _, rfl, _, rfl, ?_⟩
    rw [dec_int]
    by_cases e : w1 = w2
    · subst e
      refine ite2 (fun _ => ?_) (fun q => absurd (beq_self_eq_true _) q)
      refine ⟨_, rfl, x, _, dx, _, _, rfl, hx, T.k_Word.cl, T.n_Word_value, wf_value _ _, ?_⟩
      refine ⟨_, rfl, y, _, dy, _, _, rfl, hy, T.k_Word.cl, T.n_Word_value, wf_value _ _, rfl, ?_⟩
      have e2 : decide (V.int u = V.int v) = (decide (w1 = w1) && decide (u = v)) := by
        rw [dec_int, decide_eq_true rfl, Bool.true_and, Bool.beq_eq_decide_eq]
      rw [e2]
      exact k
    · refine ite2 (fun q => absurd (Int.ofNat.inj (beq_iff_eq.mp q)) e) (fun _ => ?_)
      have e2 : (decide (w1 = w2) && decide (u = v)) = false := by rw [decide_eq_false e] <;> rfl
      rw [e2] at k
      exact k
theorem ok_Word_like (T : Tx K mg) : FnOk P w K mg base CX0 3 T.f_Word_like.a T.f_Word_like.fd ["self", "other"] (spLike T.k_Word.C) := by
  refine T.f_Word_like.F.ok sc_Word_like (fun vs H Q E h => ?_) (fun cdv A outer s H vs Q E hr h => ?_)
  · obtain ⟨x, y, wd, u, v, rfl, _⟩ := h
    rfl
  · obtain ⟨x, y, wd, u, v, rfl, W, W', k⟩ := h
    refine ⟨_, (pss_one (ps_ret (pe_cmpR op_eq (pe_fld (pv 0) rfl) (pe_op op_mod (pe_call (ok_operand_value T) (hr.mono (by decide)) (by rfl) T.f_operand_value.m T.f_operand_value.F.kp (bd_operand_value T) .nil pass0 (pa_cons (pv 0) (pa_cons (pv 1) pa_nil))) (pe_call (ok_most_value T) (hr.mono (by decide)) (by rfl) T.f_most_value.m T.f_most_value.F.kp (bd_most_value T) .nil pass0 (pa_cons (pe_fld (pv 0) rfl) pa_nil))) (nomark _)))), ?_⟩
    obtain ⟨⟨dx, hx⟩, w1, w64, u0, um⟩ := id W

    have hM := mw_pos w1
    refine ⟨_, rfl, x, _, dx, _, _, rfl, hx, T.k_Word.cl, T.n_Word_rest, wf_rest _ _, ?_⟩
    refine ⟨_, rfl, _, rfl, x, y, wd, u, v, rfl, W, W', ?_⟩
    refine ⟨_, rfl, x, _, dx, _, _, rfl, hx, T.k_Word.cl, T.n_Word_width, wf_width _ _, wd, rfl, w1, w64, _, _, rfl, rfl, by omega, rfl, ?_⟩
    have e2 : decide (V.int (u % mw wd) = V.int (v % mw wd)) = decide (u % mw wd = v % mw wd) := by rw [dec_int, Bool.beq_eq_decide_eq]
    rw [← e2] at k
    exact k
theorem ok_Word_full (T : Tx K mg) : FnOk P w K mg base CX0 6 T.f_Word_full.a T.f_Word_full.fd ["width"] (spConst T.k_Word.C mw) := by
  refine T.f_Word_full.F.ok sc_Word_full (fun vs H Q E h => ?_) (fun cdv A outer s H vs Q E hr h => ?_)
  · obtain ⟨wd, rfl, _⟩ := h
    rfl
  · obtain ⟨wd, rfl, w1, w64, k⟩ := h
    refine ⟨_, (pss_one (ps_ret (pe_make (mk_Word T) (ok_Word_init_ T) (hr.mono (by decide)) (by rfl) T.k_Word.m (bd_Word_init_ T) .nil pass0 (pa_cons (pv 0) (pa_cons (pe_call (ok_most_value T) (hr.mono (by decide)) (by rfl) T.f_most_value.m T.f_most_value.F.kp (bd_most_value T) .nil pass0 (pa_cons (pe_call (ok_checked_width T) (hr.mono (by decide)) (by rfl) T.f_checked_width.m T.f_checked_width.F.kp (bd_checked_width T) .nil pass0 (pa_cons (pv 0) pa_nil)) pa_nil)) pa_nil))))), ?_⟩

    have hM := mw_pos w1
    refine ⟨_, rfl, _, rfl, wd, rfl, w1, w64, wd, rfl, w1, w64, ?_⟩
    exact mk_word w1 w64 (by omega) (by omega) k
theorem ok_Word_empty (T : Tx K mg) : FnOk P w K mg base CX0 6 T.f_Word_empty.a T.f_Word_empty.fd ["width"] (spConst T.k_Word.C fun _ => 0) := by
  refine T.f_Word_empty.F.ok sc_Word_empty (fun vs H Q E h => ?_) (fun cdv A outer s H vs Q E hr h => ?_)
  · obtain ⟨wd, rfl, _⟩ := h
    rfl
  · obtain ⟨wd, rfl, w1, w64, k⟩ := h
    refine ⟨_, (pss_one (ps_ret (pe_make (mk_Word T) (ok_Word_init_ T) (hr.mono (by decide)) (by rfl) T.k_Word.m (bd_Word_init_ T) .nil pass0 (pa_cons (pv 0) (pa_cons pe_int pa_nil))))), ?_⟩

    have hM := mw_pos w1
    refine ⟨_, rfl, ?_⟩
    exact mk_word w1 w64 (by omega) (by omega) k
theorem ok_law_pen (T : Tx K mg) : FnOk P w K mg base CX0 2 T.f_law_pen.a T.f_law_pen.fd ["_law_script"] (spPen K) := by
  refine T.f_law_pen.F.ok sc_law_pen (fun vs H Q E h => ?_) (fun cdv A outer s H vs Q E hr h => ?_)
  · obtain ⟨a, ns, rfl, _⟩ := h
    rfl
  · obtain ⟨a, ns, rfl, hS, hl, k⟩ := h
    refine ⟨_, (pss_one (ps_ret (pe_lst (pa_cons (pe_callTy call_list_of (by rfl) T.b_list (by decide +kernel) (pa_cons (pe_slice sl_list (pv 0) po_none (po_some pe_int)) pa_nil)) (pa_cons pe_int (pa_cons pe_int pa_nil)))))), ?_⟩
    refine ⟨_, rfl, _, rfl, a, _, rfl, hS, fun b nb => ?_⟩
    (generalize g_H1 : upd _ b _ = H1); have hb := gat g_H1; have e1 := gex g_H1 nb; clear g_H1
    refine ⟨b, _, rfl, .inl (sq hb), fun c nc => ?_⟩
    (generalize g_H2 : upd _ c _ = H2); have hc := gat g_H2; have e2 := gex g_H2 nc; clear g_H2
    refine ⟨by show 3 ≤ sizeLine; decide, fun z nz => ?_⟩
    (generalize g_H3 : upd _ z _ = H3); have hz := gat g_H3; have e3 := gex g_H3 nz; clear g_H3
    have ec : cutV (ns.map V.int) none (some 63) = ns.map V.int := by
      unfold cutV
      have h1 : HT.sIx (ns.map V.int).length 0 none = 0 := rfl
      rw [h1, List.drop_zero, List.take_of_length_le]
      rw [List.length_map]
      have h2 : HT.sIx ns.length ns.length (some 63) = min 63 ns.length := cut63 ns.length
      rw [h2]
      omega
    rw [ec] at hc
    refine k z c H3 ⟨⟨0, 0, hz, by omega, by omega, by omega⟩, e3 _ _ hc, ne_of_none hc nz, hl⟩ ((e1.trans e2).trans e3) ?_ ?_
    · exact back (e1.trans e2) nz
    · exact back e1 nc
theorem ok_law_draw (T : Tx K mg) : FnOk P w K mg base CX0 2 T.f_law_draw.a T.f_law_draw.fd ["_law_pen_here", "_law_many"] spDraw := by
  refine T.f_law_draw.F.ok sc_law_draw (fun vs H Q E h => ?_) (fun cdv A outer s H vs Q E hr h => ?_)
  · obtain ⟨z, c, cells, t, many, rfl, _⟩ := h
    rfl
  · obtain ⟨z, c, cells, t, many, rfl, PA, ht, hm0, hm1, k⟩ := h
    obtain ⟨⟨ix, left, hz, i0, it, l0⟩, hc, cz, few⟩ := id PA
    refine ⟨_, (pss_cons (ps_if (pt_cmpR op_gt (pe_ix ix_list (pv 0) pe_int (fun _ _ => rfl)) pe_int (nomark _)) (pss_cons (ps_set (i := 2) sc_law_draw.nd rfl (Or.inl rfl) (pe_op op_mod (pe_callTy call_int1 (by rfl) T.b_int (by decide +kernel) (pa_cons (pe_ix ix_list (pv 0) pe_int (fun _ _ => rfl)) pa_nil)) (pv 1)))
      (pss_cons (ps_asg (pe_op op_fdivW (pe_ix ix_list (pv 0) pe_int (fun _ _ => rfl)) (pv 1)) (pg_sub (pv 0) pe_int set_list))
      (pss_one (ps_ret (pv 2))))) pss_nil)
      (pss_cons (ps_set (i := 3) sc_law_draw.nd rfl (Or.inl rfl) (pe_ix ix_list (pv 0) pe_int (fun _ _ => rfl)))
      (pss_cons (ps_asg (pe_op op_add (pv 3) pe_int) (pg_sub (pv 0) pe_int set_list))
      (pss_cons (ps_set (i := 4) sc_law_draw.nd rfl (Or.inl rfl) (pe_op op_add (pe_op op_mul pe_int (pv 3)) pe_int))
      (Evl.pss_cut (ps_if (pt_cmpR (op_neD hr.units) (pe_ix ix_list (pv 0) pe_int (fun _ _ => rfl)) (pe_lst pa_nil) (nomark _)) (pss_one (ps_set (i := 4) sc_law_draw.nd rfl (Or.inl rfl) (pe_ix ix_list (pe_ix ix_list (pv 0) pe_int (fun _ _ => rfl)) (pe_op op_mod (pe_callTy call_int1 (by rfl) T.b_int (by decide +kernel) (pa_cons (pv 3) pa_nil)) (pe_callB call_len_seq (by rfl) T.b_len (by decide +kernel) (pa_cons (pe_ix ix_list (pv 0) pe_int (fun _ _ => rfl)) pa_nil))) (fun _ _ => rfl)))) pss_nil)
      (Evl.pss_cut (ps_if (PW.pt (pw_and (pt_cmpR op_lt (pv 3) (pe_callB call_len_seq (by rfl) T.b_len (by decide +kernel) (pa_cons (pe_ix ix_list (pv 0) pe_int (fun _ _ => rfl)) pa_nil)) (nomark _)) (pw_and1 (pt_cmpR op_ge (pe_callB call_abs (by rfl) T.b_abs (by decide +kernel) (pa_cons (pv 4) pa_nil)) (pe_op op_pow pe_int pe_int) (nomark _))))) (pss_cons (ps_set (i := 5) sc_law_draw.nd rfl (Or.inl rfl) (pe_op op_add (pe_op op_mul pe_int (pe_op op_sub (pe_callB call_abs (by rfl) T.b_abs (by decide +kernel) (pa_cons (pv 4) pa_nil)) (pe_op op_pow pe_int pe_int))) (pe_callTy call_int1 (by rfl) T.b_int (by decide +kernel) (pa_cons (pe_cmpR op_lt (pv 4) pe_int (nomark _)) pa_nil))))
      (pss_cons (ps_asg (pe_op op_fdivW (pv 5) (pv 1)) (pg_sub (pv 0) pe_int set_list))
      (pss_one (ps_ret (pe_op op_mod (pe_callTy call_int1 (by rfl) T.b_int (by decide +kernel) (pa_cons (pv 5) pa_nil)) (pv 1)))))) pss_nil)
      (pss_cons (ps_set (i := 6) sc_law_draw.nd rfl (Or.inl rfl) (pe_op op_mod (pe_callTy call_int1 (by rfl) T.b_int (by decide +kernel) (pa_cons (pe_op op_pow (pe_op op_add (pe_op op_add (pe_op op_mod (pe_callTy call_int1 (by rfl) T.b_int (by decide +kernel) (pa_cons (pv 4) pa_nil)) pe_int) (pe_op op_mul pe_int (pv 3))) pe_int) pe_int) pa_nil)) pe_int))
      (pss_cons (ps_set (i := 6) sc_law_draw.nd rfl (Or.inl rfl) (pe_op op_mod (pe_callTy call_int1 (by rfl) T.b_int (by decide +kernel) (pa_cons (pe_op op_pow (pe_op op_add (pe_op op_add (pe_op op_mul (pv 6) (pe_op op_add (pe_op op_mul pe_int (pv 3)) pe_int)) (pe_op op_mul (pe_op op_mul pe_int (pv 3)) (pv 3))) pe_int) pe_int) pa_nil)) pe_int))
      (pss_one (ps_ret (pe_op op_mod (pe_callTy call_int1 (by rfl) T.b_int (by decide +kernel) (pa_cons (pe_op op_fdiv (pv 6) pe_int) pa_nil)) (pv 1)))))))))))), ?_⟩
    refine ⟨_, rfl, z, _, 2, .int left, rfl, rfl, sq hz, rfl, _, _, rfl, rfl, _, rfl, ?_⟩
    have divw : CDivW left many := wide_div hm0 (b := 20) (by omega) (by decide) (by decide)
    refine ite2 (fun _ => ?_) (fun _ => ?_)
    · -- a digit of a great cell
      refine ⟨_, rfl, z, _, 2, .int left, rfl, rfl, sq hz, rfl, .inl ⟨_, rfl, ?_⟩⟩
      refine ⟨_, rfl, _, _, rfl, rfl, hm0, ?_⟩
      refine ⟨_, rfl, z, _, 2, .int left, rfl, rfl, sq hz, rfl, _, rfl, _, _, rfl, rfl, divw, ?_⟩
      refine ⟨_, rfl, z, _, 2, 2, rfl, rfl, hz, rfl, ?_⟩
      refine ⟨_, rfl, ?_⟩
      refine k _ _ (emod_bd hm0).1 (emod_bd hm0).2 ⟨⟨ix, left / many, upd_same, i0, by omega, Int.ediv_nonneg l0 (by omega)⟩, ?_, cz, few⟩ Fw.at
      rw [upd_ne cz]
      exact hc
    · refine ⟨_, rfl, z, _, 1, .int ix, rfl, rfl, sq hz, rfl, ?_⟩
      refine ⟨_, rfl, _, _, rfl, rfl, _, rfl, z, _, 1, 1, rfl, rfl, hz, rfl, ?_⟩
      refine ⟨_, rfl, _, _, rfl, rfl, .inl ⟨by omega, by omega⟩, _, _, rfl, rfl, ?_⟩
      (generalize g_H1 : upd _ z _ = H1); have z1 := gat g_H1; have f1 := gfw g_H1; clear g_H1
      have z1 : H1 z = some (.lst [.ref c, .int (ix + 1), .int left]) := z1
      have c1 : H1 c = some (.lst (cells.map V.int)) := f1 _ _ cz hc
      -- the cell, whatever it is
      refine ⟨fun σ' H' => ∃ cell : Int, σ' = [some (.ref z), some (.int many), none, some (.int ix), some (.int cell), none, none] ∧ H' z = some (.lst [.ref c, .int (ix + 1), .int left]) ∧ H' c = some (.lst (cells.map V.int)) ∧ Fw z H H', ?_, ?_⟩
      · refine ⟨_, rfl, z, _, 0, .ref c, rfl, rfl, sq z1, rfl, ?_⟩
        refine ⟨by show 0 ≤ sizeLine; decide, fun b nb => ?_⟩
        (generalize g_H2 : upd _ b _ = H2); have hb := gat g_H2; have e2 := gex g_H2 nb; clear g_H2
        refine ⟨_, _, Dp.lst (sq (e2 _ _ c1)) (dp_ints cells), Dp.lst (sq hb) DpAll.nil, shaped_ints cells, rfl, _, rfl, ?_⟩
        cases hcl : cells with
        | nil =>
          refine iteF ?_
          exact ⟨_, rfl, e2 _ _ z1, by rw [← hcl]; exact e2 _ _ c1, f1.trans e2.fw⟩
        | cons y ys =>
          refine iteT ?_
          rw [← hcl]
          have hpos : 0 < cells.length := by rw [hcl]; exact Nat.succ_pos _
          have hlen : (0 : Int) < ((cells.map V.int).length : Nat) := by rw [List.length_map]; omega
          obtain ⟨j, hj⟩ : ∃ j : Nat, ix % ((cells.map V.int).length : Nat) = (j : Int) := ⟨(ix % ((cells.map V.int).length : Nat)).toNat, by rw [Int.toNat_of_nonneg (emod_bd hlen).1]⟩
          have hjl : j < cells.length := by
            have h1 := (emod_bd (a := ix) hlen).2
            rw [hj, List.length_map] at h1
            omega
          obtain ⟨v, hv⟩ := cell_get hjl
          refine ⟨_, rfl, z, _, 0, .ref c, rfl, rfl, sq (e2 _ _ z1), rfl, ?_⟩
          refine ⟨_, rfl, .inl ⟨_, rfl, ?_⟩⟩
          refine ⟨_, rfl, z, _, 0, .ref c, rfl, rfl, sq (e2 _ _ z1), rfl, c, _, rfl, .inl (sq (e2 _ _ c1)), _, _, rfl, rfl, hlen, ?_⟩
          refine ⟨c, _, _, .int v, rfl, rfl, sq (e2 _ _ c1), by rw [hj]; exact atI_nat hv, ?_⟩
          exact ⟨v, rfl, e2 _ _ z1, e2 _ _ c1, f1.trans e2.fw⟩
      · rintro σ' H2 ⟨cell, rfl, z2, c2, f2⟩
        have lenc : (((cells.map V.int).length : Nat) : Int) ≤ 63 := by rw [List.length_map]; omega
        have ix1 : ix ≤ 100000 := by omega
        refine ⟨fun σ' H' => σ' = [some (.ref z), some (.int many), none, some (.int ix), some (.int cell), none, none] ∧ H' = H2, ?_, ?_⟩
        · refine ⟨_, rfl, _, rfl, z, _, 0, .ref c, rfl, rfl, sq z2, rfl, c, _, rfl, .inl (sq c2), _, _, rfl, rfl, _, rfl, ?_⟩
          refine ite2 (fun _ => ?_) (fun _ => iteF ⟨rfl, rfl⟩)
          refine ⟨_, rfl, _, rfl, _, _, rfl, rfl, ⟨by decide, by decide, by decide⟩, _, _, rfl, rfl, _, rfl, ?_⟩
          refine ite2 (fun hg => ?_) (fun _ => ⟨rfl, rfl⟩)
          have hg := of_decide_eq_true hg
          rw [pow18] at hg
          -- a great cell
          refine ⟨_, rfl, _, rfl, _, _, rfl, rfl, ⟨by decide, by decide, by decide⟩, _, _, rfl, rfl, _, _, rfl, rfl, .inl ⟨by decide, by decide⟩, _, rfl, _, _, rfl, rfl, .inr ⟨_, rfl, _, _, rfl, rfl, ?_⟩⟩
          dsimp only
          rw [pow18]
          have g0 : 0 ≤ 2 * ((if cell < 0 then -cell else cell) - 1000000000000000000) + (if decide (cell < 0) = true then 1 else 0) := by
            split at hg <;> split <;> omega
          generalize 2 * ((if cell < 0 then -cell else cell) - 1000000000000000000) + (if decide (cell < 0) = true then 1 else 0) = great at g0
          refine ⟨_, rfl, _, rfl, _, _, rfl, rfl, divw, _, rfl, z, _, 2, 2, rfl, rfl, z2, rfl, ?_⟩
          (generalize g_H3 : upd _ z _ = H3); have z3 := gat g_H3; have f3 := gfw g_H3; clear g_H3
          refine ⟨_, rfl, .inl ⟨_, rfl, _, rfl, _, _, rfl, rfl, hm0, ?_⟩⟩
          exact k _ _ (emod_bd hm0).1 (emod_bd hm0).2 ⟨⟨ix + 1, great / many, z3, by omega, by omega, Int.ediv_nonneg g0 (by omega)⟩, f3 _ _ cz c2, cz, few⟩ (f2.trans f3)
        · rintro σ' H' ⟨rfl, rfl⟩
          refine ⟨_, rfl, .inl ⟨_, rfl, _, _, rfl, rfl, by show (0 : Int) < 2147483563; decide, _, rfl, _, _, rfl, rfl, .inl ⟨by decide, by decide⟩, _, _, rfl, rfl, _, _, rfl, rfl, _, _, rfl, rfl,
            draw_pw5 i0 ix1 (by decide) (by decide) (by decide) (by decide), .inl ⟨_, rfl, _, _, rfl, rfl, by show (0 : Int) < 2147483629; decide, ?_⟩⟩⟩
          dsimp only
          generalize hm : (_ % 2147483629 : Int) = m
          have mb : 0 ≤ m ∧ m < 2147483629 := by rw [← hm]; exact emod_bd (by decide)
          refine ⟨_, rfl, _, rfl, _, _, rfl, rfl, .inl ⟨by decide, by decide⟩, _, _, rfl, rfl, _, _, rfl, rfl, .inl ⟨by omega, by omega⟩, _, rfl, _, _, rfl, rfl, .inl ⟨by decide, by decide⟩, _, rfl, _, _, rfl, rfl, .inr ⟨by omega, by omega⟩,
            _, _, rfl, rfl, _, _, rfl, rfl, _, _, rfl, rfl, draw_pw3 i0 ix1 mb.1 mb.2 (by decide) (by decide) (by decide) (by decide) (by decide) (by decide), .inl ⟨_, rfl, _, _, rfl, rfl, by show (0 : Int) < 2147483587; decide, ?_⟩⟩
          dsimp only
          generalize (_ % 2147483587 : Int) = m2
          refine ⟨_, rfl, _, _, rfl, rfl, ⟨by decide, by decide⟩, .inl ⟨_, rfl, _, rfl, _, _, rfl, rfl, hm0, ?_⟩⟩
          exact k _ _ (emod_bd hm0).1 (emod_bd hm0).2 ⟨⟨ix + 1, left, z2, by omega, by omega, l0⟩, c2, cz, few⟩ f2
theorem ok_law_width (T : Tx K mg) : FnOk P w K mg base CX0 3 T.f_law_width.a T.f_law_width.fd ["_law_pen_here"] spWidth := by
  refine T.f_law_width.F.ok sc_law_width (fun vs H Q E h => ?_) (fun cdv A outer s H vs Q E hr h => ?_)
  · obtain ⟨z, c, cells, t, rfl, _⟩ := h
    rfl
  · obtain ⟨z, c, cells, t, rfl, PA, ht, k⟩ := h
    refine ⟨_, (pss_one (ps_ret (pe_ix ix_list (pe_lst (pa_cons pe_int (pa_cons pe_int (pa_cons pe_int (pa_cons pe_int (pa_cons pe_int (pa_cons pe_int (pa_cons pe_int (pa_cons pe_int (pa_cons pe_int (pa_cons (pe_op op_add pe_int (pe_call (ok_law_draw T) (hr.mono (by decide)) (by rfl) T.f_law_draw.m T.f_law_draw.F.kp (bd_law_draw T) .nil pass0 (pa_cons (pv 0) (pa_cons pe_int pa_nil)))) pa_nil))))))))))) (pe_call (ok_law_draw T) (hr.mono (by decide)) (by rfl) T.f_law_draw.m T.f_law_draw.F.kp (bd_law_draw T) .nil pass0 (pa_cons (pv 0) (pa_cons pe_int pa_nil))) (fun _ _ => rfl)))), ?_⟩
    refine ⟨_, rfl, z, c, cells, t, 64, rfl, PA, by omega, by decide, by decide, fun n H1 n0 n1 P1 f1 => ?_⟩
    refine ⟨_, _, rfl, rfl, by show 10 ≤ sizeLine; decide, fun b nb => ?_⟩
    (generalize g_H2 : upd _ b _ = H2); have hb := gat g_H2; have e2 := gex g_H2 nb; clear g_H2
    refine ⟨_, rfl, z, c, cells, t + 1, 10, rfl, P1.ex e2, by omega, by decide, by decide, fun j H3 j0 j1 P3 f3 => ?_⟩
    have bz : b ≠ z := by
      obtain ⟨⟨i, l, h1, _⟩, _⟩ := P1
      exact (ne_of_none h1 nb).symm
    obtain ⟨j, rfl⟩ : ∃ i : Nat, j = (i : Int) := ⟨j.toNat, by omega⟩
    have fin : ∀ m : Int, ([V.int 1, .int 2, .int 3, .int 4, .int 7, .int 8, .int 16, .int 63, .int 64, .int (1 + n)] : List V)[j]? = some (.int m) → 1 ≤ m → m ≤ 64 → rIxL K (.ref b) (.int j) H3 fun x H' => Q x H' := fun m hm h1 h2 =>
      ⟨b, _, _, _, rfl, rfl, sq (f3 _ _ bz hb), atI_nat hm, k m H3 h1 h2 P3 ((f1.trans e2.fw).trans f3)⟩
    match j, j1 with
    | 0, _ => exact fin 1 rfl (by decide) (by decide)
    | 1, _ => exact fin 2 rfl (by decide) (by decide)
    | 2, _ => exact fin 3 rfl (by decide) (by decide)
    | 3, _ => exact fin 4 rfl (by decide) (by decide)
    | 4, _ => exact fin 7 rfl (by decide) (by decide)
    | 5, _ => exact fin 8 rfl (by decide) (by decide)
    | 6, _ => exact fin 16 rfl (by decide) (by decide)
    | 7, _ => exact fin 63 rfl (by decide) (by decide)
    | 8, _ => exact fin 64 rfl (by decide) (by decide)
    | 9, _ => exact fin (1 + n) rfl (by omega) (by omega)
    | j + 10, h => exact absurd h (by omega)
theorem ok_law_value (T : Tx K mg) : FnOk P w K mg base CX0 3 T.f_law_value.a T.f_law_value.fd ["_law_pen_here", "_law_width_here"] spValue := by
  refine T.f_law_value.F.ok sc_law_value (fun vs H Q E h => ?_) (fun cdv A outer s H vs Q E hr h => ?_)
  · obtain ⟨z, c, cells, t, wd, rfl, _⟩ := h
    rfl
  · obtain ⟨z, c, cells, t, wd, rfl, PA, ht, w1, w64, k⟩ := h
    refine ⟨_, (pss_cons (ps_set (i := 2) sc_law_value.nd rfl (Or.inl rfl) (pe_op op_sub (pe_op op_shl pe_int (pv 1)) pe_int))
      (pss_cons (ps_par (i := 3) (j := 4) (by rfl) sc_law_value.nd rfl rfl (by decide) rfl rfl (pa_cons (pe_call (ok_law_draw T) (hr.mono (by decide)) (by rfl) T.f_law_draw.m T.f_law_draw.F.kp (bd_law_draw T) .nil pass0 (pa_cons (pv 0) (pa_cons pe_int pa_nil))) (pa_cons (pe_call (ok_law_draw T) (hr.mono (by decide)) (by rfl) T.f_law_draw.m T.f_law_draw.F.kp (bd_law_draw T) .nil pass0 (pa_cons (pv 0) (pa_cons pe_int pa_nil))) pa_nil)) (by rfl))
      (pss_cons (ps_set (i := 5) sc_law_value.nd rfl (Or.inl rfl) (pe_op op_and (pe_op op_add (pe_op op_add (pe_op op_mul (pv 4) pe_int) (pe_op op_mul (pv 3) pe_int)) (pv 4)) (pv 2)))
      (pss_one (ps_ret (pe_ix ix_list (pe_lst (pa_cons pe_int (pa_cons (pv 2) (pa_cons pe_int (pa_cons (pe_op op_sub (pv 2) pe_int) (pa_cons (pv 5) (pa_cons (pv 5) (pa_cons (pv 5) pa_nil)))))))) (pe_call (ok_law_draw T) (hr.mono (by decide)) (by rfl) T.f_law_draw.m T.f_law_draw.F.kp (bd_law_draw T) .nil pass0 (pa_cons (pv 0) (pa_cons pe_int pa_nil))) (fun _ _ => rfl))))))), ?_⟩
    refine ⟨_, rfl, _, _, rfl, rfl, ⟨by omega, by omega, by decide⟩, _, _, rfl, rfl, ?_⟩
    have et : (1 : Int) * 2 ^ (wd : Int).toNat - 1 = 2 ^ wd - 1 := by rw [Int.one_mul, Int.toNat_natCast]
    dsimp only
    rw [et]
    have p0 : (1 : Int) < 2 ^ wd := pow_gt w1
    have p64 : (2 : Int) ^ wd ≤ 18446744073709551616 := pow_le64 w64
    refine ⟨_, rfl, z, c, cells, t, 65536, rfl, PA, by omega, by decide, by decide, fun lo H1 l0 l1 P1 f1 => ?_⟩
    refine ⟨_, rfl, z, c, cells, t + 1, 65536, rfl, P1, by omega, by decide, by decide, fun hi H2 h0 h1 P2 f2 => ?_⟩
    refine ⟨_, _, rfl, ?_⟩
    refine ⟨_, rfl, _, _, rfl, rfl, .inl ⟨by omega, by omega⟩, _, rfl, _, _, rfl, rfl, .inl ⟨by omega, by omega⟩, _, _, rfl, rfl, _, rfl, _, _, rfl, rfl, _, rfl, _, _, rfl, rfl, ?_⟩
    have sb := and_top (wd := wd) (x := hi * 281479271677953 + lo * 65537 + hi) (by omega)
    dsimp only
    generalize Builtin.bitAnd _ _ = some_ at sb
    refine ⟨_, rfl, _, rfl, _, _, rfl, rfl, _, rfl, _, rfl, _, rfl, by show 7 ≤ sizeLine; decide, fun b nb => ?_⟩
    (generalize g_H3 : upd _ b _ = H3); have hb := gat g_H3; have e3 := gex g_H3 nb; clear g_H3
    refine ⟨_, rfl, z, c, cells, t + 2, 7, rfl, P2.ex e3, by omega, by decide, by decide, fun j H4 j0 j1 P4 f4 => ?_⟩
    have bz : b ≠ z := by
      obtain ⟨⟨i, l, h1, _⟩, _⟩ := P2
      exact (ne_of_none h1 nb).symm
    obtain ⟨j, rfl⟩ : ∃ i : Nat, j = (i : Int) := ⟨j.toNat, by omega⟩
    have fin : ∀ m : Int, ([V.int 0, .int (2 ^ wd - 1), .int 1, .int (2 ^ wd - 1 - 1), .int some_, .int some_, .int some_] : List V)[j]? = some (.int m) → 0 ≤ m → m < 2 ^ wd → rIxL K (.ref b) (.int j) H4 fun x H' => Q x H' := fun m hm h1 h2 =>
      ⟨b, _, _, _, rfl, rfl, sq (f4 _ _ bz hb), atI_nat hm, k m H4 h1 h2 P4 (((f1.trans f2).trans e3.fw).trans f4)⟩
    match j, j1 with
    | 0, _ => exact fin _ rfl (by omega) (by omega)
    | 1, _ => exact fin _ rfl (by omega) (by omega)
    | 2, _ => exact fin _ rfl (by omega) (by omega)
    | 3, _ => exact fin _ rfl (by omega) (by omega)
    | 4, _ => exact fin _ rfl sb.1 sb.2
    | 5, _ => exact fin _ rfl sb.1 sb.2
    | 6, _ => exact fin _ rfl sb.1 sb.2
    | j + 7, h => exact absurd h (by omega)
theorem ok_law_grouped (T : Tx K mg) : FnOk P w K mg base CX0 8 T.f_law_grouped.a T.f_law_grouped.fd ["_law_pen_here", "_law_words"] (spGrouped T.k_Word.C) := by
  refine T.f_law_grouped.F.ok sc_law_grouped (fun vs H Q E h => ?_) (fun cdv A outer s H vs Q E hr h => ?_)
  · obtain ⟨z, c, cells, t, l, wd, xs, us, rfl, _⟩ := h
    rfl
  · obtain ⟨z, c, cells, t, l, wd, xs, us, rfl, PA, ht, hl, lz, W, x8, x1, k⟩ := h
    refine ⟨_, (pss_cons (ps_set (i := 2) sc_law_grouped.nd rfl (Or.inl rfl) (pe_callTy call_list_of (by rfl) T.b_list (by decide +kernel) (pa_cons (pv 1) pa_nil)))
      (pss_cons (ps_while PassesOwn.never (pt_cmpR op_gt (pe_callB call_len_seq (by rfl) T.b_len (by decide +kernel) (pa_cons (pv 2) pa_nil)) pe_int (nomark _)) (pss_cons (ps_set (i := 3) sc_law_grouped.nd rfl (Or.inl rfl) (pe_call (ok_law_draw T) (hr.mono (by decide)) (by rfl) T.f_law_draw.m T.f_law_draw.F.kp (bd_law_draw T) .nil pass0 (pa_cons (pv 0) (pa_cons (pe_op op_sub (pe_callB call_len_seq (by rfl) T.b_len (by decide +kernel) (pa_cons (pv 2) pa_nil)) pe_int) pa_nil))))
      (pss_one (ps_set (i := 2) sc_law_grouped.nd rfl (Or.inl rfl) (pe_op op_cat (pe_op op_cat (pe_slice sl_list (pv 2) po_none (po_some (pv 3))) (pe_lst (pa_cons (pe_op (TzOwn.op_own (ok_Word_add_ T) (hr.mono (by decide)) T.f_Word_add_.M (by decide +kernel) T.x_Word.sf (bd_Word_add_ T) pass0) (pe_ix ix_list (pv 2) (pv 3) (fun _ _ => rfl)) (pe_ix ix_list (pv 2) (pe_op op_add (pv 3) pe_int) (fun _ _ => rfl))) pa_nil))) (pe_slice sl_list (pv 2) (po_some (pe_op op_add (pv 3) pe_int)) po_none))))))
      (pss_one (ps_ret (pe_ix ix_list (pv 2) pe_int (fun _ _ => rfl)))))), ?_⟩
    refine ⟨_, rfl, l, _, rfl, .inl (sq hl), fun b nb => ?_⟩
    (generalize g_H1 : upd _ b _ = H1); have hb := gat g_H1; have e1 := gex g_H1 nb; clear g_H1
    have bz : b ≠ z := by
      obtain ⟨⟨i, q, h1, _⟩, _⟩ := PA
      exact (ne_of_none h1 nb).symm
    refine while_by (fun σ' H' => ∃ b t' ys ws v, σ' = [some (.ref z), some (.ref l), some (.ref b), v] ∧ PenAt H' z c cells t' ∧ t' + ys.length ≤ t + xs.length ∧ Fw z H H' ∧ H' b = some (.lst (ys.map V.ref)) ∧ b ≠ z ∧ Ws T.k_Word.C H' wd ys ws ∧ 1 ≤ ys.length ∧ ys.length ≤ 8 ∧ cr wd ws.sum = cr wd us.sum)
      (fun σ' H' => match σ' with | [_, _, some (.ref b), _] => (match H' b with | some (.lst ys) => ys.length | _ => 0) | _ => 0) ⟨b, t, xs, us, none, rfl, PA.ex e1, Nat.le_refl _, e1.fw, hb, bz, W.fw fun _ _ h => h.ex e1, x1, x8, rfl⟩ ?_ ?_
    · rintro σ' H2 ⟨b, t', ys, ws, v, rfl, P2, ht2, f2, hb2, bz, W2, y1, y8, hs⟩
      refine ⟨_, rfl, b, _, rfl, .inl (sq hb2), _, _, rfl, rfl, _, rfl, ?_⟩
      refine ite2 (fun hm => ?_) (fun hm => ?_)
      · have hm := of_decide_eq_true hm
        rw [List.length_map] at hm
        have el : (((ys.map V.ref).length : Nat) : Int) = (ys.length : Int) := by rw [List.length_map]
        refine ⟨_, rfl, _, rfl, b, _, rfl, .inl (sq hb2), _, _, rfl, rfl, z, c, cells, t', _, rfl, P2, by omega, by rw [el]; omega, by rw [el]; omega, fun n H3 n0 n1 P3 f3 => ?_⟩
        rw [el] at n1
        obtain ⟨i, rfl⟩ : ∃ i : Nat, n = (i : Int) := ⟨n.toNat, by omega⟩
        have hb3 := f3 _ _ bz hb2
        have W3 : Ws T.k_Word.C H3 wd ys ws := W2.fw fun _ _ h => h.fw f3 (h.ne_pen P2)
        obtain ⟨p, pv_, hp, hpv, Wp⟩ := W3.get (i := i) (by omega)
        obtain ⟨q, qv, hq, hqv, Wq⟩ := W3.get (i := i + 1) (by omega)
        obtain ⟨⟨dp, hp'⟩, w1, w64, p0, _⟩ := id Wp
        obtain ⟨⟨dq, hq'⟩, _, _, q0, _⟩ := id Wq
        -- left[:at]
        refine ⟨_, rfl, _, rfl, _, rfl, b, _, rfl, sq hb3, fun a1 na1 => ?_⟩
        (generalize g_H4 : upd _ a1 _ = H4); have ha1 := gat g_H4; have e4 := gex g_H4 na1; clear g_H4
        have gp : (ys.map V.ref)[i]? = some (.ref p) := by rw [List.getElem?_map, hp] <;> rfl
        have gq : (ys.map V.ref)[i + 1]? = some (.ref q) := by rw [List.getElem?_map, hq] <;> rfl
        refine ⟨_, rfl, _, rfl, b, _, _, _, rfl, rfl, sq (e4 _ _ hb3), atI_nat gp, ?_⟩
        refine ⟨_, rfl, _, rfl, _, _, rfl, rfl, b, _, _, _, rfl, rfl, sq (e4 _ _ hb3), at_of (by omega) gq, ?_⟩
        refine ⟨p, q, dp, dq, _, _, rfl, rfl, e4 _ _ hp', e4 _ _ hq', p, q, wd, pv_, qv, rfl, Wp.ex e4, Wq.ex e4, fun r H5 nr e5 Wr => ?_⟩
        refine ⟨by show 1 ≤ sizeLine; decide, fun a2 na2 => ?_⟩
        (generalize g_H6 : upd _ a2 _ = H6); have ha2 := gat g_H6; have e6 := gex g_H6 na2; clear g_H6
        have sz : ∀ {n : Nat}, n ≤ 30 → n ≤ sizeLine := fun h => Nat.le_trans h (by decide)
        refine ⟨a1, a2, _, _, rfl, rfl, (e5.trans e6) _ _ ha1, ha2, sz (by rw [cut_to, List.length_map, List.length_take]; show _ + 1 ≤ 30; omega), fun a3 na3 => ?_⟩
        (generalize g_H7 : upd _ a3 _ = H7); have ha3 := gat g_H7; have e7 := gex g_H7 na3; clear g_H7
        refine ⟨_, rfl, _, rfl, _, _, rfl, rfl, _, rfl, b, _, rfl, sq ((((e4.trans e5).trans e6).trans e7) _ _ hb3), fun a4 na4 => ?_⟩
        (generalize g_H8 : upd _ a4 _ = H8); have ha4 := gat g_H8; have e8 := gex g_H8 na4; clear g_H8
        refine ⟨a3, a4, _, _, rfl, rfl, e8 _ _ ha3, ha4, ?_, fun a5 na5 => ?_⟩
        · refine sz ?_
          rw [cut_to, List.length_append, List.length_map, List.length_take]
          have := cutV_length (ys.map V.ref) (some ((i : Int) + 2)) none
          rw [List.length_map] at this
          show min i ys.length + 1 + _ ≤ 30
          omega
        (generalize g_H9 : upd _ a5 _ = H9); have ha5 := gat g_H9; have e9 := gex g_H9 na5; clear g_H9
        have e49 : Ex H3 H9 := ((((e4.trans e5).trans e6).trans e7).trans e8).trans e9
        have ha5' : H9 a5 = some (.lst ((ys.take i ++ r :: ys.drop (i + 2)).map V.ref)) := by
          rw [ha5, cut_to]
          have e := cut_from V.ref ys (i + 2)
          have ec : (((i + 2 : Nat) : Int)) = (i : Int) + 2 := by omega
          rw [ec] at e
          show some (HO.lst (_ ++ [V.ref r] ++ cutV _ (some ((i : Int) + 2)) none)) = _
          rw [e, List.map_append, List.map_cons, List.append_assoc]
          all_goals rfl
        have W9 : Ws T.k_Word.C H9 wd (ys.take i ++ r :: ys.drop (i + 2)) (ws.take i ++ cr wd (pv_ + qv) :: ws.drop (i + 2)) :=
          ((W3.take i).fw fun _ _ h => h.ex e49).app (.cons (Wr.ex (((e6.trans e7).trans e8).trans e9)) ((W3.drop (i + 2)).fw fun _ _ h => h.ex e49))
        have e1' : (ys.take i ++ r :: ys.drop (i + 2)).length + 1 = ys.length := by
          rw [List.length_append, List.length_cons, List.length_take, List.length_drop]
          omega
        have b9 : a5 ≠ z := by
          obtain ⟨⟨i, q, h1, _⟩, _⟩ := P3.ex ((((e4.trans e5).trans e6).trans e7).trans e8)
          exact (ne_of_none h1 na5).symm
        refine ⟨⟨a5, t' + 1, _, _, _, rfl, P3.ex e49, by omega, (f2.trans f3).trans e49.fw, ha5', b9, W9, by omega, by omega, ?_⟩, ?_⟩
        · rw [← hs, sum_mid hpv hqv, List.sum_append, List.sum_cons]
          have n1 := (W3.take i).nonneg
          have n2 := (W3.drop (i + 2)).nonneg
          have a := cr_add w1 (a := pv_ + qv) (b := (ws.take i).sum + (ws.drop (i + 2)).sum) (by omega) (by omega)
          rw [show (ws.take i).sum + (cr wd (pv_ + qv) + (ws.drop (i + 2)).sum) = cr wd (pv_ + qv) + ((ws.take i).sum + (ws.drop (i + 2)).sum) by omega, a]
          congr 1
          omega
        · show (match H9 a5 with | some (.lst ys) => ys.length | _ => 0) < (match H2 b with | some (.lst ys) => ys.length | _ => 0)
          rw [ha5', hb2]
          show (List.map V.ref _).length < (List.map V.ref _).length
          rw [List.length_map, List.length_map]
          omega
      · have hm : ys.length = 1 := by
          have : ¬ (1 : Int) < ((ys.map V.ref).length : Nat) := fun h => hm (decide_eq_true h)
          rw [List.length_map] at this
          omega
        obtain ⟨p, pv_, hp, hpv, Wp⟩ := W2.get (i := 0) (by omega)
        have gp : (ys.map V.ref)[0]? = some (.ref p) := by rw [List.getElem?_map, hp] <;> rfl
        refine ⟨_, rfl, b, _, 0, _, rfl, rfl, sq hb2, atI_nat gp, ?_⟩
        have ws1 : ws = [pv_] := by
          have := W2.len
          match ws, hpv with
          | [a], h => rw [Option.some.inj h]
          | a :: b :: r, h => simp at this; omega
        have es : cr wd us.sum = pv_ := by
          rw [← hs, ws1]
          show cr wd (pv_ + 0) = pv_
          rw [Int.add_zero, cr_self Wp.v0 Wp.vm]
        refine k p H2 (P2.mono (by omega)) f2 ?_
        rw [es]
        exact Wp
    · rintro σ' H' Q1 Q2 hq ⟨v, e, p, ys, ex, h, i, j, ei, ej, b, eb, q⟩
      exact ⟨v, e, p, ys, ex, h, i, j, ei, ej, b, eb, hq _ _ q⟩
theorem ok_law_mixed (T : Tx K mg) : FnOk P w K mg base CX0 3 T.f_law_mixed.a T.f_law_mixed.fd ["_law_pen_here", "_law_words"] (spMixed T.k_Word.C) := by
  refine T.f_law_mixed.F.ok sc_law_mixed (fun vs H Q E h => ?_) (fun cdv A outer s H vs Q E hr h => ?_)
  · obtain ⟨z, c, cells, t, l, wd, xs, us, rfl, _⟩ := h
    rfl
  · obtain ⟨z, c, cells, t, l, wd, xs, us, rfl, PA, ht, hl, lz, W, x8, k⟩ := h
    refine ⟨_, (pss_cons (ps_par (i := 2) (j := 3) (by rfl) sc_law_mixed.nd rfl rfl (by decide) rfl rfl (pa_cons (pe_callTy call_list_of (by rfl) T.b_list (by decide +kernel) (pa_cons (pv 1) pa_nil)) (pa_cons (pe_lst pa_nil) pa_nil)) (by rfl))
      (pss_cons (ps_while PassesOwn.never (pt_cmpR (TzOwn.op_neNil hr.units0) (pv 2) (pe_lst pa_nil) (nomark _)) (pss_one (ps_expr (pe_bm PySem.F.plainAttrs_list PySem.F.slot_list_append PySem.F.type_list_append mt_append (pv 3) (pa_cons (pe_bm PySem.F.plainAttrs_list PySem.F.slot_list_pop PySem.F.type_list_pop mt_popAt (pv 2) (pa_cons (pe_call (ok_law_draw T) (hr.mono (by decide)) (by rfl) T.f_law_draw.m T.f_law_draw.F.kp (bd_law_draw T) .nil pass0 (pa_cons (pv 0) (pa_cons (pe_callB call_len_seq (by rfl) T.b_len (by decide +kernel) (pa_cons (pv 2) pa_nil)) pa_nil))) pa_nil)) pa_nil)))))
      (pss_one (ps_ret (pv 3))))), ?_⟩
    refine ⟨_, rfl, l, _, rfl, .inl (sq hl), fun b nb => ?_⟩
    (generalize g_H1 : upd _ b _ = H1); have hb := gat g_H1; have e1 := gex g_H1 nb; clear g_H1
    refine ⟨by show 0 ≤ sizeLine; decide, fun f nf => ?_⟩
    (generalize g_H2 : upd _ f _ = H2); have hf := gat g_H2; have e2 := gex g_H2 nf; clear g_H2
    have nf0 : H f = none := back e1 nf
    have fb : f ≠ b := (ne_of_none hb nf).symm
    have bn := PA.off nb
    have fn := PA.off nf0
    refine ⟨_, _, rfl, ?_⟩
    refine while_by (fun σ' H' => ∃ t' ys zs ws vs, σ' = [some (.ref z), some (.ref l), some (.ref b), some (.ref f)] ∧ PenAt H' z c cells t' ∧ t' + ys.length ≤ t + xs.length ∧ Fw z H H' ∧ H' b = some (.lst (ys.map V.ref)) ∧ H' f = some (.lst (zs.map V.ref)) ∧ Ws T.k_Word.C H wd ys ws ∧ Ws T.k_Word.C H wd zs vs ∧ ys.length + zs.length = xs.length ∧ ws.sum + vs.sum = us.sum)
      (fun σ' H' => match H' b with | some (.lst ys) => ys.length | _ => 0) ⟨t, xs, [], us, [], rfl, (PA.ex e1).ex e2, Nat.le_refl _, (e1.trans e2).fw, e2 _ _ hb, hf, W, .nil, rfl, Int.add_zero _⟩ ?_ ?_
    · rintro σ' H3 ⟨t', ys, zs, ws, vs, rfl, P3, ht3, f3, hb3, hf3, W3, V3, hlen, hsum⟩
      refine ⟨_, rfl, by show 0 ≤ sizeLine; decide, fun n nn => ?_⟩
      (generalize g_H4 : upd _ n _ = H4); have hn := gat g_H4; have e4 := gex g_H4 nn; clear g_H4
      refine ⟨b, n, _, rfl, rfl, e4 _ _ hb3, hn, _, rfl, ?_⟩
      have P4 := P3.ex e4
      have f4 := f3.trans e4.fw
      have hb4 := e4 _ _ hb3
      have hf4 := e4 _ _ hf3
      cases hy : ys with
      | nil =>
        refine iteF ?_
        subst hy
        have w0 : ws = [] := List.length_eq_zero_iff.mp W3.len.symm
        subst w0
        exact ⟨_, rfl, k f zs vs H4 (P4.mono (by omega)) f4 hf4 fn.1 (V3.fw fun _ _ h => h.fw f4 (h.ne_pen PA)) (by simpa using hlen) (by simpa using hsum)⟩
      | cons y0 yr =>
        refine iteT ?_
        have ypos : 0 < ys.length := by rw [hy]; exact Nat.succ_pos _
        have el : (((ys.map V.ref).length : Nat) : Int) = (ys.length : Int) := by rw [List.length_map]
        refine ⟨_, rfl, .inl ⟨rfl, _, sq hf4⟩, ?_⟩
        refine ⟨_, rfl, .inl ⟨rfl, _, sq hb4⟩, ?_⟩
        refine ⟨_, rfl, _, rfl, b, _, rfl, .inl (sq hb4), z, c, cells, t', _, rfl, P4, by omega, by rw [el]; omega, by rw [el]; omega, fun m H5 n0 n1 P5 f5 => ?_⟩
        rw [el] at n1
        obtain ⟨i, rfl⟩ : ∃ i : Nat, m = (i : Int) := ⟨m.toNat, by omega⟩
        have hi : i < ys.length := by omega
        obtain ⟨p, pv_, hp, hpv, Wp⟩ := W3.get hi
        have gp : (ys.map V.ref)[i]? = some (.ref p) := by rw [List.getElem?_map, hp] <;> rfl
        have hb5 := f5 _ _ bn.1 hb4
        have hf5 := f5 _ _ fn.1 hf4
        refine ⟨b, _, _, i, _, rfl, rfl, hb5, by omega, by omega, seqIx (by rw [List.length_map]; exact hi), gp, ?_⟩
        refine ⟨f, _, _, rfl, rfl, by rw [upd_ne fb]; exact hf5, by rw [List.length_map]; exact Nat.lt_of_lt_of_le (show zs.length < 100 by omega) (by decide), ?_⟩
        refine ⟨⟨t' + 1, ys.eraseIdx i, zs ++ [p], ws.eraseIdx i, vs ++ [pv_], rfl, (P5.upd bn.1 bn.2).upd fn.1 fn.2, ?_, ((f4.trans f5).mut nb).mut nf0, ?_, ?_, W3.erase i, V3.app (.cons Wp .nil), ?_, ?_⟩, ?_⟩
        · rw [List.length_eraseIdx_of_lt hi]
          omega
        · rw [upd_ne fb.symm, upd_same, erase_map]
        · rw [upd_same, List.map_append]
          all_goals rfl
        · rw [List.length_eraseIdx_of_lt hi, List.length_append]
          show ys.length - 1 + (zs.length + 1) = xs.length
          omega
        · have e := sum_erase hpv
          rw [List.sum_append]
          show (ws.eraseIdx i).sum + (vs.sum + (pv_ + 0)) = us.sum
          omega
        · rw [upd_ne fb.symm, upd_same, hb3]
          show ((ys.map V.ref).eraseIdx i).length < (ys.map V.ref).length
          rw [List.length_eraseIdx_of_lt (by rw [List.length_map]; exact hi), List.length_map]
          omega
    · rintro σ' H' Q1 Q2 hq ⟨v, e, sz, h⟩
      exact ⟨v, e, sz, fun p hp => let ⟨a, b, xs, e1, e2, h1, h2, kk, ek, q⟩ := h p hp; ⟨a, b, xs, e1, e2, h1, h2, kk, ek, hq _ _ q⟩⟩
theorem ok_law_pair_right (T : Tx K mg) : FnOk P w K mg base CX0 9 T.f_law_pair_right.a T.f_law_pair_right.fd ["_law_width_here", "_law_one", "_law_other", "_law_times"] (spPair T.k_Word.C) := by
  refine T.f_law_pair_right.F.ok sc_law_pair_right (fun vs H Q E h => ?_) (fun cdv A outer s H vs Q E hr h => ?_)
  · obtain ⟨x, y, wd, u, v, n, rfl, _⟩ := h
    rfl
  · obtain ⟨x, y, wd, u, v, n, rfl, Wx, Wy, n0, n1, k⟩ := h
    obtain ⟨_, w1, w64, u0, um⟩ := id Wx
    have v0 := Wy.v0
    have vm := Wy.vm
    have hM := mw_pos w1
    have n2 : n ≤ 1000000000000000000000000000000 := by omega
    refine ⟨_, (pss_cons (ps_set (i := 4) sc_law_pair_right.nd rfl (Or.inl rfl) (pe_op (TzOwn.op_own (ok_Word_add_ T) (hr.mono (by decide)) T.f_Word_add_.M (by decide +kernel) T.x_Word.sf (bd_Word_add_ T) pass0) (pv 1) (pv 2)))
      (pss_cons (ps_if (PW.pt (pw_or (pt_not (pt_cmpR (TzOwn.cmp_own (ok_Word_eq_ T) (hr.mono (by decide)) T.f_Word_eq_.M rfl rfl (bd_Word_eq_ T) pass0) (pe_op (TzOwn.op_iown (ok_Word_rmul_int T) (hr.mono (by decide)) T.f_Word_rmul_.M (by decide +kernel) T.f_Word_mul_.M (by decide +kernel) T.x_Word.sf (bd_Word_rmul_ T) pass0 T.x_Word.sw PySem.F.fills_int_mul PySem.F.slot_int_mul PySem.F.entry_int_mul (fun _ _ _ => PySem.F.args_int_mul_2 _ _) (fun n t x dx => TzOwn.int_mul_ins n t x _ dx)) (pv 3) (pv 4)) (pe_op (TzOwn.op_own (ok_Word_add_ T) (hr.mono (by decide)) T.f_Word_add_.M (by decide +kernel) T.x_Word.sf (bd_Word_add_ T) pass0) (pe_op (TzOwn.op_iown (ok_Word_rmul_int T) (hr.mono (by decide)) T.f_Word_rmul_.M (by decide +kernel) T.f_Word_mul_.M (by decide +kernel) T.x_Word.sf (bd_Word_rmul_ T) pass0 T.x_Word.sw PySem.F.fills_int_mul PySem.F.slot_int_mul PySem.F.entry_int_mul (fun _ _ _ => PySem.F.args_int_mul_2 _ _) (fun n t x dx => TzOwn.int_mul_ins n t x _ dx)) (pv 3) (pv 1)) (pe_op (TzOwn.op_iown (ok_Word_rmul_int T) (hr.mono (by decide)) T.f_Word_rmul_.M (by decide +kernel) T.f_Word_mul_.M (by decide +kernel) T.x_Word.sf (bd_Word_rmul_ T) pass0 T.x_Word.sw PySem.F.fills_int_mul PySem.F.slot_int_mul PySem.F.entry_int_mul (fun _ _ _ => PySem.F.args_int_mul_2 _ _) (fun n t x dx => TzOwn.int_mul_ins n t x _ dx)) (pv 3) (pv 2))) (nomark _))) (pw_or1 (pt_not (pt_cmpR (TzOwn.cmp_own (ok_Word_eq_ T) (hr.mono (by decide)) T.f_Word_eq_.M rfl rfl (bd_Word_eq_ T) pass0) (pe_op (TzOwn.op_ownI (ok_Word_lshift_int T) (hr.mono (by decide)) T.f_Word_lshift_.M (by decide +kernel) T.x_Word.sf (bd_Word_lshift_ T) pass0 (by decide +kernel) T.n_Word___rlshift__ (.inl rfl) T.i_int_lshift.h1 T.i_int_lshift.h2 T.x_Word.si) (pv 4) (pv 3)) (pe_op (TzOwn.op_own (ok_Word_add_ T) (hr.mono (by decide)) T.f_Word_add_.M (by decide +kernel) T.x_Word.sf (bd_Word_add_ T) pass0) (pe_op (TzOwn.op_ownI (ok_Word_lshift_int T) (hr.mono (by decide)) T.f_Word_lshift_.M (by decide +kernel) T.x_Word.sf (bd_Word_lshift_ T) pass0 (by decide +kernel) T.n_Word___rlshift__ (.inl rfl) T.i_int_lshift.h1 T.i_int_lshift.h2 T.x_Word.si) (pv 1) (pv 3)) (pe_op (TzOwn.op_ownI (ok_Word_lshift_int T) (hr.mono (by decide)) T.f_Word_lshift_.M (by decide +kernel) T.x_Word.sf (bd_Word_lshift_ T) pass0 (by decide +kernel) T.n_Word___rlshift__ (.inl rfl) T.i_int_lshift.h1 T.i_int_lshift.h2 T.x_Word.si) (pv 2) (pv 3))) (nomark _)))))) (pss_one (ps_ret pe_bl)) pss_nil)
      (pss_cons (ps_if (PW.pt (pw_or (pt_not (pt_val (pe_meth (pe_un (TzOwn.un_inv_own (ok_Word_invert_ T) (hr.mono (by decide)) T.f_Word_invert_.M rfl (bd_Word_invert_ T) pass0) (pv 4)) T.k_Word.cl T.f_Word_like.M (ok_Word_like T) (hr.mono (by decide)) (bd_Word_like T) .nil pass0 (pa_cons (pe_op (TzOwn.op_own (ok_Word_add_ T) (hr.mono (by decide)) T.f_Word_add_.M (by decide +kernel) T.x_Word.sf (bd_Word_add_ T) pass0) (pe_un (TzOwn.un_inv_own (ok_Word_invert_ T) (hr.mono (by decide)) T.f_Word_invert_.M rfl (bd_Word_invert_ T) pass0) (pv 1)) (pe_un (TzOwn.un_inv_own (ok_Word_invert_ T) (hr.mono (by decide)) T.f_Word_invert_.M rfl (bd_Word_invert_ T) pass0) (pv 2))) pa_nil)))) (pw_or (pt_not (pt_cmpR (TzOwn.cmp_own (ok_Word_eq_ T) (hr.mono (by decide)) T.f_Word_eq_.M rfl rfl (bd_Word_eq_ T) pass0) (pe_un (TzOwn.un_inv_own (ok_Word_invert_ T) (hr.mono (by decide)) T.f_Word_invert_.M rfl (bd_Word_invert_ T) pass0) (pe_op (TzOwn.op_ownI (ok_Word_lshift_int T) (hr.mono (by decide)) T.f_Word_lshift_.M (by decide +kernel) T.x_Word.sf (bd_Word_lshift_ T) pass0 (by decide +kernel) T.n_Word___rlshift__ (.inl rfl) T.i_int_lshift.h1 T.i_int_lshift.h2 T.x_Word.si) (pv 1) (pv 3))) (pe_op (TzOwn.op_ownI (ok_Word_lshift_int T) (hr.mono (by decide)) T.f_Word_lshift_.M (by decide +kernel) T.x_Word.sf (bd_Word_lshift_ T) pass0 (by decide +kernel) T.n_Word___rlshift__ (.inl rfl) T.i_int_lshift.h1 T.i_int_lshift.h2 T.x_Word.si) (pe_un (TzOwn.un_inv_own (ok_Word_invert_ T) (hr.mono (by decide)) T.f_Word_invert_.M rfl (bd_Word_invert_ T) pass0) (pv 1)) (pv 3)) (nomark _))) (pw_or1 (pt_not (pt_cmpR (TzOwn.cmp_own (ok_Word_eq_ T) (hr.mono (by decide)) T.f_Word_eq_.M rfl rfl (bd_Word_eq_ T) pass0) (pe_un (TzOwn.un_inv_own (ok_Word_invert_ T) (hr.mono (by decide)) T.f_Word_invert_.M rfl (bd_Word_invert_ T) pass0) (pe_un (TzOwn.un_inv_own (ok_Word_invert_ T) (hr.mono (by decide)) T.f_Word_invert_.M rfl (bd_Word_invert_ T) pass0) (pv 1))) (pv 1) (nomark _))))))) (pss_one (ps_ret pe_bl)) pss_nil)
      (pss_cons (ps_if (PW.pt (pw_or (pt_not (pt_val (pe_fld (pe_op (TzOwn.op_own (ok_Word_add_ T) (hr.mono (by decide)) T.f_Word_add_.M (by decide +kernel) T.x_Word.sf (bd_Word_add_ T) pass0) (pv 1) (pe_un (TzOwn.un_inv_own (ok_Word_invert_ T) (hr.mono (by decide)) T.f_Word_invert_.M rfl (bd_Word_invert_ T) pass0) (pv 1))) rfl))) (pw_or (pt_not (pt_val (pe_fld (pe_op (TzOwn.op_own (ok_Word_sub_ T) (hr.mono (by decide)) T.f_Word_sub_.M (by decide +kernel) T.x_Word.sf (bd_Word_sub_ T) pass0) (pv 1) (pv 1)) rfl))) (pw_or1 (pt_not (pt_cmpR (TzOwn.cmp_own (ok_Word_eq_ T) (hr.mono (by decide)) T.f_Word_eq_.M rfl rfl (bd_Word_eq_ T) pass0) (pe_op (TzOwn.op_own (ok_Word_sub_ T) (hr.mono (by decide)) T.f_Word_sub_.M (by decide +kernel) T.x_Word.sf (bd_Word_sub_ T) pass0) (pv 1) (pv 2)) (pe_op (TzOwn.op_own (ok_Word_add_ T) (hr.mono (by decide)) T.f_Word_add_.M (by decide +kernel) T.x_Word.sf (bd_Word_add_ T) pass0) (pv 1) (pe_un (TzOwn.un_inv_own (ok_Word_invert_ T) (hr.mono (by decide)) T.f_Word_invert_.M rfl (bd_Word_invert_ T) pass0) (pv 2))) (nomark _))))))) (pss_one (ps_ret pe_bl)) pss_nil)
      (pss_cons (ps_set (i := 5) sc_law_pair_right.nd rfl (Or.inl rfl) (TzOwn.pe_smeth (pe_glob (v := .ref T.k_Word.C) (by rfl) T.k_Word.m rfl) T.x_Word.rd T.f_Word_full.S (ok_Word_full T) (hr.mono (by decide)) (bd_Word_full T) pass0 (pa_cons (pv 0) pa_nil)))
      (pss_one (ps_ret (pe_and (pe_cmpR (TzOwn.cmp_own (ok_Word_eq_ T) (hr.mono (by decide)) T.f_Word_eq_.M rfl rfl (bd_Word_eq_ T) pass0) (pe_op (TzOwn.op_own (ok_Word_add_ T) (hr.mono (by decide)) T.f_Word_add_.M (by decide +kernel) T.x_Word.sf (bd_Word_add_ T) pass0) (pv 5) (pv 1)) (pe_ix ix_list (pe_lst (pa_cons (pv 1) (pa_cons (pv 5) pa_nil))) (pe_callTy call_int1 (by rfl) T.b_int (by decide +kernel) (pa_cons (pe_cmpR op_eq (pe_fld (pv 1) rfl) pe_int (nomark _)) pa_nil)) (fun _ _ => rfl)) (nomark _)) (pe_one (pe_cmpR (TzOwn.cmp_own (ok_Word_eq_ T) (hr.mono (by decide)) T.f_Word_eq_.M rfl rfl (bd_Word_eq_ T) pass0) (pe_op (TzOwn.op_own (ok_Word_add_ T) (hr.mono (by decide)) T.f_Word_add_.M (by decide +kernel) T.x_Word.sf (bd_Word_add_ T) pass0) (TzOwn.pe_smeth (pe_glob (v := .ref T.k_Word.C) (by rfl) T.k_Word.m rfl) T.x_Word.rd T.f_Word_empty.S (ok_Word_empty T) (hr.mono (by decide)) (bd_Word_empty T) pass0 (pa_cons (pv 0) pa_nil)) (pv 1)) (pv 1) (nomark _))))))))))), ?_⟩
    -- both
    refine ⟨_, rfl, _, rfl, g_add Wx Wy fun bo H1 _ e1 Wb => ?_⟩
    -- multiples of sums
    refine ⟨_, rfl, _, rfl, g_rmul Wb n0 n2 fun a1 H2 _ e2 W1 => ?_⟩
    have E2 := e1.trans e2
    refine ⟨_, rfl, _, rfl, g_rmul (Wx.ex E2) n0 n2 fun a2 H3 _ e3 W2 => ?_⟩
    have E3 := E2.trans e3
    refine ⟨_, rfl, _, rfl, g_rmul (Wy.ex E3) n0 n2 fun a3 H4 _ e4 W3 => ?_⟩
    refine g_add (W2.ex e4) W3 fun a4 H5 _ e5 W4 => ?_
    have E5 := (E3.trans e4).trans e5
    refine g_eqT (W1.ex ((e3.trans e4).trans e5)) W4 ?_ ⟨_, rfl, iteF ?_⟩
    · rw [cr_mul w1 n0 (by omega), cr_add2 w1 (Int.mul_nonneg n0 u0) (Int.mul_nonneg n0 v0), Int.mul_add]
    -- turns of sums
    refine ⟨_, rfl, _, rfl, g_shl (Wb.ex (((e2.trans e3).trans e4).trans e5)) n0 n2 fun a1 H6 _ e6 W1 => ?_⟩
    have E6 := E5.trans e6
    refine ⟨_, rfl, _, rfl, g_shl (Wx.ex E6) n0 n2 fun a2 H7 _ e7 W2 => ?_⟩
    have E7 := E6.trans e7
    refine ⟨_, rfl, _, rfl, g_shl (Wy.ex E7) n0 n2 fun a3 H8 _ e8 W3 => ?_⟩
    refine g_add (W2.ex e8) W3 fun a4 H9 _ e9 W4 => ?_
    have E9 := (E7.trans e8).trans e9
    have Wb9 := Wb.ex (((((((e2.trans e3).trans e4).trans e5).trans e6).trans e7).trans e8).trans e9)
    refine g_eqT (W1.ex ((e7.trans e8).trans e9)) W4 ?_ ⟨_, rfl, iteF ?_⟩
    · rw [cr_shl w1 _ (by omega), cr_add2 w1 (Int.mul_nonneg u0 (two_pow_nn _)) (Int.mul_nonneg v0 (two_pow_nn _)), Int.add_mul]
    clear W1 W2 W3 W4 e2 e3 e4 e5 e6 e7 e8 e9 E2 E3 E5 E6 E7 Wb
    -- complements: the rest of a sum
    have nl : (wf wd (mw wd - cr wd (u + v))).lookup ("like" : Str) = none := wf_no _ _ (by decide +kernel) (by decide +kernel) (by decide +kernel) (by decide +kernel) (by decide +kernel)
    refine ⟨_, rfl, g_inv Wb9 fun a1 G1 _ e1 W1 => ?_⟩
    obtain ⟨da, ha⟩ := W1.ob
    refine ⟨a1, da, _, rfl, ha, nl, ?_⟩
    have F1 := E9.trans e1
    refine ⟨_, rfl, g_inv (Wx.ex F1) fun a2 G2 _ e2 W2 => ?_⟩
    have F2 := F1.trans e2
    refine ⟨_, rfl, g_inv (Wy.ex F2) fun a3 G3 _ e3 W3 => ?_⟩
    refine g_add (W2.ex e3) W3 fun a4 G4 _ e4 W4 => ?_
    refine ⟨a1, a4, wd, _, _, rfl, W1.ex ((e2.trans e3).trans e4), W4, ?_⟩
    rw [decide_eq_true (inv_like w1 u0 um v0 vm)]
    refine ⟨_, rfl, iteF ?_⟩
    have F4 := (F2.trans e3).trans e4
    -- .. of turns
    refine ⟨_, rfl, _, rfl, g_shl (Wx.ex F4) n0 n2 fun a1 G5 _ e5 W1 => ?_⟩
    refine g_inv W1 fun a2 G6 _ e6 W2 => ?_
    have F6 := (F4.trans e5).trans e6
    refine ⟨_, rfl, g_inv (Wx.ex F6) fun a3 G7 _ e7 W3 => ?_⟩
    refine ⟨_, rfl, g_shl W3 n0 n2 fun a4 G8 _ e8 W4 => ?_⟩
    have F8 := (F6.trans e7).trans e8
    refine g_eqT (W2.ex (e7.trans e8)) W4 (inv_shl w1 _ u0 um) ⟨_, rfl, iteF ?_⟩
    -- .. twice
    refine ⟨_, rfl, g_inv (Wx.ex F8) fun a1 G9 _ e9 W1 => ?_⟩
    refine g_inv W1 fun a2 J1 _ i1 W2 => ?_
    have F9 := (F8.trans e9).trans i1
    refine ⟨_, rfl, g_eqT W2 (Wx.ex F9) (by omega) ⟨_, rfl, iteF ?_⟩⟩
    clear W1 W2 W3 W4 e1 e2 e3 e4 e5 e6 e7 e8 e9 i1 F1 F2 F4 F6 F8
    -- a word and its complement
    have full : cr wd (u + (mw wd - u)) = mw wd := by
      rw [show u + (mw wd - u) = mw wd by omega, cr_self (by omega) (by omega)]
    have fb : (mw wd == mw wd) = true := beq_self_eq_true _
    refine ⟨_, rfl, _, rfl, g_inv (Wx.ex F9) fun a1 J2 _ i2 W1 => ?_⟩
    refine g_add ((Wx.ex F9).ex i2) W1 fun a2 J3 _ i3 W2 => ?_
    rw [full] at W2
    obtain ⟨da, ha⟩ := W2.ob
    refine ⟨a2, _, da, _, _, rfl, ha, T.k_Word.cl, T.n_Word_is_full, wf_is_full _ _, ?_⟩
    rw [fb]
    refine ⟨_, rfl, iteF ?_⟩
    have F3 := (F9.trans i2).trans i3
    refine ⟨_, rfl, _, rfl, g_sub (Wx.ex F3) (Wx.ex F3) fun a1 J4 _ i4 W1 => ?_⟩
    rw [full] at W1
    obtain ⟨da, ha⟩ := W1.ob
    refine ⟨a1, _, da, _, _, rfl, ha, T.k_Word.cl, T.n_Word_is_full, wf_is_full _ _, ?_⟩
    rw [fb]
    refine ⟨_, rfl, iteF ?_⟩
    have F4 := F3.trans i4
    refine ⟨_, rfl, _, rfl, g_sub (Wx.ex F4) (Wy.ex F4) fun a1 J5 _ i5 W1 => ?_⟩
    have F5 := F4.trans i5
    refine ⟨_, rfl, _, rfl, g_inv (Wy.ex F5) fun a2 J6 _ i6 W2 => ?_⟩
    refine g_add ((Wx.ex F5).ex i6) W2 fun a3 J7 _ i7 W3 => ?_
    refine g_eqT (W1.ex (i6.trans i7)) W3 rfl ⟨_, rfl, iteF ?_⟩
    have F7 := (F5.trans i6).trans i7
    clear W1 W2 W3 i2 i3 i4 i5 i6 i7 F3 F4 F5 F9
    -- full and a word
    refine ⟨rfl, _, rfl, wd, rfl, w1, w64, fun br L1 _ j1 Wf => ?_⟩
    have D1 := F7.trans j1
    refine ⟨_, rfl, _, rfl, g_add Wf (Wx.ex D1) fun a1 L2 _ j2 W1 => ?_⟩
    have D2 := D1.trans j2
    refine ⟨_, rfl, _, rfl, by show 2 ≤ sizeLine; decide, fun l nl => ?_⟩
    (generalize g_L3 : upd _ l _ = L3); have hl := gat g_L3; have j3 := gex g_L3 nl; clear g_L3
    have D3 := D2.trans j3
    obtain ⟨dx, hx⟩ := (Wx.ex D3).ob
    refine ⟨_, rfl, x, _, dx, _, _, rfl, hx, T.k_Word.cl, T.n_Word_value, wf_value _ _, rfl, .inr ⟨_, rfl, ?_⟩⟩
    have it : ∃ c, atI [V.ref x, V.ref br] (if decide (V.int u = V.int 0) = true then 1 else 0) = some (.ref c) ∧ WordAt T.k_Word.C L3 c wd (cr wd (mw wd + u)) := by
      rw [dec_int]
      by_cases e : u = 0
      · subst e
        refine ⟨br, rfl, ?_⟩
        rw [Int.add_zero, cr_self (by omega) (by omega)]
        exact (Wf.ex j2).ex j3
      · have e2 : (u == 0) = false := beq_eq_false_iff_ne.mpr e
        rw [e2]
        refine ⟨x, rfl, ?_⟩
        rw [cr_eq (r := u) (q := 1) (by omega) (by omega) (by omega) (by omega)]
        exact Wx.ex D3
    obtain ⟨c, hc, Wc⟩ := it
    refine ⟨l, _, _, _, rfl, rfl, sq hl, hc, ?_⟩
    refine g_eqT (W1.ex j3) Wc rfl ⟨_, rfl, iteT ?_⟩
    refine ⟨rfl, _, rfl, wd, rfl, w1, w64, fun em L4 _ j4 We => ?_⟩
    have D4 := D3.trans j4
    refine ⟨_, rfl, g_add We (Wx.ex D4) fun a L5 _ j5 Wa => ?_⟩
    have D5 := D4.trans j5
    refine ⟨_, rfl, g_eqT Wa (Wx.ex D5) (by rw [Int.zero_add, cr_self u0 um]) (k _ D5)⟩
theorem ok_law (T : Tx K mg) : FnOk P w K mg base CX0 10 T.f_law.a T.f_law.fd ["_law_script"] (spLaw K) := by
  refine T.f_law.F.ok sc_law (fun vs H Q E h => ?_) (fun cdv A outer s H vs Q E hr h => ?_)
  · obtain ⟨a, ns, rfl, _⟩ := h
    rfl
  · obtain ⟨a, ns, rfl, hS, hl, k⟩ := h
    refine ⟨_, (pss_cons (ps_set (i := 1) sc_law.nd rfl (Or.inr rfl) (pe_call (ok_law_pen T) (hr.mono (by decide)) (by rfl) T.f_law_pen.m T.f_law_pen.F.kp (bd_law_pen T) .nil pass0 (pa_cons (pv 0) pa_nil)))
      (pss_cons (ps_for PassesOwn.never rfl (pi_range1 (by rfl) T.b_range (pa_cons pe_int pa_nil)) (pg_name (i := 2) sc_law.nd rfl (Or.inr rfl)) (pss_cons (ps_set (i := 3) sc_law.nd rfl (Or.inr rfl) (pe_call (ok_law_width T) (hr.mono (by decide)) (by rfl) T.f_law_width.m T.f_law_width.F.kp (bd_law_width T) .nil pass0 (pa_cons (pv 1) pa_nil)))
      (pss_cons (ps_par (i := 4) (j := 5) (by rfl) sc_law.nd rfl rfl (by decide) rfl rfl (pa_cons (pe_op op_sub (pe_op op_shl pe_int (pv 3)) pe_int) (pa_cons (pe_op op_add pe_int (pe_call (ok_law_draw T) (hr.mono (by decide)) (by rfl) T.f_law_draw.m T.f_law_draw.F.kp (bd_law_draw T) .nil pass0 (pa_cons (pv 1) (pa_cons pe_int pa_nil)))) pa_nil)) (by rfl))
      (pss_cons (ps_setLc (i := 6) (own := [("_law_k", 11)]) (g := gName 11) (tt := tYes) rfl sc_law.nd rfl rfl (sw_true rfl rfl rfl (by decide +kernel)) (pi_range1 (by rfl) T.b_range (pa_cons (pv 5) pa_nil)) (blkOk_by (own := [("_law_k", 11)]) (N := ["_law_script", "_law_pen_here", "_law_turn", "_law_width_here", "_law_top", "_law_many", "_law_values", "_law_words", "_law_due", "_law_again", "_law_found", "_law_k", "_law_value_here"]) (sc := defScope s_law) (by decide +kernel)) (fun _ _ _ _ _ => pg_name (i := 11) sc_law.nd rfl (Or.inl rfl)) (fun _ _ _ _ _ => pts_nil) (fun _ _ _ _ _ => (pe_op op_mul (pe_call (ok_law_value T) (hr.mono (by decide)) (by rfl) T.f_law_value.m T.f_law_value.F.kp (bd_law_value T) .nil pass0 (pa_cons (pv 1) (pa_cons (pv 3) pa_nil))) (pe_callTy call_int1 (by rfl) T.b_int (by decide +kernel) (pa_cons (pe_cmpR op_ne (pv 2) pe_int (nomark _)) pa_nil)))))
      (pss_cons (ps_setLc (i := 7) (own := [("_law_value_here", 12)]) (g := gName 12) (tt := tYes) rfl sc_law.nd rfl rfl (sw_true rfl rfl rfl (by decide +kernel)) (pi_list (pv 6)) (blkOk_by (own := [("_law_value_here", 12)]) (N := ["_law_script", "_law_pen_here", "_law_turn", "_law_width_here", "_law_top", "_law_many", "_law_values", "_law_words", "_law_due", "_law_again", "_law_found", "_law_k", "_law_value_here"]) (sc := defScope s_law) (by decide +kernel)) (fun _ _ _ _ _ => pg_name (i := 12) sc_law.nd rfl (Or.inl rfl)) (fun _ _ _ _ _ => pts_nil) (fun _ _ _ _ _ => (pe_make (mk_Word T) (ok_Word_init_ T) (hr.mono (by decide)) (by rfl) T.k_Word.m (bd_Word_init_ T) .nil pass0 (pa_cons (pv 3) (pa_cons (pv 12) pa_nil)))))
      (pss_cons (ps_set (i := 8) sc_law.nd rfl (Or.inl rfl) pe_int)
      (Evl.pss_cut (ps_if (pt_cmpR op_gt (pe_callB (cr_sum rfl) (by rfl) T.b_sum (by decide +kernel) (pa_cons (pv 6) pa_nil)) pe_int (nomark _)) (pss_one (ps_set (i := 8) sc_law.nd rfl (Or.inl rfl) (pe_op op_add (pe_op op_mod (pe_callTy call_int1 (by rfl) T.b_int (by decide +kernel) (pa_cons (pe_op op_sub (pe_callB (cr_sum rfl) (by rfl) T.b_sum (by decide +kernel) (pa_cons (pv 6) pa_nil)) pe_int) pa_nil)) (pv 4)) pe_int))) pss_nil)
      (pss_cons (ps_for PassesOwn.never rfl (pi_range1 (by rfl) T.b_range (pa_cons pe_int pa_nil)) (pg_name (i := 9) sc_law.nd rfl (Or.inl rfl)) (pss_cons (ps_set (i := 10) sc_law.nd rfl (Or.inl rfl) (pe_call (ok_law_grouped T) (hr.mono (by decide)) (by rfl) T.f_law_grouped.m T.f_law_grouped.F.kp (bd_law_grouped T) .nil pass0 (pa_cons (pv 1) (pa_cons (pe_call (ok_law_mixed T) (hr.mono (by decide)) (by rfl) T.f_law_mixed.m T.f_law_mixed.F.kp (bd_law_mixed T) .nil pass0 (pa_cons (pv 1) (pa_cons (pv 7) pa_nil))) pa_nil))))
      (pss_one (ps_if (PW.pt (pw_or (pt_cmpR op_ne (pe_fld (pv 10) rfl) (pv 8) (nomark _)) (pw_or (pt_cmpR op_ne (pe_fld (pv 10) rfl) (pv 3) (nomark _)) (pw_or1 (pt_cmpR op_ne (pe_fld (pv 10) rfl) (pe_cmpR (op_eqD hr.units) (pv 6) (pe_op op_rep (pe_lst (pa_cons pe_int pa_nil)) (pv 5)) (nomark _)) (nomark _)))))) (pss_one (ps_ret pe_bl)) pss_nil))))
      (pss_one (ps_if (pt_not (pt_val (pe_call (ok_law_pair_right T) (hr.mono (by decide)) (by rfl) T.f_law_pair_right.m T.f_law_pair_right.F.kp (bd_law_pair_right T) .nil pass0 (pa_cons (pv 3) (pa_cons (pe_ix ix_list (pv 7) pe_int (fun _ _ => rfl)) (pa_cons (pe_ix ix_list (pv 7) (pe_un un_neg pe_int) (fun _ _ => rfl)) (pa_cons (pe_call (ok_law_draw T) (hr.mono (by decide)) (by rfl) T.f_law_draw.m T.f_law_draw.F.kp (bd_law_draw T) .nil pass0 (pa_cons (pv 1) (pa_cons pe_int pa_nil))) pa_nil))))))) (pss_one (ps_ret pe_bl)) pss_nil))))))))))
      (pss_one (ps_ret pe_bl)))), ?_⟩
    refine ⟨_, rfl, a, ns, rfl, hS, hl, fun z c H1 P1 e1 nz nc => ?_⟩
    refine ⟨4, rfl, by decide, by decide, for_range (n := 4) (fun i σ' H' => PenAt H' z c ns (i * 200) ∧ ∃ o2 o3 o4 o5 o6 o7 o8 o9 o10 o11 o12, σ' = [some (.ref a), some (.ref z), o2, o3, o4, o5, o6, o7, o8, o9, o10, o11, o12]) ⟨P1, _, _, _, _, _, _, _, _, _, _, _, rfl⟩ ?_ ?_⟩
    · rintro i σ' H2 hi ⟨P2, o2, o3, o4, o5, o6, o7, o8, o9, o10, o11, o12, rfl⟩
      refine ⟨_, rfl, z, c, ns, i * 200, rfl, P2, by omega, fun wd H3 w1 w64 P3 f3 => ?_⟩
      obtain ⟨wd, rfl⟩ : ∃ n : Nat, wd = (n : Int) := ⟨wd.toNat, by omega⟩
      have P3 : PenAt H3 z c ns (i * 200 + 2) := P3
      refine ⟨_, rfl, _, _, rfl, rfl, ⟨by omega, by omega, by decide⟩, _, _, rfl, rfl, _, rfl, z, c, ns, i * 200 + 2, 7, rfl, P3, by omega, by decide, by decide, fun m H4 m0 m1 P4 f4 => ?_⟩
      refine ⟨_, _, rfl, rfl, ?_⟩
      have et : (1 : Int) * 2 ^ (wd : Int).toNat - 1 = mw wd := by
        rw [Int.one_mul, Int.toNat_natCast]
        all_goals rfl
      dsimp only
      rw [et]
      obtain ⟨n, hn⟩ : ∃ n : Nat, 1 + m = (n : Int) := ⟨(1 + m).toNat, by omega⟩
      rw [hn]
      have n1 : 1 ≤ n := by omega
      have n8 : n ≤ 7 := by omega
      refine ⟨_, _, rfl, ?_⟩
      have wd1 : 1 ≤ wd := by omega
      have wd64 : wd ≤ 64 := by omega
      have hM := mw_pos wd1
      -- the values
      refine ⟨_, rfl, n, rfl, by omega, by omega, fun D nD => lc_range (lo := 0) (n := ((n : Int)).toNat) (fun j H' => PenAt H' z c ns (i * 200 + 3 + 3 * j) ∧ ∃ vs : List Int, H' D = some (.lst (vs.map V.int)) ∧ vs.length = j ∧ ∀ v ∈ vs, 0 ≤ v ∧ v ≤ mw wd) ?_ ?_ ?_⟩
      · have b := P4.off nD
        exact ⟨(P4.upd b.1 b.2).mono (by omega), [], upd_same, rfl, fun v hv => by cases hv⟩
      · rintro j H5 hj ⟨P5, vs, hD, hlen, hvs⟩
        rw [Int.toNat_natCast] at hj
        refine ⟨rfl, yes_go ?_⟩
        refine ⟨_, rfl, _, rfl, z, c, ns, _, wd, rfl, P5, by omega, wd1, wd64, fun v H6 v0 v1 P6 f6 => ?_⟩
        refine ⟨_, rfl, rfl, .inr ⟨_, rfl, ?_⟩⟩
        have b := P4.off nD
        have hD6 := f6 _ _ b.1 hD
        generalize hb : (!decide (V.int (0 + (i : Int)) = V.int 1)) = bb
        refine ⟨_, _, rfl, rfl, .inr (by cases bb <;> exact ⟨by decide, by decide⟩), ?_⟩
        refine ⟨_, hD6, by rw [List.length_map]; exact Nat.lt_of_lt_of_le (show vs.length < 100 by omega) (by decide), (P6.upd b.1 b.2).mono (by omega), vs ++ [v * (if bb = true then 1 else 0)], ?_, ?_, ?_⟩
        · rw [upd_same, List.map_append]
          all_goals rfl
        · rw [List.length_append]
          show vs.length + 1 = j + 1
          omega
        · intro x hx
          rcases List.mem_append.mp hx with hx | hx
          · exact hvs x hx
          · rw [List.mem_singleton.mp hx]
            have v1' := mw_lt.mp v1
            cases bb
            · show 0 ≤ v * 0 ∧ v * 0 ≤ mw wd
              rw [Int.mul_zero]
              omega
            · show 0 ≤ v * 1 ∧ v * 1 ≤ mw wd
              rw [Int.mul_one]
              omega
      rintro H5 ⟨P5, vs, hD, hlen, hvs⟩
      rw [Int.toNat_natCast] at P5 hlen
      -- the words
      refine ⟨_, rfl, D, rfl, ⟨_, sq hD⟩, fun D2 nD2 => lc_list (K := K) (a := D) (xs := vs.map V.int) (fun j H' => PenAt H' z c ns (i * 200 + 30) ∧ H' D = some (.lst (vs.map V.int)) ∧ ∃ ws : List Addr, H' D2 = some (.lst (ws.map V.ref)) ∧ ws.length = j ∧ Ws T.k_Word.C H' wd ws (vs.take j)) ?_ (fun j H' _ h => sq h.2.1) ?_ ?_⟩
      · have b := P5.off nD2
        exact ⟨(P5.upd b.1 b.2).mono (by omega), by rw [upd_ne (ne_of_none hD nD2)]; exact hD, [], upd_same, rfl, by rw [List.take_zero]; exact .nil⟩
      · rintro j y H6 hy ⟨P6, hD6, ws, hD2, wl, W6⟩
        have DD : D ≠ D2 := ne_of_none hD nD2
        have jl : j < vs.length := by
          have := (List.getElem?_eq_some_iff.mp hy).1
          rwa [List.length_map] at this
        have ey : y = .int vs[j] := by
          rw [List.getElem?_map, List.getElem?_eq_getElem jl] at hy
          exact (Option.some.inj hy).symm
        subst ey
        refine ⟨rfl, yes_go ?_⟩
        have vb := hvs vs[j] (List.getElem_mem jl)
        refine ⟨_, rfl, _, rfl, fun p dp np ndp _ => mk_word1 wd1 wd64 vb.1 vb.2 np ndp fun H7 e7 Wp => ⟨rfl, ?_⟩⟩
        have b := P5.off nD2
        have hD27 := e7 _ _ hD2
        refine ⟨_, hD27, by rw [List.length_map]; exact Nat.lt_of_lt_of_le (show ws.length < 100 by omega) (by decide), ((P6.ex e7).upd b.1 b.2), by rw [upd_ne DD]; exact e7 _ _ hD6, ws ++ [p], ?_, ?_, ?_⟩
        · rw [upd_same, List.map_append]
          all_goals rfl
        · rw [List.length_append]
          show ws.length + 1 = j + 1
          omega
        · rw [List.take_succ_eq_append_getElem jl]
          exact (W6.fw fun _ _ h => (h.ex e7).off hD27).app (.cons (Wp.off hD27) .nil)
      rintro H6 ⟨P6, hD6, ws, hD2, wl, W6⟩
      rw [List.length_map] at wl W6
      rw [List.take_length] at W6
      have s0 := W6.nonneg
      have DD : D2 ≠ z := by
        obtain ⟨⟨i, q, h1, _⟩, _⟩ := P5
        exact (ne_of_none h1 nD2).symm
      have Dz : D ≠ z := (P4.off nD).1
      -- what is due
      refine ⟨fun σ' H' => σ' = [some (.ref a), some (.ref z), some (.int (0 + (i : Int))), some (.int wd), some (.int (mw wd)), some (.int n), some (.ref D), some (.ref D2), some (.int (cr wd vs.sum)), o9, o10, o11, o12] ∧ H' = H6, ?_, ?_⟩
      · refine ⟨_, rfl, D, vs, rfl, sq hD6, _, _, rfl, rfl, _, rfl, ?_⟩
        refine ite2 (fun h => ?_) (fun h => ?_)
        · have h := of_decide_eq_true h
          refine ⟨_, rfl, D, vs, rfl, sq hD6, _, _, rfl, rfl, .inl ⟨_, rfl, _, rfl, _, _, rfl, rfl, by omega, _, _, rfl, rfl, ?_⟩⟩
          have e : (vs.sum - 1) % mw wd + 1 = cr wd vs.sum := by
            unfold cr
            rw [if_pos h]
          dsimp only
          rw [e]
          exact ⟨rfl, rfl⟩
        · have e : cr wd vs.sum = 0 := cr_non fun q => h (decide_eq_true q)
          rw [e]
          exact ⟨rfl, rfl⟩
      rintro σ' H' ⟨rfl, rfl⟩
      -- two groupings
      refine ⟨2, rfl, by decide, by decide, for_range (n := 2) (fun j σ' H' => PenAt H' z c ns (i * 200 + 30 + 16 * j) ∧ H' D = some (.lst (vs.map V.int)) ∧ H' D2 = some (.lst (ws.map V.ref)) ∧ Ws T.k_Word.C H' wd ws vs ∧ ∃ o9 o10, σ' = [some (.ref a), some (.ref z), some (.int (0 + (i : Int))), some (.int wd), some (.int (mw wd)), some (.int n), some (.ref D), some (.ref D2), some (.int (cr wd vs.sum)), o9, o10, o11, o12]) ⟨P6, hD6, hD2, W6, _, _, rfl⟩ ?_ ?_⟩
      · rintro j σ' H7 hj ⟨P7, hD7, hD27, W7, q9, q10, rfl⟩
        refine ⟨_, rfl, _, rfl, _, rfl, z, c, ns, _, D2, wd, ws, vs, rfl, P7, by omega, hD27, DD, W7, by omega, fun q ys us H8 P8 f8 hq qz W8 yl es => ?_⟩
        refine ⟨z, c, ns, _, q, wd, ys, us, rfl, P8, by omega, hq, qz, W8, by omega, by omega, fun p H9 P9 f9 Wp => ?_⟩
        rw [es] at Wp
        obtain ⟨⟨dp, hp⟩, _, _, p0, pm⟩ := id Wp
        have f79 := f8.trans f9
        have hD9 := f79 _ _ Dz hD7
        refine ⟨_, rfl, p, _, dp, _, _, rfl, hp, T.k_Word.cl, T.n_Word_value, wf_value _ _, _, rfl, rfl, _, rfl, iteNS rfl ?_⟩
        refine ⟨_, rfl, p, _, dp, _, _, rfl, hp, T.k_Word.cl, T.n_Word_width, wf_width _ _, _, rfl, rfl, _, rfl, iteNS rfl ?_⟩
        refine ⟨_, rfl, p, _, dp, _, _, rfl, hp, T.k_Word.cl, T.n_Word_is_empty, wf_is_empty _ _, _, rfl, by show 1 ≤ sizeLine; decide, fun l1 nl1 => ?_⟩
        (generalize g_H10 : upd _ l1 _ = H10); have hl1 := gat g_H10; have e10 := gex g_H10 nl1; clear g_H10
        refine ⟨_, rfl, l1, _, _, rfl, rfl, hl1, by omega, by omega, Nat.le_trans (show [V.int 0].length * ((n : Int)).toNat ≤ 100 by show 1 * ((n : Int)).toNat ≤ 100; omega) (by decide), fun l2 nl2 => ?_⟩
        (generalize g_H11 : upd _ l2 _ = H11); have hl2 := gat g_H11; have e11 := gex g_H11 nl2; clear g_H11
        have f711 := (f79.trans e10.fw).trans e11.fw
        have hr0 : (List.replicate ((n : Int)).toNat [V.int 0]).flatten = (List.replicate n (0 : Int)).map V.int := by
          rw [Int.toNat_natCast, rep_flat]
        rw [hr0] at hl2
        refine ⟨_, _, Dp.lst (sq (f711 _ _ Dz hD7)) (dp_ints vs), Dp.lst (sq hl2) (dp_ints _), shaped_ints _, shaped_ints _, ?_⟩
        rw [eqv_ints]
        have ee : (cr wd vs.sum == 0) = decide (vs = List.replicate n 0) := by
          have h1 := sum_zero (vs := vs) fun v hv => (hvs v hv).1
          rw [hlen] at h1
          rw [Bool.beq_eq_decide_eq]
          by_cases h0 : vs.sum = 0
          · rw [h0, decide_eq_true (h1.mp h0)]
            all_goals rfl
          · rw [decide_eq_false (fun q => h0 (h1.mpr q)), decide_eq_false]
            have := cr_pos wd1 (n := vs.sum) (by omega)
            omega
        rw [ee]
        refine ⟨rfl, _, rfl, iteNS rfl ?_⟩
        exact ⟨((P9.ex e10).ex e11).mono (by omega), f711 _ _ Dz hD7, f711 _ _ DD hD27, W7.fw fun _ _ h => h.fw f711 (h.ne_pen P7), _, _, rfl⟩
      rintro σ' H7 ⟨P7, hD7, hD27, W7, q9, q10, rfl⟩
      -- a pair
      have wlen : ws.length = n := wl.trans hlen
      obtain ⟨p, pv_, hp, hpv, Wp⟩ := W7.get (i := 0) (by omega)
      obtain ⟨q, qv, hq, hqv, Wq⟩ := W7.get (i := n - 1) (by omega)
      have gp : (ws.map V.ref)[0]? = some (.ref p) := by rw [List.getElem?_map, hp] <;> rfl
      have gq : (ws.map V.ref)[n - 1]? = some (.ref q) := by rw [List.getElem?_map, hq] <;> rfl
      refine ⟨_, rfl, _, rfl, D2, _, 0, _, rfl, rfl, sq hD27, atI_nat gp, ?_⟩
      refine ⟨_, rfl, _, rfl, D2, _, _, _, rfl, rfl, sq hD27, atI_neg1 (n := n - 1) (by rw [List.length_map]; omega) gq, ?_⟩
      refine ⟨_, rfl, z, c, ns, _, 100, rfl, P7, by omega, by decide, by decide, fun tt H8 t0 t1 P8 f8 => ?_⟩
      refine ⟨p, q, wd, pv_, qv, tt, rfl, Wp.fw f8 (Wp.ne_pen P7), Wq.fw f8 (Wq.ne_pen P7), t0, by omega, fun H9 e9 => ?_⟩
      refine ⟨_, rfl, iteF ?_⟩
      exact ⟨(P8.ex e9).mono (by omega), _, _, _, _, _, _, _, _, _, _, _, rfl⟩
    · rintro σ' H2 ⟨P2, o2, o3, o4, o5, o6, o7, o8, o9, o10, o11, o12, rfl⟩
      exact k H2
end
theorem all_mk {l : PySem.W.OpenLaw} {w : World} {K : PySem.W.Frag} {h : Heap} {mg : Str → Option Value} {fa : Addr} (X : K.In h) (G : h.Ns mainGlobals mg) (hfa : mg "law" = some (.ref fa))
    {t_MOST_TIMES : Tok}
    {C_Word : Addr}
    {t_Word_MOST_WIDTH : Tok}
    {fo_lshift ro_lshift : Option Value}
    {f_is_whole : Addr} {od_is_whole an_is_whole : Option Addr} {sl_is_whole : Array (Option Value)} {oc_is_whole kV_is_whole dc_is_whole pm_is_whole cd_is_whole ct_is_whole : Value}
    {f_is_from : Addr} {od_is_from an_is_from : Option Addr} {sl_is_from : Array (Option Value)} {oc_is_from kV_is_from dc_is_from pm_is_from cd_is_from ct_is_from : Value}
    {f_most_value : Addr} {od_most_value an_most_value : Option Addr} {sl_most_value : Array (Option Value)} {oc_most_value kV_most_value dc_most_value pm_most_value cd_most_value ct_most_value : Value}
    {f_checked_width : Addr} {od_checked_width an_checked_width : Option Addr} {sl_checked_width : Array (Option Value)} {oc_checked_width kV_checked_width dc_checked_width pm_checked_width cd_checked_width ct_checked_width : Value}
    {f_Word_init_ : Addr} {od_Word_init_ an_Word_init_ : Option Addr} {sl_Word_init_ : Array (Option Value)} {oc_Word_init_ kV_Word_init_ dc_Word_init_ pm_Word_init_ cd_Word_init_ ct_Word_init_ : Value}
    {f_carried_round : Addr} {od_carried_round an_carried_round : Option Addr} {sl_carried_round : Array (Option Value)} {oc_carried_round kV_carried_round dc_carried_round pm_carried_round cd_carried_round ct_carried_round : Value}
    {f_sum_word : Addr} {od_sum_word an_sum_word : Option Addr} {sl_sum_word : Array (Option Value)} {oc_sum_word kV_sum_word dc_sum_word pm_sum_word cd_sum_word ct_sum_word : Value}
    {f_difference_word : Addr} {od_difference_word an_difference_word : Option Addr} {sl_difference_word : Array (Option Value)} {oc_difference_word kV_difference_word dc_difference_word pm_difference_word cd_difference_word ct_difference_word : Value}
    {f_checked_times : Addr} {od_checked_times an_checked_times : Option Addr} {sl_checked_times : Array (Option Value)} {oc_checked_times kV_checked_times dc_checked_times pm_checked_times cd_checked_times ct_checked_times : Value}
    {f_turned : Addr} {od_turned an_turned : Option Addr} {sl_turned : Array (Option Value)} {oc_turned kV_turned dc_turned pm_turned cd_turned ct_turned : Value}
    {f_operand_value : Addr} {od_operand_value an_operand_value : Option Addr} {sl_operand_value : Array (Option Value)} {oc_operand_value kV_operand_value dc_operand_value pm_operand_value cd_operand_value ct_operand_value : Value}
    {f_Word_add_ : Addr} {od_Word_add_ an_Word_add_ : Option Addr} {sl_Word_add_ : Array (Option Value)} {oc_Word_add_ kV_Word_add_ dc_Word_add_ pm_Word_add_ cd_Word_add_ ct_Word_add_ : Value}
    {f_Word_sub_ : Addr} {od_Word_sub_ an_Word_sub_ : Option Addr} {sl_Word_sub_ : Array (Option Value)} {oc_Word_sub_ kV_Word_sub_ dc_Word_sub_ pm_Word_sub_ cd_Word_sub_ ct_Word_sub_ : Value}
    {f_Word_rmul_ : Addr} {od_Word_rmul_ an_Word_rmul_ : Option Addr} {sl_Word_rmul_ : Array (Option Value)} {oc_Word_rmul_ kV_Word_rmul_ dc_Word_rmul_ pm_Word_rmul_ cd_Word_rmul_ ct_Word_rmul_ : Value}
    {f_Word_mul_ : Addr} {od_Word_mul_ an_Word_mul_ : Option Addr} {sl_Word_mul_ : Array (Option Value)} {oc_Word_mul_ kV_Word_mul_ dc_Word_mul_ pm_Word_mul_ cd_Word_mul_ ct_Word_mul_ : Value}
    {f_Word_lshift_ : Addr} {od_Word_lshift_ an_Word_lshift_ : Option Addr} {sl_Word_lshift_ : Array (Option Value)} {oc_Word_lshift_ kV_Word_lshift_ dc_Word_lshift_ pm_Word_lshift_ cd_Word_lshift_ ct_Word_lshift_ : Value}
    {f_Word_invert_ : Addr} {od_Word_invert_ an_Word_invert_ : Option Addr} {sl_Word_invert_ : Array (Option Value)} {oc_Word_invert_ kV_Word_invert_ dc_Word_invert_ pm_Word_invert_ cd_Word_invert_ ct_Word_invert_ : Value}
    {f_Word_eq_ : Addr} {od_Word_eq_ an_Word_eq_ : Option Addr} {sl_Word_eq_ : Array (Option Value)} {oc_Word_eq_ kV_Word_eq_ dc_Word_eq_ pm_Word_eq_ cd_Word_eq_ ct_Word_eq_ : Value}
    {f_Word_like : Addr} {od_Word_like an_Word_like : Option Addr} {sl_Word_like : Array (Option Value)} {oc_Word_like kV_Word_like dc_Word_like pm_Word_like cd_Word_like ct_Word_like : Value}
    {f_Word_full : Addr} {od_Word_full an_Word_full : Option Addr} {sl_Word_full : Array (Option Value)} {oc_Word_full kV_Word_full dc_Word_full pm_Word_full cd_Word_full ct_Word_full : Value}
    {p_Word_full : Addr} {r_Word_full : List Value}
    {f_Word_empty : Addr} {od_Word_empty an_Word_empty : Option Addr} {sl_Word_empty : Array (Option Value)} {oc_Word_empty kV_Word_empty dc_Word_empty pm_Word_empty cd_Word_empty ct_Word_empty : Value}
    {p_Word_empty : Addr} {r_Word_empty : List Value}
    {f_law_pen : Addr} {od_law_pen an_law_pen : Option Addr} {sl_law_pen : Array (Option Value)} {oc_law_pen kV_law_pen dc_law_pen pm_law_pen cd_law_pen ct_law_pen : Value}
    {f_law_draw : Addr} {od_law_draw an_law_draw : Option Addr} {sl_law_draw : Array (Option Value)} {oc_law_draw kV_law_draw dc_law_draw pm_law_draw cd_law_draw ct_law_draw : Value}
    {f_law_width : Addr} {od_law_width an_law_width : Option Addr} {sl_law_width : Array (Option Value)} {oc_law_width kV_law_width dc_law_width pm_law_width cd_law_width ct_law_width : Value}
    {f_law_value : Addr} {od_law_value an_law_value : Option Addr} {sl_law_value : Array (Option Value)} {oc_law_value kV_law_value dc_law_value pm_law_value cd_law_value ct_law_value : Value}
    {f_law_grouped : Addr} {od_law_grouped an_law_grouped : Option Addr} {sl_law_grouped : Array (Option Value)} {oc_law_grouped kV_law_grouped dc_law_grouped pm_law_grouped cd_law_grouped ct_law_grouped : Value}
    {f_law_mixed : Addr} {od_law_mixed an_law_mixed : Option Addr} {sl_law_mixed : Array (Option Value)} {oc_law_mixed kV_law_mixed dc_law_mixed pm_law_mixed cd_law_mixed ct_law_mixed : Value}
    {f_law_pair_right : Addr} {od_law_pair_right an_law_pair_right : Option Addr} {sl_law_pair_right : Array (Option Value)} {oc_law_pair_right kV_law_pair_right dc_law_pair_right pm_law_pair_right cd_law_pair_right ct_law_pair_right : Value}
    {f_law : Addr} {od_law an_law : Option Addr} {sl_law : Array (Option Value)} {oc_law kV_law dc_law pm_law cd_law ct_law : Value}
    (b_int : PySem.W.nsIn K mainGlobals "int" = some none)
    (b_len : PySem.W.nsIn K mainGlobals "len" = some none)
    (b_abs : PySem.W.nsIn K mainGlobals "abs" = some none)
    (b_list : PySem.W.nsIn K mainGlobals "list" = some none)
    (b_isinstance : PySem.W.nsIn K mainGlobals "isinstance" = some none)
    (b_bool : PySem.W.nsIn K mainGlobals "bool" = some none)
    (b_range : PySem.W.nsIn K mainGlobals "range" = some none)
    (b_sum : PySem.W.nsIn K mainGlobals "sum" = some none)
    (c_MOST_TIMES : PySem.W.nsIn K mainGlobals "MOST_TIMES" = some (some (.int 1000000000000000000000000000000 t_MOST_TIMES)))
    (kC_Word : PySem.W.nsIn K mainGlobals "Word" = some (some (.ref C_Word)))
    (kg_Word : PySem.W.plainGet K C_Word Str.empty = true)
    (kh_Word : PySem.W.hasDictIn K C_Word = true)
    (ko_Word : PySem.W.plainOver K C_Word = true)
    (ks_Word : PySem.W.findIn K (.ref C_Word) "__setattr__" = some (some (.builtin "object.__setattr__")))
    (km_Word : PySem.W.makesIn K C_Word = true)
    (kk_Word : PySem.W.keepIn K (.ref C_Word) = true)
    (n_Word_width : PySem.W.findIn K (.ref C_Word) "width" = some none)
    (n_Word_value : PySem.W.findIn K (.ref C_Word) "value" = some none)
    (n_Word_rest : PySem.W.findIn K (.ref C_Word) "rest" = some none)
    (n_Word_is_empty : PySem.W.findIn K (.ref C_Word) "is_empty" = some none)
    (n_Word_is_full : PySem.W.findIn K (.ref C_Word) "is_full" = some none)
    (n_Word___rlshift__ : PySem.W.findIn K (.ref C_Word) "__rlshift__" = some none)
    (x1_Word : PySem.W.readsIn K C_Word (.type "type") = true)
    (x2_Word : PySem.W.specialIn K (.ref C_Word) "__getattribute__" = some (some (.builtin "type.__getattribute__")))
    (x3_Word : PySem.W.selfFirst K C_Word = true)
    (x4_Word : PySem.W.findIn K (.ref C_Word) "__class__" = some (some (.builtin "object.__class__")))
    (x5_Word : PySem.W.specialIn K (.builtin "object.__class__") "__get__" = some (some (.builtin "getset_descriptor.__get__")))
    (x6_Word : PySem.W.takesIn K (.builtin "object.__class__") = some true)
    (x7_Word : PySem.W.mroIn K C_Word (.type "object") = some true)
    (x8_Word : PySem.W.subIn K (.type "int") (.ref C_Word) = some false)
    (x9_Word : PySem.W.subIn K (.ref C_Word) (.type "int") = some false)
    (xa_Word : PySem.W.isClsIn K C_Word = true)
    (xb_Word : PySem.W.typeIn K (.ref C_Word) = some (.type "type"))
    (cc_Word_MOST_WIDTH : PySem.W.findCls K (.ref C_Word) (.type "type") "MOST_WIDTH" = some (.val (.int 64 t_Word_MOST_WIDTH)))
    (g1_lshift : PySem.W.findIn K (.type "int") "__lshift__" = some fo_lshift)
    (g2_lshift : PySem.W.findIn K (.type "int") "__rlshift__" = some ro_lshift)
    (a_is_whole : PySem.W.nsIn K mainGlobals "is_whole" = some (some (.ref f_is_whole)))
    (l_is_whole : K.lookup f_is_whole = some ⟨oc_is_whole, od_is_whole, .func (PySem.W.fnOf "is_whole" "is_whole" (defArgs s_is_whole) (defBody s_is_whole) (defScope s_is_whole) .none kV_is_whole dc_is_whole pm_is_whole an_is_whole cd_is_whole ct_is_whole), sl_is_whole⟩)
    (c_is_whole : PySem.W.codeIn K cd_is_whole "is_whole" = true)
    (q_is_whole : PySem.W.keepIn K (.ref f_is_whole) = true)
    (a_is_from : PySem.W.nsIn K mainGlobals "is_from" = some (some (.ref f_is_from)))
    (l_is_from : K.lookup f_is_from = some ⟨oc_is_from, od_is_from, .func (PySem.W.fnOf "is_from" "is_from" (defArgs s_is_from) (defBody s_is_from) (defScope s_is_from) .none kV_is_from dc_is_from pm_is_from an_is_from cd_is_from ct_is_from), sl_is_from⟩)
    (c_is_from : PySem.W.codeIn K cd_is_from "is_from" = true)
    (q_is_from : PySem.W.keepIn K (.ref f_is_from) = true)
    (a_most_value : PySem.W.nsIn K mainGlobals "most_value" = some (some (.ref f_most_value)))
    (l_most_value : K.lookup f_most_value = some ⟨oc_most_value, od_most_value, .func (PySem.W.fnOf "most_value" "most_value" (defArgs s_most_value) (defBody s_most_value) (defScope s_most_value) .none kV_most_value dc_most_value pm_most_value an_most_value cd_most_value ct_most_value), sl_most_value⟩)
    (c_most_value : PySem.W.codeIn K cd_most_value "most_value" = true)
    (q_most_value : PySem.W.keepIn K (.ref f_most_value) = true)
    (a_checked_width : PySem.W.nsIn K mainGlobals "checked_width" = some (some (.ref f_checked_width)))
    (l_checked_width : K.lookup f_checked_width = some ⟨oc_checked_width, od_checked_width, .func (PySem.W.fnOf "checked_width" "checked_width" (defArgs s_checked_width) (defBody s_checked_width) (defScope s_checked_width) .none kV_checked_width dc_checked_width pm_checked_width an_checked_width cd_checked_width ct_checked_width), sl_checked_width⟩)
    (c_checked_width : PySem.W.codeIn K cd_checked_width "checked_width" = true)
    (q_checked_width : PySem.W.keepIn K (.ref f_checked_width) = true)
    (a_Word_init_ : PySem.W.findIn K (.ref C_Word) "__init__" = some (some (.ref f_Word_init_)))
    (i_Word_init_ : PySem.W.isFn K (.ref f_Word_init_) = true)
    (l_Word_init_ : K.lookup f_Word_init_ = some ⟨oc_Word_init_, od_Word_init_, .func (PySem.W.fnOf "__init__" "Word.__init__" (defArgs s_Word_init_) (defBody s_Word_init_) (defScope s_Word_init_) .none kV_Word_init_ dc_Word_init_ pm_Word_init_ an_Word_init_ cd_Word_init_ ct_Word_init_), sl_Word_init_⟩)
    (c_Word_init_ : PySem.W.codeIn K cd_Word_init_ "Word.__init__" = true)
    (q_Word_init_ : PySem.W.keepIn K (.ref f_Word_init_) = true)
    (a_carried_round : PySem.W.nsIn K mainGlobals "carried_round" = some (some (.ref f_carried_round)))
    (l_carried_round : K.lookup f_carried_round = some ⟨oc_carried_round, od_carried_round, .func (PySem.W.fnOf "carried_round" "carried_round" (defArgs s_carried_round) (defBody s_carried_round) (defScope s_carried_round) .none kV_carried_round dc_carried_round pm_carried_round an_carried_round cd_carried_round ct_carried_round), sl_carried_round⟩)
    (c_carried_round : PySem.W.codeIn K cd_carried_round "carried_round" = true)
    (q_carried_round : PySem.W.keepIn K (.ref f_carried_round) = true)
    (a_sum_word : PySem.W.nsIn K mainGlobals "sum_word" = some (some (.ref f_sum_word)))
    (l_sum_word : K.lookup f_sum_word = some ⟨oc_sum_word, od_sum_word, .func (PySem.W.fnOf "sum_word" "sum_word" (defArgs s_sum_word) (defBody s_sum_word) (defScope s_sum_word) .none kV_sum_word dc_sum_word pm_sum_word an_sum_word cd_sum_word ct_sum_word), sl_sum_word⟩)
    (c_sum_word : PySem.W.codeIn K cd_sum_word "sum_word" = true)
    (q_sum_word : PySem.W.keepIn K (.ref f_sum_word) = true)
    (a_difference_word : PySem.W.nsIn K mainGlobals "difference_word" = some (some (.ref f_difference_word)))
    (l_difference_word : K.lookup f_difference_word = some ⟨oc_difference_word, od_difference_word, .func (PySem.W.fnOf "difference_word" "difference_word" (defArgs s_difference_word) (defBody s_difference_word) (defScope s_difference_word) .none kV_difference_word dc_difference_word pm_difference_word an_difference_word cd_difference_word ct_difference_word), sl_difference_word⟩)
    (c_difference_word : PySem.W.codeIn K cd_difference_word "difference_word" = true)
    (q_difference_word : PySem.W.keepIn K (.ref f_difference_word) = true)
    (a_checked_times : PySem.W.nsIn K mainGlobals "checked_times" = some (some (.ref f_checked_times)))
    (l_checked_times : K.lookup f_checked_times = some ⟨oc_checked_times, od_checked_times, .func (PySem.W.fnOf "checked_times" "checked_times" (defArgs s_checked_times) (defBody s_checked_times) (defScope s_checked_times) .none kV_checked_times dc_checked_times pm_checked_times an_checked_times cd_checked_times ct_checked_times), sl_checked_times⟩)
    (c_checked_times : PySem.W.codeIn K cd_checked_times "checked_times" = true)
    (q_checked_times : PySem.W.keepIn K (.ref f_checked_times) = true)
    (a_turned : PySem.W.nsIn K mainGlobals "turned" = some (some (.ref f_turned)))
    (l_turned : K.lookup f_turned = some ⟨oc_turned, od_turned, .func (PySem.W.fnOf "turned" "turned" (defArgs s_turned) (defBody s_turned) (defScope s_turned) .none kV_turned dc_turned pm_turned an_turned cd_turned ct_turned), sl_turned⟩)
    (c_turned : PySem.W.codeIn K cd_turned "turned" = true)
    (q_turned : PySem.W.keepIn K (.ref f_turned) = true)
    (a_operand_value : PySem.W.nsIn K mainGlobals "operand_value" = some (some (.ref f_operand_value)))
    (l_operand_value : K.lookup f_operand_value = some ⟨oc_operand_value, od_operand_value, .func (PySem.W.fnOf "operand_value" "operand_value" (defArgs s_operand_value) (defBody s_operand_value) (defScope s_operand_value) .none kV_operand_value dc_operand_value pm_operand_value an_operand_value cd_operand_value ct_operand_value), sl_operand_value⟩)
    (c_operand_value : PySem.W.codeIn K cd_operand_value "operand_value" = true)
    (q_operand_value : PySem.W.keepIn K (.ref f_operand_value) = true)
    (a_Word_add_ : PySem.W.findIn K (.ref C_Word) "__add__" = some (some (.ref f_Word_add_)))
    (i_Word_add_ : PySem.W.isFn K (.ref f_Word_add_) = true)
    (l_Word_add_ : K.lookup f_Word_add_ = some ⟨oc_Word_add_, od_Word_add_, .func (PySem.W.fnOf "__add__" "Word.__add__" (defArgs s_Word_add_) (defBody s_Word_add_) (defScope s_Word_add_) .none kV_Word_add_ dc_Word_add_ pm_Word_add_ an_Word_add_ cd_Word_add_ ct_Word_add_), sl_Word_add_⟩)
    (c_Word_add_ : PySem.W.codeIn K cd_Word_add_ "Word.__add__" = true)
    (q_Word_add_ : PySem.W.keepIn K (.ref f_Word_add_) = true)
    (a_Word_sub_ : PySem.W.findIn K (.ref C_Word) "__sub__" = some (some (.ref f_Word_sub_)))
    (i_Word_sub_ : PySem.W.isFn K (.ref f_Word_sub_) = true)
    (l_Word_sub_ : K.lookup f_Word_sub_ = some ⟨oc_Word_sub_, od_Word_sub_, .func (PySem.W.fnOf "__sub__" "Word.__sub__" (defArgs s_Word_sub_) (defBody s_Word_sub_) (defScope s_Word_sub_) .none kV_Word_sub_ dc_Word_sub_ pm_Word_sub_ an_Word_sub_ cd_Word_sub_ ct_Word_sub_), sl_Word_sub_⟩)
    (c_Word_sub_ : PySem.W.codeIn K cd_Word_sub_ "Word.__sub__" = true)
    (q_Word_sub_ : PySem.W.keepIn K (.ref f_Word_sub_) = true)
    (a_Word_rmul_ : PySem.W.findIn K (.ref C_Word) "__rmul__" = some (some (.ref f_Word_rmul_)))
    (i_Word_rmul_ : PySem.W.isFn K (.ref f_Word_rmul_) = true)
    (l_Word_rmul_ : K.lookup f_Word_rmul_ = some ⟨oc_Word_rmul_, od_Word_rmul_, .func (PySem.W.fnOf "__rmul__" "Word.__rmul__" (defArgs s_Word_rmul_) (defBody s_Word_rmul_) (defScope s_Word_rmul_) .none kV_Word_rmul_ dc_Word_rmul_ pm_Word_rmul_ an_Word_rmul_ cd_Word_rmul_ ct_Word_rmul_), sl_Word_rmul_⟩)
    (c_Word_rmul_ : PySem.W.codeIn K cd_Word_rmul_ "Word.__rmul__" = true)
    (q_Word_rmul_ : PySem.W.keepIn K (.ref f_Word_rmul_) = true)
    (a_Word_mul_ : PySem.W.findIn K (.ref C_Word) "__mul__" = some (some (.ref f_Word_mul_)))
    (i_Word_mul_ : PySem.W.isFn K (.ref f_Word_mul_) = true)
    (l_Word_mul_ : K.lookup f_Word_mul_ = some ⟨oc_Word_mul_, od_Word_mul_, .func (PySem.W.fnOf "__mul__" "Word.__mul__" (defArgs s_Word_mul_) (defBody s_Word_mul_) (defScope s_Word_mul_) .none kV_Word_mul_ dc_Word_mul_ pm_Word_mul_ an_Word_mul_ cd_Word_mul_ ct_Word_mul_), sl_Word_mul_⟩)
    (c_Word_mul_ : PySem.W.codeIn K cd_Word_mul_ "Word.__mul__" = true)
    (q_Word_mul_ : PySem.W.keepIn K (.ref f_Word_mul_) = true)
    (a_Word_lshift_ : PySem.W.findIn K (.ref C_Word) "__lshift__" = some (some (.ref f_Word_lshift_)))
    (i_Word_lshift_ : PySem.W.isFn K (.ref f_Word_lshift_) = true)
    (l_Word_lshift_ : K.lookup f_Word_lshift_ = some ⟨oc_Word_lshift_, od_Word_lshift_, .func (PySem.W.fnOf "__lshift__" "Word.__lshift__" (defArgs s_Word_lshift_) (defBody s_Word_lshift_) (defScope s_Word_lshift_) .none kV_Word_lshift_ dc_Word_lshift_ pm_Word_lshift_ an_Word_lshift_ cd_Word_lshift_ ct_Word_lshift_), sl_Word_lshift_⟩)
    (c_Word_lshift_ : PySem.W.codeIn K cd_Word_lshift_ "Word.__lshift__" = true)
    (q_Word_lshift_ : PySem.W.keepIn K (.ref f_Word_lshift_) = true)
    (a_Word_invert_ : PySem.W.findIn K (.ref C_Word) "__invert__" = some (some (.ref f_Word_invert_)))
    (i_Word_invert_ : PySem.W.isFn K (.ref f_Word_invert_) = true)
    (l_Word_invert_ : K.lookup f_Word_invert_ = some ⟨oc_Word_invert_, od_Word_invert_, .func (PySem.W.fnOf "__invert__" "Word.__invert__" (defArgs s_Word_invert_) (defBody s_Word_invert_) (defScope s_Word_invert_) .none kV_Word_invert_ dc_Word_invert_ pm_Word_invert_ an_Word_invert_ cd_Word_invert_ ct_Word_invert_), sl_Word_invert_⟩)
    (c_Word_invert_ : PySem.W.codeIn K cd_Word_invert_ "Word.__invert__" = true)
    (q_Word_invert_ : PySem.W.keepIn K (.ref f_Word_invert_) = true)
    (a_Word_eq_ : PySem.W.findIn K (.ref C_Word) "__eq__" = some (some (.ref f_Word_eq_)))
    (i_Word_eq_ : PySem.W.isFn K (.ref f_Word_eq_) = true)
    (l_Word_eq_ : K.lookup f_Word_eq_ = some ⟨oc_Word_eq_, od_Word_eq_, .func (PySem.W.fnOf "__eq__" "Word.__eq__" (defArgs s_Word_eq_) (defBody s_Word_eq_) (defScope s_Word_eq_) .none kV_Word_eq_ dc_Word_eq_ pm_Word_eq_ an_Word_eq_ cd_Word_eq_ ct_Word_eq_), sl_Word_eq_⟩)
    (c_Word_eq_ : PySem.W.codeIn K cd_Word_eq_ "Word.__eq__" = true)
    (q_Word_eq_ : PySem.W.keepIn K (.ref f_Word_eq_) = true)
    (a_Word_like : PySem.W.findIn K (.ref C_Word) "like" = some (some (.ref f_Word_like)))
    (i_Word_like : PySem.W.isFn K (.ref f_Word_like) = true)
    (l_Word_like : K.lookup f_Word_like = some ⟨oc_Word_like, od_Word_like, .func (PySem.W.fnOf "like" "Word.like" (defArgs s_Word_like) (defBody s_Word_like) (defScope s_Word_like) .none kV_Word_like dc_Word_like pm_Word_like an_Word_like cd_Word_like ct_Word_like), sl_Word_like⟩)
    (c_Word_like : PySem.W.codeIn K cd_Word_like "Word.like" = true)
    (q_Word_like : PySem.W.keepIn K (.ref f_Word_like) = true)
    (a_Word_full : PySem.W.findCls K (.ref C_Word) (.type "type") "full" = some (.get (.builtin "staticmethod.__get__") (.ref p_Word_full) .none (.ref C_Word)))
    (i_Word_full : PySem.W.recIn K p_Word_full "staticmethod" = some (.ref f_Word_full :: r_Word_full))
    (l_Word_full : K.lookup f_Word_full = some ⟨oc_Word_full, od_Word_full, .func (PySem.W.fnOf "full" "Word.full" (defArgs s_Word_full) (defBody s_Word_full) (defScope s_Word_full) .none kV_Word_full dc_Word_full pm_Word_full an_Word_full cd_Word_full ct_Word_full), sl_Word_full⟩)
    (c_Word_full : PySem.W.codeIn K cd_Word_full "Word.full" = true)
    (q_Word_full : PySem.W.keepIn K (.ref f_Word_full) = true)
    (a_Word_empty : PySem.W.findCls K (.ref C_Word) (.type "type") "empty" = some (.get (.builtin "staticmethod.__get__") (.ref p_Word_empty) .none (.ref C_Word)))
    (i_Word_empty : PySem.W.recIn K p_Word_empty "staticmethod" = some (.ref f_Word_empty :: r_Word_empty))
    (l_Word_empty : K.lookup f_Word_empty = some ⟨oc_Word_empty, od_Word_empty, .func (PySem.W.fnOf "empty" "Word.empty" (defArgs s_Word_empty) (defBody s_Word_empty) (defScope s_Word_empty) .none kV_Word_empty dc_Word_empty pm_Word_empty an_Word_empty cd_Word_empty ct_Word_empty), sl_Word_empty⟩)
    (c_Word_empty : PySem.W.codeIn K cd_Word_empty "Word.empty" = true)
    (q_Word_empty : PySem.W.keepIn K (.ref f_Word_empty) = true)
    (a_law_pen : PySem.W.nsIn K mainGlobals "_law_pen" = some (some (.ref f_law_pen)))
    (l_law_pen : K.lookup f_law_pen = some ⟨oc_law_pen, od_law_pen, .func (PySem.W.fnOf "_law_pen" "_law_pen" (defArgs s_law_pen) (defBody s_law_pen) (defScope s_law_pen) .none kV_law_pen dc_law_pen pm_law_pen an_law_pen cd_law_pen ct_law_pen), sl_law_pen⟩)
    (c_law_pen : PySem.W.codeIn K cd_law_pen "_law_pen" = true)
    (q_law_pen : PySem.W.keepIn K (.ref f_law_pen) = true)
    (a_law_draw : PySem.W.nsIn K mainGlobals "_law_draw" = some (some (.ref f_law_draw)))
    (l_law_draw : K.lookup f_law_draw = some ⟨oc_law_draw, od_law_draw, .func (PySem.W.fnOf "_law_draw" "_law_draw" (defArgs s_law_draw) (defBody s_law_draw) (defScope s_law_draw) .none kV_law_draw dc_law_draw pm_law_draw an_law_draw cd_law_draw ct_law_draw), sl_law_draw⟩)
    (c_law_draw : PySem.W.codeIn K cd_law_draw "_law_draw" = true)
    (q_law_draw : PySem.W.keepIn K (.ref f_law_draw) = true)
    (a_law_width : PySem.W.nsIn K mainGlobals "_law_width" = some (some (.ref f_law_width)))
    (l_law_width : K.lookup f_law_width = some ⟨oc_law_width, od_law_width, .func (PySem.W.fnOf "_law_width" "_law_width" (defArgs s_law_width) (defBody s_law_width) (defScope s_law_width) .none kV_law_width dc_law_width pm_law_width an_law_width cd_law_width ct_law_width), sl_law_width⟩)
    (c_law_width : PySem.W.codeIn K cd_law_width "_law_width" = true)
    (q_law_width : PySem.W.keepIn K (.ref f_law_width) = true)
    (a_law_value : PySem.W.nsIn K mainGlobals "_law_value" = some (some (.ref f_law_value)))
    (l_law_value : K.lookup f_law_value = some ⟨oc_law_value, od_law_value, .func (PySem.W.fnOf "_law_value" "_law_value" (defArgs s_law_value) (defBody s_law_value) (defScope s_law_value) .none kV_law_value dc_law_value pm_law_value an_law_value cd_law_value ct_law_value), sl_law_value⟩)
    (c_law_value : PySem.W.codeIn K cd_law_value "_law_value" = true)
    (q_law_value : PySem.W.keepIn K (.ref f_law_value) = true)
    (a_law_grouped : PySem.W.nsIn K mainGlobals "_law_grouped" = some (some (.ref f_law_grouped)))
    (l_law_grouped : K.lookup f_law_grouped = some ⟨oc_law_grouped, od_law_grouped, .func (PySem.W.fnOf "_law_grouped" "_law_grouped" (defArgs s_law_grouped) (defBody s_law_grouped) (defScope s_law_grouped) .none kV_law_grouped dc_law_grouped pm_law_grouped an_law_grouped cd_law_grouped ct_law_grouped), sl_law_grouped⟩)
    (c_law_grouped : PySem.W.codeIn K cd_law_grouped "_law_grouped" = true)
    (q_law_grouped : PySem.W.keepIn K (.ref f_law_grouped) = true)
    (a_law_mixed : PySem.W.nsIn K mainGlobals "_law_mixed" = some (some (.ref f_law_mixed)))
    (l_law_mixed : K.lookup f_law_mixed = some ⟨oc_law_mixed, od_law_mixed, .func (PySem.W.fnOf "_law_mixed" "_law_mixed" (defArgs s_law_mixed) (defBody s_law_mixed) (defScope s_law_mixed) .none kV_law_mixed dc_law_mixed pm_law_mixed an_law_mixed cd_law_mixed ct_law_mixed), sl_law_mixed⟩)
    (c_law_mixed : PySem.W.codeIn K cd_law_mixed "_law_mixed" = true)
    (q_law_mixed : PySem.W.keepIn K (.ref f_law_mixed) = true)
    (a_law_pair_right : PySem.W.nsIn K mainGlobals "_law_pair_right" = some (some (.ref f_law_pair_right)))
    (l_law_pair_right : K.lookup f_law_pair_right = some ⟨oc_law_pair_right, od_law_pair_right, .func (PySem.W.fnOf "_law_pair_right" "_law_pair_right" (defArgs s_law_pair_right) (defBody s_law_pair_right) (defScope s_law_pair_right) .none kV_law_pair_right dc_law_pair_right pm_law_pair_right an_law_pair_right cd_law_pair_right ct_law_pair_right), sl_law_pair_right⟩)
    (c_law_pair_right : PySem.W.codeIn K cd_law_pair_right "_law_pair_right" = true)
    (q_law_pair_right : PySem.W.keepIn K (.ref f_law_pair_right) = true)
    (a_law : PySem.W.nsIn K mainGlobals "law" = some (some (.ref f_law)))
    (l_law : K.lookup f_law = some ⟨oc_law, od_law, .func (PySem.W.fnOf "law" "law" (defArgs s_law) (defBody s_law) (defScope s_law) .none kV_law dc_law pm_law an_law cd_law ct_law), sl_law⟩)
    (c_law : PySem.W.codeIn K cd_law "law" = true)
    (q_law : PySem.W.keepIn K (.ref f_law) = true) :
    ∃ fd : FuncData, (∀ (s : Shared) (v : Value), BindsTo s fd ⟨[v], []⟩ [("_law_script", v)]) ∧ ∀ base : Heap, K.In base → base.Ns mainGlobals mg → FnOk l.prog w K mg base CX0 10 fa fd ["_law_script"] (spLaw K) := by
  have e := hfa.symm.trans (PySem.W.mg_of X G a_law)
  cases e
  let T : Tx K mg := { b_int := PySem.W.mg_none_of X G b_int, b_len := PySem.W.mg_none_of X G b_len, b_abs := PySem.W.mg_none_of X G b_abs, b_list := PySem.W.mg_none_of X G b_list, b_isinstance := PySem.W.mg_none_of X G b_isinstance, b_bool := PySem.W.mg_none_of X G b_bool, b_range := PySem.W.mg_none_of X G b_range, b_sum := PySem.W.mg_none_of X G b_sum, c_MOST_TIMES := ⟨t_MOST_TIMES, PySem.W.mg_of X G c_MOST_TIMES⟩, k_Word := ⟨C_Word, ⟨kg_Word, kh_Word, ko_Word, ks_Word⟩, PySem.W.mg_of X G kC_Word, km_Word, kk_Word⟩, n_Word_width := n_Word_width, n_Word_value := n_Word_value, n_Word_rest := n_Word_rest, n_Word_is_empty := n_Word_is_empty, n_Word_is_full := n_Word_is_full, n_Word___rlshift__ := n_Word___rlshift__, x_Word := ⟨⟨x1_Word, x2_Word⟩, x3_Word, x4_Word, x5_Word, x6_Word, x7_Word, x8_Word, x9_Word, xa_Word, xb_Word⟩, cc_Word_MOST_WIDTH := ⟨t_Word_MOST_WIDTH, ⟨cc_Word_MOST_WIDTH, ⟨_, rfl⟩⟩⟩, i_int_lshift := ⟨fo_lshift, ro_lshift, g1_lshift, g2_lshift⟩, f_is_whole := ⟨_, _, fun_mk (st := s_is_whole) l_is_whole c_is_whole q_is_whole, PySem.W.mg_of X G a_is_whole⟩, f_is_from := ⟨_, _, fun_mk (st := s_is_from) l_is_from c_is_from q_is_from, PySem.W.mg_of X G a_is_from⟩, f_most_value := ⟨_, _, fun_mk (st := s_most_value) l_most_value c_most_value q_most_value, PySem.W.mg_of X G a_most_value⟩, f_checked_width := ⟨_, _, fun_mk (st := s_checked_width) l_checked_width c_checked_width q_checked_width, PySem.W.mg_of X G a_checked_width⟩, f_Word_init_ := ⟨_, _, fun_mk (st := s_Word_init_) l_Word_init_ c_Word_init_ q_Word_init_, ⟨a_Word_init_, i_Word_init_, q_Word_init_⟩⟩, f_carried_round := ⟨_, _, fun_mk (st := s_carried_round) l_carried_round c_carried_round q_carried_round, PySem.W.mg_of X G a_carried_round⟩, f_sum_word := ⟨_, _, fun_mk (st := s_sum_word) l_sum_word c_sum_word q_sum_word, PySem.W.mg_of X G a_sum_word⟩, f_difference_word := ⟨_, _, fun_mk (st := s_difference_word) l_difference_word c_difference_word q_difference_word, PySem.W.mg_of X G a_difference_word⟩, f_checked_times := ⟨_, _, fun_mk (st := s_checked_times) l_checked_times c_checked_times q_checked_times, PySem.W.mg_of X G a_checked_times⟩, f_turned := ⟨_, _, fun_mk (st := s_turned) l_turned c_turned q_turned, PySem.W.mg_of X G a_turned⟩, f_operand_value := ⟨_, _, fun_mk (st := s_operand_value) l_operand_value c_operand_value q_operand_value, PySem.W.mg_of X G a_operand_value⟩, f_Word_add_ := ⟨_, _, fun_mk (st := s_Word_add_) l_Word_add_ c_Word_add_ q_Word_add_, ⟨a_Word_add_, i_Word_add_, q_Word_add_⟩⟩, f_Word_sub_ := ⟨_, _, fun_mk (st := s_Word_sub_) l_Word_sub_ c_Word_sub_ q_Word_sub_, ⟨a_Word_sub_, i_Word_sub_, q_Word_sub_⟩⟩, f_Word_rmul_ := ⟨_, _, fun_mk (st := s_Word_rmul_) l_Word_rmul_ c_Word_rmul_ q_Word_rmul_, ⟨a_Word_rmul_, i_Word_rmul_, q_Word_rmul_⟩⟩, f_Word_mul_ := ⟨_, _, fun_mk (st := s_Word_mul_) l_Word_mul_ c_Word_mul_ q_Word_mul_, ⟨a_Word_mul_, i_Word_mul_, q_Word_mul_⟩⟩, f_Word_lshift_ := ⟨_, _, fun_mk (st := s_Word_lshift_) l_Word_lshift_ c_Word_lshift_ q_Word_lshift_, ⟨a_Word_lshift_, i_Word_lshift_, q_Word_lshift_⟩⟩, f_Word_invert_ := ⟨_, _, fun_mk (st := s_Word_invert_) l_Word_invert_ c_Word_invert_ q_Word_invert_, ⟨a_Word_invert_, i_Word_invert_, q_Word_invert_⟩⟩, f_Word_eq_ := ⟨_, _, fun_mk (st := s_Word_eq_) l_Word_eq_ c_Word_eq_ q_Word_eq_, ⟨a_Word_eq_, i_Word_eq_, q_Word_eq_⟩⟩, f_Word_like := ⟨_, _, fun_mk (st := s_Word_like) l_Word_like c_Word_like q_Word_like, ⟨a_Word_like, i_Word_like, q_Word_like⟩⟩, f_Word_full := ⟨_, _, fun_mk (st := s_Word_full) l_Word_full c_Word_full q_Word_full, p_Word_full, ⟨a_Word_full, ⟨_, i_Word_full⟩, q_Word_full⟩⟩, f_Word_empty := ⟨_, _, fun_mk (st := s_Word_empty) l_Word_empty c_Word_empty q_Word_empty, p_Word_empty, ⟨a_Word_empty, ⟨_, i_Word_empty⟩, q_Word_empty⟩⟩, f_law_pen := ⟨_, _, fun_mk (st := s_law_pen) l_law_pen c_law_pen q_law_pen, PySem.W.mg_of X G a_law_pen⟩, f_law_draw := ⟨_, _, fun_mk (st := s_law_draw) l_law_draw c_law_draw q_law_draw, PySem.W.mg_of X G a_law_draw⟩, f_law_width := ⟨_, _, fun_mk (st := s_law_width) l_law_width c_law_width q_law_width, PySem.W.mg_of X G a_law_width⟩, f_law_value := ⟨_, _, fun_mk (st := s_law_value) l_law_value c_law_value q_law_value, PySem.W.mg_of X G a_law_value⟩, f_law_grouped := ⟨_, _, fun_mk (st := s_law_grouped) l_law_grouped c_law_grouped q_law_grouped, PySem.W.mg_of X G a_law_grouped⟩, f_law_mixed := ⟨_, _, fun_mk (st := s_law_mixed) l_law_mixed c_law_mixed q_law_mixed, PySem.W.mg_of X G a_law_mixed⟩, f_law_pair_right := ⟨_, _, fun_mk (st := s_law_pair_right) l_law_pair_right c_law_pair_right q_law_pair_right, PySem.W.mg_of X G a_law_pair_right⟩, f_law := ⟨_, _, fun_mk (st := s_law) l_law c_law q_law, PySem.W.mg_of X G a_law⟩ }
  exact ⟨T.f_law.fd, fun s v => .of_eq rfl, fun base _ _ => ok_law T⟩
theorem walk {l : PySem.W.OpenLaw} {q : Program} {loose : List Str} {XP : (Str → Option Value) → Heap → Prop} {YP : World → Heap → Prop} {d : DefRec} {K : Params → PySem.W.Frag} (hn : l.most = some 63) (hdf : d.params.defaults = [])
    (hY : ∀ (w : World) (h : Heap), YP w h → (K w.params).In h)
    (F : ∀ (w : World) (mg : Str → Option Value) (fa : Addr) (h : Heap), (K w.params).In h → h.Ns mainGlobals mg → mg d.name = some (.ref fa) →
      ∃ fd : FuncData, (∀ (s : Shared) (u : Value), BindsTo s fd ⟨[u], []⟩ [("_law_script", u)]) ∧ ∀ base : Heap, (K w.params).In base → base.Ns mainGlobals mg → FnOk l.prog w (K w.params) mg base CX0 10 fa fd ["_law_script"] (spLaw (K w.params))) :
    PySem.W.WalkO q loose XP YP l.row.toRowW d [] (fun f vs => PySem.call f vs) :=
  L2.walk_of (n := 63) (k := 10) (x := "_law_script") (CX := fun _ => CX0) (sp := fun w => spLaw (K w.params)) hn (by decide) hdf ⟨rfl, by decide, by decide⟩ hY F (fun _ _ a ns hl _ hS => ⟨a, ns, rfl, hS, hl, fun _ => rfl⟩) fun _ _ _ _ _ z => z
end Tz
open PySem PySem.W PyProof.Rows
set_option maxRecDepth 100000 in
set_option maxHeartbeats 0 in
theorem PySem.Challenge.cw_twozeros_k07_whole_sums_in_any_order_holds : PySem.Challenge.rw_twozeros_k07_whole_sums_in_any_order.Holds := by
  w_on; o_law; k_head; (case hw => w_witness2)
  k_fill
  refine Tz.walk (l := PySem.Challenge.rw_twozeros_k07_whole_sums_in_any_order) rfl rfl (fun w h Y => PySem.W.kIn_of Y) ?F
  case F =>
    intro w mg fa h KX G hmg
    refine' Tz.all_mk KX G hmg ?b_int ?b_len ?b_abs ?b_list ?b_isinstance ?b_bool ?b_range ?b_sum ?c_MOST_TIMES ?kC_Word ?kg_Word ?kh_Word ?ko_Word ?ks_Word ?km_Word ?kk_Word ?n_Word_width ?n_Word_value ?n_Word_rest ?n_Word_is_empty ?n_Word_is_full ?n_Word___rlshift__ ?x1_Word ?x2_Word ?x3_Word ?x4_Word ?x5_Word ?x6_Word ?x7_Word ?x8_Word ?x9_Word ?xa_Word ?xb_Word ?cc_Word_MOST_WIDTH ?g1_lshift ?g2_lshift ?a_is_whole ?l_is_whole ?c_is_whole ?q_is_whole ?a_is_from ?l_is_from ?c_is_from ?q_is_from ?a_most_value ?l_most_value ?c_most_value ?q_most_value ?a_checked_width ?l_checked_width ?c_checked_width ?q_checked_width ?a_Word_init_ ?i_Word_init_ ?l_Word_init_ ?c_Word_init_ ?q_Word_init_ ?a_carried_round ?l_carried_round ?c_carried_round ?q_carried_round ?a_sum_word ?l_sum_word ?c_sum_word ?q_sum_word ?a_difference_word ?l_difference_word ?c_difference_word ?q_difference_word ?a_checked_times ?l_checked_times ?c_checked_times ?q_checked_times ?a_turned ?l_turned ?c_turned ?q_turned ?a_operand_value ?l_operand_value ?c_operand_value ?q_operand_value ?a_Word_add_ ?i_Word_add_ ?l_Word_add_ ?c_Word_add_ ?q_Word_add_ ?a_Word_sub_ ?i_Word_sub_ ?l_Word_sub_ ?c_Word_sub_ ?q_Word_sub_ ?a_Word_rmul_ ?i_Word_rmul_ ?l_Word_rmul_ ?c_Word_rmul_ ?q_Word_rmul_ ?a_Word_mul_ ?i_Word_mul_ ?l_Word_mul_ ?c_Word_mul_ ?q_Word_mul_ ?a_Word_lshift_ ?i_Word_lshift_ ?l_Word_lshift_ ?c_Word_lshift_ ?q_Word_lshift_ ?a_Word_invert_ ?i_Word_invert_ ?l_Word_invert_ ?c_Word_invert_ ?q_Word_invert_ ?a_Word_eq_ ?i_Word_eq_ ?l_Word_eq_ ?c_Word_eq_ ?q_Word_eq_ ?a_Word_like ?i_Word_like ?l_Word_like ?c_Word_like ?q_Word_like ?a_Word_full ?i_Word_full ?l_Word_full ?c_Word_full ?q_Word_full ?a_Word_empty ?i_Word_empty ?l_Word_empty ?c_Word_empty ?q_Word_empty ?a_law_pen ?l_law_pen ?c_law_pen ?q_law_pen ?a_law_draw ?l_law_draw ?c_law_draw ?q_law_draw ?a_law_width ?l_law_width ?c_law_width ?q_law_width ?a_law_value ?l_law_value ?c_law_value ?q_law_value ?a_law_grouped ?l_law_grouped ?c_law_grouped ?q_law_grouped ?a_law_mixed ?l_law_mixed ?c_law_mixed ?q_law_mixed ?a_law_pair_right ?l_law_pair_right ?c_law_pair_right ?q_law_pair_right ?a_law ?l_law ?c_law ?q_law
    (case b_int => k_is)
    (case b_len => k_is)
    (case b_abs => k_is)
    (case b_list => k_is)
    (case b_isinstance => k_is)
    (case b_bool => k_is)
    (case b_range => k_is)
    (case b_sum => k_is)
    (case c_MOST_TIMES => k_is)
    (case kC_Word => k_is)
    (case kg_Word => k_is)
    (case kh_Word => k_is)
    (case ko_Word => k_is)
    (case ks_Word => k_is)
    (case km_Word => k_is)
    (case kk_Word => k_is)
    (case n_Word_width => k_is)
    (case n_Word_value => k_is)
    (case n_Word_rest => k_is)
    (case n_Word_is_empty => k_is)
    (case n_Word_is_full => k_is)
    (case n_Word___rlshift__ => k_is)
    (case x1_Word => k_is)
    (case x2_Word => k_is)
    (case x3_Word => k_is)
    (case x4_Word => k_is)
    (case x5_Word => k_is)
    (case x6_Word => k_is)
    (case x7_Word => k_is)
    (case x8_Word => k_is)
    (case x9_Word => k_is)
    (case xa_Word => k_is)
    (case xb_Word => k_is)
    (case cc_Word_MOST_WIDTH => k_is)
    (case g1_lshift => k_is)
    (case g2_lshift => k_is)
    (case a_is_whole => k_is)
    (case l_is_whole => k_is)
    (case c_is_whole => k_is)
    (case q_is_whole => k_is)
    (case a_is_from => k_is)
    (case l_is_from => k_is)
    (case c_is_from => k_is)
    (case q_is_from => k_is)
    (case a_most_value => k_is)
    (case l_most_value => k_is)
    (case c_most_value => k_is)
    (case q_most_value => k_is)
    (case a_checked_width => k_is)
    (case l_checked_width => k_is)
    (case c_checked_width => k_is)
    (case q_checked_width => k_is)
    (case a_Word_init_ => k_is)
    (case i_Word_init_ => k_is)
    (case l_Word_init_ => k_is)
    (case c_Word_init_ => k_is)
    (case q_Word_init_ => k_is)
    (case a_carried_round => k_is)
    (case l_carried_round => k_is)
    (case c_carried_round => k_is)
    (case q_carried_round => k_is)
    (case a_sum_word => k_is)
    (case l_sum_word => k_is)
    (case c_sum_word => k_is)
    (case q_sum_word => k_is)
    (case a_difference_word => k_is)
    (case l_difference_word => k_is)
    (case c_difference_word => k_is)
    (case q_difference_word => k_is)
    (case a_checked_times => k_is)
    (case l_checked_times => k_is)
    (case c_checked_times => k_is)
    (case q_checked_times => k_is)
    (case a_turned => k_is)
    (case l_turned => k_is)
    (case c_turned => k_is)
    (case q_turned => k_is)
    (case a_operand_value => k_is)
    (case l_operand_value => k_is)
    (case c_operand_value => k_is)
    (case q_operand_value => k_is)
    (case a_Word_add_ => k_is)
    (case i_Word_add_ => k_is)
    (case l_Word_add_ => k_is)
    (case c_Word_add_ => k_is)
    (case q_Word_add_ => k_is)
    (case a_Word_sub_ => k_is)
    (case i_Word_sub_ => k_is)
    (case l_Word_sub_ => k_is)
    (case c_Word_sub_ => k_is)
    (case q_Word_sub_ => k_is)
    (case a_Word_rmul_ => k_is)
    (case i_Word_rmul_ => k_is)
    (case l_Word_rmul_ => k_is)
    (case c_Word_rmul_ => k_is)
    (case q_Word_rmul_ => k_is)
    (case a_Word_mul_ => k_is)
    (case i_Word_mul_ => k_is)
    (case l_Word_mul_ => k_is)
    (case c_Word_mul_ => k_is)
    (case q_Word_mul_ => k_is)
    (case a_Word_lshift_ => k_is)
    (case i_Word_lshift_ => k_is)
    (case l_Word_lshift_ => k_is)
    (case c_Word_lshift_ => k_is)
    (case q_Word_lshift_ => k_is)
    (case a_Word_invert_ => k_is)
    (case i_Word_invert_ => k_is)
    (case l_Word_invert_ => k_is)
    (case c_Word_invert_ => k_is)
    (case q_Word_invert_ => k_is)
    (case a_Word_eq_ => k_is)
    (case i_Word_eq_ => k_is)
    (case l_Word_eq_ => k_is)
    (case c_Word_eq_ => k_is)
    (case q_Word_eq_ => k_is)
    (case a_Word_like => k_is)
    (case i_Word_like => k_is)
    (case l_Word_like => k_is)
    (case c_Word_like => k_is)
    (case q_Word_like => k_is)
    (case a_Word_full => k_is)
    (case i_Word_full => k_is)
    (case l_Word_full => k_is)
    (case c_Word_full => k_is)
    (case q_Word_full => k_is)
    (case a_Word_empty => k_is)
    (case i_Word_empty => k_is)
    (case l_Word_empty => k_is)
    (case c_Word_empty => k_is)
    (case q_Word_empty => k_is)
    (case a_law_pen => k_is)
    (case l_law_pen => k_is)
    (case c_law_pen => k_is)
    (case q_law_pen => k_is)
    (case a_law_draw => k_is)
    (case l_law_draw => k_is)
    (case c_law_draw => k_is)
    (case q_law_draw => k_is)
    (case a_law_width => k_is)
    (case l_law_width => k_is)
    (case c_law_width => k_is)
    (case q_law_width => k_is)
    (case a_law_value => k_is)
    (case l_law_value => k_is)
    (case c_law_value => k_is)
    (case q_law_value => k_is)
    (case a_law_grouped => k_is)
    (case l_law_grouped => k_is)
    (case c_law_grouped => k_is)
    (case q_law_grouped => k_is)
    (case a_law_mixed => k_is)
    (case l_law_mixed => k_is)
    (case c_law_mixed => k_is)
    (case q_law_mixed => k_is)
    (case a_law_pair_right => k_is)
    (case l_law_pair_right => k_is)
    (case c_law_pair_right => k_is)
    (case q_law_pair_right => k_is)
    (case a_law => k_is)
    (case l_law => k_is)
    (case c_law => k_is)
    (case q_law => k_is)
