import PyProof.Rows.All
import Wide.All
import OpenK.AllK
import Wide.FinOn
import HandS.ForMost
import HandS.Wide
import HandS.Style
import HandS.Evl
import HandS.WideBits
import HandS.ClsMeth
import KE.KOpsOwn
import PyProof.TwoTypes
import PyProof.ListMulRoad
import PyProof.NeKinds
import HandS.IsInst
import KE.KEqDict
import HandS.RaiseMore
import HandS.Codes
import PyProof.ReprRoads
import HandS.Walk
import OpenK.KOps
import PyProof.ReprReads
import HandS.FStr
import PySem.Challenge.RW_twozeros_k03_sums_and_differences
set_option Elab.async false
set_option linter.all false
set_option maxRecDepth 100000
set_option maxHeartbeats 4000000
namespace Tz
open PySem L2
/-! ### heaps -/
/-- all but z is as it was -/
def Fw (z : Addr) (H H' : Hp) : Prop := ∀ a o, a ≠ z → H a = some o → H' a = some o
theorem Fw.refl (z : Addr) (H : Hp) : Fw z H H := fun _ _ _ h => h
theorem Fw.trans {z : Addr} {H H1 H2 : Hp} (a : Fw z H H1) (b : Fw z H1 H2) : Fw z H H2 := fun x o n h => b x o n (a x o n h)
theorem Fw.new {z : Addr} {H : Hp} {p : Addr} {o : HO} (h : H p = none) : Fw z H (upd H p o) := fun a u _ e => by
  rw [upd_ne (ne_of_none e h)]
  exact e
theorem Fw.at {z : Addr} {H : Hp} {o : HO} : Fw z H (upd H z o) := fun a u n e => by
  rw [upd_ne n]
  exact e
/-- all is as it was -/
def Ex (H H' : Hp) : Prop := ∀ a o, H a = some o → H' a = some o
theorem Ex.refl (H : Hp) : Ex H H := fun _ _ h => h
theorem Ex.trans {H H1 H2 : Hp} (a : Ex H H1) (b : Ex H1 H2) : Ex H H2 := fun x o h => b x o (a x o h)
theorem Ex.fw {z : Addr} {H H' : Hp} (e : Ex H H') : Fw z H H' := fun a o _ h => e a o h
theorem Ex.new {H : Hp} {p : Addr} {o : HO} (h : H p = none) : Ex H (upd H p o) := fun a u e => by
  rw [upd_ne (ne_of_none e h)]
  exact e
/-- a new object, told without its heap -/
theorem anew {H : Hp} {o : HO} {Q : V → Hp → Prop} (k : ∀ p H', H p = none → H' p = some o → Ex H H' → Q (.ref p) H') : ∀ p, H p = none → Q (.ref p) (upd H p o) := fun p hp => k p _ hp upd_same (Ex.new hp)
theorem sq {K : PySem.W.Frag} {H : Hp} {a : Addr} {xs : List V} (h : H a = some (.lst xs)) : SqL K H a xs := Or.inl (Or.inl h)
theorem sqt {K : PySem.W.Frag} {H : Hp} {a : Addr} {xs : List V} (h : H a = some (.tup xs)) : SqT K H a xs := Or.inl (Or.inl h)
theorem szl {n : Nat} (h : n ≤ 10000) : n ≤ sizeLine := Nat.le_trans h (by decide)
theorem gat {H H1 : Hp} {p : Addr} {o : HO} (g : upd H p o = H1) : H1 p = some o := by rw [← g]; exact upd_same
theorem gex {H H1 : Hp} {p : Addr} {o : HO} (g : upd H p o = H1) (h : H p = none) : Ex H H1 := by rw [← g]; exact Ex.new h
theorem gfw {H H1 : Hp} {p : Addr} {o : HO} (g : upd H p o = H1) : Fw p H H1 := by rw [← g]; exact Fw.at
/-! ### the pen -/
structure PenAt (H : Hp) (z c : Addr) (cells : List Int) (t : Nat) : Prop where
  pen : ∃ ix left : Int, H z = some (.lst [.ref c, .int ix, .int left]) ∧ 0 ≤ ix ∧ ix ≤ t ∧ 0 ≤ left
  cs : H c = some (.lst (cells.map V.int))
  ne : c ≠ z
  few : cells.length ≤ 63
theorem PenAt.ex {H H' : Hp} {z c : Addr} {cells : List Int} {t : Nat} (h : PenAt H z c cells t) (e : Ex H H') : PenAt H' z c cells t := by
  obtain ⟨⟨i, l, h1, h2⟩, h3, h4, h5⟩ := h
  exact ⟨⟨i, l, e _ _ h1, h2⟩, e _ _ h3, h4, h5⟩
theorem PenAt.mono {H : Hp} {z c : Addr} {cells : List Int} {t u : Nat} (h : PenAt H z c cells t) (e : t ≤ u) : PenAt H z c cells u := by
  obtain ⟨⟨i, l, h1, h2, h3, h6⟩, h4, h5, h7⟩ := h
  exact ⟨⟨i, l, h1, h2, by omega, h6⟩, h4, h5, h7⟩
theorem cell_get {cells : List Int} {j : Nat} (h : j < cells.length) : ∃ v : Int, (cells.map V.int)[j]? = some (.int v) := by
  refine ⟨cells[j], ?_⟩
  rw [List.getElem?_map, List.getElem?_eq_getElem h] <;> rfl
/-- one draw: what it asks, what it gives -/
def spDraw : Sp := fun vs H Q _ => ∃ z c cells t many, vs = [.ref z, .int many] ∧ PenAt H z c cells t ∧ t ≤ 100000 ∧ 0 < many ∧ many ≤ 100000 ∧
  ∀ n H', 0 ≤ n → n < many → PenAt H' z c cells (t + 1) → Fw z H H' → Q (.int n) H'
def spPen (K : PySem.W.Frag) : Sp := fun vs H Q _ => ∃ (a : Addr) (ns : List Int), vs = [.ref a] ∧ SqL K H a (ns.map V.int) ∧ ns.length ≤ 63 ∧
  ∀ z c H', PenAt H' z c ns 0 → Ex H H' → H z = none → H c = none → Q (.ref z) H'
def spWidth : Sp := fun vs H Q _ => ∃ z c cells t, vs = [.ref z] ∧ PenAt H z c cells t ∧ t ≤ 90000 ∧
  ∀ n H', 1 ≤ n → n ≤ 64 → PenAt H' z c cells (t + 2) → Fw z H H' → Q (.int n) H'
def spValue : Sp := fun vs H Q _ => ∃ z c cells t, ∃ w : Nat, vs = [.ref z, .int w] ∧ PenAt H z c cells t ∧ t ≤ 90000 ∧ 1 ≤ w ∧ w ≤ 64 ∧
  ∀ n H', 0 ≤ n → n < 2 ^ w → PenAt H' z c cells (t + 3) → Fw z H H' → Q (.int n) H'
/-! ### mathematics -/
theorem emod_bd {a m : Int} (h : 0 < m) : 0 ≤ a % m ∧ a % m < m := ⟨Int.emod_nonneg _ (by omega), Int.emod_lt_of_pos _ h⟩
theorem sq_le {i : Int} (h0 : 0 ≤ i) (h1 : i ≤ 100000) : 0 ≤ i * i ∧ i * i ≤ 10000000000 := by
  refine ⟨Int.mul_nonneg h0 h0, ?_⟩
  have := Int.mul_le_mul h1 h1 h0 (by decide : (0 : Int) ≤ 100000)
  omega
theorem mul_bd {a b A B : Int} (a0 : 0 ≤ a) (a1 : a ≤ A) (b0 : 0 ≤ b) (b1 : b ≤ B) : 0 ≤ a * b ∧ a * b ≤ A * B :=
  ⟨Int.mul_nonneg a0 b0, Int.mul_le_mul a1 b1 b0 (by omega)⟩
theorem cpow_of {i j : Int} (h0 : 0 ≤ i) (h1 : i < 18446744073709551616) (h2 : 0 ≤ j) (h3 : j ≤ 1000000) : CPow i j := ⟨h2, h3, by omega⟩
theorem draw_pw5 {cell ix a b : Int} (h0 : 0 ≤ ix) (h1 : ix ≤ 100000) (ha : 0 ≤ a) (ha2 : a ≤ 1000000) (hb : 0 ≤ b) (hb2 : b ≤ 1000000) : CPow (cell % 2147483563 + a * ix + b) 5 := by
  have h := emod_bd (a := cell) (m := 2147483563) (by decide)
  have m := mul_bd ha ha2 h0 h1
  exact cpow_of (by omega) (by omega) (by decide) (by decide)
theorem draw_pw3 {m ix c d e : Int} (h0 : 0 ≤ ix) (h1 : ix ≤ 100000) (m0 : 0 ≤ m) (m1 : m < 2147483629) (hc : 0 ≤ c) (hc2 : c ≤ 1000000) (hd : 0 ≤ d) (hd2 : d ≤ 1000000) (he : 0 ≤ e) (he2 : e ≤ 1000000) :
    CPow (m * (2 * ix + c) + d * ix * ix + e) 3 := by
  have a := mul_bd m0 (A := 2147483629) (by omega) (b := 2 * ix + c) (by omega) (B := 1200000) (by omega)
  have b := mul_bd hd hd2 h0 h1
  have g := mul_bd b.1 b.2 h0 h1
  exact cpow_of (by omega) (by omega) (by decide) (by decide)
theorem pow18 : (10 : Int) ^ (18 : Int).toNat = 1000000000000000000 := by decide
theorem pow_gt {n : Nat} (h : 1 ≤ n) : (1 : Int) < 2 ^ n := by
  obtain ⟨m, rfl⟩ : ∃ m, n = m + 1 := ⟨n - 1, by omega⟩
  have := Int.pow_pos (n := (2 : Int)) (m := m) (by decide)
  rw [Int.pow_succ]
  omega
theorem pow_le64 {n : Nat} (h : n ≤ 64) : (2 : Int) ^ n ≤ 18446744073709551616 := by
  have h1 : (2 : Nat) ^ n ≤ 2 ^ 64 := Nat.pow_le_pow_right (by decide) h
  have h2 : ((2 ^ n : Nat) : Int) = 2 ^ n := by rw [Int.natCast_pow] <;> rfl
  have h3 : (2 : Nat) ^ 64 = 18446744073709551616 := by decide
  omega
theorem and_top {wd : Nat} {x : Int} (hx : 0 ≤ x) : 0 ≤ Builtin.bitAnd x (2 ^ wd - 1) ∧ Builtin.bitAnd x (2 ^ wd - 1) < 2 ^ wd := by
  have e : Builtin.bitAnd x (2 ^ wd - 1) = x % 2 ^ wd := PySem.W.kbt_mask x wd
  rw [e]
  exact emod_bd (Int.pow_pos (by decide))
theorem back {H H' : Hp} {p : Addr} (e : Ex H H') (h : H' p = none) : H p = none := by
  cases q : H p with
  | none => rfl
  | some o =>
    rw [e _ _ q] at h
    cases h
theorem cut63 (n : Nat) : HT.sIx n n (some 63) = min 63 n := by
  show HT.sIx n n (some (63 : Int)) = min 63 n
  simp [HT.sIx]
  all_goals omega
theorem dp_ints {K : PySem.W.Frag} {H : Hp} : ∀ cells : List Int, DpAll K H (cells.map V.int) (cells.map PyData.int)
  | [] => DpAll.nil
  | c :: r => DpAll.cons (Dp.int c) (dp_ints r)
theorem lay_ints : ∀ cells : List Int, PyData.canLayAll0 (cells.map PyData.int) = true
  | [] => by rw [List.map_nil, PyData.canLayAll0]
  | c :: r => by rw [List.map_cons, PyData.canLayAll0, PyData.canLay0, lay_ints r] <;> rfl
theorem deep_ints : ∀ cells : List Int, PyData.depthAll (cells.map PyData.int) = 0
  | [] => by rw [List.map_nil, PyData.depthAll]
  | c :: r => by rw [List.map_cons, PyData.depthAll, PyData.depth, deep_ints r] <;> rfl
theorem shaped_ints (cells : List Int) : SeqAt.shaped (.list (cells.map PyData.int)) = true := by
  unfold SeqAt.shaped
  rw [PyData.canLay0, lay_ints, PyData.depth, deep_ints] <;> decide
end Tz
namespace TzOwn
open PySem L2 ClX
section
variable {X : Cx} {CX : CXT} {k : Nat} {f C g p : Addr} {fd : FuncData} {ps : List Str} {sp : Sp} {E : XK} {pins : List (Addr × Obj)} {σ : L2.St} {H : Hp} {s : Shared} {mc : Value} {m : Str} {o e : Expr} {es : List Expr} {apos pos : Pos} {ta : TE} {t : TA} {pl : Sem Bool}
theorem back_cmp {Q : VK} {u : Value} {s' : Shared} (h : EP X pins σ Q u s') : PySem.W.CmpBack (EP X pins σ Q) u s' := by
  obtain ⟨v, H', I, r, q⟩ := id h
  cases v with
  | non => cases (show u = Value.none from r); exact h
  | bl b => cases (show u = Value.bool b from r); exact h
  | int i => obtain ⟨t, e⟩ := (show ∃ t, u = Value.int i t from r); subst e; exact h
  | str i => obtain ⟨t, e⟩ := (show ∃ t, u = Value.str i t from r); subst e; exact h
  | byt i => obtain ⟨t, e⟩ := (show ∃ t, u = Value.bytes i t from r); subst e; exact h
  | flt i => obtain ⟨t, e⟩ := (show ∃ t, u = Value.float i t from r); subst e; exact h
  | ref a => cases (show u = Value.ref a from r); exact h
  | ty a => cases (show u = Value.type a from r); exact h
theorem inst_at (I : Inv X pins σ H s) {a dx : Addr} {fs : List (Str × V)} (h : H a = some (.ins C dx fs)) : ∃ od, PySem.W.InstAt s.heap a (PySem.W.instObj C dx) C (some od) := by
  obtain ⟨mA, J, _⟩ := ins_get I.hok h
  obtain ⟨od, J, _⟩ := J.look
  exact ⟨od, J⟩
/-- a, b instances of the class at C: its own method, by its promise -/
def rOwn (C : Addr) (sp : Sp) (E : XK) : R2 := fun x y H Q => ∃ a b dx dy fs gs, x = .ref a ∧ y = .ref b ∧ H a = some (.ins C dx fs) ∧ H b = some (.ins C dy gs) ∧ sp [.ref a, .ref b] H Q E
/-- a an instance, b an int -/
def rOwnI (C : Addr) (sp : Sp) (E : XK) : R2 := fun x y H Q => ∃ a n dx fs, x = .ref a ∧ y = .int n ∧ H a = some (.ins C dx fs) ∧ sp [.ref a, .int n] H Q E
def rIOwn (C : Addr) (sp : Sp) (E : XK) : R2 := fun x y H Q => ∃ a n dx fs, x = .int n ∧ y = .ref a ∧ H a = some (.ins C dx fs) ∧ sp [.ref a, .int n] H Q E
def rOwn1 (C : Addr) (sp : Sp) (E : XK) : V → Hp → VK → Prop := fun x H Q => ∃ a dx fs, x = .ref a ∧ H a = some (.ins C dx fs) ∧ sp [.ref a] H Q E
theorem op_own {op : Operator} {nm : Str} (F : FnOk X.prog X.w X.K X.mg X.base CX k f fd ps sp) (hr : Room k X.A) (M : Meth X.K C nm f) (hn : PySem.dunder op.info.2 = nm) (sf : PySem.W.selfFirst X.K C = true) (hb : Binds X.K fd ps []) (hx : Passes CX X E) :
    OpR X (binaryOp op) (rOwn C sp E) := by
  intro pins s σ H x y v u Q I rx ry h
  obtain ⟨a, b, dx, dy, fs, gs, rfl, rfl, ha, hb', q⟩ := h
  cases rx
  cases ry
  obtain ⟨od, J⟩ := inst_at I ha
  obtain ⟨od', J'⟩ := inst_at I hb'
  obtain ⟨m, hF⟩ := I.fr
  refine PySem.W.binop_K hF I.ok.mod.kin J J'.type sf (hn ▸ M.at_) M.fn ?_
  exact thn (run_fn (us := [.ref a, .ref b]) (vs := [.ref a, .ref b]) F hr hb .nil hx I (.cons rfl (.cons rfl .nil)) q) fun _ _ z => back_cmp z
theorem op_ownI {op : Operator} {nm nr : Str} {fo ro rc : Option Value} (F : FnOk X.prog X.w X.K X.mg X.base CX k f fd ps sp) (hr : Room k X.A) (M : Meth X.K C nm f) (hn : PySem.dunder op.info.2 = nm) (sf : PySem.W.selfFirst X.K C = true) (hb : Binds X.K fd ps []) (hx : Passes CX X E)
    (hnr : dunderR op.info.2 = nr) (hc : PySem.W.findIn X.K (.ref C) nr = some rc) (hp : rc = none ∨ ∃ g : Addr, rc = some (.ref g)) (h1 : PySem.W.findIn X.K (.type "int") nm = some fo) (h2 : PySem.W.findIn X.K (.type "int") nr = some ro)
    (hsub : PySem.W.subIn X.K (.type "int") (.ref C) = some false) :
    OpR X (binaryOp op) (rOwnI C sp E) := by
  intro pins s σ H x y v u Q I rx ry h
  obtain ⟨a, n, dx, fs, rfl, rfl, ha, q⟩ := h
  cases rx
  obtain ⟨t, rfl⟩ := ry
  obtain ⟨od, J⟩ := inst_at I ha
  obtain ⟨m, hF⟩ := I.fr
  refine PySem.W.ksp_binT (T := "int") hF I.ok.mod.kin J rfl sf (hn ▸ M.at_) M.fn (hnr ▸ hc) hp (hn ▸ h1) (hnr ▸ h2) hsub ?_
  exact thn (run_fn (us := [.ref a, .int n t]) (vs := [.ref a, .int n]) F hr hb .nil hx I (.cons rfl (.cons ⟨_, rfl⟩ .nil)) q) fun _ _ z => back_cmp z
theorem un_inv_own {nm : Str} (F : FnOk X.prog X.w X.K X.mg X.base CX k f fd ps sp) (hr : Room k X.A) (M : Meth X.K C nm f) (hn : "__invert__" = nm) (hb : Binds X.K fd ps []) (hx : Passes CX X E) : UnR X (unaryOp .Invert) (rOwn1 C sp E) := by
  intro pins s σ H x v Q I rx h
  obtain ⟨a, dx, fs, rfl, ha, q⟩ := h
  cases rx
  obtain ⟨od, J⟩ := inst_at I ha
  obtain ⟨m, hF⟩ := I.fr
  refine PySem.W.ksp_inv hF I.ok.mod.kin J (hn ▸ M.at_) M.fn ?_
  exact run_fn (us := [.ref a]) (vs := [.ref a]) F hr hb .nil hx I (.cons rfl .nil) q
theorem cmp_own {op : CmpOp} {nm : Str} (F : FnOk X.prog X.w X.K X.mg X.base CX k f fd ps sp) (hr : Room k X.A) (M : Meth X.K C nm f) (hn : (cmpInfo op).2.1 = nm) (ho : compareOp op = richCompare op) (hb : Binds X.K fd ps []) (hx : Passes CX X E) : OpR X (compareOp op) (rOwn C sp E) := by
  intro pins s σ H x y v u Q I rx ry h
  obtain ⟨a, b, dx, dy, fs, gs, rfl, rfl, ha, hb', q⟩ := h
  cases rx
  cases ry
  obtain ⟨od, J⟩ := inst_at I ha
  obtain ⟨od', J'⟩ := inst_at I hb'
  obtain ⟨m, hF⟩ := I.fr
  rw [ho]
  refine PySem.W.cmp_K (op := op) (tb := .ref C) hr.units0 hF I.ok.mod.kin J J'.type (by simp [PySem.W.notFirst]) (hn ▸ M.at_) M.fn ?_
  exact thn (run_fn (us := [.ref a, .ref b]) (vs := [.ref a, .ref b]) F hr hb .nil hx I (.cons rfl (.cons rfl .nil)) q) fun _ _ z => back_cmp z
theorem int_mul_ins (n : Int) (t : Tok) (x C dx : Addr) : Meets (Builtin.«int.__mul__» ⟨[.int n t, .ref x], []⟩) (fun _ R s => s.heap.get? x = some (PySem.W.instObj C dx) ∧ R (.ok (.ret Value.notImplemented)) s) :=
  .of_wp fun prog w A R s h => by obtain ⟨hp, g, d, tk, os⟩ := s; obtain ⟨hl, h⟩ := h; wp_walk; exact ⟨_, rfl, h⟩
theorem int_add_ins (n : Int) (t : Tok) (x C dx : Addr) : Meets (Builtin.«int.__add__» ⟨[.int n t, .ref x], []⟩) (fun _ R s => s.heap.get? x = some (PySem.W.instObj C dx) ∧ R (.ok (.ret Value.notImplemented)) s) :=
  .of_wp fun prog w A R s h => by obtain ⟨hp, g, d, tk, os⟩ := s; obtain ⟨hl, h⟩ := h; wp_walk; exact ⟨_, rfl, h⟩
theorem int_sub_ins (n : Int) (t : Tok) (x C dx : Addr) : Meets (Builtin.«int.__sub__» ⟨[.int n t, .ref x], []⟩) (fun _ R s => s.heap.get? x = some (PySem.W.instObj C dx) ∧ R (.ok (.ret Value.notImplemented)) s) :=
  .of_wp fun prog w A R s h => by obtain ⟨hp, g, d, tk, os⟩ := s; obtain ⟨hl, h⟩ := h; wp_walk; exact ⟨_, rfl, h⟩
theorem int_xor_ins (n : Int) (t : Tok) (x C dx : Addr) : Meets (Builtin.«int.__xor__» ⟨[.int n t, .ref x], []⟩) (fun _ R s => s.heap.get? x = some (PySem.W.instObj C dx) ∧ R (.ok (.ret Value.notImplemented)) s) :=
  .of_wp fun prog w A R s h => by obtain ⟨hp, g, d, tk, os⟩ := s; obtain ⟨hl, h⟩ := h; wp_walk; exact ⟨_, rfl, h⟩
/-- int op instance: the left one declines, the class's reflected method answers -/
theorem op_iown {op : Operator} {nm nl : Str} {fl : Addr} {idl : String} {B : Builtin} (F : FnOk X.prog X.w X.K X.mg X.base CX k f fd ps sp) (hr : Room k X.A) (M : Meth X.K C nm f) (hn : dunderR op.info.2 = nm) (ML : Meth X.K C nl fl) (hnl : PySem.dunder op.info.2 = nl) (sf : PySem.W.selfFirst X.K C = true)
    (hb : Binds X.K fd ps []) (hx : Passes CX X E) (hsub : PySem.W.subIn X.K (.ref C) (.type "int") = some false)
    (fills : fillsNumberSlot (.type "int") op.info.2 = pure true) (slot : Slot "int" (PySem.dunder op.info.2) idl) (entry : entryFor table idl = some B) (args : ∀ n t a, argsOk idl ⟨[.int n t, .ref a], []⟩)
    (meets : ∀ n t x dx, Meets (B ⟨[.int n t, .ref x], []⟩) (fun _ R s => s.heap.get? x = some (PySem.W.instObj C dx) ∧ R (.ok (.ret Value.notImplemented)) s)) :
    OpR X (binaryOp op) (rIOwn C sp E) := by
  intro pins s σ H x y v u Q I rx ry h
  obtain ⟨a, n, dx, fs, rfl, rfl, ha, q⟩ := h
  cases ry
  obtain ⟨t, rfl⟩ := rx
  obtain ⟨mA, J0, _⟩ := ins_get I.hok ha
  obtain ⟨od, J, _⟩ := J0.look
  have Xk := I.kIn
  obtain ⟨cd, rest, hcd, hm⟩ := PySem.W.ksp_first sf
  rcases hi : op.info with ⟨sym, nm'⟩
  rw [hi] at hn hnl fills slot
  dsimp only at hn hnl fills slot
  have L3 : PySem.W.Looks (model X.prog X.w) s.heap (fillsNumberSlot (.ref C) nm') true := PySem.W.fills_K Xk hcd hm (hnl ▸ ML.at_)
  have L5 : PySem.W.Looks (model X.prog X.w) s.heap (isSubtype (.ref C) (.type "int")) false := PySem.W.looks_subIn Xk hsub
  have hne : (Value.type "int" == Value.ref C) = false := Bool.eq_false_iff.mpr fun q => by cases beq_iff_eq.mp q
  have L0 : typeOf (.int n t) = pure (.type "int") := rfl
  simp only [binaryOp, hi]
  refine wpAny_holding (wpAny_bind ?_)
  unfold binaryOp1
  refine wpAny_bind (wpAny_of_eq L0 (wpAny_bind (J.type.here (wpAny_bind (wpAny_of_eq fills ?_)))))
  simp only [hne, Bool.false_eq_true, if_false]
  refine wpAny_bind (L3.here ?_)
  simp only [Bool.and_self, if_true]
  refine wpAny_bind (L5.here ?_)
  have hpy : numberSlotInPython (.type "int") nm' = pure false := rfl
  simp only [Bool.false_eq_true, if_false, pure_bind, Bool.not_false, Bool.and_self, if_true, hpy]
  refine wpAny_bind (wpAny_tryMethod_declines (T := "int") rfl slot (call_meets slot rfl entry (args n t a) (meets n t a dx) ⟨J0.obj, rfl, ?_⟩))
  refine wpAny_bind ?_
  have z := PySem.W.ksp_try (Q := EP X pins σ Q) Xk J (hn ▸ M.at_) M.fn (thn (run_fn (us := [.ref a, .int n t]) (vs := [.ref a, .int n]) F hr hb .nil hx I (.cons rfl (.cons ⟨_, rfl⟩ .nil)) q) fun _ _ z => back_cmp z)
  refine wpAny_mono z (fun r s' hr' => ?_) fun _ _ e => e
  obtain ⟨v, rfl, hq⟩ := hr'
  exact wpAny_bind (wpAny_rule (wpAny_pure (wpAny_pure hq)))
/-- C.m is a staticmethod: its record at p, its def at g -/
structure SMet (K : PySem.W.Frag) (C : Addr) (mc : Value) (m : Str) (p g : Addr) : Prop where
  at_ : PySem.W.findCls K (.ref C) mc m = some (.get (.builtin "staticmethod.__get__") (.ref p) .none (.ref C))
  rc : ∃ rest, PySem.W.recIn K p "staticmethod" = some (.ref g :: rest)
  kp : PySem.W.keepIn K (.ref g) = true
theorem getsmet_ok {b : Bool} {A : Around} {E : Value → Shared → Prop} {Q : Value → Shared → Prop} (I : Inv X pins σ H s) (r : CRead X.K C mc) (c : SMet X.K C mc m p g)
    (h : ∀ s', Inv X pins σ H s' → Q (.ref g) s') : wpAny (model X.prog X.w) A (getAttr (.ref C) m b) Q E s := by
  obtain ⟨rest, hp⟩ := c.rc
  refine PySem.W.cls_bind I.kIn r.rd c.at_ ?_
  exact wpAny_call (PySem.W.sm_get (s := { s with toks := s.toks + 1 }) I.kIn hp (PySem.W.handed_on rfl (h _ (I.tok _))))
def tSMeth (C : Addr) (sp : Sp) (E : XK) (ta : TE) (t : TA) : TE := fun σ H Q => ta σ H fun x H1 => x = .ref C ∧ t σ H1 fun vs H2 => sp vs H2 Q E
theorem pe_smeth (he : PE X o ta) (r : CRead X.K C mc) (c : SMet X.K C mc m p g) (F : FnOk X.prog X.w X.K X.mg X.base CX k g fd ps sp) (hr : Room k X.A) (hb : Binds X.K fd ps []) (hx : Passes CX X E) (ha : PA X (e :: es) t)
    (hst : starEach (e :: es) X.env = (false, eval e X.env) :: starEach es X.env := by rfl) (hpl : (backTo pos (starEach es X.env)).any (·.1) = false := by rfl)
    (ht : eval (.Call (.Attribute o m apos) (e :: es) [] pos) X.env = (do
      let ov ← eval o X.env
      standAt apos.atName
      let (f, first) ← holding [ov] (getMethod ov m pl)
      callWith pos f first (backTo pos (starEach (e :: es) X.env)) (backToKw pos (keywordEach [] X.env))) := by rfl) :
    PE X (.Call (.Attribute o m apos) (e :: es) [] pos) (tSMeth C sp E ta t) := by
  refine ⟨fun pins s σ H Q I h => ?_⟩
  refine PySem.W.methodCall_KW (pl := pl) (thn (he.run pins s σ H _ I h) fun u s1 ⟨x, H1, I1, rx, ex, q⟩ => ?_) ht
  subst ex
  obtain rfl : u = Value.ref C := rx
  refine PySem.W.method_cls I1.kIn r.ga (getsmet_ok I1 r c fun s2 I2 => ?_)
  refine PySem.W.callWith_K (first := []) (h₀ := X.base) I.ok.mod.kin c.kp (thn (ha.run pos _ s2 σ H1 _ I2 q) fun us s3 ⟨vs, H2, I3, rv, q2⟩ => ⟨I3.kIn, ?_⟩) hst hpl
  exact run_fn (us := us) (vs := vs) F hr hb .nil hx I3 rv (by rw [List.append_nil]; exact q2)
end
end TzOwn
namespace TzOwn
open PySem L2 SeqAt
section
variable {X : Cx}
/-- xs != [], xs == [], whatever the items are: the second list is empty -/
def rNeNil : R2 := fun x y H Q => ∃ a b xs, x = .ref a ∧ y = .ref b ∧ H a = some (.lst xs) ∧ H b = some (.lst []) ∧ Q (.bl (!xs.isEmpty)) H
def rEqNil : R2 := fun x y H Q => ∃ a b xs, x = .ref a ∧ y = .ref b ∧ H a = some (.lst xs) ∧ H b = some (.lst []) ∧ Q (.bl xs.isEmpty) H
theorem op_neNil (hu : X.A.units < cLine) : OpR X (compareOp .NotEq) rNeNil := by
  intro pins s σ H x y v u Q I rx ry h
  obtain ⟨a, b, xs, rfl, rfl, ha, hb, q⟩ := h
  cases rx
  cases ry
  obtain ⟨_, its, n, r, e⟩ := I.hok a _ ha
  obtain ⟨_, its2, n2, r2, e2⟩ := I.hok b _ hb
  have l2 : its2 = [] := List.length_eq_zero_iff.mp r2.length.symm
  subst l2
  show wpAny (model X.prog X.w) X.A (richCompare .NotEq (.ref a) (.ref b)) (EP X pins σ Q) X.xe s
  cases xs with
  | nil =>
    have l1 : its = [] := List.length_eq_zero_iff.mp r.length.symm
    subst l1
    exact RcNeAt.lists (e := fun _ => true) ⟨_, e, rfl, n, rfl⟩ ⟨_, e2, rfl, n2, rfl⟩ rfl hu (fun i h1 => absurd h1 (Nat.not_lt_zero _)) _ _ _ _ ⟨.bl false, H, I, rfl, q⟩
  | cons y ys =>
    have l1 : its.length = ys.length + 1 := r.length.symm
    exact RcNeAt.lists_lengths ⟨_, e, rfl, n, rfl⟩ ⟨_, e2, rfl, n2, rfl⟩ (by simp [l1]) hu _ _ _ _ ⟨.bl true, H, I, rfl, q⟩
end
end TzOwn
namespace Tz
open PySem L2
/-! ### mathematics of carried sums -/
/-- the greatest value -/
def mw (w : Nat) : Int := 2 ^ w - 1
theorem mw_pos {w : Nat} (h : 1 ≤ w) : 1 ≤ mw w := by
  have := pow_gt h
  unfold mw
  omega
theorem mw_64 {w : Nat} (h : w ≤ 64) : mw w < 18446744073709551616 := by
  have := pow_le64 h
  unfold mw
  omega
theorem mw_lt {w : Nat} {v : Int} : v < 2 ^ w ↔ v ≤ mw w := by
  unfold mw
  omega
/-- the value of a sum of words whose plain sum is n -/
def cr (w : Nat) (n : Int) : Int := if 0 < n then (n - 1) % mw w + 1 else 0
theorem cr_bd {w : Nat} (h : 1 ≤ w) (n : Int) : 0 ≤ cr w n ∧ cr w n ≤ mw w := by
  have hm := mw_pos h
  unfold cr
  split
  · have := emod_bd (a := n - 1) (m := mw w) (by omega)
    omega
  · omega
theorem cr_pos {w : Nat} (h : 1 ≤ w) {n : Int} (hn : 0 < n) : 1 ≤ cr w n := by
  have hm := mw_pos h
  unfold cr
  rw [if_pos hn]
  have := emod_bd (a := n - 1) (m := mw w) (by omega)
  omega
theorem cr_zero (w : Nat) : cr w 0 = 0 := rfl
theorem cr_non {w : Nat} {n : Int} (h : ¬ 0 < n) : cr w n = 0 := if_neg h
/-- the one word from 1 to M with the rest of n -/
theorem cr_eq {w : Nat} {n r q : Int} (hn : 0 < n) (h1 : 1 ≤ r) (h2 : r ≤ mw w) (e : n = r + mw w * q) : cr w n = r := by
  unfold cr
  rw [if_pos hn, show n - 1 = (r - 1) + mw w * q by omega, Int.add_mul_emod_self_left, Int.emod_eq_of_lt (by omega) (by omega)]
  omega
theorem cr_ex {w : Nat} (n : Int) (hn : 0 < n) : ∃ q, n = cr w n + mw w * q := by
  refine ⟨(n - 1) / mw w, ?_⟩
  unfold cr
  rw [if_pos hn]
  have := Int.emod_add_mul_ediv (n - 1) (mw w)
  omega
theorem cr_self {w : Nat} {x : Int} (h0 : 0 ≤ x) (h1 : x ≤ mw w) : cr w x = x := by
  by_cases h : 0 < x
  · exact cr_eq (q := 0) h (by omega) h1 (by omega)
  · rw [cr_non h]
    omega
/-- the carry may be done ahead -/
theorem cr_add {w : Nat} (h : 1 ≤ w) {a b : Int} (ha : 0 ≤ a) (hb : 0 ≤ b) : cr w (cr w a + b) = cr w (a + b) := by
  by_cases h0 : 0 < a
  · obtain ⟨q, e⟩ := cr_ex (w := w) a h0
    have p1 := cr_pos h h0
    have p2 := cr_bd h (a + b)
    have p3 := cr_pos h (n := a + b) (by omega)
    obtain ⟨r, e2⟩ := cr_ex (w := w) (a + b) (by omega)
    refine cr_eq (q := r - q) (by omega) p3 p2.2 ?_
    rw [Int.mul_sub]
    omega
  · rw [cr_non h0, show a = 0 by omega]
theorem cr_add2 {w : Nat} (h : 1 ≤ w) {a b : Int} (ha : 0 ≤ a) (hb : 0 ≤ b) : cr w (cr w a + cr w b) = cr w (a + b) := by
  rw [cr_add h ha (cr_bd h b).1, Int.add_comm, cr_add h hb ha, Int.add_comm]
theorem cr_mul {w : Nat} (h : 1 ≤ w) {k a : Int} (hk : 0 ≤ k) (ha : 0 ≤ a) : cr w (k * cr w a) = cr w (k * a) := by
  by_cases h0 : 0 < a
  · by_cases k0 : 0 < k
    · obtain ⟨q, e⟩ := cr_ex (w := w) a h0
      have p1 := cr_pos h h0
      have hka := Int.mul_pos k0 h0
      have hkc := Int.mul_pos k0 (show 0 < cr w a by omega)
      have p2 := cr_bd h (k * a)
      have p3 := cr_pos h hka
      obtain ⟨r, e2⟩ := cr_ex (w := w) (k * a) hka
      refine cr_eq (q := r - k * q) hkc p3 p2.2 ?_
      have e3 : k * a = k * cr w a + mw w * (k * q) := by
        conv => lhs; rw [e]
        rw [Int.mul_add, Int.mul_left_comm]
      rw [Int.mul_sub]
      omega
    · rw [show k = 0 by omega, Int.zero_mul, Int.zero_mul]
  · rw [cr_non h0, show a = 0 by omega]
/-! ### what a word is -/
/-- its attributes, in the order in which __init__ stores them -/
def wf (w : Nat) (v : Int) : List (Str × V) :=
  putF "is_full" (.bl (v == mw w)) (putF "is_empty" (.bl (v == 0)) (putF "rest" (.int (v % mw w)) (putF "value" (.int v) (putF "width" (.int w) []))))
theorem sne : (¬ (("width" : Str) = "value")) ∧ (¬ (("width" : Str) = "rest")) ∧ (¬ (("width" : Str) = "is_empty")) ∧ (¬ (("width" : Str) = "is_full")) ∧ (¬ (("value" : Str) = "rest")) ∧ (¬ (("value" : Str) = "is_empty")) ∧ (¬ (("value" : Str) = "is_full")) ∧
    (¬ (("rest" : Str) = "is_empty")) ∧ (¬ (("rest" : Str) = "is_full")) ∧ (¬ (("is_empty" : Str) = "is_full")) := by decide +kernel
theorem wf_width (w : Nat) (v : Int) : (wf w v).lookup ("width" : Str) = some (.int w) := by
  unfold wf
  rw [lookup_putF, if_neg sne.2.2.2.1, lookup_putF, if_neg sne.2.2.1, lookup_putF, if_neg sne.2.1, lookup_putF, if_neg sne.1, lookup_putF, if_pos rfl]
theorem wf_value (w : Nat) (v : Int) : (wf w v).lookup ("value" : Str) = some (.int v) := by
  unfold wf
  rw [lookup_putF, if_neg sne.2.2.2.2.2.2.1, lookup_putF, if_neg sne.2.2.2.2.2.1, lookup_putF, if_neg sne.2.2.2.2.1, lookup_putF, if_pos rfl]
theorem wf_rest (w : Nat) (v : Int) : (wf w v).lookup ("rest" : Str) = some (.int (v % mw w)) := by
  unfold wf
  rw [lookup_putF, if_neg sne.2.2.2.2.2.2.2.2.1, lookup_putF, if_neg sne.2.2.2.2.2.2.2.1, lookup_putF, if_pos rfl]
theorem wf_is_empty (w : Nat) (v : Int) : (wf w v).lookup ("is_empty" : Str) = some (.bl (v == 0)) := by
  unfold wf
  rw [lookup_putF, if_neg sne.2.2.2.2.2.2.2.2.2, lookup_putF, if_pos rfl]
theorem wf_is_full (w : Nat) (v : Int) : (wf w v).lookup ("is_full" : Str) = some (.bl (v == mw w)) := by
  unfold wf
  rw [lookup_putF, if_pos rfl]
theorem wf_no (w : Nat) (v : Int) {m : Str} (h1 : ¬ m = "width") (h2 : ¬ m = "value") (h3 : ¬ m = "rest") (h4 : ¬ m = "is_empty") (h5 : ¬ m = "is_full") : (wf w v).lookup m = none := by
  unfold wf
  rw [lookup_putF, if_neg h5, lookup_putF, if_neg h4, lookup_putF, if_neg h3, lookup_putF, if_neg h2, lookup_putF, if_neg h1]
  all_goals rfl
structure WordAt (C : Addr) (H : Hp) (x : Addr) (w : Nat) (v : Int) : Prop where
  ob : ∃ dx, H x = some (.ins C dx (wf w v))
  w1 : 1 ≤ w
  w64 : w ≤ 64
  v0 : 0 ≤ v
  vm : v ≤ mw w
theorem WordAt.ex {C : Addr} {H H' : Hp} {x : Addr} {w : Nat} {v : Int} (h : WordAt C H x w v) (e : Ex H H') : WordAt C H' x w v := by
  obtain ⟨⟨dx, h1⟩, h2, h3, h4, h5⟩ := h
  exact ⟨⟨dx, e _ _ h1⟩, h2, h3, h4, h5⟩
theorem WordAt.fw {C : Addr} {H H' : Hp} {x z : Addr} {w : Nat} {v : Int} (h : WordAt C H x w v) (e : Fw z H H') (n : x ≠ z) : WordAt C H' x w v := by
  obtain ⟨⟨dx, h1⟩, h2, h3, h4, h5⟩ := h
  exact ⟨⟨dx, e _ _ n h1⟩, h2, h3, h4, h5⟩
theorem WordAt.ne_pen {C : Addr} {H : Hp} {x z c : Addr} {w t : Nat} {v : Int} {cells : List Int} (h : WordAt C H x w v) (p : PenAt H z c cells t) : x ≠ z := by
  obtain ⟨⟨dx, h1⟩, _⟩ := h
  obtain ⟨⟨i, l, h2, _⟩, _⟩ := p
  exact ne_of h1 h2 (by intro q; cases q)
/-! ### promises -/
def spIsFromI : Sp := fun vs H Q _ => ∃ v lo hi : Int, vs = [.int v, .int lo, .int hi] ∧ ∀ b : Bool, (b = true ↔ lo ≤ v ∧ v ≤ hi) → Q (.bl b) H
def spMost : Sp := fun vs H Q _ => ∃ w : Nat, vs = [.int w] ∧ 1 ≤ w ∧ w ≤ 64 ∧ Q (.int (mw w)) H
def spCheckedWidth : Sp := fun vs H Q _ => ∃ w : Nat, vs = [.int w] ∧ 1 ≤ w ∧ w ≤ 64 ∧ Q (.int w) H
def spWordInit (C : Addr) : Sp := fun vs H Q _ => ∃ p dx, ∃ w : Nat, ∃ v : Int, vs = [.ref p, .int w, .int v] ∧ H p = some (.ins C dx []) ∧ 1 ≤ w ∧ w ≤ 64 ∧ 0 ≤ v ∧ v ≤ mw w ∧
  ∀ H', H' p = some (.ins C dx (wf w v)) → (∀ b o, H b = some o → b ≠ p → H' b = some o) → Q .non H'
def spCarried : Sp := fun vs H Q _ => ∃ w : Nat, ∃ n : Int, vs = [.int w, .int n] ∧ 1 ≤ w ∧ w ≤ 64 ∧ Q (.int (cr w n)) H
/-- a new word -/
def NewW (C : Addr) (w : Nat) (v : Int) (H : Hp) (Q : VK) : Prop := ∀ p H', H p = none → Ex H H' → WordAt C H' p w v → Q (.ref p) H'
theorem NewW.go {C : Addr} {w : Nat} {v : Int} {H H1 H2 : Hp} {Q : VK} {p : Addr} (k : NewW C w v H Q) (e : Ex H H1) (n : H1 p = none) (e2 : Ex H1 H2) (W : WordAt C H2 p w v) : Q (.ref p) H2 := k p H2 (back e n) (e.trans e2) W
def spSumWord (C : Addr) : Sp := fun vs H Q _ => ∃ w : Nat, ∃ a b : Int, vs = [.int w, .int a, .int b] ∧ 1 ≤ w ∧ w ≤ 64 ∧ NewW C w (cr w (a + b)) H Q
def spDiffWord (C : Addr) : Sp := fun vs H Q _ => ∃ w : Nat, ∃ a b : Int, vs = [.int w, .int a, .int b] ∧ 1 ≤ w ∧ w ≤ 64 ∧ NewW C w (cr w (a + (mw w - b))) H Q
def spTimes : Sp := fun vs H Q _ => ∃ k : Int, vs = [.int k] ∧ 0 ≤ k ∧ k ≤ 1000000000000000000000000000000 ∧ Q (.int k) H
def spTurned (C : Addr) : Sp := fun vs H Q _ => ∃ x, ∃ w : Nat, ∃ v k : Int, vs = [.ref x, .int k] ∧ WordAt C H x w v ∧ NewW C w (cr w (v * 2 ^ (k % w).toNat)) H Q
def spOperand (C : Addr) : Sp := fun vs H Q _ => ∃ x y, ∃ w : Nat, ∃ u v : Int, vs = [.ref x, .ref y] ∧ WordAt C H x w u ∧ WordAt C H y w v ∧ Q (.int v) H
def spAdd (C : Addr) : Sp := fun vs H Q _ => ∃ x y, ∃ w : Nat, ∃ u v : Int, vs = [.ref x, .ref y] ∧ WordAt C H x w u ∧ WordAt C H y w v ∧ NewW C w (cr w (u + v)) H Q
def spSub (C : Addr) : Sp := fun vs H Q _ => ∃ x y, ∃ w : Nat, ∃ u v : Int, vs = [.ref x, .ref y] ∧ WordAt C H x w u ∧ WordAt C H y w v ∧ NewW C w (cr w (u + (mw w - v))) H Q
def spEq (C : Addr) : Sp := fun vs H Q _ => ∃ x y, ∃ w1 w2 : Nat, ∃ u v : Int, vs = [.ref x, .ref y] ∧ WordAt C H x w1 u ∧ WordAt C H y w2 v ∧ Q (.bl (decide (w1 = w2) && decide (u = v))) H
def spLike (C : Addr) : Sp := fun vs H Q _ => ∃ x y, ∃ w : Nat, ∃ u v : Int, vs = [.ref x, .ref y] ∧ WordAt C H x w u ∧ WordAt C H y w v ∧ Q (.bl (decide (u % mw w = v % mw w))) H
def spMulI (C : Addr) : Sp := fun vs H Q _ => ∃ x, ∃ w : Nat, ∃ u k : Int, vs = [.ref x, .int k] ∧ WordAt C H x w u ∧ 0 ≤ k ∧ k ≤ 1000000000000000000000000000000 ∧ NewW C w (cr w (k * u)) H Q
def spShlI (C : Addr) : Sp := fun vs H Q _ => ∃ x, ∃ w : Nat, ∃ u k : Int, vs = [.ref x, .int k] ∧ WordAt C H x w u ∧ 0 ≤ k ∧ k ≤ 1000000000000000000000000000000 ∧ NewW C w (cr w (u * 2 ^ (k % w).toNat)) H Q
def spInv (C : Addr) : Sp := fun vs H Q _ => ∃ x, ∃ w : Nat, ∃ u : Int, vs = [.ref x] ∧ WordAt C H x w u ∧ NewW C w (mw w - u) H Q
def spConst (C : Addr) (f : Nat → Int) : Sp := fun vs H Q _ => ∃ w : Nat, vs = [.int w] ∧ 1 ≤ w ∧ w ≤ 64 ∧ NewW C w (f w) H Q
/-- a new instance and its __init__ -/
theorem mk_word {C : Addr} {w : Nat} {v : Int} {H : Hp} {Q : VK} {E : XK} (w1 : 1 ≤ w) (w64 : w ≤ 64) (v0 : 0 ≤ v) (vm : v ≤ mw w) (k : NewW C w v H Q) :
    ∀ x dx, H x = none → H dx = none → dx ≠ x → spWordInit C [.ref x, .int w, .int v] (upd (upd H dx (.own x)) x (.ins C dx [])) (fun u H2 => u = .non ∧ Q (.ref x) H2) E := fun x dx nx ndx _ =>
  ⟨x, dx, w, v, rfl, upd_same, w1, w64, v0, vm, fun H' hx hk => ⟨rfl, k x H' nx (fun b o e => hk b o (by rw [upd_ne (ne_of_none e nx), upd_ne (ne_of_none e ndx)]; exact e) (ne_of_none e nx)) ⟨⟨dx, hx⟩, w1, w64, v0, vm⟩⟩⟩
theorem kit_self {K : PySem.W.Frag} {v : Value} : PySem.W.kitOne K v v = some true := by
  unfold PySem.W.kitOne
  rw [if_pos (beq_self_eq_true v)]
/-! ### rows of words -/
inductive Ws (C : Addr) (H : Hp) (w : Nat) : List Addr → List Int → Prop where
  | nil : Ws C H w [] []
  | cons {x : Addr} {v : Int} {xs : List Addr} {vs : List Int} (h : WordAt C H x w v) (t : Ws C H w xs vs) : Ws C H w (x :: xs) (v :: vs)
theorem Ws.len {C : Addr} {H : Hp} {w : Nat} {xs : List Addr} {vs : List Int} (h : Ws C H w xs vs) : xs.length = vs.length := by
  induction h with
  | nil => rfl
  | cons _ _ ih => rw [List.length_cons, List.length_cons, ih]
theorem Ws.get {C : Addr} {H : Hp} {w : Nat} {xs : List Addr} {vs : List Int} (h : Ws C H w xs vs) : ∀ {i : Nat}, i < xs.length → ∃ x v, xs[i]? = some x ∧ vs[i]? = some v ∧ WordAt C H x w v := by
  induction h with
  | nil => intro i hi; exact absurd hi (Nat.not_lt_zero _)
  | @cons x v xs vs h t ih =>
    intro i hi
    cases i with
    | zero => exact ⟨x, v, rfl, rfl, h⟩
    | succ i => exact ih (by simpa using hi)
theorem Ws.fw {C : Addr} {H H' : Hp} {w : Nat} {xs : List Addr} {vs : List Int} (h : Ws C H w xs vs) (k : ∀ x v, WordAt C H x w v → WordAt C H' x w v) : Ws C H' w xs vs := by
  induction h with
  | nil => exact .nil
  | cons h _ ih => exact .cons (k _ _ h) ih
theorem Ws.app {C : Addr} {H : Hp} {w : Nat} {xs ys : List Addr} {vs us : List Int} (h : Ws C H w xs vs) (g : Ws C H w ys us) : Ws C H w (xs ++ ys) (vs ++ us) := by
  induction h with
  | nil => exact g
  | cons h _ ih => exact .cons h ih
theorem Ws.take {C : Addr} {H : Hp} {w : Nat} {xs : List Addr} {vs : List Int} (h : Ws C H w xs vs) : ∀ n, Ws C H w (xs.take n) (vs.take n) := by
  induction h with
  | nil => intro n; rw [List.take_nil, List.take_nil]; exact .nil
  | cons h _ ih =>
    intro n
    cases n with
    | zero => exact .nil
    | succ n => exact .cons h (ih n)
theorem Ws.drop {C : Addr} {H : Hp} {w : Nat} {xs : List Addr} {vs : List Int} (h : Ws C H w xs vs) : ∀ n, Ws C H w (xs.drop n) (vs.drop n) := by
  induction h with
  | nil => intro n; rw [List.drop_nil, List.drop_nil]; exact .nil
  | @cons x v xs vs h t ih =>
    intro n
    cases n with
    | zero => exact .cons h t
    | succ n => exact ih n
theorem Ws.erase {C : Addr} {H : Hp} {w : Nat} {xs : List Addr} {vs : List Int} (h : Ws C H w xs vs) : ∀ n, Ws C H w (xs.eraseIdx n) (vs.eraseIdx n) := by
  induction h with
  | nil => intro n; exact .nil
  | @cons x v xs vs h t ih =>
    intro n
    cases n with
    | zero => exact t
    | succ n => exact .cons h (ih n)
theorem Ws.nonneg {C : Addr} {H : Hp} {w : Nat} {xs : List Addr} {vs : List Int} (h : Ws C H w xs vs) : 0 ≤ vs.sum := by
  induction h with
  | nil => exact Int.le_refl 0
  | cons h _ ih =>
    have := h.v0
    rw [List.sum_cons]
    omega
theorem sum_erase : ∀ {vs : List Int} {i : Nat} {v : Int}, vs[i]? = some v → vs.sum = v + (vs.eraseIdx i).sum
  | [], i, v, h => by simp at h
  | a :: r, 0, v, h => by
    have e : a = v := Option.some.inj h
    subst e
    rw [List.sum_cons, List.eraseIdx_cons_zero]
  | a :: r, i + 1, v, h => by
    have ih := sum_erase (vs := r) (i := i) (v := v) h
    rw [List.sum_cons, ih, List.eraseIdx_cons_succ, List.sum_cons]
    omega
theorem sum_mid : ∀ {vs : List Int} {i : Nat} {a b : Int}, vs[i]? = some a → vs[i + 1]? = some b → vs.sum = (vs.take i).sum + (a + b) + (vs.drop (i + 2)).sum
  | [], i, a, b, h, _ => by simp at h
  | [c], i, a, b, _, h => by simp at h
  | c :: d :: r, 0, a, b, h, h' => by
    have e : c = a := Option.some.inj h
    have e' : d = b := Option.some.inj h'
    subst e e'
    show (c :: d :: r).sum = 0 + (c + d) + r.sum
    rw [List.sum_cons, List.sum_cons]
    omega
  | c :: d :: r, i + 1, a, b, h, h' => by
    have ih := sum_mid (vs := d :: r) (i := i) (a := a) (b := b) h h'
    rw [List.sum_cons, ih, List.take_succ_cons, List.sum_cons]
    show c + ((List.take i (d :: r)).sum + (a + b) + (List.drop (i + 2) (d :: r)).sum) = c + (List.take i (d :: r)).sum + (a + b) + (List.drop (i + 2) (d :: r)).sum
    omega
/-! ### one operation, told by words -/
section
variable {C : Addr} {E : XK} {H : Hp} {Q : VK} {a b : Addr} {w w' : Nat} {u v k : Int}
theorem g_add (Wa : WordAt C H a w u) (Wb : WordAt C H b w v) (q : NewW C w (cr w (u + v)) H Q) : TzOwn.rOwn C (spAdd C) E (.ref a) (.ref b) H Q := by
  obtain ⟨da, ha⟩ := Wa.ob
  obtain ⟨db, hb⟩ := Wb.ob
  exact ⟨a, b, da, db, _, _, rfl, rfl, ha, hb, a, b, w, u, v, rfl, Wa, Wb, q⟩
theorem g_sub (Wa : WordAt C H a w u) (Wb : WordAt C H b w v) (q : NewW C w (cr w (u + (mw w - v))) H Q) : TzOwn.rOwn C (spSub C) E (.ref a) (.ref b) H Q := by
  obtain ⟨da, ha⟩ := Wa.ob
  obtain ⟨db, hb⟩ := Wb.ob
  exact ⟨a, b, da, db, _, _, rfl, rfl, ha, hb, a, b, w, u, v, rfl, Wa, Wb, q⟩
theorem g_eq (Wa : WordAt C H a w u) (Wb : WordAt C H b w v) (q : Q (.bl (decide (u = v))) H) : TzOwn.rOwn C (spEq C) E (.ref a) (.ref b) H Q := by
  obtain ⟨da, ha⟩ := Wa.ob
  obtain ⟨db, hb⟩ := Wb.ob
  refine ⟨a, b, da, db, _, _, rfl, rfl, ha, hb, a, b, w, w, u, v, rfl, Wa, Wb, ?_⟩
  rw [decide_eq_true (rfl : w = w), Bool.true_and]
  exact q
/-- .. two that are equal -/
theorem g_eqT (Wa : WordAt C H a w u) (Wb : WordAt C H b w v) (e : u = v) (q : Q (.bl true) H) : TzOwn.rOwn C (spEq C) E (.ref a) (.ref b) H Q := g_eq Wa Wb (by rw [decide_eq_true e]; exact q)
theorem g_rmul (Wa : WordAt C H a w u) (k0 : 0 ≤ k) (k1 : k ≤ 1000000000000000000000000000000) (q : NewW C w (cr w (k * u)) H Q) : TzOwn.rIOwn C (spMulI C) E (.int k) (.ref a) H Q := by
  obtain ⟨da, ha⟩ := Wa.ob
  exact ⟨a, k, da, _, rfl, rfl, ha, a, w, u, k, rfl, Wa, k0, k1, q⟩
theorem g_mul (Wa : WordAt C H a w u) (k0 : 0 ≤ k) (k1 : k ≤ 1000000000000000000000000000000) (q : NewW C w (cr w (k * u)) H Q) : TzOwn.rOwnI C (spMulI C) E (.ref a) (.int k) H Q := by
  obtain ⟨da, ha⟩ := Wa.ob
  exact ⟨a, k, da, _, rfl, rfl, ha, a, w, u, k, rfl, Wa, k0, k1, q⟩
theorem g_shl (Wa : WordAt C H a w u) (k0 : 0 ≤ k) (k1 : k ≤ 1000000000000000000000000000000) (q : NewW C w (cr w (u * 2 ^ (k % w).toNat)) H Q) : TzOwn.rOwnI C (spShlI C) E (.ref a) (.int k) H Q := by
  obtain ⟨da, ha⟩ := Wa.ob
  exact ⟨a, k, da, _, rfl, rfl, ha, a, w, u, k, rfl, Wa, k0, k1, q⟩
theorem g_inv (Wa : WordAt C H a w u) (q : NewW C w (mw w - u) H Q) : TzOwn.rOwn1 C (spInv C) E (.ref a) H Q := by
  obtain ⟨da, ha⟩ := Wa.ob
  exact ⟨a, da, _, rfl, ha, a, w, u, rfl, Wa, q⟩
end
theorem Fw.mut {z p : Addr} {H H' : Hp} {o : HO} (e : Fw z H H') (h : H p = none) : Fw z H (upd H' p o) := fun a u n ha => by
  rw [upd_ne (ne_of_none ha h)]
  exact e a u n ha
theorem PenAt.upd {H : Hp} {z c b : Addr} {cells : List Int} {t : Nat} {o : HO} (h : PenAt H z c cells t) (bz : b ≠ z) (bc : b ≠ c) : PenAt (upd H b o) z c cells t := by
  obtain ⟨⟨i, l, h1, h2⟩, h3, h4, h5⟩ := h
  exact ⟨⟨i, l, by rw [upd_ne bz.symm]; exact h1, h2⟩, by rw [upd_ne bc.symm]; exact h3, h4, h5⟩
theorem PenAt.off {H : Hp} {z c b : Addr} {cells : List Int} {t : Nat} (h : PenAt H z c cells t) (n : H b = none) : b ≠ z ∧ b ≠ c := by
  obtain ⟨⟨i, l, h1, _⟩, h3, _⟩ := h
  exact ⟨(ne_of_none h1 n).symm, (ne_of_none h3 n).symm⟩
theorem seqIx {i n : Nat} (h : i < n) : seqIndex? (i : Int) n = some i := by
  have e : ixN n (i : Int) = some i := by
    unfold ixN
    rw [if_pos (by omega), if_pos (by omega), Int.toNat_natCast]
  exact (ixN_seq e).1
theorem erase_map {α β : Type} (f : α → β) : ∀ (xs : List α) (i : Nat), (xs.map f).eraseIdx i = (xs.eraseIdx i).map f
  | [], _ => rfl
  | _ :: _, 0 => rfl
  | x :: r, i + 1 => by
    rw [List.map_cons, List.eraseIdx_cons_succ, List.eraseIdx_cons_succ, List.map_cons, erase_map f r i]
theorem eqv_ints (ns ms : List Int) : PyData.eqv (.list (ns.map PyData.int)) (.list (ms.map PyData.int)) = decide (ns = ms) := by
  rw [← SeqAt.same_eq_eqv _ _ (by simp only [SeqAt.noMix]; exact PySem.W.noMix_ints ns ms)]
  simp only [PySem.Spec.same]
  exact PySem.W.same_ints ns ms
theorem WordAt.off {C : Addr} {H : Hp} {x b : Addr} {w : Nat} {v : Int} {ys : List V} {o : HO} (h : WordAt C H x w v) (hb : H b = some (.lst ys)) : WordAt C (upd H b o) x w v := by
  obtain ⟨⟨dx, h1⟩, h2, h3, h4, h5⟩ := h
  exact ⟨⟨dx, by rw [upd_ne (ne_of h1 hb (by intro q; cases q))]; exact h1⟩, h2, h3, h4, h5⟩
theorem atI_neg1 {α : Type} {xs : List α} {v : α} {n : Nat} (hn : xs.length = n + 1) (h : xs[n]? = some v) : atI xs (-1) = some v := by
  unfold atI ixN
  rw [if_neg (by decide), if_pos (by omega), hn]
  show xs[((-1 : Int) + ((n + 1 : Nat) : Int)).toNat]? = some v
  rw [show ((-1 : Int) + ((n + 1 : Nat) : Int)).toNat = n by omega]
  exact h
theorem sum_zero : ∀ {vs : List Int}, (∀ v ∈ vs, 0 ≤ v) → (vs.sum = 0 ↔ vs = List.replicate vs.length 0)
  | [], _ => ⟨fun _ => rfl, fun _ => rfl⟩
  | a :: r, h => by
    have ih := sum_zero (vs := r) fun v hv => h v (List.mem_cons_of_mem _ hv)
    have a0 := h a List.mem_cons_self
    have r0 : 0 ≤ r.sum := by
      have : ∀ l : List Int, (∀ v ∈ l, 0 ≤ v) → 0 ≤ l.sum := by
        intro l
        induction l with
        | nil => intro _; exact Int.le_refl 0
        | cons x t iht =>
          intro hx
          have := hx x List.mem_cons_self
          have := iht fun v hv => hx v (List.mem_cons_of_mem _ hv)
          rw [List.sum_cons]
          omega
      exact this r fun v hv => h v (List.mem_cons_of_mem _ hv)
    rw [List.sum_cons, List.length_cons, List.replicate_succ]
    constructor
    · intro e
      rw [show a = 0 by omega, ← ih.mp (by omega)]
    · intro e
      injection e with e1 e2
      rw [e1, ih.mpr e2]
      all_goals rfl
theorem rep_flat (v : Int) : ∀ n : Nat, (List.replicate n [V.int v]).flatten = (List.replicate n v).map V.int
  | 0 => rfl
  | n + 1 => by
    rw [List.replicate_succ, List.flatten_cons, rep_flat v n, List.replicate_succ, List.map_cons]
    all_goals rfl
theorem yes_go {σ : L2.St} {H : Hp} {A B : Hp → Prop} (h : A H) : tYes σ H fun b H3 => if b = true then A H3 else B H3 := by
  show (if true = true then A H else B H)
  rw [if_pos rfl]
  exact h
theorem mk_word1 {C x dx : Addr} {w : Nat} {v : Int} {H : Hp} {Q : VK} {E : XK} (w1 : 1 ≤ w) (w64 : w ≤ 64) (v0 : 0 ≤ v) (vm : v ≤ mw w) (nx : H x = none) (ndx : H dx = none) (k : ∀ H', Ex H H' → WordAt C H' x w v → Q .non H') :
    spWordInit C [.ref x, .int w, .int v] (upd (upd H dx (.own x)) x (.ins C dx [])) Q E :=
  ⟨x, dx, w, v, rfl, upd_same, w1, w64, v0, vm, fun H' hx hk => k H' (fun b o e => hk b o (by rw [upd_ne (ne_of_none e nx), upd_ne (ne_of_none e ndx)]; exact e) (ne_of_none e nx)) ⟨⟨dx, hx⟩, w1, w64, v0, vm⟩⟩
end Tz
namespace Tz
open PySem PySem.Spec PyProof.Rows L2
/-! ### promises that hold where no repr is under way -/
structure FnQ (P : Program) (w : World) (K : PySem.W.Frag) (mg : Str → Option Value) (base : Heap) (k : Nat) (f : Addr) (fd : FuncData) (ps : List Str) (sp : Sp) : Prop where
  len : ∀ vs H Q E, sp vs H Q E → vs.length = ps.length
  run : ∀ (A : Around) (out : List Env) (s : Shared) (H : Hp) (args : Args) (us : List Value) (vs : List V) (Q : VK), A.guards = some [] → Room k A → Env0 P w K mg base A out s H → BindsTo s fd args (ps.zip us) → Vals vs us →
    sp vs H Q E0 → codeAny (model P w) A (.call (.ref f) args) (CR CX0 out P w H s Q E0) s
section
variable {P : Program} {w : World} {K : PySem.W.Frag} {mg : Str → Option Value} {base : Heap} {k : Nat} {f : Addr} {fd : FuncData} {ps N : List Str} {sp : Sp}
theorem FnQ.of_ok (F : FnOk P w K mg base CX0 k f fd ps sp) : FnQ P w K mg base k f fd ps sp :=
  ⟨F.len, fun A out s H args us vs Q _ hr e0 hb r h => F.run A out s H args us vs Q E0 hr e0 hb r h⟩
/-- a def by its body, nothing under way -/
theorem fnq {x qual : Str} {st : Stmt} (F : Fun K x qual st f fd) (S : FnScope N ps (defScope st)) (len : ∀ vs H Q E, sp vs H Q E → vs.length = ps.length)
    (body : ∀ (cdv : Value) (A : Around) (out : List Env) (s : Shared) (H : Hp) (vs : List V) (Q : VK), A.guards = some [] → Room k (A.deeper (envOfC qual (defScope st) s.heap.objs.size f cdv)) → sp vs H Q E0 →
      ∃ t, PSs (cxOf CX0 P w K mg base N qual (defScope st) f cdv A out s H E0).nox (defBody st) t ∧ t { nx := fun _ J => Q .non J, rt := Q } (start N vs) H) : FnQ P w K mg base (k + 1) f fd ps sp := by
  obtain ⟨oc, od, kV, doc, pm, an, cdv, ct, osl, rfl, lk, code⟩ := F.ex
  refine ⟨len, fun A out s H args us vs Q gd rm en bn rel want => ?_⟩
  have width := len _ _ _ _ want
  have inK : K.In s.heap := en.mod.kin.keeps fun b o q => (en.bs b o q).1
  have free : s.heap.NoLimit := en.mod.nolimit.keeps fun b o q => (en.bs b o q).1
  refine codeAny_call_function rm.depth (inK _ _ lk) rfl S.co S.gen rfl (PySem.W.codeRec_of inK code) (bn _ _ _ _ ?_)
  refine wpAny_newFunctionEnv_cells S.kind (fun ⟨n, v⟩ hy => (S.par n (List.of_mem_zip hy).1).elim .inl fun q => .inr ⟨q, PySem.W.cellsFrom_some _ _ _ (.inl q)⟩) fun env he s1 x => ?_
  subst he
  obtain ⟨t, ht, q⟩ := body cdv A out s H vs Q gd (rm.deeper _) want
  have J := inv_start (CX := CX0) (E := E0) S rm.hd en width rel x
  refine ⟨free.keeps x.toInCall.keep, codeAny_func (wpAny_mono (ht.nox.run [] s1 (start N vs) H _ J q) (fun fl s2 z => ?_) fun e s2 z => z)⟩
  have done : ∀ {σ : L2.St} {H2 : Hp} {v : V} {u : Value}, L2.Inv (cxOf CX0 P w K mg base N qual (defScope st) f cdv A out s H E0) [] σ H2 s2 → RelV v u → Q v H2 → CE out P w H s Q u s2 :=
    fun {σ H2 v u} I2 rv hv => ⟨v, H2, I2.os, I2.bare, I2.base, I2.hok, rv, hv⟩
  cases fl with
  | ret u =>
    obtain ⟨v, σ, H2, I2, rv, hv⟩ := z
    exact done I2 rv hv
  | next =>
    obtain ⟨σ, H2, I2, hv⟩ := z
    exact done (v := .non) I2 rfl hv
  | brk =>
    obtain ⟨_, _, _, no⟩ := z
    exact no.elim
  | cont =>
    obtain ⟨_, _, _, no⟩ := z
    exact no.elim
end
section
variable {X : Cx} {k : Nat} {f : Addr} {fd : FuncData} {ps : List Str} {sp : Sp} {x : Str} {p pos : Pos} {e : Expr} {es : List Expr} {t : TA}
theorem run_q {pins : List (Addr × Obj)} {σ : L2.St} {H : Hp} {s : Shared} {Q : VK} {us : List Value} {vs : List V} (F : FnQ X.prog X.w X.K X.mg X.base k f fd ps sp) (hg : X.A.guards = some []) (hr : Room k X.A) (hb : Binds X.K fd ps [])
    (I : L2.Inv X pins σ H s) (r : Vals vs us) (h : sp vs H Q E0) : wpAny (model X.prog X.w) X.A (call (.ref f) us) (EP X pins σ Q) X.xe s := by
  have ln : us.length = ps.length := r.length.symm.trans (F.len _ _ _ _ h)
  have bd := hb s us I.kIn (by rw [List.append_nil]; exact ln)
  rw [List.append_nil] at bd
  refine wpAny_call (codeAny_mono (F.run X.A X.stack s H ⟨us, []⟩ us vs Q hg hr I.env0 bd r h) fun res s' q => ?_)
  cases res with
  | error e => exact (show False from q).elim
  | ok fl =>
    cases fl with
    | ret u => exact I.after q
    | next => exact (show False from q).elim
    | brk => exact (show False from q).elim
    | cont => exact (show False from q).elim
/-- f(e, ..) -/
theorem pe_callQ (F : FnQ X.prog X.w X.K X.mg X.base k f fd ps sp) (hg : X.A.guards = some []) (hr : Room k X.A) (gl : Gl X x) (hm : X.mg x = some (.ref f)) (hk : PySem.W.keepIn X.K (.ref f) = true) (hb : Binds X.K fd ps []) (ha : PA X (e :: es) t)
    (hst : starEach (e :: es) X.env = (false, eval e X.env) :: starEach es X.env := by rfl) (hpl : (backTo pos (starEach es X.env)).any (·.1) = false := by rfl)
    (hdb : (x == ("__debug__" : Str)) = false := by decide) : PE X (.Call (.Name x p) (e :: es) [] pos) (tCall sp [] E0 t) :=
  ⟨fun pins s σ H Q I h => wpAny_Call_Name_kw (ld_glob I gl hm (PySem.W.callWith_K (h₀ := X.base) I.ok.mod.kin hk (thn (ha.run pos pins s σ H _ I h) fun us s1 ⟨vs, H1, I1, r, q⟩ =>
    ⟨I1.kIn, run_q (us := us) (vs := vs) F hg hr hb I1 r ((List.append_nil vs) ▸ (show sp (vs ++ []) H1 Q E0 from q))⟩) hst hpl) hdb)⟩
end
/-! ### a law, where no repr is under way -/
section
variable {P : Program} {w : World} {K : PySem.W.Frag} {mg mb : Str → Option Value} {k : Nat} {fa a : Addr} {fd : FuncData} {x : Str} {sp : Sp} {s : Shared} {vs : List Value} {ns : List Int}
theorem law_q (KX : K.In s.heap) (hns : s.heap.Ns mainGlobals mg) (hb : s.heap.Ns builtinsNs mb) (hbb : ∀ x : Str, x ≠ "__name__" → mb x = bootBuiltins x) (hlim : s.heap.NoLimit) (hg : s.gens = #[])
    (ha : s.heap.get? a = some { cls := .type "list", data := .seq vs.toArray }) (hi : IntsAre vs ns) (hl : ns.length ≤ sizeLine) (hr : Room k callerA)
    (F : ∀ base : Heap, K.In base → base.Ns mainGlobals mg → FnQ P w K mg base k fa fd [x] sp) (bind : ∀ (s : Shared) (u : Value), BindsTo s fd ⟨[u], []⟩ [(x, u)])
    (want : ∀ H : Hp, SqL K H a (ns.map V.int) → sp [.ref a] H (fun v _ => v = .bl true) E0) :
    codeAny (model P w) callerA (.call (.ref fa) ⟨[.ref a], []⟩) (fun r s' => r = .ok (.ret (.bool true)) ∧ OldK s.heap s'.heap ∧ s'.os = s.os ∧ AllBare s'.gens) s := by
  -- the script alone is told, and only where the module does not hold it
  obtain ⟨H, told, seq, atA, apart⟩ : ∃ H : Hp, (∀ b u, H b = some u → b = a ∧ u = .frz { cls := .type "list", data := .seq vs.toArray } (.lst (ns.map V.int))) ∧ SqL K H a (ns.map V.int) ∧ HOk P w H s.heap ∧ (H a ≠ none → K.lookup a = none) := by
    cases lk : K.lookup a with
    | some o =>
      have q := KX a o lk
      rw [ha] at q
      cases q
      refine ⟨fun _ => none, fun b u z => ?_, .inr ⟨_, vs.toArray, _, lk, rfl, rfl, rfl, by rw [List.size_toArray, hi.length]; exact hl, by simpa using vals_ints hi⟩, fun b u z => ?_, fun z => absurd rfl z⟩
      · have z' : (none : Option HO) = some u := z
        cases z'
      · have z' : (none : Option HO) = some u := z
        cases z'
    | none =>
      refine ⟨upd (fun _ => none) a (.frz { cls := .type "list", data := .seq vs.toArray } (.lst (ns.map V.int))), fun b u z => ?_, .inl (.inr ⟨_, upd_same⟩), fun b u z => ?_, fun _ => rfl⟩
      · by_cases q : b = a
        · subst q
          rw [upd_same] at z
          exact ⟨rfl, (Option.some.inj z).symm⟩
        · rw [upd_ne q] at z
          cases z
      · by_cases q : b = a
        · subst q
          rw [upd_same] at z
          cases z
          exact ⟨ha, by rw [List.length_map]; exact hl, vs, _, vals_ints hi, ha⟩
        · rw [upd_ne q] at z
          cases z
  have un0 : ∀ {b : Addr}, b ≠ a → H b = none := fun {b} n => by
    cases q : H b with
    | none => rfl
    | some u => exact absurd (told b u q).1 n
  have ns0 : ∀ {b : Addr} {m : Str → Option Value}, s.heap.Ns b m → (hidT s.heap H).Ns b m := fun {b m} ⟨o, es, ep, e, d, r⟩ => ⟨o, es, ep, hidT_get e (un0 fun q => by
    subst q
    rw [ha] at e
    cases e
    cases d), d, r⟩
  have k0 : K.In (hidT s.heap H) := fun b o e => hidT_get (KX b o e) (by
    by_cases q : b = a
    · subst q
      cases z : H b with
      | none => rfl
      | some u =>
        have n := apart (by rw [z]; exact fun q => nomatch q)
        rw [e] at n
        cases n
    · exact un0 q)
  have md : Mod K mg (hidT s.heap H) := ⟨k0, ns0 hns, ⟨mb, ns0 hb, hbb⟩, hlim.elim fun mc z => ⟨mc, ns0 z.1, z.2⟩⟩
  have en : Env0 P w K mg (hidT s.heap H) callerA [] s H := ⟨rfl, md, fun _ _ e => of_hidT e, Nat.le_of_eq (hidT_size _ _), trivial, fun b z => absurd (show b ∈ ([] : List Addr) from z) List.not_mem_nil, atA, .of_eq hg⟩
  refine codeAny_mono ((F _ k0 (ns0 hns)).run callerA [] s H ⟨[.ref a], []⟩ [.ref a] [.ref a] _ rfl hr en (bind s (.ref a)) (.cons rfl .nil) (want H seq)) fun r s2 z => ?_
  cases r with
  | error e => exact (show False from z).elim
  | ok fl =>
    cases fl with
    | next => exact (show False from z).elim
    | brk => exact (show False from z).elim
    | cont => exact (show False from z).elim
    | ret u =>
      obtain ⟨v, H2, os, bare, un, ok2, rv, q⟩ := z
      subst q
      cases (show u = Value.bool true from rv)
      refine ⟨rfl, OldK.of_keep fun b o e => ?_, os, bare⟩
      cases q : H b with
      | none => exact un.keep b o e q (fun z => absurd (show b ∈ ([] : List Addr) from z) List.not_mem_nil) List.not_mem_nil
      | some u =>
        obtain ⟨rfl, rfl⟩ := told b u q
        rw [ha] at e
        cases e
        exact (ok2 _ _ (un.frzs _ _ _ q)).1
theorem walk_q {l : PySem.W.OpenLaw} {n k : Nat} {q : Program} {loose : List Str} {XP : (Str → Option Value) → Heap → Prop} {YP : World → Heap → Prop} {d : DefRec} {K : Params → PySem.W.Frag} {sp : PySem.W.Frag → Sp} {x : Str}
    (hn : l.most = some n) (hn2 : n ≤ sizeLine) (hdf : d.params.defaults = []) (hr : Room k callerA) (hY : ∀ (w : World) (h : Heap), YP w h → (K w.params).In h)
    (F : ∀ (w : World) (mg : Str → Option Value) (fa : Addr) (h : Heap), (K w.params).In h → h.Ns mainGlobals mg → mg d.name = some (.ref fa) →
      ∃ fd : FuncData, (∀ (s : Shared) (u : Value), BindsTo s fd ⟨[u], []⟩ [(x, u)]) ∧ ∀ base : Heap, (K w.params).In base → base.Ns mainGlobals mg → FnQ l.prog w (K w.params) mg base k fa fd [x] (sp (K w.params)))
    (want : ∀ (K : PySem.W.Frag) (H : Hp) (a : Addr) (ns : List Int), ns.length ≤ n → SqL K H a (ns.map V.int) → sp K [.ref a] H (fun v _ => v = .bl true) E0) :
    PySem.W.WalkO q loose XP YP l.row.toRowW d [] (fun f vs => PySem.call f vs) := by
  refine Att.attach_call hn hdf fun w s0 s1 mg mb fa o pm cd doc a vs ns G Y ho hd hcd hmg obj isI len gens => ?_
  obtain ⟨fd, bd, FQ⟩ := F w mg fa _ (hY w _ Y) G.T.g hmg
  exact law_q (hY w _ Y) G.T.g G.T.b G.T.builtins G.T.nolimit gens obj isI (Nat.le_trans len hn2) hr FQ bd fun H seq => want _ H a ns len seq
end
end Tz
namespace TzOwn
open PySem PySem.Spec PyProof.Rows L2
section
variable {X : Cx} {CX : CXT} {k : Nat} {f C g p : Addr} {fd : FuncData} {ps ks : List Str} {sp : Sp} {E : XK} {m : Str} {o : Expr} {kws : List Keyword} {apos pos : Pos} {ta : TE} {tk : TA} {pl : Sem Bool}
/-- abs(o), o an instance with its own __abs__ -/
theorem abs_own (F : FnOk X.prog X.w X.K X.mg X.base CX k f fd ps sp) (hr : Room (k + 1) X.A) (M : Meth X.K C "__abs__" f) (hb : Binds X.K fd ps []) (hx : Passes CX X E) :
    CallR X (.builtin "abs") (fun xs H Q => ∃ a dx fs, xs = [.ref a] ∧ H a = some (.ins C dx fs) ∧ sp [.ref a] H Q E) := by
  intro pins s σ H xs us Q I r h
  obtain ⟨a, dx, fs, rfl, ha, q⟩ := h
  obtain ⟨u, rfl, ru⟩ := vals1 r
  cases ru
  obtain ⟨od, J⟩ := inst_at I ha
  refine Calls.call_function_entry PyProof.Rows.kind_abs PyProof.Rows.plain_abs PyProof.Rows.entry_abs (PyProof.Rows.args_abs _) ?_
  unfold Builtin.«abs»
  refine wpAny_bind (m := oneArg "abs" _) (wpAny_pure ?_)
  refine wpAny_bind (PySem.W.special_fn I.kIn J M.at_ (beq_iff_eq.mp M.fn) ?_)
  have en : Env0 X.prog X.w X.K X.mg X.base X.A.in1 X.stack s H := I.env0.in1
  have bd := hb s [.ref a] I.kIn (by
    have := F.len _ _ _ _ q
    simpa using this)
  rw [List.append_nil] at bd
  refine wpAny_call (codeAny_mono (F.run X.A.in1 X.stack s H ⟨[.ref a], []⟩ [.ref a] [.ref a] _ E hr.in1 en bd (.cons rfl .nil) q) fun r s' hq => ?_)
  cases r with
  | error e => exact hx pins σ H s e s' I hq
  | ok fl =>
    cases fl with
    | ret u => exact wpAny_pure ⟨_, rfl, I.after hq⟩
    | next => exact False.elim hq
    | brk => exact False.elim hq
    | cont => exact False.elim hq
/-- repr of a list or tuple of built-in data, where no repr is under way -/
theorem repr_data (hg : X.A.guards = some []) (hu : X.A.units + 64 < cLine) :
    CallR X (.builtin "repr") (fun xs H Q => ∃ a d, xs = [.ref a] ∧ Dp X.K H (.ref a) d ∧ d.showable = true ∧ d.hasDict = false ∧ d.depth ≤ 60 ∧ d.shown.length ≤ sizeLine ∧ Q (.str d.shown) H) := by
  intro pins s σ H xs us Q I r h
  obtain ⟨a, d, rfl, D, sh, nd, dep, sz, q⟩ := h
  obtain ⟨u, rfl, ru⟩ := vals1 r
  cases ru
  obtain ⟨as, rd⟩ := Dp.reads I d _ _ D rfl
  exact repr_of_reads' rd sh (fun z => by rw [nd] at z; cases z) hg (by omega) (fun _ _ e => e) (fun h' u tk hk => ⟨.str d.shown, H, I.kept hk, ⟨_, rfl⟩, q⟩) sz
def tMethK (C : Addr) (m : Str) (sp : Sp) (E : XK) (gV : List V → List V) (ta : TE) (t : TA) : TE := fun σ H Q => ta σ H fun x H1 => ∃ a dx fs, x = .ref a ∧ H1 a = some (.ins C dx fs) ∧ fs.lookup m = none ∧ t σ H1 fun zs H2 => sp (gV (.ref a :: zs)) H2 Q E
/-- o.m(k = e, ..), by keywords alone -/
theorem pe_methK {gs : List Value → List Value → List Value} {gV : List V → List V → List V} (he : PE X o ta) (c : Cls X.K C) (hm : Meth X.K C m f) (F : FnOk X.prog X.w X.K X.mg X.base CX k f fd ps sp) (hr : Room k X.A) (hb : KBinds X.K fd ps ks gs gV) (hx : Passes CX X E) (hkw : PK X kws tk)
    (hall : (backToKw pos (keywordEach kws X.env)).all (·.1.isSome) = true := by rfl) (hks : (backToKw pos (keywordEach kws X.env)).filterMap (·.1) = ks := by rfl)
    (hpl : ((backTo pos (starEach [] X.env)).any (·.1) || (backToKw pos (keywordEach kws X.env)).any (·.1.isNone)) = false := by rfl)
    (ht : eval (.Call (.Attribute o m apos) [] kws pos) X.env = (do
      let ov ← eval o X.env
      standAt apos.atName
      let (f, first) ← holding [ov] (getMethod ov m pl)
      callWith pos f first (backTo pos (starEach [] X.env)) (backToKw pos (keywordEach kws X.env))) := by rfl) :
    PE X (.Call (.Attribute o m apos) [] kws pos) (tMethK C m sp E (fun vs => gV (vs.take 1) (vs.drop 1)) ta tk) := by
  refine ⟨fun pins s σ H Q I h => PySem.W.methodCall_KW (pl := pl) (thn (he.run pins s σ H _ I h) fun u s1 ⟨x, H1, I1, rx, a, dx, fs, ex, ea, l, q⟩ => ?_) ht⟩
  subst ex
  cases (show u = Value.ref a from rx)
  refine getmeth_ok I1 ea c hm l (PySem.W.callWith_KW0 (first := [.ref a]) (h₀ := X.base) I.ok.mod.kin hm.kp hall (thn (hkw.run pos pins s1 σ H1 _ I1 q) fun ws s2 ⟨zs, H2, I2, rz, q2⟩ => ⟨I2.kIn, ?_⟩) hpl)
  rw [hks]
  exact run_fnk (us := [.ref a]) (vs := [.ref a]) F hr hb hx I2 (.cons rfl .nil) rz q2
end
end TzOwn
namespace Tz
open PySem L2
/-! ### mathematics: bits one by one -/
/-- the signs of the i lowest bits, the highest one first -/
def bt (v : Nat) : Nat → List Nat
  | 0 => []
  | i + 1 => (48 + v / 2 ^ i % 2) :: bt v i
theorem bt_len (v : Nat) : ∀ i, (bt v i).length = i
  | 0 => rfl
  | i + 1 => by rw [bt, List.length_cons, bt_len v i]
/-- what the signs are worth, read from the left -/
def worth (l : List Nat) : Nat := l.foldl (fun a c => 2 * a + (c - 48)) 0
theorem worth_go : ∀ (l : List Nat) (a : Nat), l.foldl (fun a c => 2 * a + (c - 48)) a = a * 2 ^ l.length + worth l
  | [], a => by
    show a = a * 2 ^ 0 + 0
    rw [Nat.pow_zero, Nat.mul_one, Nat.add_zero]
  | c :: l, a => by
    have e1 := worth_go l (2 * a + (c - 48))
    have e2 := worth_go l (2 * 0 + (c - 48))
    show l.foldl _ (2 * a + (c - 48)) = a * 2 ^ (l.length + 1) + l.foldl _ (2 * 0 + (c - 48))
    rw [e1, e2, Nat.pow_succ, Nat.add_mul, Nat.add_mul]
    have : 2 * a * 2 ^ l.length = a * (2 ^ l.length * 2) := by rw [Nat.mul_comm 2 a, Nat.mul_assoc, Nat.mul_comm 2]
    omega
theorem worth_app (l m : List Nat) : worth (l ++ m) = worth l * 2 ^ m.length + worth m := by
  show (l ++ m).foldl _ 0 = _
  rw [List.foldl_append, worth_go]
  rfl
theorem worth_bt (v : Nat) : ∀ i, worth (bt v i) = v % 2 ^ i
  | 0 => by rw [bt, Nat.pow_zero, Nat.mod_one]; rfl
  | i + 1 => by
    have e := worth_app [48 + v / 2 ^ i % 2] (bt v i)
    rw [List.singleton_append, worth_bt v i, bt_len] at e
    rw [bt, e, show worth [48 + v / 2 ^ i % 2] = v / 2 ^ i % 2 by show 2 * 0 + (48 + v / 2 ^ i % 2 - 48) = _; omega, Nat.pow_succ, Nat.mod_mul]
    rw [Nat.mul_comm]
    omega
theorem bt_drop (v : Nat) : ∀ (n s : Nat), s ≤ n → (bt v n).drop s = bt v (n - s)
  | n, 0, _ => by rw [List.drop_zero, Nat.sub_zero]
  | 0, s + 1, h => absurd h (Nat.not_succ_le_zero s)
  | n + 1, s + 1, h => by
    rw [bt, List.drop_succ_cons, bt_drop v n s (by omega), Nat.succ_sub_succ]
theorem bt_take (v : Nat) : ∀ (n s : Nat), s ≤ n → (bt v n).take s = bt (v / 2 ^ (n - s)) s
  | n, 0, _ => by rw [List.take_zero, bt]
  | 0, s + 1, h => absurd h (Nat.not_succ_le_zero s)
  | n + 1, s + 1, h => by
    have e : v / 2 ^ (n - s) / 2 ^ s = v / 2 ^ n := by
      rw [Nat.div_div_eq_div_mul, ← Nat.pow_add]
      congr 2
      omega
    rw [bt, List.take_succ_cons, bt_take v n s (by omega), Nat.succ_sub_succ]
    show _ = (48 + v / 2 ^ (n - s) / 2 ^ s % 2) :: bt (v / 2 ^ (n - s)) s
    rw [e]
/-- the bits turned by s places -/
theorem worth_turn {v n s : Nat} (h : s ≤ n) (hv : v < 2 ^ n) : worth ((bt v n).drop s ++ (bt v n).take s) = v % 2 ^ (n - s) * 2 ^ s + v / 2 ^ (n - s) := by
  have hlt : v / 2 ^ (n - s) < 2 ^ s := by
    rw [Nat.div_lt_iff_lt_mul (Nat.pow_pos (by decide)), ← Nat.pow_add]
    have : s + (n - s) = n := by omega
    rw [this]
    exact hv
  rw [worth_app, bt_drop v n s h, bt_take v n s h, worth_bt, worth_bt, bt_len, Nat.mod_eq_of_lt hlt]
theorem cr_turn {w s v : Nat} (_ : 1 ≤ w) (hs : s ≤ w) (hv : v < 2 ^ w) : cr w ((v : Int) * 2 ^ s) = ((v % 2 ^ (w - s) * 2 ^ s + v / 2 ^ (w - s) : Nat) : Int) := by
  by_cases v0 : v = 0
  · subst v0
    rw [Nat.zero_mod, Nat.zero_mul, Nat.zero_div]
    show cr w ((0 : Int) * 2 ^ s) = 0
    rw [Int.zero_mul, cr_zero]
  · have hp : (0 : Int) < 2 ^ s := Int.pow_pos (by decide)
    have e := Nat.div_add_mod v (2 ^ (w - s))
    generalize hlo : v % 2 ^ (w - s) = lo at e
    generalize hhi : v / 2 ^ (w - s) = hi at e
    have lo1 : lo < 2 ^ (w - s) := by rw [← hlo]; exact Nat.mod_lt _ (Nat.pow_pos (by decide))
    have hi1 : hi < 2 ^ s := by
      rw [← hhi, Nat.div_lt_iff_lt_mul (Nat.pow_pos (by decide)), ← Nat.pow_add]
      have : s + (w - s) = w := by omega
      rw [this]
      exact hv
    have ew : (2 : Nat) ^ (w - s) * 2 ^ s = 2 ^ w := by
      rw [← Nat.pow_add]
      congr 1
      omega
    have ewI : (2 : Int) ^ (w - s) * 2 ^ s = 2 ^ w := by
      have := congrArg (fun n : Nat => (n : Int)) ew
      simpa using this
    have b1 : lo * 2 ^ s + hi < 2 ^ w := by
      have : (lo + 1) * 2 ^ s ≤ 2 ^ (w - s) * 2 ^ s := Nat.mul_le_mul_right _ (by omega)
      rw [ew, Nat.add_mul, Nat.one_mul] at this
      omega
    have b0 : 1 ≤ lo * 2 ^ s + hi := by
      by_cases z : hi = 0
      · subst z
        have : lo ≠ 0 := fun q => by
          subst q
          rw [Nat.mul_zero, Nat.add_zero] at e
          exact v0 e.symm
        have := Nat.mul_pos (Nat.pos_of_ne_zero this) (Nat.pow_pos (n := s) (show 0 < 2 by decide))
        omega
      · omega
    have c1 : ((lo * 2 ^ s + hi : Nat) : Int) ≤ mw w := by
      have : ((2 ^ w : Nat) : Int) = 2 ^ w := by rw [Int.natCast_pow] <;> rfl
      unfold mw
      omega
    refine cr_eq (q := (hi : Int)) (Int.mul_pos (by omega) hp) (by omega) c1 ?_
    have ev : (v : Int) = 2 ^ (w - s) * (hi : Int) + (lo : Int) := by
      have := congrArg (fun n : Nat => (n : Int)) e
      simpa using this.symm
    rw [ev, Int.add_mul, Int.mul_right_comm, ewI]
    unfold mw
    rw [Int.sub_mul, Int.one_mul]
    have : ((lo * 2 ^ s + hi : Nat) : Int) = (lo : Int) * 2 ^ s + (hi : Int) := by simp
    omega
/-- a whole turn changes nothing -/
theorem cr_round {w : Nat} (h : 1 ≤ w) {v : Int} (h0 : 0 ≤ v) : ∀ q : Nat, cr w (v * 2 ^ (w * q)) = cr w v
  | 0 => by rw [Nat.mul_zero, Int.pow_zero, Int.mul_one]
  | q + 1 => by
    have ih := cr_round h h0 q
    by_cases v0 : v = 0
    · subst v0
      rw [Int.zero_mul]
    · have vp : 0 < v * 2 ^ (w * q) := Int.mul_pos (by omega) (Int.pow_pos (by decide))
      have e : v * 2 ^ (w * (q + 1)) = v * 2 ^ (w * q) + mw w * (v * 2 ^ (w * q)) := by
        rw [Nat.mul_succ, Int.pow_add, ← Int.mul_assoc]
        generalize v * 2 ^ (w * q) = x
        unfold mw
        rw [Int.sub_mul, Int.one_mul, Int.mul_comm]
        omega
      obtain ⟨r, hr⟩ := cr_ex (w := w) _ vp
      rw [← ih]
      have np : 0 < v * 2 ^ (w * (q + 1)) := Int.mul_pos (by omega) (Int.pow_pos (by decide))
      refine cr_eq (q := r + v * 2 ^ (w * q)) np (cr_pos h vp) (cr_bd h _).2 ?_
      rw [e, Int.mul_add]
      conv => lhs; lhs; rw [hr]
      omega
theorem cr_far {w : Nat} (h : 1 ≤ w) {v : Int} (h0 : 0 ≤ v) (t : Nat) : cr w (v * 2 ^ (t % w)) = cr w (v * 2 ^ t) := by
  have e : v * 2 ^ t = v * 2 ^ (t % w) * 2 ^ (w * (t / w)) := by
    rw [Int.mul_assoc, ← Int.pow_add, Nat.mod_add_div]
  rw [e, cr_round h (Int.mul_nonneg h0 (two_pow_nn _))]
theorem or_and_xor (x y : Int) : Builtin.bitOr x y - Builtin.bitAnd x y = Builtin.bitXor x y := by
  rw [PyProof.Rows.bitXor_and, PyProof.Rows.bitOr_and]
  omega
theorem xor_bd {w : Nat} {x y : Int} (hx : 0 ≤ x) (hx1 : x ≤ mw w) (hy : 0 ≤ y) (hy1 : y ≤ mw w) : 0 ≤ Builtin.bitXor x y ∧ Builtin.bitXor x y ≤ mw w := by
  rw [Bits.bitXor_pp hx hy]
  have e : ((2 ^ w : Nat) : Int) = 2 ^ w := by rw [Int.natCast_pow] <;> rfl
  have := Nat.xor_lt_two_pow (x := x.toNat) (y := y.toNat) (n := w) (by unfold mw at hx1; omega) (by unfold mw at hy1; omega)
  unfold mw
  omega
theorem xor_comm (x y : Int) : Builtin.bitXor x y = Builtin.bitXor y x := by
  rw [PyProof.Rows.bitXor_and, PyProof.Rows.bitXor_and, PyProof.Rows.bitAnd_comm]
  omega
theorem sum_spec {w : Nat} (h : 1 ≤ w) {a b : Int} (a0 : 0 ≤ a) (a1 : a ≤ mw w) (b0 : 0 ≤ b) (b1 : b ≤ mw w) : (if a + b ≤ mw w then a + b else a + b - mw w) = cr w (a + b) := by
  have hm := mw_pos h
  split
  · rw [cr_self (by omega) (by omega)]
  · exact (cr_eq (q := 1) (by omega) (by omega) (by omega) (by omega)).symm
theorem rest_eq {w : Nat} (h : 1 ≤ w) {v : Int} (v0 : 0 ≤ v) (v1 : v ≤ mw w) : v % mw w = if v = mw w then 0 else v := by
  have hm := mw_pos h
  split
  · rename_i e
    rw [e, Int.emod_self]
  · exact Int.emod_eq_of_lt v0 (by omega)
/-! ### promises -/
def spXor (C : Addr) : Sp := fun vs H Q _ => ∃ x y, ∃ w : Nat, ∃ u v : Int, vs = [.ref x, .ref y] ∧ WordAt C H x w u ∧ WordAt C H y w v ∧ NewW C w (Builtin.bitXor u v) H Q
def spXorI (C : Addr) : Sp := fun vs H Q _ => ∃ x, ∃ w : Nat, ∃ u n : Int, vs = [.ref x, .int n] ∧ WordAt C H x w u ∧ 0 ≤ n ∧ n ≤ mw w ∧ NewW C w (Builtin.bitXor u n) H Q
def spOperandI (C : Addr) : Sp := fun vs H Q _ => ∃ x, ∃ w : Nat, ∃ u n : Int, vs = [.ref x, .int n] ∧ WordAt C H x w u ∧ 0 ≤ n ∧ n ≤ mw w ∧ Q (.int n) H
def spFoundI : Sp := fun vs H Q _ => ∃ w : Nat, ∃ n : Int, vs = [.int w, .int n] ∧ 1 ≤ w ∧ w ≤ 64 ∧ 0 ≤ n ∧ n ≤ mw w ∧ Q (.int n) H
def spLikeI (C : Addr) : Sp := fun vs H Q _ => ∃ x, ∃ w : Nat, ∃ u n : Int, vs = [.ref x, .int n] ∧ WordAt C H x w u ∧ 0 ≤ n ∧ n ≤ mw w ∧ Q (.bl (decide (u % mw w = n % mw w))) H
def spShrI (C : Addr) : Sp := fun vs H Q _ => ∃ x, ∃ w : Nat, ∃ u k : Int, vs = [.ref x, .int k] ∧ WordAt C H x w u ∧ 0 ≤ k ∧ k ≤ 1000000000000000000000000000000 ∧ NewW C w (cr w (u * 2 ^ (-k % w).toNat)) H Q
/-- the distance of the rest from 0 -/
def far (w : Nat) (u : Int) : Int := if u % mw w < mw w - u % mw w then u % mw w else mw w - u % mw w
def spAbs (C : Addr) : Sp := fun vs H Q _ => ∃ x, ∃ w : Nat, ∃ u : Int, vs = [.ref x] ∧ WordAt C H x w u ∧ Q (.int (far w u)) H
def spIs (C : Addr) : Sp := fun vs H Q _ => ∃ x, ∃ w : Nat, ∃ u : Int, vs = [.ref x, .int w, .int u] ∧ WordAt C H x w u ∧ Q (.bl true) H
def spSum : Sp := fun vs H Q _ => ∃ w : Nat, ∃ a b : Int, vs = [.int w, .int a, .int b] ∧ 1 ≤ w ∧ w ≤ 64 ∧ 0 ≤ a ∧ a ≤ mw w ∧ 0 ≤ b ∧ b ≤ mw w ∧ Q (.int (cr w (a + b))) H
def spMultiple : Sp := fun vs H Q _ => ∃ w : Nat, ∃ v k : Int, vs = [.int w, .int v, .int k] ∧ 1 ≤ w ∧ w ≤ 64 ∧ 0 ≤ v ∧ v ≤ mw w ∧ 0 ≤ k ∧ Q (.int (cr w (k * v))) H
def spLawTurned : Sp := fun vs H Q _ => ∃ w : Nat, ∃ v n : Int, vs = [.int w, .int v, .int n] ∧ 1 ≤ w ∧ w ≤ 64 ∧ 0 ≤ v ∧ v ≤ mw w ∧ Q (.int (cr w (v * 2 ^ (n % w).toNat))) H
def spLawTimes : Sp := fun vs H Q _ => ∃ z c cells t, ∃ w : Nat, vs = [.ref z, .int w] ∧ PenAt H z c cells t ∧ t ≤ 90000 ∧ 1 ≤ w ∧ w ≤ 64 ∧
  ∀ n H', 0 ≤ n → n ≤ 1000000000000000000000000000000 → PenAt H' z c cells (t + 3) → Fw z H H' → Q (.int n) H'
def spRight4 : Sp := fun vs H Q _ => ∃ w : Nat, ∃ v b k : Int, vs = [.int w, .int v, .int b, .int k] ∧ 1 ≤ w ∧ w ≤ 64 ∧ 0 ≤ v ∧ v ≤ mw w ∧ 0 ≤ b ∧ b ≤ mw w ∧ 0 ≤ k ∧ k ≤ 1000000000000000000000000000000 ∧ ∀ H', Ex H H' → Q (.bl true) H'
def spLaw (K : PySem.W.Frag) : Sp := fun vs H Q _ => ∃ (a : Addr) (ns : List Int), vs = [.ref a] ∧ SqL K H a (ns.map V.int) ∧ ns.length ≤ 63 ∧ ∀ H', Q (.bl true) H'
theorem kit_no {K : PySem.W.Frag} {T : String} {C : Addr} (h : PySem.W.subIn K (.type T) (.ref C) = some false) (hc : PySem.W.isClsIn K C = true) (ht : PySem.W.typeIn K (.ref C) = some (.type "type")) : PySem.W.kitOne K (.type T) (.ref C) = some false := by
  have ne : ¬ (Value.type T == Value.ref C) = true := fun q => by cases beq_iff_eq.mp q
  unfold PySem.W.kitOne
  rw [if_neg ne]
  unfold PySem.W.kitCls
  have hs : (PySem.W.clsIn K C).isSome = true := hc
  dsimp only
  rw [ht, hs, h]
  rfl
theorem shown4 {n : Int} {a b c : Bool} (h0 : 0 ≤ n) (h1 : n < 18446744073709551616) : (PyData.list [.int n, .bool a, .bool b, .bool c]).showable = true ∧ (PyData.list [.int n, .bool a, .bool b, .bool c]).hasDict = false ∧
    (PyData.list [.int n, .bool a, .bool b, .bool c]).depth ≤ 60 ∧ (PyData.list [.int n, .bool a, .bool b, .bool c]).shown.length ≤ sizeLine := by
  have l2 : n.natAbs.log2 < 1920 := by
    have : n.natAbs < 2 ^ 64 := by omega
    have := PySem.Flt.log2_lt_of (by decide) this
    omega
  refine ⟨?_, rfl, by simp [PyData.depth, PyData.depthAll], ?_⟩
  · simp [PyData.showable, PyData.showableAll, l2]
  · have sh : (PyData.shown (.int n)).length ≤ 21 := by
      rw [PyData.shown_int]
      exact PyProof.Rows.toString_length_le h0 (k := 20) (by decide) (by omega) |> fun h => Nat.le_trans h (by decide)
    have := PyData.shown_le_bulk 21 (by decide) (.list [.int n, .bool a, .bool b, .bool c]) (by simp [PyData.leavesShort, PyData.leavesShortAll, sh])
    refine Nat.le_trans this ?_
    show (21 + 2) * (0 + 1 + (0 + 1 + (0 + 1 + (0 + 1 + 0)))) + 21 ≤ sizeLine
    decide
/-! ### texts of bits -/
theorem bit_text {b : Nat} (h : b < 2) (l : List Nat) : ((toString ((b : Nat) : Int) : String) : Str) ++ SX.S l = SX.S ((48 + b) :: l) := by
  have e : ((toString ((b : Nat) : Int) : String) : Str) = SX.S [48 + b] := by
    match b, h with
    | 0, _ => rfl
    | 1, _ => rfl
  rw [e, SX.S_cat, List.singleton_append]
theorem bit_sign {c : Nat} (h : c = 48 ∨ c = 49) : PySem.intText? (SX.S [c]) = some (((c - 48 : Nat) : Nat) : Int) := by
  rcases h with rfl | rfl
  · exact SX.int_S (a := [48]) (by decide) (by decide) (by decide)
  · exact SX.int_S (a := [49]) (by decide) (by decide) (by decide)
theorem bt_mem {v : Nat} : ∀ {i c : Nat}, c ∈ bt v i → c = 48 ∨ c = 49
  | 0, c, h => by cases h
  | i + 1, c, h => by
    rcases List.mem_cons.mp h with h | h
    · have := Nat.mod_lt (v / 2 ^ i) (show 0 < 2 by decide)
      omega
    · exact bt_mem h
theorem worth_take {l : List Nat} {i c : Nat} (h : l[i]? = some c) : worth (l.take (i + 1)) = 2 * worth (l.take i) + (c - 48) := by
  have hi := (List.getElem?_eq_some_iff.mp h).1
  have e := (List.getElem?_eq_some_iff.mp h).2
  rw [List.take_succ_eq_append_getElem hi, e, worth_app]
  show worth (l.take i) * 2 ^ 1 + (2 * 0 + (c - 48)) = _
  omega
/-- one doubling -/
theorem cr_double {w : Nat} (h : 1 ≤ w) {f d q : Int} (f0 : 0 ≤ f) (d0 : 0 ≤ d) (q0 : 0 ≤ q) : cr w (f + cr w (d + d) * q) = cr w (f + (d + d) * q) := by
  have a := cr_add h (a := (d + d) * q) (b := f) (Int.mul_nonneg (by omega) q0) f0
  have b := cr_add h (a := cr w (d + d) * q) (b := f) (Int.mul_nonneg (cr_bd h _).1 q0) f0
  have c := cr_mul h (k := q) (a := d + d) q0 (by omega)
  rw [Int.mul_comm q, Int.mul_comm q] at c
  rw [Int.add_comm f, ← b, c, a, Int.add_comm f]
end Tz
namespace TzRepr
open PySem PySem.Spec PyProof.Rows L2 PySem.Builtin PySem.Builtin.List Tz
/-- what repr of a thing gives, by the abstract heap -/
abbrev Rpr := V → Str → Hp → Prop
def Mon (D : Rpr) : Prop := ∀ x t H H', Ex H H' → D x t H → D x t H'
/-- repr within a repr gives what D says, and only makes objects; as: what may be under way -/
def RpG (X : Cx) (n : Nat) (as : List Addr) (D : Rpr) : Prop :=
  ∀ (A : Around) (g : List Code) (pins : List (Addr × Obj)) (s : Shared) (σ : L2.St) (H : Hp) (x : V) (u : Value) (t : Str) (b : Nat), Room n A → A.frames = X.A.frames → A.guards = some g → (∀ p, p ∉ as → Clear g p) → L2.Inv X pins σ H s → RelV x u → D x t H → b + t.length ≤ sizeLine →
    wpAny (model X.prog X.w) A (pyReprUnder b u) (fun r s' => r = t ∧ ∃ H', L2.Inv X pins σ H' s' ∧ Ex H H') X.xe s
theorem RpG.mono {X : Cx} {n m : Nat} {as : List Addr} {D : Rpr} (h : RpG X n as D) (hn : n ≤ m) : RpG X m as D := fun A g pins s σ H x u t b hr => h A g pins s σ H x u t b (hr.mono hn)
theorem RpG.or {X : Cx} {n : Nat} {as : List Addr} {D D' : Rpr} (h : RpG X n as D) (h' : RpG X n as D') : RpG X n as (fun x t H => D x t H ∨ D' x t H) := fun A g pins s σ H x u t b hr hf hg hc I r d hs =>
  d.elim (fun d => h A g pins s σ H x u t b hr hf hg hc I r d hs) fun d => h' A g pins s σ H x u t b hr hf hg hc I r d hs
theorem Mon.or {D D' : Rpr} (h : Mon D) (h' : Mon D') : Mon (fun x t H => D x t H ∨ D' x t H) := fun x t H H' e d => d.elim (fun d => .inl (h x t H H' e d)) fun d => .inr (h' x t H H' e d)
/-! ### flat things -/
def RFlat : Rpr := fun x t _ => (x = .non ∧ t = "None") ∨ (∃ b : Bool, x = .bl b ∧ t = PyData.shown (.bool b)) ∨ (∃ i : Int, x = .int i ∧ i.natAbs.log2 < 1920 ∧ t = PyData.shown (.int i))
theorem mon_flat : Mon RFlat := fun _ _ _ _ _ d => d
section
variable {X : Cx} {n : Nat} {as : List Addr} {D : Rpr}
theorem is_of {x : Value} {t : Str} {A : Around} {pins : List (Addr × Obj)} {s : Shared} {σ : L2.St} {H : Hp} {b : Nat} (h : ReprIs X.prog X.w x t) (I : L2.Inv X pins σ H s) (hs : b + t.length ≤ sizeLine) :
    wpAny (model X.prog X.w) A (pyReprUnder b x) (fun r s' => r = t ∧ ∃ H', L2.Inv X pins σ H' s' ∧ Ex H H') X.xe s :=
  h b hs A X.xe s _ fun tk => ⟨rfl, H, I.kept (h' := s.heap) (t' := tk) fun _ _ e => e, fun _ _ e => e⟩
/-- flat things by what the library tells of them -/
theorem rpG_flat : RpG X 0 as RFlat := by
  intro A g pins s σ H x u t b hr hf hg hc I r d hs
  rcases d with ⟨rfl, rfl⟩ | ⟨c, rfl, rfl⟩ | ⟨i, rfl, hi, rfl⟩
  · cases r
    exact is_of ReprIs.none I hs
  · cases r
    rw [PyData.shown_bool] at hs ⊢
    exact is_of (ReprIs.bool c) I hs
  · obtain ⟨tk, rfl⟩ := r
    rw [PyData.shown_int] at hs ⊢
    exact is_of (ReprIs.int tk hi) I hs
/-- texts -/
def RStr : Rpr := fun x t _ => ∃ z : Str, x = .str z ∧ t = reprText z
theorem rpG_str : RpG X 0 as RStr := by
  intro A g pins s σ H x u t b hr hf hg hc I r d hs
  obtain ⟨z, rfl, rfl⟩ := d
  obtain ⟨tk, rfl⟩ := r
  exact is_of (ReprIs.str z tk (by omega)) I hs
/-! ### instances with the text's own __repr__ -/
theorem byBound_K {prog : Program} {w : World} {A : Around} {E : Value → Shared → Prop} {s : Shared} {K : PySem.W.Frag} {x C f : Addr} {ox : Obj} {od : Option Obj} {name : Str} {last : Value → List Value → Sem Value} {Q : Option Value → Shared → Prop} (X : K.In s.heap)
    (I : PySem.W.InstAt s.heap x ox C od) (hs : PySem.W.findIn K (.ref C) name = some (some (.ref f))) (hf : PySem.W.isFn K (.ref f) = true)
    (h : wpAny (model prog w) A (last (.ref f) [.ref x]) (fun v => Q (some v)) E s) : wpAny (model prog w) A (callSpecialIfBoundBy? last (.ref x) name) Q E s := by
  simp only [callSpecialIfBoundBy?, bindSpecialIfBound?]
  refine wpAny_holding (wpAny_bind (wpAny_bind (wpAny_bind (I.type.here ((PySem.W.looks_findIn X hs).here ?_)))))
  refine wpAny_bind (wpAny_askSetting (wpAny_ite ?_))
  have fin : wpAny (model prog w) A (last (.ref f) [.ref x] >>= fun v => pure (some v)) Q E s := wpAny_bind (wpAny_mono h (fun v s' h' => wpAny_pure h') fun _ _ h' => h')
  split
  · exact wpAny_bind ((PySem.W.bind_fn X _ (beq_iff_eq.mp hf)).here (wpAny_pure (by exact fin)))
  · exact wpAny_tryCatch (wpAny_bind ((PySem.W.bind_fn X _ (beq_iff_eq.mp hf)).here (wpAny_pure (by exact fin))))
/-- what the own __repr__ promises: the text t, where R says so -/
def spRepr (R : Addr → Str → Hp → Prop) : Sp := fun vs H Q _ => ∃ a t, vs = [.ref a] ∧ R a t H ∧ ∀ H', Ex H H' → Q (.str t) H'
def RIns (C : Addr) (R : Addr → Str → Hp → Prop) : Rpr := fun x t H => ∃ a dx fs, x = .ref a ∧ H a = some (.ins C dx fs) ∧ R a t H
theorem rpG_ins {CX : CXT} {C f : Addr} {fd : FuncData} {ps : List Str} {R : Addr → Str → Hp → Prop} {E : XK} (F : FnOk X.prog X.w X.K X.mg X.base CX n f fd ps (spRepr R)) (M : Meth X.K C "__repr__" f) (hb : Binds X.K fd ps []) (hx : Passes CX X E) : RpG X n as (RIns C R) := by
  intro A g pins s σ H x u t b hr hf hg hc I r d hs
  obtain ⟨a, dx, fs, rfl, ha, hR⟩ := d
  cases r
  obtain ⟨od, J⟩ := TzOwn.inst_at I ha
  refine wpAny_pyReprUnder_ref (by omega) ?_
  unfold pyReprObjUnder pyReprObjBy
  refine wpAny_bind (wpAny_cRoomFor hr.units0 ?_)
  refine wpAny_bind (wpAny_bind (J.type.here ((PySem.W.looks_findIn I.kIn M.at_).here ?_)))
  show wpAny _ _ (if (some (Value.ref f)).isNone = true then _ else _) _ _ _
  rw [if_neg (by simp)]
  refine wpAny_bind (m := callSpecialIfBoundBy? _ (.ref a) (Str.ofString "__repr__")) (byBound_K I.kIn J M.at_ M.fn ?_)
  show wpAny _ _ (call (.ref f) [.ref a]) _ _ s
  have hsp : spRepr R [.ref a] H (fun v H' => v = .str t ∧ Ex H H') E := ⟨a, t, rfl, hR, fun H' e => ⟨rfl, e⟩⟩
  have e0 : Env0 X.prog X.w X.K X.mg X.base A X.stack s H := by
    have e := I.env0
    exact ⟨by rw [hf]; exact e.frames, e.mod, e.bs, e.bsz, e.funs, e.frf, e.hok, e.bare⟩
  have hl := F.len _ _ _ _ hsp
  refine wpAny_call (codeAny_mono (F.run A X.stack s H ⟨[.ref a], []⟩ [.ref a] [.ref a] _ E hr e0 (by
    have := hb s [.ref a] I.kIn (by simpa using hl)
    simpa using this) (.cons rfl .nil) hsp) fun r s' hq => ?_)
  cases r with
  | error e => exact hx pins σ H s e s' I hq
  | ok fl =>
    cases fl with
    | ret w =>
      obtain ⟨z, H', I', rz, ez, ex⟩ := I.after hq
      subst ez
      obtain ⟨tk, rfl⟩ := rz
      refine wpAny_bind (wpAny_isInstance (typeIs_str _ _ _) isSubtype_str_str ?_)
      rw [if_pos rfl]
      exact wpAny_pure ⟨_, _, rfl, rfl, H', I', ex⟩
    | next => exact False.elim hq
    | brk => exact False.elim hq
    | cont => exact False.elim hq
/-! ### lists -/
theorem vals_strs : ∀ {ts : List Str} {us : List Value}, Vals (ts.map V.str) us → ∃ done : List (Str × Tok), us = strValues done ∧ done.map (·.1) = ts
  | [], [], _ => ⟨[], rfl, rfl⟩
  | t :: ts, u :: us, .cons a r => by
    obtain ⟨tk, rfl⟩ := a
    obtain ⟨done, rfl, e⟩ := vals_strs r
    exact ⟨(t, tk) :: done, rfl, by rw [List.map_cons, e]⟩
theorem room_loop {A : Around} {k : Nat} {args : Args} (r : Room (k + 1) A) : Room k (A.under (.builtin "list.__repr__.loop" args)) := by
  have hu := units_under_list_loop A args
  have hd : (A.under (.builtin "list.__repr__.loop" args)).depth ≤ A.depth + 1 := by
    first | exact Nat.le_of_eq rfl | exact Nat.le_succ _ | simp [Around.under, Code.weight, Code.isCreation, Code.isGuard, Code.isCaller, Code.frames, Code.isFrame, guardIds]
  have hh : (A.under (.builtin "list.__repr__.loop" args)).handled = A.handled := by
    first | rfl | simp [Around.under]
  refine ⟨by rw [hh]; exact r.hd, by have := r.dp; omega, by have := r.un; rw [hu]; omega⟩
theorem frames_loop {A : Around} {args : Args} : (A.under (.builtin "list.__repr__.loop" args)).frames = A.frames := by
  first | rfl | simp [Around.under, Code.frames, Code.isFrame]
/-- item by item -/
def Each (D : Rpr) (xs : List V) (ts : List Str) (H : Hp) : Prop := xs.length = ts.length ∧ ∀ (i : Nat) x t, xs[i]? = some x → ts[i]? = some t → D x t H
theorem Each.mon (hD : Mon D) {xs : List V} {ts : List Str} {H H' : Hp} (e : Ex H H') (p : Each D xs ts H) : Each D xs ts H' := ⟨p.1, fun i x t h1 h2 => hD x t H H' e (p.2 i x t h1 h2)⟩
theorem loop_run {A : Around} {g : List Code} {pins : List (Addr × Obj)} {σ : L2.St} {H0 : Hp} {a P : Addr} {xs : List V} {ts : List Str} {base : Nat} {R : Result → Shared → Prop} (h : RpG X n (a :: as) D) (hm : Mon D) (hr : Room (n + 1) A) (hf : A.frames = X.A.frames) (hg : A.guards = some g)
    (hcl : ∀ p, p ∉ as → Clear g p) (ha : H0 a = some (.lst xs)) (hP : H0 P = none) (d : Each D xs ts H0) (hsz : base + (listText ts).length ≤ sizeLine) (hE : ∀ e s', X.xe e s' → R (.error e) s')
    (hR : ∀ u H' s', L2.Inv X pins σ H' s' → Ex H0 H' → R (.ok (.ret (.str (listText ts) u))) s') :
    ∀ (k i : Nat) (s : Shared) (H1 : Hp), ts.length - i = k → i ≤ ts.length → L2.Inv X pins σ H1 s → Ex H0 H1 → H1 P = some (.lst ((ts.take i).map V.str)) →
    codeAny (model X.prog X.w) A (.builtin "list.__repr__.loop" ⟨[.ref a, rawInt i, .ref P, rawInt ((base + piled (ts.take i) : Nat) : Int)], []⟩) R s := by
  have hX : (listText ts).length = (textFrom 0 "[" ts).length + 1 := by
    show (textFrom 0 "[" ts ++ "]").length = _
    rw [strLen_append]; rfl
  have hL := textFrom_len ts 0 "["
  have hsz1 : ts.length ≤ sizeLine := by
    have h1 := hL.1
    rw [if_neg (Nat.lt_irrefl 0)] at h1
    omega
  have hsz2 : ∀ t ∈ ts, t.length ≤ sizeLine := fun t ht => by
    have h2 := hL.2.1 t ht
    omega
  have hsz3 : (listText ts).length ≤ sizeLine := by omega
  have hp3 := piled_le_listText ts
  intro k
  induction k with
  | zero =>
    intro i s H1 hk hi I e hH
    have hin : i = ts.length := by omega
    obtain ⟨_, its, m, r, hl, he⟩ := I.lstM (e _ _ ha)
    obtain ⟨_, ps, m2, r2, hl2, he2⟩ := I.lstM hH
    refine codeAny_builtin F.entry_list_repr_loop ?_
    show wpAny _ _ («list.__repr__.loop» ⟨[.ref a, .int i 0, .ref P, .int ((base + piled (ts.take i) : Nat) : Int) 0], []⟩) _ _ s
    rw [repr_loop_tree]
    refine wpAny_bind (wpAny_listItems he rfl ?_)
    have hnone : its.toArray[(i : Int).toNat]? = none := by
      have := d.1
      simp
      omega
    simp only [hnone]
    unfold reprEnd
    refine wpAny_bind (wpAny_listItems he2 rfl ?_)
    obtain ⟨done, rfl, hdone⟩ := vals_strs r2
    rw [List.toList_toArray, repr_fold]
    refine wpAny_bind (wpAny_pure ?_)
    rw [hdone, hin, List.take_length]
    refine wpAny_bind (wpAny_mkStr (wpAny_pure ?_) hsz3)
    exact hR _ H1 _ (I.kept (h' := s.heap) fun _ _ z => z) e
  | succ k ih =>
    intro i s H1 hk hi I e hH
    have hlt : i < ts.length := by omega
    obtain ⟨_, its, m, r, hl, he⟩ := I.lstM (e _ _ ha)
    have hlt2 : i < its.length := by have := d.1; omega
    have hlt3 : i < xs.length := by have := d.1; omega
    have ht : ts[i]? = some ts[i] := List.getElem?_eq_getElem hlt
    have hp1 := piled_take_succ ht
    have hp2 := piled_take_le ts (i + 1)
    refine codeAny_builtin F.entry_list_repr_loop ?_
    show wpAny _ _ («list.__repr__.loop» ⟨[.ref a, .int i 0, .ref P, .int ((base + piled (ts.take i) : Nat) : Int) 0], []⟩) _ _ s
    rw [repr_loop_tree]
    refine wpAny_bind (wpAny_listItems he rfl ?_)
    have hsome : its.toArray[(i : Int).toNat]? = some its[i] := by simp [hlt2]
    simp only [hsome]
    rw [Int.toNat_natCast]
    obtain ⟨u, hu, ru⟩ := r.get (List.getElem?_eq_getElem hlt3)
    have eu : u = its[i] := by
      rw [List.getElem?_eq_getElem hlt2] at hu
      exact (Option.some.inj hu).symm
    subst eu
    have hit := h _ _ pins s σ H1 _ its[i] ts[i] (base + piled (ts.take i) + 1) (room_loop (args := ⟨[.ref a, rawInt i, .ref P, rawInt ((base + piled (ts.take i) : Nat) : Int)], []⟩) hr) (frames_loop.trans hf) (guards_under_guard (isGuard_list_loop _) hg)
      (fun p hp => (hcl p fun q => hp (.tail _ q)).cons (a := a) fun q => hp (q ▸ .head _)) I ru (hm _ _ _ _ e (d.2 i _ _ (List.getElem?_eq_getElem hlt3) ht)) (by omega)
    refine wpAny_bind (wpAny_holding (wpAny_mono hit (fun z s2 q => ?_) fun e s' q => hE e s' q))
    obtain ⟨rfl, H2, I2, e2⟩ := q
    refine wpAny_bind (wpAny_mkStr ?_ (hsz2 _ (List.getElem_mem hlt)))
    refine wpAny_bind ?_
    show wpAny _ _ (updateSeq P _) _ _ _
    obtain ⟨_, ps, m2, r2, hl2, he2⟩ := I2.lstM (e2 _ _ hH)
    have hpl : ps.length ≤ sizeLine := by
      rw [← hl2, List.length_map, List.length_take]
      omega
    have hpl2 : ps.length = i := by
      rw [← hl2, List.length_map, List.length_take]
      omega
    have I3 := I2.kept (h' := s2.heap) (t' := s2.toks + 1) fun _ _ z => z
    refine wpAny_updateSeq he2 rfl (wpAny_pure ⟨F.quiet_list_repr_loop _, ?_⟩) (by rw [List.size_toArray]; exact hpl)
    have e1 : ((i : Int) + 1) = ((i + 1 : Nat) : Int) := by omega
    have e3 : base + piled (ts.take i) + (ts[i].length + 2) = base + piled (ts.take (i + 1)) := by omega
    rw [e1, e3]
    have I4 := I3.lset (f := (·.push (.str ts[i] s2.toks))) (its' := ps ++ [.str ts[i] s2.toks]) (ys := (ts.take (i + 1)).map V.str) (t' := s2.toks + 1) (e2 _ _ hH) he2 (by simp) (by
      rw [List.take_add_one, ht, List.map_append]
      exact r2.append (.cons ⟨_, rfl⟩ .nil)) (by
      rw [List.length_map, List.length_take]
      omega)
    refine ih (i + 1) _ (upd H2 P (.lst ((ts.take (i + 1)).map V.str))) (by omega) hlt I4 (fun b o z => ?_) upd_same
    rw [upd_ne (ne_of_none z hP)]
    exact e2 _ _ (e _ _ z)
theorem at_run {A : Around} {g : List Code} {pins : List (Addr × Obj)} {σ : L2.St} {H : Hp} {s : Shared} {a : Addr} {xs : List V} {ts : List Str} {base : Nat} {R : Result → Shared → Prop} (h : RpG X n (a :: as) D) (hm : Mon D) (hr : Room (n + 1) A) (hf : A.frames = X.A.frames) (hg : A.guards = some g)
    (hcl : ∀ p, p ∉ as → Clear g p) (hna : a ∉ as) (I : L2.Inv X pins σ H s) (ha : H a = some (.lst xs)) (hne : xs ≠ []) (d : Each D xs ts H) (hsz : base + (listText ts).length ≤ sizeLine) (hE : ∀ e s', X.xe e s' → R (.error e) s')
    (hR : ∀ u H' s', L2.Inv X pins σ H' s' → Ex H H' → R (.ok (.ret (.str (listText ts) u))) s') :
    wpAny (model X.prog X.w) A.in1 (Builtin.listReprAt base ⟨[.ref a], []⟩) (fun fin s' => match fin with | .done f => R (.ok f) s' | .again c' => c'.quiet = true ∧ codeAny (model X.prog X.w) A c' R s') (fun e s' => R (.error e) s') s := by
  obtain ⟨_, its, m, r, hl, he⟩ := I.lstM ha
  cases its with
  | nil => exact absurd (List.length_eq_zero_iff.mp hl) hne
  | cons y l =>
    refine wpAny_list_repr_head (A := A.in1) hg (fun v rest kw hm' => listSameRef_of_ne (hcl a hna _ _ _ _ hm')) he rfl ?_
    refine wpAny_bind (m := newList []) (wpAny_newObj_type ?_)
    refine wpAny_pure ⟨F.quiet_list_repr_loop _, ?_⟩
    have hP := I.fresh
    have I1 := I.lnew (ys := []) (its := []) (t' := s.toks) .nil (Nat.zero_le _)
    have e1 : Ex H (upd H s.heap.objs.size (.lst [])) := fun b o z => by
      rw [upd_ne (ne_of_none z hP)]
      exact z
    have := loop_run (P := s.heap.objs.size) (H0 := H) (R := R) (base := base) h hm hr hf hg hcl ha hP d hsz hE hR _ 0 _ (upd H s.heap.objs.size (.lst [])) rfl (Nat.zero_le _) I1 e1 upd_same
    exact this
/-- lists, item by item -/
def RList (D : Rpr) (as : List Addr) : Rpr := fun x t H => ∃ a xs ts, x = .ref a ∧ a ∉ as ∧ H a = some (.lst xs) ∧ t = listText ts ∧ Each D xs ts H
theorem mon_list (hD : Mon D) : Mon (RList D as) := fun x t H H' e ⟨a, xs, ts, hx, hn, h1, ht, p⟩ => ⟨a, xs, ts, hx, hn, e _ _ h1, ht, p.mon hD e⟩
theorem rpG_list (hm : Mon D) (h : ∀ a, RpG X n (a :: as) D) : RpG X (n + 1) as (RList D as) := by
  intro A g pins s σ H x u t b hr hf hg hc I r d hs
  obtain ⟨a, xs, ts, rfl, hna, ha, rfl, p⟩ := d
  cases r
  refine wpAny_pyReprUnder_ref (by omega) ?_
  obtain ⟨_, its, m, rv, hl, he⟩ := I.lstM ha
  by_cases hne : xs = []
  · subst hne
    have e1 : its = [] := List.length_eq_zero_iff.mp hl.symm
    subst e1
    have e2 : ts = [] := List.length_eq_zero_iff.mp p.1.symm
    subst e2
    exact wpAny_pyReprObjUnder_list_empty ⟨_, he, rfl⟩ hr.units0 he rfl ⟨_, _, rfl, rfl, H, I.kept (h' := s.heap) fun _ _ z => z, fun _ _ z => z⟩
  · refine wpAny_pyReprObjUnder_twin (twin := "list.__repr__.under") ⟨_, he, rfl⟩ F.slot_list_repr.toG rfl hr.units0 ?_
    refine call_twin_plain F.plain_list_repr_under F.entry_list_repr_under F.check_list_repr_under ⟨_, he, rfl⟩ F.slot_list_repr.toG (F.args_list_repr_1 _) ?_
    exact at_run (R := callEnd _ X.xe) (h a) hm hr hf hg hc hna I ha hne p hs (fun e s' q => q) fun u H' s' I' e => ⟨⟨_, _, rfl⟩, _, _, rfl, rfl, H', I', e⟩
/-- repr(x) of a list, where no repr is under way -/
theorem repr_list (hm : Mon D) (h : ∀ a, RpG X n [a] D) (hg : X.A.guards = some []) (hr : Room (n + 2) X.A) :
    CallR X (.builtin "repr") (fun xs H Q => ∃ x t, xs = [x] ∧ RList D [] x t H ∧ t.length ≤ sizeLine ∧ ∀ H', Ex H H' → Q (.str t) H') := by
  intro pins s σ H xs us Q I r hq
  obtain ⟨x, t, rfl, ⟨a, xs, ts, rfl, _, ha, rfl, p⟩, hs, q⟩ := hq
  obtain ⟨u, rfl, ru⟩ := vals1 r
  cases ru
  obtain ⟨_, its, m, rv, hl, he⟩ := I.lstM ha
  refine call_repr_slot hr.in1.units0 ⟨_, he, rfl⟩ F.slot_list_repr.toG ?_
  by_cases hne : xs = []
  · subst hne
    have e1 : its = [] := List.length_eq_zero_iff.mp hl.symm
    subst e1
    have e2 : ts = [] := List.length_eq_zero_iff.mp p.1.symm
    subst e2
    exact call_list_repr_empty ⟨_, he, rfl⟩ he rfl ⟨_, _, rfl, .str "[]", H, I.kept (h' := s.heap) fun _ _ z => z, ⟨_, rfl⟩, q H fun _ _ z => z⟩
  · refine wpAny_call (codeAny_call_builtin F.slot_list_repr.plain F.entry_list_repr (F.slot_list_repr.check _ _ _ _ _ _ _ _ ⟨_, he, rfl⟩ (F.args_list_repr_1 _) ?_))
    exact at_run (base := 0) (R := callEnd _ X.xe) (A := X.A.in1) (g := []) (h a) hm hr.in1 rfl hg (fun p _ => Clear.nil p) (fun z => by cases z) I ha hne p (by omega) (fun e s' q => q) fun u H' s' I' e => ⟨_, _, rfl, .str (listText ts), H', I', ⟨_, rfl⟩, q H' e⟩
/-- repr(x) of an instance with its own __repr__ -/
theorem repr_ins {CX : CXT} {C f : Addr} {fd : FuncData} {ps : List Str} {sp : Sp} {E : XK} (F : FnOk X.prog X.w X.K X.mg X.base CX n f fd ps sp) (hr : Room (n + 1) X.A) (M : Meth X.K C "__repr__" f) (hb : Binds X.K fd ps []) (hx : Passes CX X E) :
    CallR X (.builtin "repr") (fun xs H Q => ∃ a dx fs, xs = [.ref a] ∧ H a = some (.ins C dx fs) ∧ sp [.ref a] H (fun v H' => (∃ t, v = .str t) ∧ Q v H') E) := by
  intro pins s σ H xs us Q I r hq
  obtain ⟨a, dx, fs, rfl, ha, q⟩ := hq
  obtain ⟨u, rfl, ru⟩ := vals1 r
  cases ru
  obtain ⟨od, J⟩ := TzOwn.inst_at I ha
  refine Calls.call_function_entry PySem.F.kind_repr PySem.F.plain_repr PySem.F.entry_repr (PySem.F.args_repr1 _) ?_
  unfold Builtin.«repr»
  refine wpAny_bind (m := oneArg "repr" _) (wpAny_pure ?_)
  refine wpAny_bind (wpAny_cRoomFor hr.in1.units0 ?_)
  refine wpAny_bind (wpAny_bind (J.type.here ((PySem.W.looks_findIn I.kIn M.at_).here ?_)))
  show wpAny _ _ (if (some (Value.ref f)).isNone = true then _ else _) _ _ _
  rw [if_neg (by simp)]
  have e0 : Env0 X.prog X.w X.K X.mg X.base X.A.in1 X.stack s H := I.env0.in1
  have hl := F.len _ _ _ _ q
  refine wpAny_bind (m := callSpecialIfBound? (.ref a) (Str.ofString "__repr__") _) (PySem.W.ifBound_K I.kIn J M.at_ M.fn ?_)
  refine wpAny_call (codeAny_mono (F.run X.A.in1 X.stack s H ⟨[.ref a], []⟩ [.ref a] [.ref a] _ E hr.in1 e0 (by
    have := hb s [.ref a] I.kIn (by simpa using hl)
    simpa using this) (.cons rfl .nil) q) fun r s' hq => ?_)
  cases r with
  | error e => exact hx pins σ H s e s' I hq
  | ok fl =>
    cases fl with
    | ret w =>
      obtain ⟨z, H', I', rz, ⟨t, ez⟩, q'⟩ := I.after hq
      subst ez
      obtain ⟨tk, rfl⟩ := rz
      refine wpAny_bind (wpAny_isInstance (typeIs_str _ _ _) isSubtype_str_str ?_)
      rw [if_pos rfl]
      exact wpAny_pure ⟨_, rfl, .str t, H', I', ⟨_, rfl⟩, q'⟩
    | next => exact False.elim hq
    | brk => exact False.elim hq
    | cont => exact False.elim hq
end
end TzRepr
namespace TzOwn
open PySem PySem.Spec PyProof.Rows L2
/-- the class stands alone under object -/
def solo (K : PySem.W.Frag) (C : Addr) : Bool := (PySem.W.clsIn K C).any fun cd => cd.mro == [.ref C, .type "object"]
section
variable {prog : Program} {w : World} {A : Around} {E : Value → Shared → Prop} {s : Shared} {K : PySem.W.Frag} {a b C f : Addr} {od od' : Option Obj} {oa ob : Obj} {Q : Value → Shared → Prop} {nm : String} {fo ro rc : Option Value}
theorem bin1_same (Xk : K.In s.heap) (J : PySem.W.InstAt s.heap a oa C od) (J' : PySem.W.InstAt s.heap b ob C od') (sf : PySem.W.selfFirst K C = true) (hs : PySem.W.findIn K (.ref C) (PySem.dunder nm) = some (some (.ref f))) (hf : PySem.W.isFn K (.ref f) = true)
    (h : wpAny (model prog w) A (call (.ref f) [.ref a, .ref b]) (PySem.W.CmpBack Q) E s) : wpAny (model prog w) A (binaryOp1 nm (.ref a) (.ref b)) (fun r s' => ∃ v, r = some v ∧ Q v s') E s := by
  obtain ⟨cd, rest, hcd, hm⟩ := PySem.W.ksp_first sf
  have one := PySem.W.ksp_try Xk J hs hf h
  have L1 : PySem.W.Looks (model prog w) s.heap (typeOf (.ref a)) (.ref C) := J.type
  have L2 : PySem.W.Looks (model prog w) s.heap (typeOf (.ref b)) (.ref C) := J'.type
  have L3 : PySem.W.Looks (model prog w) s.heap (fillsNumberSlot (.ref C) nm) true := PySem.W.fills_K Xk hcd hm hs
  unfold binaryOp1
  refine wpAny_bind (L1.here (wpAny_bind (L2.here (wpAny_bind (L3.here ?_)))))
  have e : (Value.ref C == Value.ref C) = true := beq_self_eq_true _
  simp only [e, if_true, pure_bind, Bool.and_false, Bool.false_and, Bool.false_eq_true, if_false]
  refine wpAny_bind (wpAny_mono one (fun r s' hr => ?_) fun _ _ z => z)
  obtain ⟨v, rfl, q⟩ := hr
  exact wpAny_pure ⟨v, rfl, q⟩
theorem bin1_int {n : Int} {t : Tok} (Xk : K.In s.heap) (J : PySem.W.InstAt s.heap a oa C od) (sf : PySem.W.selfFirst K C = true) (hs : PySem.W.findIn K (.ref C) (PySem.dunder nm) = some (some (.ref f))) (hf : PySem.W.isFn K (.ref f) = true)
    (hr : PySem.W.findIn K (.ref C) (dunderR nm) = some rc) (hp : rc = none ∨ ∃ g : Addr, rc = some (.ref g)) (h1 : PySem.W.findIn K (.type "int") (PySem.dunder nm) = some fo) (h2 : PySem.W.findIn K (.type "int") (dunderR nm) = some ro) (hsub : PySem.W.subIn K (.type "int") (.ref C) = some false)
    (h : wpAny (model prog w) A (call (.ref f) [.ref a, .int n t]) (PySem.W.CmpBack Q) E s) : wpAny (model prog w) A (binaryOp1 nm (.ref a) (.int n t)) (fun r s' => ∃ v, r = some v ∧ Q v s') E s := by
  obtain ⟨cd, rest, hcd, hm⟩ := PySem.W.ksp_first sf
  have one := PySem.W.ksp_try Xk J hs hf h
  have L1 : PySem.W.Looks (model prog w) s.heap (typeOf (.ref a)) (.ref C) := J.type
  have L2 : typeOf (.int n t) = pure (.type "int") := rfl
  have L3 : PySem.W.Looks (model prog w) s.heap (fillsNumberSlot (.ref C) nm) true := PySem.W.fills_K Xk hcd hm hs
  have L4 := PySem.W.ksp_fillsT (M := model prog w) Xk h1 h2
  have L5 : PySem.W.Looks (model prog w) s.heap (isSubtype (.type "int") (.ref C)) false := PySem.W.looks_subIn Xk hsub
  have L6 : PySem.W.Looks (model prog w) s.heap (numberSlotInPython (.ref C) nm) true := PySem.W.ksp_inPy Xk hs hr hp
  have L7 : numberSlotInPython (.type "int") nm = pure false := rfl
  have L8 : PySem.W.Looks (model prog w) s.heap (typeLookup (.type "int") (dunderR nm)) ro := PySem.W.looks_findIn Xk h2
  generalize ((fo.isSome && !isSeqSlot fo) || (ro.isSome && !isSeqSlot ro)) = right at L4
  have hne : (Value.ref C == Value.type "int") = false := Bool.eq_false_iff.mpr fun q => by cases beq_iff_eq.mp q
  unfold binaryOp1
  refine wpAny_bind (L1.here (wpAny_bind (wpAny_of_eq L2 (wpAny_bind (L3.here ?_)))))
  simp only [hne, if_false, Bool.false_eq_true]
  refine wpAny_bind (L4.here ?_)
  cases right with
  | false =>
    simp only [pure_bind, Bool.and_false, Bool.false_and, if_false, Bool.false_eq_true, if_true]
    refine wpAny_bind (wpAny_mono one (fun r s' hr => ?_) fun _ _ z => z)
    obtain ⟨v, rfl, q⟩ := hr
    exact wpAny_pure ⟨v, rfl, q⟩
  | true =>
    simp only [Bool.and_self, if_true]
    refine wpAny_bind (L5.here ?_)
    simp only [pure_bind, Bool.not_false, Bool.and_self, if_true, if_false, Bool.false_eq_true]
    refine wpAny_bind (L6.here ?_)
    simp only [if_true, L7, pure_bind, Bool.not_false]
    refine wpAny_bind (L8.here ?_)
    refine wpAny_bind (wpAny_mono one (fun r s' hr => ?_) fun _ _ z => z)
    obtain ⟨v, rfl, q⟩ := hr
    exact wpAny_pure ⟨v, rfl, q⟩
theorem fillsI_not {add : Bool} (Xk : K.In s.heap) (so : solo K C = true) (n1 : PySem.W.findIn K (.ref C) (dunderI nm) = some none) (n2 : PySem.W.findIn K (.type "object") (dunderI nm) = some none) : PySem.W.Looks (model prog w) s.heap (fillsInplaceSlot (.ref C) nm add) false := by
  obtain ⟨cd, hcd, hm⟩ := PySem.W.any_some so
  have hm := beq_iff_eq.mp hm
  intro A Q E s' k q
  have Lm : PySem.W.Looks (model prog w) s.heap (mroOf (.ref C)) cd.mro := (PySem.W.looks_clsIn Xk hcd).andThen (f := fun cd => pure cd.mro) .now
  have X' : K.In s'.heap := Xk.keeps k
  unfold fillsInplaceSlot
  refine wpAny_bind ((Lm.keeps k).here ?_)
  rw [hm, List.anyM_cons]
  refine wpAny_bind (wpAny_bind ((PySem.W.looks_findIn X' n1).here (wpAny_pure ?_)))
  simp only [Bool.false_eq_true, if_false, List.anyM_cons, List.anyM_nil]
  refine wpAny_bind (wpAny_bind ((PySem.W.looks_findIn X' n2).here (wpAny_pure ?_)))
  exact wpAny_pure q
theorem inpl {op : Operator} {v u : Value} (L1 : PySem.W.Looks (model prog w) s.heap (typeOf v) (.ref C)) (L2 : PySem.W.Looks (model prog w) s.heap (fillsInplaceSlot (.ref C) op.info.2 (op == .Add)) false)
    (h : wpAny (model prog w) A (binaryOp1 op.info.2 v u) (fun r s' => ∃ z, r = some z ∧ Q z s') E s) : wpAny (model prog w) A (inplaceOp op v u) Q E s := by
  unfold inplaceOp
  refine wpAny_holding (wpAny_bind (L1.here (wpAny_bind (L2.here ?_))))
  simp only [Bool.false_eq_true, if_false]
  refine wpAny_bind (wpAny_mono h (fun r s' hr => ?_) fun _ _ z => z)
  obtain ⟨v, rfl, q⟩ := hr
  exact wpAny_pure q
end
theorem solo_of {K : PySem.W.Frag} {C : Addr} {cd : ClassData} (h : PySem.W.clsIn K C = some cd) (hm : cd.mro = [.ref C, .type "object"]) : solo K C = true := by
  unfold solo
  rw [h]
  show (cd.mro == [.ref C, .type "object"]) = true
  exact beq_iff_eq.mpr hm
/-- a op= b in a class that has no such method: as a op b -/
structure INo (K : PySem.W.Frag) (C : Addr) (m : Str) : Prop where
  so : solo K C = true
  n1 : PySem.W.findIn K (.ref C) m = some none
  n2 : PySem.W.findIn K (.type "object") m = some none
section
variable {X : Cx} {CX : CXT} {k : Nat} {f C : Addr} {fd : FuncData} {ps : List Str} {sp : Sp} {E : XK} {op : Operator} {nm nr ni : Str} {fo ro rc : Option Value}
theorem ip_own (F : FnOk X.prog X.w X.K X.mg X.base CX k f fd ps sp) (hr : Room k X.A) (M : Meth X.K C nm f) (hn : PySem.dunder op.info.2 = nm) (sf : PySem.W.selfFirst X.K C = true) (hb : Binds X.K fd ps []) (hx : Passes CX X E) (no : INo X.K C ni) (hi : dunderI op.info.2 = ni) :
    PIp X op (rOwn C sp E) := by
  intro pins s σ H x y v u Q I rx ry h
  obtain ⟨a, b, dx, dy, fs, gs, rfl, rfl, ha, hb', q⟩ := h
  cases rx
  cases ry
  obtain ⟨od, J⟩ := inst_at I ha
  obtain ⟨od', J'⟩ := inst_at I hb'
  refine inpl J.type (fillsI_not I.kIn no.so (hi ▸ no.n1) (hi ▸ no.n2)) (bin1_same I.kIn J J' sf (hn ▸ M.at_) M.fn ?_)
  exact thn (run_fn (us := [.ref a, .ref b]) (vs := [.ref a, .ref b]) F hr hb .nil hx I (.cons rfl (.cons rfl .nil)) q) fun _ _ z => back_cmp z
theorem ip_ownI (F : FnOk X.prog X.w X.K X.mg X.base CX k f fd ps sp) (hr : Room k X.A) (M : Meth X.K C nm f) (hn : PySem.dunder op.info.2 = nm) (sf : PySem.W.selfFirst X.K C = true) (hb : Binds X.K fd ps []) (hx : Passes CX X E)
    (hnr : dunderR op.info.2 = nr) (hc : PySem.W.findIn X.K (.ref C) nr = some rc) (hp : rc = none ∨ ∃ g : Addr, rc = some (.ref g)) (h1 : PySem.W.findIn X.K (.type "int") nm = some fo) (h2 : PySem.W.findIn X.K (.type "int") nr = some ro)
    (hsub : PySem.W.subIn X.K (.type "int") (.ref C) = some false) (no : INo X.K C ni) (hi : dunderI op.info.2 = ni) : PIp X op (rOwnI C sp E) := by
  intro pins s σ H x y v u Q I rx ry h
  obtain ⟨a, n, dx, fs, rfl, rfl, ha, q⟩ := h
  cases rx
  obtain ⟨t, rfl⟩ := ry
  obtain ⟨od, J⟩ := inst_at I ha
  refine inpl J.type (fillsI_not I.kIn no.so (hi ▸ no.n1) (hi ▸ no.n2)) (bin1_int I.kIn J sf (hn ▸ M.at_) M.fn (hnr ▸ hc) hp (hn ▸ h1) (hnr ▸ h2) hsub ?_)
  exact thn (run_fn (us := [.ref a, .int n t]) (vs := [.ref a, .int n]) F hr hb .nil hx I (.cons rfl (.cons ⟨_, rfl⟩ .nil)) q) fun _ _ z => back_cmp z
end
end TzOwn
namespace Tz
open PySem PyProof.Rows L2
def spAddI (C : Addr) : Sp := fun vs H Q _ => ∃ x, ∃ w : Nat, ∃ u n : Int, vs = [.ref x, .int n] ∧ WordAt C H x w u ∧ 0 ≤ n ∧ n ≤ mw w ∧ NewW C w (cr w (u + n)) H Q
def spRAddI (C : Addr) : Sp := fun vs H Q _ => ∃ x, ∃ w : Nat, ∃ u n : Int, vs = [.ref x, .int n] ∧ WordAt C H x w u ∧ 0 ≤ n ∧ n ≤ mw w ∧ NewW C w (cr w (n + u)) H Q
def spSubI (C : Addr) : Sp := fun vs H Q _ => ∃ x, ∃ w : Nat, ∃ u n : Int, vs = [.ref x, .int n] ∧ WordAt C H x w u ∧ 0 ≤ n ∧ n ≤ mw w ∧ NewW C w (cr w (u + (mw w - n))) H Q
def spRSubI (C : Addr) : Sp := fun vs H Q _ => ∃ x, ∃ w : Nat, ∃ u n : Int, vs = [.ref x, .int n] ∧ WordAt C H x w u ∧ 0 ≤ n ∧ n ≤ mw w ∧ NewW C w (cr w (n + (mw w - u))) H Q
/-! ### repr of words -/
def wtext (w : Nat) (u : Int) : Str := ((((Str.empty ++ ("Word(" : Str)) ++ ((toString (w : Int) : String) : Str)) ++ (", " : Str)) ++ ((toString u : String) : Str)) ++ (")" : Str)
def WText (C : Addr) : Addr → Str → Hp → Prop := fun a t H => ∃ w u, WordAt C H a w u ∧ t = wtext w u
theorem mon_words {C : Addr} : TzRepr.Mon (TzRepr.RIns C (WText C)) := fun _ _ _ _ e ⟨a, dx, fs, hx, ha, w, u, W, ht⟩ => ⟨a, dx, fs, hx, e _ _ ha, w, u, W.ex e, ht⟩
theorem int20 {n : Int} (h0 : 0 ≤ n) (h1 : n < 18446744073709551616) : ((toString n : String) : Str).length ≤ 21 :=
  Nat.le_trans (PyProof.Rows.toString_length_le h0 (k := 20) (by decide) (by omega)) (by decide)
theorem wtext_len {w : Nat} {u : Int} (hw : w ≤ 64) (h0 : 0 ≤ u) (h1 : u < 18446744073709551616) : (wtext w u).length ≤ 60 := by
  have a := int20 (n := (w : Int)) (by omega) (by omega)
  have b := int20 h0 h1
  have e0 : (Str.empty : Str).length = 0 := rfl
  have e1 : ("Word(" : Str).length = 5 := rfl
  have e2 : (", " : Str).length = 2 := rfl
  have e3 : (")" : Str).length = 1 := rfl
  unfold wtext
  rw [strLen_append, strLen_append, strLen_append, strLen_append, strLen_append, e0, e1, e2, e3]
  omega
theorem words2_len {a b : Str} (ha : a.length ≤ 60) (hb : b.length ≤ 60) : (listText [a, b]).length ≤ sizeLine := by
  have := textFrom_len_le [a, b] 0 "["
  have e : (listText [a, b]).length = (textFrom 0 "[" [a, b]).length + 1 := by
    show (textFrom 0 "[" [a, b] ++ "]").length = _
    rw [strLen_append]; rfl
  have e1 : ("[" : Str).length = 1 := rfl
  have e2 : (([a, b].map (·.length)).sum) = a.length + (b.length + 0) := rfl
  have e3 : [a, b].length = 2 := rfl
  refine Nat.le_trans (show _ ≤ 200 by omega) (by decide)
theorem each2 {C a b : Addr} {H : Hp} {w w' : Nat} {u v : Int} (Wa : WordAt C H a w u) (Wb : WordAt C H b w' v) : TzRepr.Each (TzRepr.RIns C (WText C)) [.ref a, .ref b] [wtext w u, wtext w' v] H := by
  obtain ⟨da, ha⟩ := Wa.ob
  obtain ⟨db, hb⟩ := Wb.ob
  refine ⟨rfl, fun i x t h1 h2 => ?_⟩
  match i with
  | 0 =>
    cases h1
    cases h2
    exact ⟨a, da, _, rfl, ha, w, u, Wa, rfl⟩
  | 1 =>
    cases h1
    cases h2
    exact ⟨b, db, _, rfl, hb, w', v, Wb, rfl⟩
  | i + 2 => simp at h1
/-! ### promises -/
def spInPlace (C : Addr) : Sp := fun vs H Q _ => ∃ x y, ∃ w : Nat, ∃ u v : Int, vs = [.ref x, .ref y] ∧ WordAt C H x w u ∧ WordAt C H y w v ∧
  ∀ l p q H', Ex H H' → H' l = some (.lst [.ref p, .ref q]) → WordAt C H' p w (cr w (u + v)) → WordAt C H' q w (cr w (u + (mw w - v))) → Q (.ref l) H'
def spInPlaceI (C : Addr) : Sp := fun vs H Q _ => ∃ x, ∃ w : Nat, ∃ u v : Int, vs = [.ref x, .int v] ∧ WordAt C H x w u ∧ 0 ≤ v ∧ v ≤ mw w ∧
  ∀ l p q H', Ex H H' → H' l = some (.lst [.ref p, .ref q]) → WordAt C H' p w (cr w (u + v)) → WordAt C H' q w (cr w (u + (mw w - v))) → Q (.ref l) H'
def spApart (C : Addr) : Sp := fun vs H Q _ => ∃ x y, ∃ w : Nat, ∃ u v : Int, vs = [.ref x, .ref y] ∧ WordAt C H x w u ∧ WordAt C H y w v ∧ ∀ H', Ex H H' → Q (.bl true) H'
def spApartI (C : Addr) : Sp := fun vs H Q _ => ∃ x, ∃ w : Nat, ∃ u v : Int, vs = [.ref x, .int v] ∧ WordAt C H x w u ∧ 0 ≤ v ∧ v ≤ mw w ∧ ∀ H', Ex H H' → Q (.bl true) H'
def spRight3 : Sp := fun vs H Q _ => ∃ w : Nat, ∃ u v : Int, vs = [.int w, .int u, .int v] ∧ 1 ≤ w ∧ w ≤ 64 ∧ 0 ≤ u ∧ u ≤ mw w ∧ 0 ≤ v ∧ v ≤ mw w ∧ ∀ H', Ex H H' → Q (.bl true) H'
end Tz
namespace Tz
open PySem L2
def top (i : Nat) : Stmt := PySem.Challenge.pw_twozeros_k03_sums_and_differences.main.body.getD i (.Pass ⟨0, 0, 0, 0⟩)
abbrev s_is_whole : Stmt := top 8
abbrev s_is_from : Stmt := top 9
abbrev s_most_value : Stmt := top 13
abbrev s_checked_width : Stmt := top 12
abbrev s_Word_init_ : Stmt := inClass (top 11) 1
abbrev s_carried_round : Stmt := top 14
abbrev s_sum_word : Stmt := top 15
abbrev s_difference_word : Stmt := top 16
abbrev s_operand_value : Stmt := top 20
abbrev s_found_value : Stmt := top 22
abbrev s_checked_value : Stmt := top 23
abbrev s_Word_add_ : Stmt := inClass (top 11) 11
abbrev s_Word_radd_ : Stmt := inClass (top 11) 12
abbrev s_Word_sub_ : Stmt := inClass (top 11) 13
abbrev s_Word_rsub_ : Stmt := inClass (top 11) 14
abbrev s_Word_xor_ : Stmt := inClass (top 11) 15
abbrev s_Word_rxor_ : Stmt := inClass (top 11) 16
abbrev s_Word_invert_ : Stmt := inClass (top 11) 10
abbrev s_Word_like : Stmt := inClass (top 11) 5
abbrev s_Word_repr_ : Stmt := inClass (top 11) 7
abbrev s_law_pen : Stmt := top 25
abbrev s_law_draw : Stmt := top 26
abbrev s_law_width : Stmt := top 27
abbrev s_law_value : Stmt := top 28
abbrev s_law_is : Stmt := top 29
abbrev s_law_sum : Stmt := top 30
abbrev s_law_in_place : Stmt := top 31
abbrev s_law_apart_right : Stmt := top 32
abbrev s_law_right : Stmt := top 33
abbrev s_law : Stmt := top 34
structure FnG (K : PySem.W.Frag) (mg : Str → Option Value) (x : Str) (st : Stmt) where
  a : Addr
  fd : FuncData
  F : Fun K x x st a fd
  m : mg x = some (.ref a)
structure FnM (K : PySem.W.Frag) (C : Addr) (x q : Str) (st : Stmt) where
  a : Addr
  fd : FuncData
  F : Fun K x q st a fd
  M : Meth K C x a
structure Kl (K : PySem.W.Frag) (mg : Str → Option Value) (x : Str) where
  C : Addr
  cl : Cls K C
  m : mg x = some (.ref C)
  mks : PySem.W.makesIn K C = true
  kp : PySem.W.keepIn K (.ref C) = true
structure CoI (mg : Str → Option Value) (x : Str) (n : Int) where
  t : Tok
  m : mg x = some (.int n t)
structure FnS (K : PySem.W.Frag) (C : Addr) (x q : Str) (st : Stmt) where
  a : Addr
  fd : FuncData
  F : Fun K x q st a fd
  p : Addr
  S : TzOwn.SMet K C (.type "type") x p a
structure KlX (K : PySem.W.Frag) (C : Addr) where
  rd : ClX.CRead K C (.type "type")
  sf : PySem.W.selfFirst K C = true
  ha : PySem.W.findIn K (.ref C) "__class__" = some (some (.builtin "object.__class__"))
  hn : PySem.W.specialIn K (.builtin "object.__class__") "__get__" = some (some (.builtin "getset_descriptor.__get__"))
  ht : PySem.W.takesIn K (.builtin "object.__class__") = some true
  hm : PySem.W.mroIn K C (.type "object") = some true
  si : PySem.W.subIn K (.type "int") (.ref C) = some false
  sw : PySem.W.subIn K (.ref C) (.type "int") = some false
  ic : PySem.W.isClsIn K C = true
  ty : PySem.W.typeIn K (.ref C) = some (.type "type")
structure CoC (K : PySem.W.Frag) (C : Addr) (x : Str) (n : Int) where
  t : Tok
  c : ClX.CVal K C (.type "type") x (.int n) (.int n t)
structure IntM (K : PySem.W.Frag) (nm nr : Str) where
  fo : Option Value
  ro : Option Value
  h1 : PySem.W.findIn K (.type "int") nm = some fo
  h2 : PySem.W.findIn K (.type "int") nr = some ro
structure Tx (K : PySem.W.Frag) (mg : Str → Option Value) where
  b_int : mg "int" = none
  b_len : mg "len" = none
  b_abs : mg "abs" = none
  b_list : mg "list" = none
  b_isinstance : mg "isinstance" = none
  b_bool : mg "bool" = none
  b_range : mg "range" = none
  b_repr : mg "repr" = none
  k_Word : Kl K mg "Word"
  n_Word_width : NoAttr K k_Word.C "width"
  n_Word_value : NoAttr K k_Word.C "value"
  n_Word_rest : NoAttr K k_Word.C "rest"
  n_Word_is_empty : NoAttr K k_Word.C "is_empty"
  n_Word_is_full : NoAttr K k_Word.C "is_full"
  x_Word : KlX K k_Word.C
  cc_Word_MOST_WIDTH : CoC K k_Word.C "MOST_WIDTH" 64
  j_iadd : TzOwn.INo K k_Word.C "__iadd__"
  j_isub : TzOwn.INo K k_Word.C "__isub__"
  j_ixor : TzOwn.INo K k_Word.C "__ixor__"
  i_int_add : IntM K "__add__" "__radd__"
  i_int_sub : IntM K "__sub__" "__rsub__"
  i_int_xor : IntM K "__xor__" "__rxor__"
  f_is_whole : FnG K mg "is_whole" s_is_whole
  f_is_from : FnG K mg "is_from" s_is_from
  f_most_value : FnG K mg "most_value" s_most_value
  f_checked_width : FnG K mg "checked_width" s_checked_width
  f_Word_init_ : FnM K k_Word.C "__init__" "Word.__init__" s_Word_init_
  f_carried_round : FnG K mg "carried_round" s_carried_round
  f_sum_word : FnG K mg "sum_word" s_sum_word
  f_difference_word : FnG K mg "difference_word" s_difference_word
  f_operand_value : FnG K mg "operand_value" s_operand_value
  f_found_value : FnG K mg "found_value" s_found_value
  f_checked_value : FnG K mg "checked_value" s_checked_value
  f_Word_add_ : FnM K k_Word.C "__add__" "Word.__add__" s_Word_add_
  f_Word_radd_ : FnM K k_Word.C "__radd__" "Word.__radd__" s_Word_radd_
  f_Word_sub_ : FnM K k_Word.C "__sub__" "Word.__sub__" s_Word_sub_
  f_Word_rsub_ : FnM K k_Word.C "__rsub__" "Word.__rsub__" s_Word_rsub_
  f_Word_xor_ : FnM K k_Word.C "__xor__" "Word.__xor__" s_Word_xor_
  f_Word_rxor_ : FnM K k_Word.C "__rxor__" "Word.__rxor__" s_Word_rxor_
  f_Word_invert_ : FnM K k_Word.C "__invert__" "Word.__invert__" s_Word_invert_
  f_Word_like : FnM K k_Word.C "like" "Word.like" s_Word_like
  f_Word_repr_ : FnM K k_Word.C "__repr__" "Word.__repr__" s_Word_repr_
  f_law_pen : FnG K mg "_law_pen" s_law_pen
  f_law_draw : FnG K mg "_law_draw" s_law_draw
  f_law_width : FnG K mg "_law_width" s_law_width
  f_law_value : FnG K mg "_law_value" s_law_value
  f_law_is : FnG K mg "_law_is" s_law_is
  f_law_sum : FnG K mg "_law_sum" s_law_sum
  f_law_in_place : FnG K mg "_law_in_place" s_law_in_place
  f_law_apart_right : FnG K mg "_law_apart_right" s_law_apart_right
  f_law_right : FnG K mg "_law_right" s_law_right
  f_law : FnG K mg "law" s_law
section
variable {P : Program} {w : World} {K : PySem.W.Frag} {mg : Str → Option Value} {base : Heap}
theorem mk_Word (T : Tx K mg) : Mk K T.k_Word.C T.f_Word_init_.a := ⟨T.k_Word.mks, T.f_Word_init_.M.at_, T.f_Word_init_.M.fn, T.k_Word.kp⟩
theorem sc_is_whole : FnScope ["value"] ["value"] (defScope s_is_whole) := ⟨rfl, rfl, rfl, by decide +kernel, rfl, by decide +kernel, by decide +kernel⟩
theorem bd_is_whole (T : Tx K mg) : Binds K T.f_is_whole.fd ["value"] [] := T.f_is_whole.F.binds (ps := ["value"]) fun _ _ _ _ _ _ us hl => match us, hl with | [_], _ => rfl
theorem sc_is_from : FnScope ["value", "least", "most"] ["value", "least", "most"] (defScope s_is_from) := ⟨rfl, rfl, rfl, by decide +kernel, rfl, by decide +kernel, by decide +kernel⟩
theorem bd_is_from (T : Tx K mg) : Binds K T.f_is_from.fd ["value", "least", "most"] [] := T.f_is_from.F.binds (ps := ["value", "least", "most"]) fun _ _ _ _ _ _ us hl => match us, hl with | [_, _, _], _ => rfl
theorem sc_most_value : FnScope ["width"] ["width"] (defScope s_most_value) := ⟨rfl, rfl, rfl, by decide +kernel, rfl, by decide +kernel, by decide +kernel⟩
theorem bd_most_value (T : Tx K mg) : Binds K T.f_most_value.fd ["width"] [] := T.f_most_value.F.binds (ps := ["width"]) fun _ _ _ _ _ _ us hl => match us, hl with | [_], _ => rfl
theorem sc_checked_width : FnScope ["width"] ["width"] (defScope s_checked_width) := ⟨rfl, rfl, rfl, by decide +kernel, rfl, by decide +kernel, by decide +kernel⟩
theorem bd_checked_width (T : Tx K mg) : Binds K T.f_checked_width.fd ["width"] [] := T.f_checked_width.F.binds (ps := ["width"]) fun _ _ _ _ _ _ us hl => match us, hl with | [_], _ => rfl
theorem sc_Word_init_ : FnScope ["self", "width", "value", "most"] ["self", "width", "value"] (defScope s_Word_init_) := ⟨rfl, rfl, rfl, by decide +kernel, rfl, by decide +kernel, by decide +kernel⟩
theorem bd_Word_init_ (T : Tx K mg) : Binds K T.f_Word_init_.fd ["self", "width", "value"] [] := T.f_Word_init_.F.binds (ps := ["self", "width", "value"]) fun _ _ _ _ _ _ us hl => match us, hl with | [_, _, _], _ => rfl
theorem sc_carried_round : FnScope ["width", "number"] ["width", "number"] (defScope s_carried_round) := ⟨rfl, rfl, rfl, by decide +kernel, rfl, by decide +kernel, by decide +kernel⟩
theorem bd_carried_round (T : Tx K mg) : Binds K T.f_carried_round.fd ["width", "number"] [] := T.f_carried_round.F.binds (ps := ["width", "number"]) fun _ _ _ _ _ _ us hl => match us, hl with | [_, _], _ => rfl
theorem sc_sum_word : FnScope ["width", "one", "other"] ["width", "one", "other"] (defScope s_sum_word) := ⟨rfl, rfl, rfl, by decide +kernel, rfl, by decide +kernel, by decide +kernel⟩
theorem bd_sum_word (T : Tx K mg) : Binds K T.f_sum_word.fd ["width", "one", "other"] [] := T.f_sum_word.F.binds (ps := ["width", "one", "other"]) fun _ _ _ _ _ _ us hl => match us, hl with | [_, _, _], _ => rfl
theorem sc_difference_word : FnScope ["width", "one", "other"] ["width", "one", "other"] (defScope s_difference_word) := ⟨rfl, rfl, rfl, by decide +kernel, rfl, by decide +kernel, by decide +kernel⟩
theorem bd_difference_word (T : Tx K mg) : Binds K T.f_difference_word.fd ["width", "one", "other"] [] := T.f_difference_word.F.binds (ps := ["width", "one", "other"]) fun _ _ _ _ _ _ us hl => match us, hl with | [_, _, _], _ => rfl
theorem sc_operand_value : FnScope ["word", "other"] ["word", "other"] (defScope s_operand_value) := ⟨rfl, rfl, rfl, by decide +kernel, rfl, by decide +kernel, by decide +kernel⟩
theorem bd_operand_value (T : Tx K mg) : Binds K T.f_operand_value.fd ["word", "other"] [] := T.f_operand_value.F.binds (ps := ["word", "other"]) fun _ _ _ _ _ _ us hl => match us, hl with | [_, _], _ => rfl
theorem sc_found_value : FnScope ["width", "word"] ["width", "word"] (defScope s_found_value) := ⟨rfl, rfl, rfl, by decide +kernel, rfl, by decide +kernel, by decide +kernel⟩
theorem bd_found_value (T : Tx K mg) : Binds K T.f_found_value.fd ["width", "word"] [] := T.f_found_value.F.binds (ps := ["width", "word"]) fun _ _ _ _ _ _ us hl => match us, hl with | [_, _], _ => rfl
theorem sc_checked_value : FnScope ["width", "word", "value"] ["width", "word"] (defScope s_checked_value) := ⟨rfl, rfl, rfl, by decide +kernel, rfl, by decide +kernel, by decide +kernel⟩
theorem bd_checked_value (T : Tx K mg) : Binds K T.f_checked_value.fd ["width", "word"] [] := T.f_checked_value.F.binds (ps := ["width", "word"]) fun _ _ _ _ _ _ us hl => match us, hl with | [_, _], _ => rfl
theorem sc_Word_add_ : FnScope ["self", "other"] ["self", "other"] (defScope s_Word_add_) := ⟨rfl, rfl, rfl, by decide +kernel, rfl, by decide +kernel, by decide +kernel⟩
theorem bd_Word_add_ (T : Tx K mg) : Binds K T.f_Word_add_.fd ["self", "other"] [] := T.f_Word_add_.F.binds (ps := ["self", "other"]) fun _ _ _ _ _ _ us hl => match us, hl with | [_, _], _ => rfl
theorem sc_Word_radd_ : FnScope ["self", "other"] ["self", "other"] (defScope s_Word_radd_) := ⟨rfl, rfl, rfl, by decide +kernel, rfl, by decide +kernel, by decide +kernel⟩
theorem bd_Word_radd_ (T : Tx K mg) : Binds K T.f_Word_radd_.fd ["self", "other"] [] := T.f_Word_radd_.F.binds (ps := ["self", "other"]) fun _ _ _ _ _ _ us hl => match us, hl with | [_, _], _ => rfl
theorem sc_Word_sub_ : FnScope ["self", "other"] ["self", "other"] (defScope s_Word_sub_) := ⟨rfl, rfl, rfl, by decide +kernel, rfl, by decide +kernel, by decide +kernel⟩
theorem bd_Word_sub_ (T : Tx K mg) : Binds K T.f_Word_sub_.fd ["self", "other"] [] := T.f_Word_sub_.F.binds (ps := ["self", "other"]) fun _ _ _ _ _ _ us hl => match us, hl with | [_, _], _ => rfl
theorem sc_Word_rsub_ : FnScope ["self", "other"] ["self", "other"] (defScope s_Word_rsub_) := ⟨rfl, rfl, rfl, by decide +kernel, rfl, by decide +kernel, by decide +kernel⟩
theorem bd_Word_rsub_ (T : Tx K mg) : Binds K T.f_Word_rsub_.fd ["self", "other"] [] := T.f_Word_rsub_.F.binds (ps := ["self", "other"]) fun _ _ _ _ _ _ us hl => match us, hl with | [_, _], _ => rfl
theorem sc_Word_xor_ : FnScope ["self", "other"] ["self", "other"] (defScope s_Word_xor_) := ⟨rfl, rfl, rfl, by decide +kernel, rfl, by decide +kernel, by decide +kernel⟩
theorem bd_Word_xor_ (T : Tx K mg) : Binds K T.f_Word_xor_.fd ["self", "other"] [] := T.f_Word_xor_.F.binds (ps := ["self", "other"]) fun _ _ _ _ _ _ us hl => match us, hl with | [_, _], _ => rfl
theorem sc_Word_rxor_ : FnScope ["self", "other"] ["self", "other"] (defScope s_Word_rxor_) := ⟨rfl, rfl, rfl, by decide +kernel, rfl, by decide +kernel, by decide +kernel⟩
theorem bd_Word_rxor_ (T : Tx K mg) : Binds K T.f_Word_rxor_.fd ["self", "other"] [] := T.f_Word_rxor_.F.binds (ps := ["self", "other"]) fun _ _ _ _ _ _ us hl => match us, hl with | [_, _], _ => rfl
theorem sc_Word_invert_ : FnScope ["self"] ["self"] (defScope s_Word_invert_) := ⟨rfl, rfl, rfl, by decide +kernel, rfl, by decide +kernel, by decide +kernel⟩
theorem bd_Word_invert_ (T : Tx K mg) : Binds K T.f_Word_invert_.fd ["self"] [] := T.f_Word_invert_.F.binds (ps := ["self"]) fun _ _ _ _ _ _ us hl => match us, hl with | [_], _ => rfl
theorem sc_Word_like : FnScope ["self", "other"] ["self", "other"] (defScope s_Word_like) := ⟨rfl, rfl, rfl, by decide +kernel, rfl, by decide +kernel, by decide +kernel⟩
theorem bd_Word_like (T : Tx K mg) : Binds K T.f_Word_like.fd ["self", "other"] [] := T.f_Word_like.F.binds (ps := ["self", "other"]) fun _ _ _ _ _ _ us hl => match us, hl with | [_, _], _ => rfl
theorem sc_Word_repr_ : FnScope ["self"] ["self"] (defScope s_Word_repr_) := ⟨rfl, rfl, rfl, by decide +kernel, rfl, by decide +kernel, by decide +kernel⟩
theorem bd_Word_repr_ (T : Tx K mg) : Binds K T.f_Word_repr_.fd ["self"] [] := T.f_Word_repr_.F.binds (ps := ["self"]) fun _ _ _ _ _ _ us hl => match us, hl with | [_], _ => rfl
theorem sc_law_pen : FnScope ["_law_script"] ["_law_script"] (defScope s_law_pen) := ⟨rfl, rfl, rfl, by decide +kernel, rfl, by decide +kernel, by decide +kernel⟩
theorem bd_law_pen (T : Tx K mg) : Binds K T.f_law_pen.fd ["_law_script"] [] := T.f_law_pen.F.binds (ps := ["_law_script"]) fun _ _ _ _ _ _ us hl => match us, hl with | [_], _ => rfl
theorem sc_law_draw : FnScope ["_law_pen_here", "_law_many", "_law_digit", "_law_at", "_law_cell", "_law_great", "_law_mixed"] ["_law_pen_here", "_law_many"] (defScope s_law_draw) := ⟨rfl, rfl, rfl, by decide +kernel, rfl, by decide +kernel, by decide +kernel⟩
theorem bd_law_draw (T : Tx K mg) : Binds K T.f_law_draw.fd ["_law_pen_here", "_law_many"] [] := T.f_law_draw.F.binds (ps := ["_law_pen_here", "_law_many"]) fun _ _ _ _ _ _ us hl => match us, hl with | [_, _], _ => rfl
theorem sc_law_width : FnScope ["_law_pen_here"] ["_law_pen_here"] (defScope s_law_width) := ⟨rfl, rfl, rfl, by decide +kernel, rfl, by decide +kernel, by decide +kernel⟩
theorem bd_law_width (T : Tx K mg) : Binds K T.f_law_width.fd ["_law_pen_here"] [] := T.f_law_width.F.binds (ps := ["_law_pen_here"]) fun _ _ _ _ _ _ us hl => match us, hl with | [_], _ => rfl
theorem sc_law_value : FnScope ["_law_pen_here", "_law_width_here", "_law_top", "_law_low", "_law_high", "_law_some"] ["_law_pen_here", "_law_width_here"] (defScope s_law_value) := ⟨rfl, rfl, rfl, by decide +kernel, rfl, by decide +kernel, by decide +kernel⟩
theorem bd_law_value (T : Tx K mg) : Binds K T.f_law_value.fd ["_law_pen_here", "_law_width_here"] [] := T.f_law_value.F.binds (ps := ["_law_pen_here", "_law_width_here"]) fun _ _ _ _ _ _ us hl => match us, hl with | [_, _], _ => rfl
theorem sc_law_is : FnScope ["_law_word", "_law_width_here", "_law_value_here"] ["_law_word", "_law_width_here", "_law_value_here"] (defScope s_law_is) := ⟨rfl, rfl, rfl, by decide +kernel, rfl, by decide +kernel, by decide +kernel⟩
theorem bd_law_is (T : Tx K mg) : Binds K T.f_law_is.fd ["_law_word", "_law_width_here", "_law_value_here"] [] := T.f_law_is.F.binds (ps := ["_law_word", "_law_width_here", "_law_value_here"]) fun _ _ _ _ _ _ us hl => match us, hl with | [_, _, _], _ => rfl
theorem sc_law_sum : FnScope ["_law_width_here", "_law_one", "_law_other", "_law_top"] ["_law_width_here", "_law_one", "_law_other"] (defScope s_law_sum) := ⟨rfl, rfl, rfl, by decide +kernel, rfl, by decide +kernel, by decide +kernel⟩
theorem bd_law_sum (T : Tx K mg) : Binds K T.f_law_sum.fd ["_law_width_here", "_law_one", "_law_other"] [] := T.f_law_sum.F.binds (ps := ["_law_width_here", "_law_one", "_law_other"]) fun _ _ _ _ _ _ us hl => match us, hl with | [_, _, _], _ => rfl
theorem sc_law_in_place : FnScope ["_law_one", "_law_other", "_law_more", "_law_less"] ["_law_one", "_law_other"] (defScope s_law_in_place) := ⟨rfl, rfl, rfl, by decide +kernel, rfl, by decide +kernel, by decide +kernel⟩
theorem bd_law_in_place (T : Tx K mg) : Binds K T.f_law_in_place.fd ["_law_one", "_law_other"] [] := T.f_law_in_place.F.binds (ps := ["_law_one", "_law_other"]) fun _ _ _ _ _ _ us hl => match us, hl with | [_, _], _ => rfl
theorem sc_law_apart_right : FnScope ["_law_one", "_law_other", "_law_found"] ["_law_one", "_law_other"] (defScope s_law_apart_right) := ⟨rfl, rfl, rfl, by decide +kernel, rfl, by decide +kernel, by decide +kernel⟩
theorem bd_law_apart_right (T : Tx K mg) : Binds K T.f_law_apart_right.fd ["_law_one", "_law_other"] [] := T.f_law_apart_right.F.binds (ps := ["_law_one", "_law_other"]) fun _ _ _ _ _ _ us hl => match us, hl with | [_, _], _ => rfl
theorem sc_law_right : FnScope ["_law_width_here", "_law_one", "_law_other", "_law_top", "_law_left", "_law_second", "_law_due", "_law_found", "_law_wanted", "_law_at"] ["_law_width_here", "_law_one", "_law_other"] (defScope s_law_right) := ⟨rfl, rfl, rfl, by decide +kernel, rfl, by decide +kernel, by decide +kernel⟩
theorem bd_law_right (T : Tx K mg) : Binds K T.f_law_right.fd ["_law_width_here", "_law_one", "_law_other"] [] := T.f_law_right.F.binds (ps := ["_law_width_here", "_law_one", "_law_other"]) fun _ _ _ _ _ _ us hl => match us, hl with | [_, _, _], _ => rfl
theorem sc_law : FnScope ["_law_script", "_law_pen_here", "_law_turn", "_law_width_here", "_law_one", "_law_other", "_law_way"] ["_law_script"] (defScope s_law) := ⟨rfl, rfl, rfl, by decide +kernel, rfl, by decide +kernel, by decide +kernel⟩
theorem bd_law (T : Tx K mg) : Binds K T.f_law.fd ["_law_script"] [] := T.f_law.F.binds (ps := ["_law_script"]) fun _ _ _ _ _ _ us hl => match us, hl with | [_], _ => rfl
end
section
variable {P : Program} {w : World} {K : PySem.W.Frag} {mg : Str → Option Value} {base : Heap}
def spWholeI : Sp := fun vs H Q _ => ∃ v : Int, vs = [.int v] ∧ Q (.bl true) H

theorem ok_is_whole (T : Tx K mg) : FnOk P w K mg base CX0 1 T.f_is_whole.a T.f_is_whole.fd ["value"] spWholeI := by
  refine T.f_is_whole.F.ok sc_is_whole (fun vs H Q E h => ?_) (fun cdv A outer s H vs Q E hr h => ?_)
  · obtain ⟨v, rfl, _⟩ := h
    rfl
  · obtain ⟨v, rfl, k⟩ := h
    refine ⟨_, (pss_one (ps_ret (pe_and (pe_callB call_isi (by rfl) T.b_isinstance (by decide +kernel) (pa_cons (pv 0) (pa_cons (pe_bltn (v := .ty "int") (by rfl) T.b_int (by decide +kernel) rfl) pa_nil))) (pe_one (pe_not (pe_callB call_isi (by rfl) T.b_isinstance (by decide +kernel) (pa_cons (pv 0) (pa_cons (pe_bltn (v := .ty "bool") (by rfl) T.b_bool (by decide +kernel) rfl) pa_nil)))))))), ?_⟩

    refine ⟨_, rfl, _, _, _, _, true, rfl, .ty "int", .base (.int _), kit_ty (by decide +kernel), true, rfl, iteT ?_⟩
    refine ⟨_, rfl, _, _, _, _, false, rfl, .ty "bool", .base (.int _), kit_ty (by decide +kernel), false, rfl, k⟩
theorem ok_is_from (T : Tx K mg) : FnOk P w K mg base CX0 2 T.f_is_from.a T.f_is_from.fd ["value", "least", "most"] spIsFromI := by
  refine T.f_is_from.F.ok sc_is_from (fun vs H Q E h => ?_) (fun cdv A outer s H vs Q E hr h => ?_)
  · obtain ⟨v, lo, hi, rfl, _⟩ := h
    rfl
  · obtain ⟨v, lo, hi, rfl, k⟩ := h
    refine ⟨_, (pss_one (ps_ret (pe_and (pe_call (ok_is_whole T) (hr.mono (by decide)) (by rfl) T.f_is_whole.m T.f_is_whole.F.kp (bd_is_whole T) .nil pass0 (pa_cons (pv 0) pa_nil)) (pe_one (pe_chain op_le op_le (pv 1) (pv 0) (pv 2)))))), ?_⟩

    refine ⟨_, rfl, v, rfl, _, rfl, iteT ?_⟩
    refine ⟨_, rfl, _, rfl, _, _, rfl, rfl, _, rfl, ?_⟩
    refine ite2 (fun h1 => ?_) (fun h1 => ?_)
    · refine ⟨_, rfl, _, _, rfl, rfl, ?_⟩
      exact k _ ⟨fun h2 => ⟨of_decide_eq_true h1, of_decide_eq_true h2⟩, fun h2 => decide_eq_true h2.2⟩
    · exact k _ ⟨fun h2 => absurd h2 Bool.false_ne_true, fun h2 => absurd (decide_eq_true h2.1) h1⟩
theorem ok_most_value (T : Tx K mg) : FnOk P w K mg base CX0 2 T.f_most_value.a T.f_most_value.fd ["width"] spMost := by
  refine T.f_most_value.F.ok sc_most_value (fun vs H Q E h => ?_) (fun cdv A outer s H vs Q E hr h => ?_)
  · obtain ⟨wd, rfl, _⟩ := h
    rfl
  · obtain ⟨wd, rfl, w1, w64, k⟩ := h
    refine ⟨_, (pss_one (ps_ret (pe_op op_sub (pe_op op_shl pe_int (pv 0)) pe_int))), ?_⟩

    refine ⟨_, rfl, _, _, rfl, rfl, ⟨by omega, by omega, by decide⟩, _, _, rfl, rfl, ?_⟩
    have et : (1 : Int) * 2 ^ (wd : Int).toNat - 1 = mw wd := by
      rw [Int.one_mul, Int.toNat_natCast]
      all_goals rfl
    dsimp only
    rw [et]
    exact k
theorem ok_checked_width (T : Tx K mg) : FnOk P w K mg base CX0 3 T.f_checked_width.a T.f_checked_width.fd ["width"] spCheckedWidth := by
  refine T.f_checked_width.F.ok sc_checked_width (fun vs H Q E h => ?_) (fun cdv A outer s H vs Q E hr h => ?_)
  · obtain ⟨wd, rfl, _⟩ := h
    rfl
  · obtain ⟨wd, rfl, w1, w64, k⟩ := h
    refine ⟨_, (pss_cons (ps_if (pt_not (pt_val (pe_call (ok_is_from T) (hr.mono (by decide)) (by rfl) T.f_is_from.m T.f_is_from.F.kp (bd_is_from T) .nil pass0 (pa_cons (pv 0) (pa_cons pe_int (pa_cons (ClX.pe_cval (pe_glob (v := .ref T.k_Word.C) (by rfl) T.k_Word.m rfl)) pa_nil)))))) (pss_one ps_never) pss_nil)
      (pss_one (ps_ret (pv 0)))), ?_⟩

    refine ⟨_, rfl, T.k_Word.C, _, .int 64, _, rfl, T.x_Word.rd, T.cc_Word_MOST_WIDTH.c, _, _, _, rfl, fun b hb => ?_⟩
    have e : b = true := hb.mpr ⟨by omega, by omega⟩
    subst e
    refine ⟨_, rfl, iteF ?_⟩
    exact ⟨_, rfl, k⟩
theorem ok_Word_init_ (T : Tx K mg) : FnOk P w K mg base CX0 4 T.f_Word_init_.a T.f_Word_init_.fd ["self", "width", "value"] (spWordInit T.k_Word.C) := by
  refine T.f_Word_init_.F.ok sc_Word_init_ (fun vs H Q E h => ?_) (fun cdv A outer s H vs Q E hr h => ?_)
  · obtain ⟨p, dx, wd, v, rfl, _⟩ := h
    rfl
  · obtain ⟨p, dx, wd, v, rfl, hp, w1, w64, v0, vm, k⟩ := h
    refine ⟨_, (pss_cons (ps_set (i := 3) sc_Word_init_.nd rfl (Or.inl rfl) (pe_call (ok_most_value T) (hr.mono (by decide)) (by rfl) T.f_most_value.m T.f_most_value.F.kp (bd_most_value T) .nil pass0 (pa_cons (pe_call (ok_checked_width T) (hr.mono (by decide)) (by rfl) T.f_checked_width.m T.f_checked_width.F.kp (bd_checked_width T) .nil pass0 (pa_cons (pv 1) pa_nil)) pa_nil)))
      (pss_cons (ps_if (pt_not (pt_val (pe_call (ok_is_from T) (hr.mono (by decide)) (by rfl) T.f_is_from.m T.f_is_from.F.kp (bd_is_from T) .nil pass0 (pa_cons (pv 2) (pa_cons pe_int (pa_cons (pv 3) pa_nil)))))) (pss_one ps_never) pss_nil)
      (pss_cons (ps_fld (pv 0) (pv 1) rfl)
      (pss_cons (ps_fld (pv 0) (pv 2) rfl)
      (pss_cons (ps_fld (pv 0) (pe_op op_mod (pv 2) (pv 3)) rfl)
      (pss_cons (ps_fld (pv 0) (pe_cmpR op_eq (pv 2) pe_int (nomark _)) rfl)
      (pss_one (ps_fld (pv 0) (pe_cmpR op_eq (pv 2) (pv 3) (nomark _)) rfl)))))))), ?_⟩

    have hM := mw_pos w1
    refine ⟨_, rfl, wd, rfl, w1, w64, wd, rfl, w1, w64, ?_⟩
    refine ⟨_, rfl, _, rfl, _, _, _, rfl, fun b hb => ?_⟩
    have e : b = true := hb.mpr ⟨v0, vm⟩
    subst e
    refine ⟨_, rfl, iteF ?_⟩
    refine ⟨_, rfl, _, rfl, p, _, dx, _, rfl, hp, T.k_Word.cl, T.n_Word_width, by show 0 < 1000; decide, ?_⟩
    refine ⟨_, rfl, _, rfl, p, _, dx, _, rfl, upd_same, T.k_Word.cl, T.n_Word_value, by show 1 < 1000; decide, ?_⟩
    refine ⟨_, rfl, _, rfl, _, _, rfl, rfl, by omega, _, rfl, p, _, dx, _, rfl, upd_same, T.k_Word.cl, T.n_Word_rest, by show 2 < 1000; decide, ?_⟩
    refine ⟨_, rfl, rfl, _, rfl, p, _, dx, _, rfl, upd_same, T.k_Word.cl, T.n_Word_is_empty, by show 3 < 1000; decide, ?_⟩
    refine ⟨_, rfl, _, rfl, rfl, _, rfl, p, _, dx, _, rfl, upd_same, T.k_Word.cl, T.n_Word_is_full, by show 4 < 1000; decide, ?_⟩
    refine k _ ?_ fun b o e hb => ?_
    · rw [upd_same]
      unfold wf
      rw [dec_int, dec_int]
    · rw [upd_ne hb, upd_ne hb, upd_ne hb, upd_ne hb, upd_ne hb]
      exact e
theorem ok_carried_round (T : Tx K mg) : FnOk P w K mg base CX0 3 T.f_carried_round.a T.f_carried_round.fd ["width", "number"] spCarried := by
  refine T.f_carried_round.F.ok sc_carried_round (fun vs H Q E h => ?_) (fun cdv A outer s H vs Q E hr h => ?_)
  · obtain ⟨wd, n, rfl, _⟩ := h
    rfl
  · obtain ⟨wd, n, rfl, w1, w64, k⟩ := h
    refine ⟨_, (pss_one (ps_ret (pe_ifExp (pt_cmpR op_gt (pv 1) pe_int (nomark _)) (pe_op op_add (pe_op op_mod (pe_op op_sub (pv 1) pe_int) (pe_call (ok_most_value T) (hr.mono (by decide)) (by rfl) T.f_most_value.m T.f_most_value.F.kp (bd_most_value T) .nil pass0 (pa_cons (pv 0) pa_nil))) pe_int) pe_int))), ?_⟩

    have hM := mw_pos w1
    refine ⟨_, rfl, _, _, rfl, rfl, _, rfl, ?_⟩
    refine ite2 (fun h1 => ?_) (fun h1 => ?_)
    · have h1 := of_decide_eq_true h1
      refine ⟨_, rfl, _, _, rfl, rfl, _, rfl, wd, rfl, w1, w64, _, _, rfl, rfl, by omega, _, _, rfl, rfl, ?_⟩
      have e : (n - 1) % mw wd + 1 = cr wd n := by
        unfold cr
        rw [if_pos h1]
      dsimp only
      rw [e]
      exact k
    · have e : cr wd n = 0 := cr_non fun h => h1 (decide_eq_true h)
      rw [e] at k
      exact k
theorem ok_sum_word (T : Tx K mg) : FnOk P w K mg base CX0 6 T.f_sum_word.a T.f_sum_word.fd ["width", "one", "other"] (spSumWord T.k_Word.C) := by
  refine T.f_sum_word.F.ok sc_sum_word (fun vs H Q E h => ?_) (fun cdv A outer s H vs Q E hr h => ?_)
  · obtain ⟨wd, a, b, rfl, _⟩ := h
    rfl
  · obtain ⟨wd, a, b, rfl, w1, w64, k⟩ := h
    refine ⟨_, (pss_one (ps_ret (pe_make (mk_Word T) (ok_Word_init_ T) (hr.mono (by decide)) (by rfl) T.k_Word.m (bd_Word_init_ T) .nil pass0 (pa_cons (pv 0) (pa_cons (pe_call (ok_carried_round T) (hr.mono (by decide)) (by rfl) T.f_carried_round.m T.f_carried_round.F.kp (bd_carried_round T) .nil pass0 (pa_cons (pv 0) (pa_cons (pe_op op_add (pv 1) (pv 2)) pa_nil))) pa_nil))))), ?_⟩

    have cb := cr_bd w1 (a + b)
    refine ⟨_, rfl, _, rfl, _, rfl, _, rfl, _, _, rfl, rfl, wd, _, rfl, w1, w64, ?_⟩
    exact mk_word w1 w64 cb.1 cb.2 k
theorem ok_difference_word (T : Tx K mg) : FnOk P w K mg base CX0 7 T.f_difference_word.a T.f_difference_word.fd ["width", "one", "other"] (spDiffWord T.k_Word.C) := by
  refine T.f_difference_word.F.ok sc_difference_word (fun vs H Q E h => ?_) (fun cdv A outer s H vs Q E hr h => ?_)
  · obtain ⟨wd, a, b, rfl, _⟩ := h
    rfl
  · obtain ⟨wd, a, b, rfl, w1, w64, k⟩ := h
    refine ⟨_, (pss_one (ps_ret (pe_call (ok_sum_word T) (hr.mono (by decide)) (by rfl) T.f_sum_word.m T.f_sum_word.F.kp (bd_sum_word T) .nil pass0 (pa_cons (pv 0) (pa_cons (pv 1) (pa_cons (pe_op op_sub (pe_call (ok_most_value T) (hr.mono (by decide)) (by rfl) T.f_most_value.m T.f_most_value.F.kp (bd_most_value T) .nil pass0 (pa_cons (pv 0) pa_nil)) (pv 2)) pa_nil)))))), ?_⟩

    refine ⟨_, rfl, _, rfl, _, rfl, wd, rfl, w1, w64, _, rfl, _, _, rfl, rfl, wd, _, _, rfl, w1, w64, k⟩
theorem ok_operand_value (T : Tx K mg) : FnOk P w K mg base CX0 2 T.f_operand_value.a T.f_operand_value.fd ["word", "other"] (spOperand T.k_Word.C) := by
  refine T.f_operand_value.F.ok sc_operand_value (fun vs H Q E h => ?_) (fun cdv A outer s H vs Q E hr h => ?_)
  · obtain ⟨x, y, wd, u, v, rfl, _⟩ := h
    rfl
  · obtain ⟨x, y, wd, u, v, rfl, W, W', k⟩ := h
    refine ⟨_, (pss_cons (ps_if (pt_not (pt_val (pe_callB call_isi (by rfl) T.b_isinstance (by decide +kernel) (pa_cons (pv 1) (pa_cons (pe_glob (v := .ref T.k_Word.C) (by rfl) T.k_Word.m rfl) pa_nil))))) (pss_one ps_never) pss_nil)
      (pss_cons (ps_if (pt_cmpR op_ne (pe_fld (pv 1) rfl) (pe_fld (pv 0) rfl) (nomark _)) (pss_one ps_never) pss_nil)
      (pss_one (ps_ret (pe_fld (pv 1) rfl))))), ?_⟩

    obtain ⟨⟨dx, hx⟩, w1, w64, _, _⟩ := W
    obtain ⟨⟨dy, hy⟩, _, _, v0, vm⟩ := W'
    refine ⟨_, rfl, _, _, _, _, true, rfl, .own _, .base (.ins hy T.k_Word.cl T.x_Word.ha T.x_Word.hn T.x_Word.ht T.x_Word.hm), kit_self, _, rfl, iteF ?_⟩
    refine ⟨_, rfl, y, _, dy, _, _, rfl, hy, T.k_Word.cl, T.n_Word_width, wf_width _ _, ?_⟩
    refine ⟨_, rfl, x, _, dx, _, _, rfl, hx, T.k_Word.cl, T.n_Word_width, wf_width _ _, rfl, _, rfl, iteNS rfl ?_⟩
    exact ⟨_, rfl, y, _, dy, _, _, rfl, hy, T.k_Word.cl, T.n_Word_value, wf_value _ _, k⟩
theorem ok_found_value_int (T : Tx K mg) : FnOk P w K mg base CX0 3 T.f_found_value.a T.f_found_value.fd ["width", "word"] spFoundI := by
  refine T.f_found_value.F.ok sc_found_value (fun vs H Q E h => ?_) (fun cdv A outer s H vs Q E hr h => ?_)
  · obtain ⟨wd, n, rfl, _⟩ := h
    rfl
  · obtain ⟨wd, n, rfl, w1, w64, n0, n1, k⟩ := h
    refine ⟨_, (pss_cons (ps_if (pt_val (pe_callB call_isi (by rfl) T.b_isinstance (by decide +kernel) (pa_cons (pv 1) (pa_cons (pe_glob (v := .ref T.k_Word.C) (by rfl) T.k_Word.m rfl) pa_nil)))) (pss_one ps_never) pss_nil)
      (pss_one (ps_ret (pe_ifExp (pt_val (pe_call (ok_is_from T) (hr.mono (by decide)) (by rfl) T.f_is_from.m T.f_is_from.F.kp (bd_is_from T) .nil pass0 (pa_cons (pv 1) (pa_cons pe_int (pa_cons (pe_call (ok_most_value T) (hr.mono (by decide)) (by rfl) T.f_most_value.m T.f_most_value.F.kp (bd_most_value T) .nil pass0 (pa_cons (pv 0) pa_nil)) pa_nil))))) (pv 1) pe_non)))), ?_⟩

    refine ⟨_, rfl, _, _, _, _, false, rfl, .own _, .base (.int _), kit_no T.x_Word.si T.x_Word.ic T.x_Word.ty, _, rfl, iteF ?_⟩
    refine ⟨_, rfl, _, rfl, wd, rfl, w1, w64, n, 0, mw wd, rfl, fun b hb => ?_⟩
    have e : b = true := hb.mpr ⟨n0, n1⟩
    subst e
    refine ⟨_, rfl, iteT ?_⟩
    exact ⟨_, rfl, k⟩
theorem ok_checked_value_int (T : Tx K mg) : FnOk P w K mg base CX0 4 T.f_checked_value.a T.f_checked_value.fd ["width", "word"] spFoundI := by
  refine T.f_checked_value.F.ok sc_checked_value (fun vs H Q E h => ?_) (fun cdv A outer s H vs Q E hr h => ?_)
  · obtain ⟨wd, n, rfl, _⟩ := h
    rfl
  · obtain ⟨wd, n, rfl, w1, w64, n0, n1, k⟩ := h
    refine ⟨_, (pss_cons (ps_set (i := 2) sc_checked_value.nd rfl (Or.inl rfl) (pe_call (ok_found_value_int T) (hr.mono (by decide)) (by rfl) T.f_found_value.m T.f_found_value.F.kp (bd_found_value T) .nil pass0 (pa_cons (pv 0) (pa_cons (pv 1) pa_nil))))
      (pss_cons (ps_if (pt_cmp (pc_isN (pv 2))) (pss_one ps_never) pss_nil)
      (pss_one (ps_ret (pv 2))))), ?_⟩

    refine ⟨_, rfl, _, rfl, wd, n, rfl, w1, w64, n0, n1, ?_⟩
    refine ⟨_, rfl, _, rfl, iteF ?_⟩
    exact ⟨_, rfl, k⟩
theorem ok_operand_value_int (T : Tx K mg) : FnOk P w K mg base CX0 5 T.f_operand_value.a T.f_operand_value.fd ["word", "other"] (spOperandI T.k_Word.C) := by
  refine T.f_operand_value.F.ok sc_operand_value (fun vs H Q E h => ?_) (fun cdv A outer s H vs Q E hr h => ?_)
  · obtain ⟨x, wd, u, n, rfl, _⟩ := h
    rfl
  · obtain ⟨x, wd, u, n, rfl, W, n0, n1, k⟩ := h
    refine ⟨_, (pss_cons (ps_if (pt_not (pt_val (pe_callB call_isi (by rfl) T.b_isinstance (by decide +kernel) (pa_cons (pv 1) (pa_cons (pe_glob (v := .ref T.k_Word.C) (by rfl) T.k_Word.m rfl) pa_nil))))) (pss_one (ps_ret (pe_call (ok_checked_value_int T) (hr.mono (by decide)) (by rfl) T.f_checked_value.m T.f_checked_value.F.kp (bd_checked_value T) .nil pass0 (pa_cons (pe_fld (pv 0) rfl) (pa_cons (pv 1) pa_nil))))) pss_nil)
      (pss_cons ps_never
      (pss_one ps_never))), ?_⟩
    obtain ⟨⟨dx, hx⟩, w1, w64, u0, um⟩ := id W

    refine ⟨_, rfl, _, _, _, _, false, rfl, .own _, .base (.int _), kit_no T.x_Word.si T.x_Word.ic T.x_Word.ty, _, rfl, iteT ?_⟩
    refine ⟨_, rfl, x, _, dx, _, _, rfl, hx, T.k_Word.cl, T.n_Word_width, wf_width _ _, ?_⟩
    exact ⟨_, rfl, wd, n, rfl, w1, w64, n0, n1, k⟩
theorem ok_Word_add_ (T : Tx K mg) : FnOk P w K mg base CX0 7 T.f_Word_add_.a T.f_Word_add_.fd ["self", "other"] (spAdd T.k_Word.C) := by
  refine T.f_Word_add_.F.ok sc_Word_add_ (fun vs H Q E h => ?_) (fun cdv A outer s H vs Q E hr h => ?_)
  · obtain ⟨x, y, wd, u, v, rfl, _⟩ := h
    rfl
  · obtain ⟨x, y, wd, u, v, rfl, W, W', k⟩ := h
    refine ⟨_, (pss_one (ps_ret (pe_call (ok_sum_word T) (hr.mono (by decide)) (by rfl) T.f_sum_word.m T.f_sum_word.F.kp (bd_sum_word T) .nil pass0 (pa_cons (pe_fld (pv 0) rfl) (pa_cons (pe_fld (pv 0) rfl) (pa_cons (pe_call (ok_operand_value T) (hr.mono (by decide)) (by rfl) T.f_operand_value.m T.f_operand_value.F.kp (bd_operand_value T) .nil pass0 (pa_cons (pv 0) (pa_cons (pv 1) pa_nil))) pa_nil)))))), ?_⟩
    obtain ⟨⟨dx, hx⟩, w1, w64, u0, um⟩ := id W

    refine ⟨_, rfl, x, _, dx, _, _, rfl, hx, T.k_Word.cl, T.n_Word_width, wf_width _ _, ?_⟩
    refine ⟨_, rfl, x, _, dx, _, _, rfl, hx, T.k_Word.cl, T.n_Word_value, wf_value _ _, ?_⟩
    exact ⟨_, rfl, _, rfl, x, y, wd, u, v, rfl, W, W', wd, u, v, rfl, w1, w64, k⟩
theorem ok_Word_add_int (T : Tx K mg) : FnOk P w K mg base CX0 7 T.f_Word_add_.a T.f_Word_add_.fd ["self", "other"] (spAddI T.k_Word.C) := by
  refine T.f_Word_add_.F.ok sc_Word_add_ (fun vs H Q E h => ?_) (fun cdv A outer s H vs Q E hr h => ?_)
  · obtain ⟨x, wd, u, n, rfl, _⟩ := h
    rfl
  · obtain ⟨x, wd, u, n, rfl, W, n0, n1, k⟩ := h
    refine ⟨_, (pss_one (ps_ret (pe_call (ok_sum_word T) (hr.mono (by decide)) (by rfl) T.f_sum_word.m T.f_sum_word.F.kp (bd_sum_word T) .nil pass0 (pa_cons (pe_fld (pv 0) rfl) (pa_cons (pe_fld (pv 0) rfl) (pa_cons (pe_call (ok_operand_value_int T) (hr.mono (by decide)) (by rfl) T.f_operand_value.m T.f_operand_value.F.kp (bd_operand_value T) .nil pass0 (pa_cons (pv 0) (pa_cons (pv 1) pa_nil))) pa_nil)))))), ?_⟩
    obtain ⟨⟨dx, hx⟩, w1, w64, u0, um⟩ := id W

    refine ⟨_, rfl, x, _, dx, _, _, rfl, hx, T.k_Word.cl, T.n_Word_width, wf_width _ _, ?_⟩
    refine ⟨_, rfl, x, _, dx, _, _, rfl, hx, T.k_Word.cl, T.n_Word_value, wf_value _ _, ?_⟩
    exact ⟨_, rfl, _, rfl, x, wd, u, n, rfl, W, n0, n1, wd, u, n, rfl, w1, w64, k⟩
theorem ok_Word_radd_int (T : Tx K mg) : FnOk P w K mg base CX0 7 T.f_Word_radd_.a T.f_Word_radd_.fd ["self", "other"] (spRAddI T.k_Word.C) := by
  refine T.f_Word_radd_.F.ok sc_Word_radd_ (fun vs H Q E h => ?_) (fun cdv A outer s H vs Q E hr h => ?_)
  · obtain ⟨x, wd, u, n, rfl, _⟩ := h
    rfl
  · obtain ⟨x, wd, u, n, rfl, W, n0, n1, k⟩ := h
    refine ⟨_, (pss_one (ps_ret (pe_call (ok_sum_word T) (hr.mono (by decide)) (by rfl) T.f_sum_word.m T.f_sum_word.F.kp (bd_sum_word T) .nil pass0 (pa_cons (pe_fld (pv 0) rfl) (pa_cons (pe_call (ok_operand_value_int T) (hr.mono (by decide)) (by rfl) T.f_operand_value.m T.f_operand_value.F.kp (bd_operand_value T) .nil pass0 (pa_cons (pv 0) (pa_cons (pv 1) pa_nil))) (pa_cons (pe_fld (pv 0) rfl) pa_nil)))))), ?_⟩
    obtain ⟨⟨dx, hx⟩, w1, w64, u0, um⟩ := id W

    refine ⟨_, rfl, x, _, dx, _, _, rfl, hx, T.k_Word.cl, T.n_Word_width, wf_width _ _, ?_⟩
    refine ⟨_, rfl, _, rfl, x, wd, u, n, rfl, W, n0, n1, ?_⟩
    exact ⟨_, rfl, x, _, dx, _, _, rfl, hx, T.k_Word.cl, T.n_Word_value, wf_value _ _, wd, n, u, rfl, w1, w64, k⟩
theorem ok_Word_sub_ (T : Tx K mg) : FnOk P w K mg base CX0 8 T.f_Word_sub_.a T.f_Word_sub_.fd ["self", "other"] (spSub T.k_Word.C) := by
  refine T.f_Word_sub_.F.ok sc_Word_sub_ (fun vs H Q E h => ?_) (fun cdv A outer s H vs Q E hr h => ?_)
  · obtain ⟨x, y, wd, u, v, rfl, _⟩ := h
    rfl
  · obtain ⟨x, y, wd, u, v, rfl, W, W', k⟩ := h
    refine ⟨_, (pss_one (ps_ret (pe_call (ok_difference_word T) (hr.mono (by decide)) (by rfl) T.f_difference_word.m T.f_difference_word.F.kp (bd_difference_word T) .nil pass0 (pa_cons (pe_fld (pv 0) rfl) (pa_cons (pe_fld (pv 0) rfl) (pa_cons (pe_call (ok_operand_value T) (hr.mono (by decide)) (by rfl) T.f_operand_value.m T.f_operand_value.F.kp (bd_operand_value T) .nil pass0 (pa_cons (pv 0) (pa_cons (pv 1) pa_nil))) pa_nil)))))), ?_⟩
    obtain ⟨⟨dx, hx⟩, w1, w64, u0, um⟩ := id W

    refine ⟨_, rfl, x, _, dx, _, _, rfl, hx, T.k_Word.cl, T.n_Word_width, wf_width _ _, ?_⟩
    refine ⟨_, rfl, x, _, dx, _, _, rfl, hx, T.k_Word.cl, T.n_Word_value, wf_value _ _, ?_⟩
    exact ⟨_, rfl, _, rfl, x, y, wd, u, v, rfl, W, W', wd, u, v, rfl, w1, w64, k⟩
theorem ok_Word_sub_int (T : Tx K mg) : FnOk P w K mg base CX0 8 T.f_Word_sub_.a T.f_Word_sub_.fd ["self", "other"] (spSubI T.k_Word.C) := by
  refine T.f_Word_sub_.F.ok sc_Word_sub_ (fun vs H Q E h => ?_) (fun cdv A outer s H vs Q E hr h => ?_)
  · obtain ⟨x, wd, u, n, rfl, _⟩ := h
    rfl
  · obtain ⟨x, wd, u, n, rfl, W, n0, n1, k⟩ := h
    refine ⟨_, (pss_one (ps_ret (pe_call (ok_difference_word T) (hr.mono (by decide)) (by rfl) T.f_difference_word.m T.f_difference_word.F.kp (bd_difference_word T) .nil pass0 (pa_cons (pe_fld (pv 0) rfl) (pa_cons (pe_fld (pv 0) rfl) (pa_cons (pe_call (ok_operand_value_int T) (hr.mono (by decide)) (by rfl) T.f_operand_value.m T.f_operand_value.F.kp (bd_operand_value T) .nil pass0 (pa_cons (pv 0) (pa_cons (pv 1) pa_nil))) pa_nil)))))), ?_⟩
    obtain ⟨⟨dx, hx⟩, w1, w64, u0, um⟩ := id W

    refine ⟨_, rfl, x, _, dx, _, _, rfl, hx, T.k_Word.cl, T.n_Word_width, wf_width _ _, ?_⟩
    refine ⟨_, rfl, x, _, dx, _, _, rfl, hx, T.k_Word.cl, T.n_Word_value, wf_value _ _, ?_⟩
    exact ⟨_, rfl, _, rfl, x, wd, u, n, rfl, W, n0, n1, wd, u, n, rfl, w1, w64, k⟩
theorem ok_Word_rsub_int (T : Tx K mg) : FnOk P w K mg base CX0 8 T.f_Word_rsub_.a T.f_Word_rsub_.fd ["self", "other"] (spRSubI T.k_Word.C) := by
  refine T.f_Word_rsub_.F.ok sc_Word_rsub_ (fun vs H Q E h => ?_) (fun cdv A outer s H vs Q E hr h => ?_)
  · obtain ⟨x, wd, u, n, rfl, _⟩ := h
    rfl
  · obtain ⟨x, wd, u, n, rfl, W, n0, n1, k⟩ := h
    refine ⟨_, (pss_one (ps_ret (pe_call (ok_difference_word T) (hr.mono (by decide)) (by rfl) T.f_difference_word.m T.f_difference_word.F.kp (bd_difference_word T) .nil pass0 (pa_cons (pe_fld (pv 0) rfl) (pa_cons (pe_call (ok_operand_value_int T) (hr.mono (by decide)) (by rfl) T.f_operand_value.m T.f_operand_value.F.kp (bd_operand_value T) .nil pass0 (pa_cons (pv 0) (pa_cons (pv 1) pa_nil))) (pa_cons (pe_fld (pv 0) rfl) pa_nil)))))), ?_⟩
    obtain ⟨⟨dx, hx⟩, w1, w64, u0, um⟩ := id W

    refine ⟨_, rfl, x, _, dx, _, _, rfl, hx, T.k_Word.cl, T.n_Word_width, wf_width _ _, ?_⟩
    refine ⟨_, rfl, _, rfl, x, wd, u, n, rfl, W, n0, n1, ?_⟩
    exact ⟨_, rfl, x, _, dx, _, _, rfl, hx, T.k_Word.cl, T.n_Word_value, wf_value _ _, wd, n, u, rfl, w1, w64, k⟩
theorem ok_Word_xor_ (T : Tx K mg) : FnOk P w K mg base CX0 6 T.f_Word_xor_.a T.f_Word_xor_.fd ["self", "other"] (spXor T.k_Word.C) := by
  refine T.f_Word_xor_.F.ok sc_Word_xor_ (fun vs H Q E h => ?_) (fun cdv A outer s H vs Q E hr h => ?_)
  · obtain ⟨x, y, wd, u, v, rfl, _⟩ := h
    rfl
  · obtain ⟨x, y, wd, u, v, rfl, W, W', k⟩ := h
    refine ⟨_, (pss_one (ps_ret (pe_make (mk_Word T) (ok_Word_init_ T) (hr.mono (by decide)) (by rfl) T.k_Word.m (bd_Word_init_ T) .nil pass0 (pa_cons (pe_fld (pv 0) rfl) (pa_cons (pe_op op_xor (pe_fld (pv 0) rfl) (pe_call (ok_operand_value T) (hr.mono (by decide)) (by rfl) T.f_operand_value.m T.f_operand_value.F.kp (bd_operand_value T) .nil pass0 (pa_cons (pv 0) (pa_cons (pv 1) pa_nil)))) pa_nil))))), ?_⟩
    obtain ⟨⟨dx, hx⟩, w1, w64, u0, um⟩ := id W

    have v0 := W'.v0
    have vm := W'.vm
    have xb := xor_bd u0 um v0 vm
    refine ⟨_, rfl, x, _, dx, _, _, rfl, hx, T.k_Word.cl, T.n_Word_width, wf_width _ _, ?_⟩
    refine ⟨_, rfl, x, _, dx, _, _, rfl, hx, T.k_Word.cl, T.n_Word_value, wf_value _ _, ?_⟩
    refine ⟨_, rfl, _, rfl, x, y, wd, u, v, rfl, W, W', ?_⟩
    refine ⟨_, _, rfl, rfl, ?_⟩
    exact mk_word w1 w64 xb.1 xb.2 k
theorem ok_Word_xor_int (T : Tx K mg) : FnOk P w K mg base CX0 6 T.f_Word_xor_.a T.f_Word_xor_.fd ["self", "other"] (spXorI T.k_Word.C) := by
  refine T.f_Word_xor_.F.ok sc_Word_xor_ (fun vs H Q E h => ?_) (fun cdv A outer s H vs Q E hr h => ?_)
  · obtain ⟨x, wd, u, n, rfl, _⟩ := h
    rfl
  · obtain ⟨x, wd, u, n, rfl, W, n0, n1, k⟩ := h
    refine ⟨_, (pss_one (ps_ret (pe_make (mk_Word T) (ok_Word_init_ T) (hr.mono (by decide)) (by rfl) T.k_Word.m (bd_Word_init_ T) .nil pass0 (pa_cons (pe_fld (pv 0) rfl) (pa_cons (pe_op op_xor (pe_fld (pv 0) rfl) (pe_call (ok_operand_value_int T) (hr.mono (by decide)) (by rfl) T.f_operand_value.m T.f_operand_value.F.kp (bd_operand_value T) .nil pass0 (pa_cons (pv 0) (pa_cons (pv 1) pa_nil)))) pa_nil))))), ?_⟩
    obtain ⟨⟨dx, hx⟩, w1, w64, u0, um⟩ := id W

    have xb := xor_bd u0 um n0 n1
    refine ⟨_, rfl, x, _, dx, _, _, rfl, hx, T.k_Word.cl, T.n_Word_width, wf_width _ _, ?_⟩
    refine ⟨_, rfl, x, _, dx, _, _, rfl, hx, T.k_Word.cl, T.n_Word_value, wf_value _ _, ?_⟩
    refine ⟨_, rfl, _, rfl, x, wd, u, n, rfl, W, n0, n1, ?_⟩
    refine ⟨_, _, rfl, rfl, ?_⟩
    exact mk_word w1 w64 xb.1 xb.2 k
theorem ok_Word_rxor_int (T : Tx K mg) : FnOk P w K mg base CX0 6 T.f_Word_rxor_.a T.f_Word_rxor_.fd ["self", "other"] (spXorI T.k_Word.C) := by
  refine T.f_Word_rxor_.F.ok sc_Word_rxor_ (fun vs H Q E h => ?_) (fun cdv A outer s H vs Q E hr h => ?_)
  · obtain ⟨x, wd, u, n, rfl, _⟩ := h
    rfl
  · obtain ⟨x, wd, u, n, rfl, W, n0, n1, k⟩ := h
    refine ⟨_, (pss_one (ps_ret (pe_make (mk_Word T) (ok_Word_init_ T) (hr.mono (by decide)) (by rfl) T.k_Word.m (bd_Word_init_ T) .nil pass0 (pa_cons (pe_fld (pv 0) rfl) (pa_cons (pe_op op_xor (pe_call (ok_operand_value_int T) (hr.mono (by decide)) (by rfl) T.f_operand_value.m T.f_operand_value.F.kp (bd_operand_value T) .nil pass0 (pa_cons (pv 0) (pa_cons (pv 1) pa_nil))) (pe_fld (pv 0) rfl)) pa_nil))))), ?_⟩
    obtain ⟨⟨dx, hx⟩, w1, w64, u0, um⟩ := id W

    have xb := xor_bd u0 um n0 n1
    refine ⟨_, rfl, x, _, dx, _, _, rfl, hx, T.k_Word.cl, T.n_Word_width, wf_width _ _, ?_⟩
    refine ⟨_, rfl, _, rfl, x, wd, u, n, rfl, W, n0, n1, ?_⟩
    refine ⟨_, rfl, x, _, dx, _, _, rfl, hx, T.k_Word.cl, T.n_Word_value, wf_value _ _, _, _, rfl, rfl, ?_⟩
    dsimp only
    rw [xor_comm n u]
    exact mk_word w1 w64 xb.1 xb.2 k
theorem ok_Word_invert_ (T : Tx K mg) : FnOk P w K mg base CX0 6 T.f_Word_invert_.a T.f_Word_invert_.fd ["self"] (spInv T.k_Word.C) := by
  refine T.f_Word_invert_.F.ok sc_Word_invert_ (fun vs H Q E h => ?_) (fun cdv A outer s H vs Q E hr h => ?_)
  · obtain ⟨x, wd, u, rfl, _⟩ := h
    rfl
  · obtain ⟨x, wd, u, rfl, W, k⟩ := h
    refine ⟨_, (pss_one (ps_ret (pe_make (mk_Word T) (ok_Word_init_ T) (hr.mono (by decide)) (by rfl) T.k_Word.m (bd_Word_init_ T) .nil pass0 (pa_cons (pe_fld (pv 0) rfl) (pa_cons (pe_op op_sub (pe_call (ok_most_value T) (hr.mono (by decide)) (by rfl) T.f_most_value.m T.f_most_value.F.kp (bd_most_value T) .nil pass0 (pa_cons (pe_fld (pv 0) rfl) pa_nil)) (pe_fld (pv 0) rfl)) pa_nil))))), ?_⟩
    obtain ⟨⟨dx, hx⟩, w1, w64, u0, um⟩ := id W

    refine ⟨_, rfl, x, _, dx, _, _, rfl, hx, T.k_Word.cl, T.n_Word_width, wf_width _ _, ?_⟩
    refine ⟨_, rfl, x, _, dx, _, _, rfl, hx, T.k_Word.cl, T.n_Word_width, wf_width _ _, wd, rfl, w1, w64, _, rfl, x, _, dx, _, _, rfl, hx, T.k_Word.cl, T.n_Word_value, wf_value _ _, _, _, rfl, rfl, ?_⟩
    exact mk_word w1 w64 (by omega) (by omega) k
theorem ok_Word_like (T : Tx K mg) : FnOk P w K mg base CX0 3 T.f_Word_like.a T.f_Word_like.fd ["self", "other"] (spLike T.k_Word.C) := by
  refine T.f_Word_like.F.ok sc_Word_like (fun vs H Q E h => ?_) (fun cdv A outer s H vs Q E hr h => ?_)
  · obtain ⟨x, y, wd, u, v, rfl, _⟩ := h
    rfl
  · obtain ⟨x, y, wd, u, v, rfl, W, W', k⟩ := h
    refine ⟨_, (pss_one (ps_ret (pe_cmpR op_eq (pe_fld (pv 0) rfl) (pe_op op_mod (pe_call (ok_operand_value T) (hr.mono (by decide)) (by rfl) T.f_operand_value.m T.f_operand_value.F.kp (bd_operand_value T) .nil pass0 (pa_cons (pv 0) (pa_cons (pv 1) pa_nil))) (pe_call (ok_most_value T) (hr.mono (by decide)) (by rfl) T.f_most_value.m T.f_most_value.F.kp (bd_most_value T) .nil pass0 (pa_cons (pe_fld (pv 0) rfl) pa_nil))) (nomark _)))), ?_⟩
    obtain ⟨⟨dx, hx⟩, w1, w64, u0, um⟩ := id W

    have hM := mw_pos w1
    refine ⟨_, rfl, x, _, dx, _, _, rfl, hx, T.k_Word.cl, T.n_Word_rest, wf_rest _ _, ?_⟩
    refine ⟨_, rfl, _, rfl, x, y, wd, u, v, rfl, W, W', ?_⟩
    refine ⟨_, rfl, x, _, dx, _, _, rfl, hx, T.k_Word.cl, T.n_Word_width, wf_width _ _, wd, rfl, w1, w64, _, _, rfl, rfl, by omega, rfl, ?_⟩
    have e2 : decide (V.int (u % mw wd) = V.int (v % mw wd)) = decide (u % mw wd = v % mw wd) := by rw [dec_int, Bool.beq_eq_decide_eq]
    rw [← e2] at k
    exact k
theorem ok_Word_repr_ (T : Tx K mg) : FnOk P w K mg base CX0 2 T.f_Word_repr_.a T.f_Word_repr_.fd ["self"] (TzRepr.spRepr (WText T.k_Word.C)) := by
  refine T.f_Word_repr_.F.ok sc_Word_repr_ (fun vs H Q E h => ?_) (fun cdv A outer s H vs Q E hr h => ?_)
  · obtain ⟨a, t, rfl, _⟩ := h
    rfl
  · obtain ⟨x, t, rfl, ⟨wd, u, W, rfl⟩, k⟩ := h
    obtain ⟨⟨dx, hx⟩, w1, w64, u0, um⟩ := id W
    have m64 := mw_64 w64
    have l1 : ((wd : Int)).natAbs.log2 < 1920 := by
      have : ((wd : Int)).natAbs < 2 ^ 64 := by omega
      have := PySem.Flt.log2_lt_of (by decide) this
      omega
    have l2 : u.natAbs.log2 < 1920 := by
      have : u.natAbs < 2 ^ 64 := by omega
      have := PySem.Flt.log2_lt_of (by decide) this
      omega
    have a := int20 (n := (wd : Int)) (by omega) (by omega)
    have b := int20 u0 (by omega)
    have e0 : (Str.empty : Str).length = 0 := rfl
    have e1 : ("Word(" : Str).length = 5 := rfl
    have e2 : (", " : Str).length = 2 := rfl
    have e3 : (")" : Str).length = 1 := rfl
    have sz : ∀ {n : Nat}, n ≤ 60 → n ≤ sizeLine := fun h => Nat.le_trans h (by decide)
    refine ⟨_, (pss_one (ps_ret (pe_joined (.cons pe_str (.cons (pe_fmt (pe_fld (pv 0) rfl)) (.cons pe_str (.cons (pe_fmt (pe_fld (pv 0) rfl)) (.cons pe_str .nil)))))))), ?_⟩
    refine ⟨_, rfl, sz (by rw [strLen_append, e0, e1]; omega), ?_⟩
    refine ⟨_, rfl, x, _, dx, _, _, rfl, hx, T.k_Word.cl, T.n_Word_width, wf_width _ _, .inr ⟨_, rfl, l1, _, rfl, sz (by rw [strLen_append, strLen_append, e0, e1]; omega), ?_⟩⟩
    refine ⟨_, rfl, sz (by rw [strLen_append, strLen_append, strLen_append, e0, e1, e2]; omega), ?_⟩
    refine ⟨_, rfl, x, _, dx, _, _, rfl, hx, T.k_Word.cl, T.n_Word_value, wf_value _ _, .inr ⟨_, rfl, l2, _, rfl, sz (by rw [strLen_append, strLen_append, strLen_append, strLen_append, e0, e1, e2]; omega), ?_⟩⟩
    refine ⟨_, rfl, sz (by rw [strLen_append, strLen_append, strLen_append, strLen_append, strLen_append, e0, e1, e2, e3]; omega), ?_⟩
    exact k H fun _ _ e => e
theorem ok_law_pen (T : Tx K mg) : FnOk P w K mg base CX0 2 T.f_law_pen.a T.f_law_pen.fd ["_law_script"] (spPen K) := by
  refine T.f_law_pen.F.ok sc_law_pen (fun vs H Q E h => ?_) (fun cdv A outer s H vs Q E hr h => ?_)
  · obtain ⟨a, ns, rfl, _⟩ := h
    rfl
  · obtain ⟨a, ns, rfl, hS, hl, k⟩ := h
    refine ⟨_, (pss_one (ps_ret (pe_lst (pa_cons (pe_callTy call_list_of (by rfl) T.b_list (by decide +kernel) (pa_cons (pe_slice sl_list (pv 0) po_none (po_some pe_int)) pa_nil)) (pa_cons pe_int (pa_cons pe_int pa_nil)))))), ?_⟩
    refine ⟨_, rfl, _, rfl, a, _, rfl, hS, fun b nb => ?_⟩
    (generalize g_H1 : upd _ b _ = H1); have hb := gat g_H1; have e1 := gex g_H1 nb; clear g_H1
    refine ⟨b, _, rfl, .inl (sq hb), fun c nc => ?_⟩
    (generalize g_H2 : upd _ c _ = H2); have hc := gat g_H2; have e2 := gex g_H2 nc; clear g_H2
    refine ⟨by show 3 ≤ sizeLine; decide, fun z nz => ?_⟩
    (generalize g_H3 : upd _ z _ = H3); have hz := gat g_H3; have e3 := gex g_H3 nz; clear g_H3
    have ec : cutV (ns.map V.int) none (some 63) = ns.map V.int := by
      unfold cutV
      have h1 : HT.sIx (ns.map V.int).length 0 none = 0 := rfl
      rw [h1, List.drop_zero, List.take_of_length_le]
      rw [List.length_map]
      have h2 : HT.sIx ns.length ns.length (some 63) = min 63 ns.length := cut63 ns.length
      rw [h2]
      omega
    rw [ec] at hc
    refine k z c H3 ⟨⟨0, 0, hz, by omega, by omega, by omega⟩, e3 _ _ hc, ne_of_none hc nz, hl⟩ ((e1.trans e2).trans e3) ?_ ?_
    · exact back (e1.trans e2) nz
    · exact back e1 nc
theorem ok_law_draw (T : Tx K mg) : FnOk P w K mg base CX0 2 T.f_law_draw.a T.f_law_draw.fd ["_law_pen_here", "_law_many"] spDraw := by
  refine T.f_law_draw.F.ok sc_law_draw (fun vs H Q E h => ?_) (fun cdv A outer s H vs Q E hr h => ?_)
  · obtain ⟨z, c, cells, t, many, rfl, _⟩ := h
    rfl
  · obtain ⟨z, c, cells, t, many, rfl, PA, ht, hm0, hm1, k⟩ := h
    obtain ⟨⟨ix, left, hz, i0, it, l0⟩, hc, cz, few⟩ := id PA
    refine ⟨_, (pss_cons (ps_if (pt_cmpR op_gt (pe_ix ix_list (pv 0) pe_int (fun _ _ => rfl)) pe_int (nomark _)) (pss_cons (ps_set (i := 2) sc_law_draw.nd rfl (Or.inl rfl) (pe_op op_mod (pe_callTy call_int1 (by rfl) T.b_int (by decide +kernel) (pa_cons (pe_ix ix_list (pv 0) pe_int (fun _ _ => rfl)) pa_nil)) (pv 1)))
      (pss_cons (ps_asg (pe_op op_fdivW (pe_ix ix_list (pv 0) pe_int (fun _ _ => rfl)) (pv 1)) (pg_sub (pv 0) pe_int set_list))
      (pss_one (ps_ret (pv 2))))) pss_nil)
      (pss_cons (ps_set (i := 3) sc_law_draw.nd rfl (Or.inl rfl) (pe_ix ix_list (pv 0) pe_int (fun _ _ => rfl)))
      (pss_cons (ps_asg (pe_op op_add (pv 3) pe_int) (pg_sub (pv 0) pe_int set_list))
      (pss_cons (ps_set (i := 4) sc_law_draw.nd rfl (Or.inl rfl) (pe_op op_add (pe_op op_mul pe_int (pv 3)) pe_int))
      (Evl.pss_cut (ps_if (pt_cmpR (op_neD hr.units) (pe_ix ix_list (pv 0) pe_int (fun _ _ => rfl)) (pe_lst pa_nil) (nomark _)) (pss_one (ps_set (i := 4) sc_law_draw.nd rfl (Or.inl rfl) (pe_ix ix_list (pe_ix ix_list (pv 0) pe_int (fun _ _ => rfl)) (pe_op op_mod (pe_callTy call_int1 (by rfl) T.b_int (by decide +kernel) (pa_cons (pv 3) pa_nil)) (pe_callB call_len_seq (by rfl) T.b_len (by decide +kernel) (pa_cons (pe_ix ix_list (pv 0) pe_int (fun _ _ => rfl)) pa_nil))) (fun _ _ => rfl)))) pss_nil)
      (Evl.pss_cut (ps_if (PW.pt (pw_and (pt_cmpR op_lt (pv 3) (pe_callB call_len_seq (by rfl) T.b_len (by decide +kernel) (pa_cons (pe_ix ix_list (pv 0) pe_int (fun _ _ => rfl)) pa_nil)) (nomark _)) (pw_and1 (pt_cmpR op_ge (pe_callB call_abs (by rfl) T.b_abs (by decide +kernel) (pa_cons (pv 4) pa_nil)) (pe_op op_pow pe_int pe_int) (nomark _))))) (pss_cons (ps_set (i := 5) sc_law_draw.nd rfl (Or.inl rfl) (pe_op op_add (pe_op op_mul pe_int (pe_op op_sub (pe_callB call_abs (by rfl) T.b_abs (by decide +kernel) (pa_cons (pv 4) pa_nil)) (pe_op op_pow pe_int pe_int))) (pe_callTy call_int1 (by rfl) T.b_int (by decide +kernel) (pa_cons (pe_cmpR op_lt (pv 4) pe_int (nomark _)) pa_nil))))
      (pss_cons (ps_asg (pe_op op_fdivW (pv 5) (pv 1)) (pg_sub (pv 0) pe_int set_list))
      (pss_one (ps_ret (pe_op op_mod (pe_callTy call_int1 (by rfl) T.b_int (by decide +kernel) (pa_cons (pv 5) pa_nil)) (pv 1)))))) pss_nil)
      (pss_cons (ps_set (i := 6) sc_law_draw.nd rfl (Or.inl rfl) (pe_op op_mod (pe_callTy call_int1 (by rfl) T.b_int (by decide +kernel) (pa_cons (pe_op op_pow (pe_op op_add (pe_op op_add (pe_op op_mod (pe_callTy call_int1 (by rfl) T.b_int (by decide +kernel) (pa_cons (pv 4) pa_nil)) pe_int) (pe_op op_mul pe_int (pv 3))) pe_int) pe_int) pa_nil)) pe_int))
      (pss_cons (ps_set (i := 6) sc_law_draw.nd rfl (Or.inl rfl) (pe_op op_mod (pe_callTy call_int1 (by rfl) T.b_int (by decide +kernel) (pa_cons (pe_op op_pow (pe_op op_add (pe_op op_add (pe_op op_mul (pv 6) (pe_op op_add (pe_op op_mul pe_int (pv 3)) pe_int)) (pe_op op_mul (pe_op op_mul pe_int (pv 3)) (pv 3))) pe_int) pe_int) pa_nil)) pe_int))
      (pss_one (ps_ret (pe_op op_mod (pe_callTy call_int1 (by rfl) T.b_int (by decide +kernel) (pa_cons (pe_op op_fdiv (pv 6) pe_int) pa_nil)) (pv 1)))))))))))), ?_⟩
    refine ⟨_, rfl, z, _, 2, .int left, rfl, rfl, sq hz, rfl, _, _, rfl, rfl, _, rfl, ?_⟩
    have divw : CDivW left many := wide_div hm0 (b := 20) (by omega) (by decide) (by decide)
    refine ite2 (fun _ => ?_) (fun _ => ?_)
    · -- a digit of a great cell
      refine ⟨_, rfl, z, _, 2, .int left, rfl, rfl, sq hz, rfl, .inl ⟨_, rfl, ?_⟩⟩
      refine ⟨_, rfl, _, _, rfl, rfl, hm0, ?_⟩
      refine ⟨_, rfl, z, _, 2, .int left, rfl, rfl, sq hz, rfl, _, rfl, _, _, rfl, rfl, divw, ?_⟩
      refine ⟨_, rfl, z, _, 2, 2, rfl, rfl, hz, rfl, ?_⟩
      refine ⟨_, rfl, ?_⟩
      refine k _ _ (emod_bd hm0).1 (emod_bd hm0).2 ⟨⟨ix, left / many, upd_same, i0, by omega, Int.ediv_nonneg l0 (by omega)⟩, ?_, cz, few⟩ Fw.at
      rw [upd_ne cz]
      exact hc
    · refine ⟨_, rfl, z, _, 1, .int ix, rfl, rfl, sq hz, rfl, ?_⟩
      refine ⟨_, rfl, _, _, rfl, rfl, _, rfl, z, _, 1, 1, rfl, rfl, hz, rfl, ?_⟩
      refine ⟨_, rfl, _, _, rfl, rfl, .inl ⟨by omega, by omega⟩, _, _, rfl, rfl, ?_⟩
      (generalize g_H1 : upd _ z _ = H1); have z1 := gat g_H1; have f1 := gfw g_H1; clear g_H1
      have z1 : H1 z = some (.lst [.ref c, .int (ix + 1), .int left]) := z1
      have c1 : H1 c = some (.lst (cells.map V.int)) := f1 _ _ cz hc
      -- the cell, whatever it is
      refine ⟨fun σ' H' => ∃ cell : Int, σ' = [some (.ref z), some (.int many), none, some (.int ix), some (.int cell), none, none] ∧ H' z = some (.lst [.ref c, .int (ix + 1), .int left]) ∧ H' c = some (.lst (cells.map V.int)) ∧ Fw z H H', ?_, ?_⟩
      · refine ⟨_, rfl, z, _, 0, .ref c, rfl, rfl, sq z1, rfl, ?_⟩
        refine ⟨by show 0 ≤ sizeLine; decide, fun b nb => ?_⟩
        (generalize g_H2 : upd _ b _ = H2); have hb := gat g_H2; have e2 := gex g_H2 nb; clear g_H2
        refine ⟨_, _, Dp.lst (sq (e2 _ _ c1)) (dp_ints cells), Dp.lst (sq hb) DpAll.nil, shaped_ints cells, rfl, _, rfl, ?_⟩
        cases hcl : cells with
        | nil =>
          refine iteF ?_
          exact ⟨_, rfl, e2 _ _ z1, by rw [← hcl]; exact e2 _ _ c1, f1.trans e2.fw⟩
        | cons y ys =>
          refine iteT ?_
          rw [← hcl]
          have hpos : 0 < cells.length := by rw [hcl]; exact Nat.succ_pos _
          have hlen : (0 : Int) < ((cells.map V.int).length : Nat) := by rw [List.length_map]; omega
          obtain ⟨j, hj⟩ : ∃ j : Nat, ix % ((cells.map V.int).length : Nat) = (j : Int) := ⟨(ix % ((cells.map V.int).length : Nat)).toNat, by rw [Int.toNat_of_nonneg (emod_bd hlen).1]⟩
          have hjl : j < cells.length := by
            have h1 := (emod_bd (a := ix) hlen).2
            rw [hj, List.length_map] at h1
            omega
          obtain ⟨v, hv⟩ := cell_get hjl
          refine ⟨_, rfl, z, _, 0, .ref c, rfl, rfl, sq (e2 _ _ z1), rfl, ?_⟩
          refine ⟨_, rfl, .inl ⟨_, rfl, ?_⟩⟩
          refine ⟨_, rfl, z, _, 0, .ref c, rfl, rfl, sq (e2 _ _ z1), rfl, c, _, rfl, .inl (sq (e2 _ _ c1)), _, _, rfl, rfl, hlen, ?_⟩
          refine ⟨c, _, _, .int v, rfl, rfl, sq (e2 _ _ c1), by rw [hj]; exact atI_nat hv, ?_⟩
          exact ⟨v, rfl, e2 _ _ z1, e2 _ _ c1, f1.trans e2.fw⟩
      · rintro σ' H2 ⟨cell, rfl, z2, c2, f2⟩
        have lenc : (((cells.map V.int).length : Nat) : Int) ≤ 63 := by rw [List.length_map]; omega
        have ix1 : ix ≤ 100000 := by omega
        refine ⟨fun σ' H' => σ' = [some (.ref z), some (.int many), none, some (.int ix), some (.int cell), none, none] ∧ H' = H2, ?_, ?_⟩
        · refine ⟨_, rfl, _, rfl, z, _, 0, .ref c, rfl, rfl, sq z2, rfl, c, _, rfl, .inl (sq c2), _, _, rfl, rfl, _, rfl, ?_⟩
          refine ite2 (fun _ => ?_) (fun _ => iteF ⟨rfl, rfl⟩)
          refine ⟨_, rfl, _, rfl, _, _, rfl, rfl, ⟨by decide, by decide, by decide⟩, _, _, rfl, rfl, _, rfl, ?_⟩
          refine ite2 (fun hg => ?_) (fun _ => ⟨rfl, rfl⟩)
          have hg := of_decide_eq_true hg
          rw [pow18] at hg
          -- a great cell
          refine ⟨_, rfl, _, rfl, _, _, rfl, rfl, ⟨by decide, by decide, by decide⟩, _, _, rfl, rfl, _, _, rfl, rfl, .inl ⟨by decide, by decide⟩, _, rfl, _, _, rfl, rfl, .inr ⟨_, rfl, _, _, rfl, rfl, ?_⟩⟩
          dsimp only
          rw [pow18]
          have g0 : 0 ≤ 2 * ((if cell < 0 then -cell else cell) - 1000000000000000000) + (if decide (cell < 0) = true then 1 else 0) := by
            split at hg <;> split <;> omega
          generalize 2 * ((if cell < 0 then -cell else cell) - 1000000000000000000) + (if decide (cell < 0) = true then 1 else 0) = great at g0
          refine ⟨_, rfl, _, rfl, _, _, rfl, rfl, divw, _, rfl, z, _, 2, 2, rfl, rfl, z2, rfl, ?_⟩
          (generalize g_H3 : upd _ z _ = H3); have z3 := gat g_H3; have f3 := gfw g_H3; clear g_H3
          refine ⟨_, rfl, .inl ⟨_, rfl, _, rfl, _, _, rfl, rfl, hm0, ?_⟩⟩
          exact k _ _ (emod_bd hm0).1 (emod_bd hm0).2 ⟨⟨ix + 1, great / many, z3, by omega, by omega, Int.ediv_nonneg g0 (by omega)⟩, f3 _ _ cz c2, cz, few⟩ (f2.trans f3)
        · rintro σ' H' ⟨rfl, rfl⟩
          refine ⟨_, rfl, .inl ⟨_, rfl, _, _, rfl, rfl, by show (0 : Int) < 2147483563; decide, _, rfl, _, _, rfl, rfl, .inl ⟨by decide, by decide⟩, _, _, rfl, rfl, _, _, rfl, rfl, _, _, rfl, rfl,
            draw_pw5 i0 ix1 (by decide) (by decide) (by decide) (by decide), .inl ⟨_, rfl, _, _, rfl, rfl, by show (0 : Int) < 2147483629; decide, ?_⟩⟩⟩
          dsimp only
          generalize hm : (_ % 2147483629 : Int) = m
          have mb : 0 ≤ m ∧ m < 2147483629 := by rw [← hm]; exact emod_bd (by decide)
          refine ⟨_, rfl, _, rfl, _, _, rfl, rfl, .inl ⟨by decide, by decide⟩, _, _, rfl, rfl, _, _, rfl, rfl, .inl ⟨by omega, by omega⟩, _, rfl, _, _, rfl, rfl, .inl ⟨by decide, by decide⟩, _, rfl, _, _, rfl, rfl, .inr ⟨by omega, by omega⟩,
            _, _, rfl, rfl, _, _, rfl, rfl, _, _, rfl, rfl, draw_pw3 i0 ix1 mb.1 mb.2 (by decide) (by decide) (by decide) (by decide) (by decide) (by decide), .inl ⟨_, rfl, _, _, rfl, rfl, by show (0 : Int) < 2147483587; decide, ?_⟩⟩
          dsimp only
          generalize (_ % 2147483587 : Int) = m2
          refine ⟨_, rfl, _, _, rfl, rfl, ⟨by decide, by decide⟩, .inl ⟨_, rfl, _, rfl, _, _, rfl, rfl, hm0, ?_⟩⟩
          exact k _ _ (emod_bd hm0).1 (emod_bd hm0).2 ⟨⟨ix + 1, left, z2, by omega, by omega, l0⟩, c2, cz, few⟩ f2
theorem ok_law_width (T : Tx K mg) : FnOk P w K mg base CX0 3 T.f_law_width.a T.f_law_width.fd ["_law_pen_here"] spWidth := by
  refine T.f_law_width.F.ok sc_law_width (fun vs H Q E h => ?_) (fun cdv A outer s H vs Q E hr h => ?_)
  · obtain ⟨z, c, cells, t, rfl, _⟩ := h
    rfl
  · obtain ⟨z, c, cells, t, rfl, PA, ht, k⟩ := h
    refine ⟨_, (pss_one (ps_ret (pe_ix ix_list (pe_lst (pa_cons pe_int (pa_cons pe_int (pa_cons pe_int (pa_cons pe_int (pa_cons pe_int (pa_cons pe_int (pa_cons pe_int (pa_cons pe_int (pa_cons pe_int (pa_cons (pe_op op_add pe_int (pe_call (ok_law_draw T) (hr.mono (by decide)) (by rfl) T.f_law_draw.m T.f_law_draw.F.kp (bd_law_draw T) .nil pass0 (pa_cons (pv 0) (pa_cons pe_int pa_nil)))) pa_nil))))))))))) (pe_call (ok_law_draw T) (hr.mono (by decide)) (by rfl) T.f_law_draw.m T.f_law_draw.F.kp (bd_law_draw T) .nil pass0 (pa_cons (pv 0) (pa_cons pe_int pa_nil))) (fun _ _ => rfl)))), ?_⟩
    refine ⟨_, rfl, z, c, cells, t, 64, rfl, PA, by omega, by decide, by decide, fun n H1 n0 n1 P1 f1 => ?_⟩
    refine ⟨_, _, rfl, rfl, by show 10 ≤ sizeLine; decide, fun b nb => ?_⟩
    (generalize g_H2 : upd _ b _ = H2); have hb := gat g_H2; have e2 := gex g_H2 nb; clear g_H2
    refine ⟨_, rfl, z, c, cells, t + 1, 10, rfl, P1.ex e2, by omega, by decide, by decide, fun j H3 j0 j1 P3 f3 => ?_⟩
    have bz : b ≠ z := by
      obtain ⟨⟨i, l, h1, _⟩, _⟩ := P1
      exact (ne_of_none h1 nb).symm
    obtain ⟨j, rfl⟩ : ∃ i : Nat, j = (i : Int) := ⟨j.toNat, by omega⟩
    have fin : ∀ m : Int, ([V.int 1, .int 2, .int 3, .int 4, .int 7, .int 8, .int 16, .int 63, .int 64, .int (1 + n)] : List V)[j]? = some (.int m) → 1 ≤ m → m ≤ 64 → rIxL K (.ref b) (.int j) H3 fun x H' => Q x H' := fun m hm h1 h2 =>
      ⟨b, _, _, _, rfl, rfl, sq (f3 _ _ bz hb), atI_nat hm, k m H3 h1 h2 P3 ((f1.trans e2.fw).trans f3)⟩
    match j, j1 with
    | 0, _ => exact fin 1 rfl (by decide) (by decide)
    | 1, _ => exact fin 2 rfl (by decide) (by decide)
    | 2, _ => exact fin 3 rfl (by decide) (by decide)
    | 3, _ => exact fin 4 rfl (by decide) (by decide)
    | 4, _ => exact fin 7 rfl (by decide) (by decide)
    | 5, _ => exact fin 8 rfl (by decide) (by decide)
    | 6, _ => exact fin 16 rfl (by decide) (by decide)
    | 7, _ => exact fin 63 rfl (by decide) (by decide)
    | 8, _ => exact fin 64 rfl (by decide) (by decide)
    | 9, _ => exact fin (1 + n) rfl (by omega) (by omega)
    | j + 10, h => exact absurd h (by omega)
theorem ok_law_value (T : Tx K mg) : FnOk P w K mg base CX0 3 T.f_law_value.a T.f_law_value.fd ["_law_pen_here", "_law_width_here"] spValue := by
  refine T.f_law_value.F.ok sc_law_value (fun vs H Q E h => ?_) (fun cdv A outer s H vs Q E hr h => ?_)
  · obtain ⟨z, c, cells, t, wd, rfl, _⟩ := h
    rfl
  · obtain ⟨z, c, cells, t, wd, rfl, PA, ht, w1, w64, k⟩ := h
    refine ⟨_, (pss_cons (ps_set (i := 2) sc_law_value.nd rfl (Or.inl rfl) (pe_op op_sub (pe_op op_shl pe_int (pv 1)) pe_int))
      (pss_cons (ps_par (i := 3) (j := 4) (by rfl) sc_law_value.nd rfl rfl (by decide) rfl rfl (pa_cons (pe_call (ok_law_draw T) (hr.mono (by decide)) (by rfl) T.f_law_draw.m T.f_law_draw.F.kp (bd_law_draw T) .nil pass0 (pa_cons (pv 0) (pa_cons pe_int pa_nil))) (pa_cons (pe_call (ok_law_draw T) (hr.mono (by decide)) (by rfl) T.f_law_draw.m T.f_law_draw.F.kp (bd_law_draw T) .nil pass0 (pa_cons (pv 0) (pa_cons pe_int pa_nil))) pa_nil)) (by rfl))
      (pss_cons (ps_set (i := 5) sc_law_value.nd rfl (Or.inl rfl) (pe_op op_and (pe_op op_add (pe_op op_add (pe_op op_mul (pv 4) pe_int) (pe_op op_mul (pv 3) pe_int)) (pv 4)) (pv 2)))
      (pss_one (ps_ret (pe_ix ix_list (pe_lst (pa_cons pe_int (pa_cons (pv 2) (pa_cons pe_int (pa_cons (pe_op op_sub (pv 2) pe_int) (pa_cons (pv 5) (pa_cons (pv 5) (pa_cons (pv 5) pa_nil)))))))) (pe_call (ok_law_draw T) (hr.mono (by decide)) (by rfl) T.f_law_draw.m T.f_law_draw.F.kp (bd_law_draw T) .nil pass0 (pa_cons (pv 0) (pa_cons pe_int pa_nil))) (fun _ _ => rfl))))))), ?_⟩
    refine ⟨_, rfl, _, _, rfl, rfl, ⟨by omega, by omega, by decide⟩, _, _, rfl, rfl, ?_⟩
    have et : (1 : Int) * 2 ^ (wd : Int).toNat - 1 = 2 ^ wd - 1 := by rw [Int.one_mul, Int.toNat_natCast]
    dsimp only
    rw [et]
    have p0 : (1 : Int) < 2 ^ wd := pow_gt w1
    have p64 : (2 : Int) ^ wd ≤ 18446744073709551616 := pow_le64 w64
    refine ⟨_, rfl, z, c, cells, t, 65536, rfl, PA, by omega, by decide, by decide, fun lo H1 l0 l1 P1 f1 => ?_⟩
    refine ⟨_, rfl, z, c, cells, t + 1, 65536, rfl, P1, by omega, by decide, by decide, fun hi H2 h0 h1 P2 f2 => ?_⟩
    refine ⟨_, _, rfl, ?_⟩
    refine ⟨_, rfl, _, _, rfl, rfl, .inl ⟨by omega, by omega⟩, _, rfl, _, _, rfl, rfl, .inl ⟨by omega, by omega⟩, _, _, rfl, rfl, _, rfl, _, _, rfl, rfl, _, rfl, _, _, rfl, rfl, ?_⟩
    have sb := and_top (wd := wd) (x := hi * 281479271677953 + lo * 65537 + hi) (by omega)
    dsimp only
    generalize Builtin.bitAnd _ _ = some_ at sb
    refine ⟨_, rfl, _, rfl, _, _, rfl, rfl, _, rfl, _, rfl, _, rfl, by show 7 ≤ sizeLine; decide, fun b nb => ?_⟩
    (generalize g_H3 : upd _ b _ = H3); have hb := gat g_H3; have e3 := gex g_H3 nb; clear g_H3
    refine ⟨_, rfl, z, c, cells, t + 2, 7, rfl, P2.ex e3, by omega, by decide, by decide, fun j H4 j0 j1 P4 f4 => ?_⟩
    have bz : b ≠ z := by
      obtain ⟨⟨i, l, h1, _⟩, _⟩ := P2
      exact (ne_of_none h1 nb).symm
    obtain ⟨j, rfl⟩ : ∃ i : Nat, j = (i : Int) := ⟨j.toNat, by omega⟩
    have fin : ∀ m : Int, ([V.int 0, .int (2 ^ wd - 1), .int 1, .int (2 ^ wd - 1 - 1), .int some_, .int some_, .int some_] : List V)[j]? = some (.int m) → 0 ≤ m → m < 2 ^ wd → rIxL K (.ref b) (.int j) H4 fun x H' => Q x H' := fun m hm h1 h2 =>
      ⟨b, _, _, _, rfl, rfl, sq (f4 _ _ bz hb), atI_nat hm, k m H4 h1 h2 P4 (((f1.trans f2).trans e3.fw).trans f4)⟩
    match j, j1 with
    | 0, _ => exact fin _ rfl (by omega) (by omega)
    | 1, _ => exact fin _ rfl (by omega) (by omega)
    | 2, _ => exact fin _ rfl (by omega) (by omega)
    | 3, _ => exact fin _ rfl (by omega) (by omega)
    | 4, _ => exact fin _ rfl sb.1 sb.2
    | 5, _ => exact fin _ rfl sb.1 sb.2
    | 6, _ => exact fin _ rfl sb.1 sb.2
    | j + 7, h => exact absurd h (by omega)
theorem ok_law_is (T : Tx K mg) : FnOk P w K mg base CX0 2 T.f_law_is.a T.f_law_is.fd ["_law_word", "_law_width_here", "_law_value_here"] (spIs T.k_Word.C) := by
  refine T.f_law_is.F.ok sc_law_is (fun vs H Q E h => ?_) (fun cdv A outer s H vs Q E hr h => ?_)
  · obtain ⟨x, wd, u, rfl, _⟩ := h
    rfl
  · obtain ⟨x, wd, u, rfl, W, k⟩ := h
    obtain ⟨⟨dx, hx⟩, _, _, _, _⟩ := W
    refine ⟨_, (pss_cons (ps_if (PW.pt (pw_or (pt_not (pt_val (pe_callB call_isi (by rfl) T.b_isinstance (by decide +kernel) (pa_cons (pv 0) (pa_cons (pe_glob (v := .ref T.k_Word.C) (by rfl) T.k_Word.m rfl) pa_nil))))) (pw_or (pt_val (pe_callB call_isi (by rfl) T.b_isinstance (by decide +kernel) (pa_cons (pe_fld (pv 0) rfl) (pa_cons (pe_bltn (v := .ty "bool") (by rfl) T.b_bool (by decide +kernel) rfl) pa_nil)))) (pw_or1 (pt_val (pe_callB call_isi (by rfl) T.b_isinstance (by decide +kernel) (pa_cons (pe_fld (pv 0) rfl) (pa_cons (pe_bltn (v := .ty "bool") (by rfl) T.b_bool (by decide +kernel) rfl) pa_nil)))))))) (pss_one (ps_ret pe_bl)) pss_nil)
      (pss_one (ps_ret (pe_and (pe_cmpR op_eq (pe_fld (pv 0) rfl) (pv 1) (nomark _)) (pe_one (pe_cmpR op_eq (pe_fld (pv 0) rfl) (pv 2) (nomark _))))))), ?_⟩
    refine ⟨_, rfl, _, _, _, _, true, rfl, .own _, .base (.ins hx T.k_Word.cl T.x_Word.ha T.x_Word.hn T.x_Word.ht T.x_Word.hm), kit_self, _, rfl, iteF ?_⟩
    refine ⟨_, rfl, x, _, dx, _, _, rfl, hx, T.k_Word.cl, T.n_Word_value, wf_value _ _, _, _, _, _, false, rfl, .ty "bool", .base (.int _), kit_ty (by decide +kernel), _, rfl, iteF ?_⟩
    refine ⟨_, rfl, x, _, dx, _, _, rfl, hx, T.k_Word.cl, T.n_Word_width, wf_width _ _, _, _, _, _, false, rfl, .ty "bool", .base (.int _), kit_ty (by decide +kernel), _, rfl, iteF ?_⟩
    refine ⟨_, rfl, x, _, dx, _, _, rfl, hx, T.k_Word.cl, T.n_Word_width, wf_width _ _, _, rfl, rfl, _, rfl, ?_⟩
    rw [decide_eq_true (rfl : V.int (wd : Int) = V.int (wd : Int))]
    refine iteT ?_
    refine ⟨_, rfl, x, _, dx, _, _, rfl, hx, T.k_Word.cl, T.n_Word_value, wf_value _ _, _, rfl, rfl, ?_⟩
    rw [decide_eq_true (rfl : V.int u = V.int u)]
    exact k
theorem ok_law_sum (T : Tx K mg) : FnOk P w K mg base CX0 2 T.f_law_sum.a T.f_law_sum.fd ["_law_width_here", "_law_one", "_law_other"] spSum := by
  refine T.f_law_sum.F.ok sc_law_sum (fun vs H Q E h => ?_) (fun cdv A outer s H vs Q E hr h => ?_)
  · obtain ⟨wd, a, b, rfl, _⟩ := h
    rfl
  · obtain ⟨wd, a, b, rfl, w1, w64, a0, a1, b0, b1, k⟩ := h
    refine ⟨_, (pss_cons (ps_set (i := 3) sc_law_sum.nd rfl (Or.inl rfl) (pe_op op_sub (pe_op op_shl pe_int (pv 0)) pe_int))
      (pss_one (ps_ret (pe_ifExp (pt_cmpR op_le (pe_op op_add (pv 1) (pv 2)) (pv 3) (nomark _)) (pe_op op_add (pv 1) (pv 2)) (pe_op op_sub (pe_op op_add (pv 1) (pv 2)) (pv 3)))))), ?_⟩
    refine ⟨_, rfl, _, _, rfl, rfl, ⟨by omega, by omega, by decide⟩, _, _, rfl, rfl, ?_⟩
    have et : (1 : Int) * 2 ^ (wd : Int).toNat - 1 = mw wd := by
      rw [Int.one_mul, Int.toNat_natCast]
      all_goals rfl
    dsimp only
    rw [et]
    have es := sum_spec w1 a0 a1 b0 b1
    refine ⟨_, rfl, _, rfl, _, _, rfl, rfl, _, rfl, _, _, rfl, rfl, _, rfl, ?_⟩
    refine ite2 (fun h => ?_) (fun h => ?_)
    · rw [if_pos (of_decide_eq_true h)] at es
      refine ⟨_, rfl, _, rfl, _, _, rfl, rfl, ?_⟩
      dsimp only
      rw [es]
      exact k
    · rw [if_neg (fun q => h (decide_eq_true q))] at es
      refine ⟨_, rfl, _, rfl, _, _, rfl, rfl, _, rfl, _, _, rfl, rfl, ?_⟩
      dsimp only
      rw [es]
      exact k
theorem ok_law_in_place (T : Tx K mg) : FnOk P w K mg base CX0 9 T.f_law_in_place.a T.f_law_in_place.fd ["_law_one", "_law_other"] (spInPlace T.k_Word.C) := by
  refine T.f_law_in_place.F.ok sc_law_in_place (fun vs H Q E h => ?_) (fun cdv A outer s H vs Q E hr h => ?_)
  · obtain ⟨x, y, wd, u, v, rfl, _⟩ := h
    rfl
  · obtain ⟨x, y, wd, u, v, rfl, W, W', k⟩ := h
    obtain ⟨dx, hx⟩ := W.ob
    refine ⟨_, (pss_cons (ps_par (i := 2) (j := 3) (by rfl) sc_law_in_place.nd rfl rfl (by decide) rfl rfl (pa_cons (pv 0) (pa_cons (pv 0) pa_nil)) (by rfl))
      (pss_cons (ps_aug (i := 2) sc_law_in_place.nd rfl (Or.inl rfl) (pv 1) (TzOwn.ip_own (ok_Word_add_ T) (hr.mono (by decide)) T.f_Word_add_.M (by decide +kernel) T.x_Word.sf (bd_Word_add_ T) pass0 T.j_iadd (by decide +kernel)))
      (pss_cons (ps_aug (i := 3) sc_law_in_place.nd rfl (Or.inl rfl) (pv 1) (TzOwn.ip_own (ok_Word_sub_ T) (hr.mono (by decide)) T.f_Word_sub_.M (by decide +kernel) T.x_Word.sf (bd_Word_sub_ T) pass0 T.j_isub (by decide +kernel)))
      (pss_one (ps_ret (pe_lst (pa_cons (pv 2) (pa_cons (pv 3) pa_nil)))))))), ?_⟩
    refine ⟨_, rfl, _, rfl, ?_⟩
    refine ⟨_, _, rfl, ?_⟩

    obtain ⟨dy, hy⟩ := W'.ob
    refine ⟨_, rfl, _, rfl, x, y, dx, dy, _, _, rfl, rfl, hx, hy, x, y, wd, u, v, rfl, W, W', fun p H1 _ e1 Wp => ?_⟩
    refine ⟨_, rfl, _, rfl, x, y, dx, dy, _, _, rfl, rfl, e1 _ _ hx, e1 _ _ hy, x, y, wd, u, v, rfl, W.ex e1, W'.ex e1, fun q H2 _ e2 Wq => ?_⟩

    refine ⟨_, rfl, _, rfl, by show 2 ≤ sizeLine; decide, fun l nl => ?_⟩
    (generalize g_H3 : upd _ l _ = H3); have hl := gat g_H3; have e3 := gex g_H3 nl; clear g_H3
    exact k l p q H3 ((e1.trans e2).trans e3) hl ((Wp.ex e2).ex e3) (Wq.ex e3)
theorem ok_law_in_place_int (T : Tx K mg) : FnOk P w K mg base CX0 9 T.f_law_in_place.a T.f_law_in_place.fd ["_law_one", "_law_other"] (spInPlaceI T.k_Word.C) := by
  refine T.f_law_in_place.F.ok sc_law_in_place (fun vs H Q E h => ?_) (fun cdv A outer s H vs Q E hr h => ?_)
  · obtain ⟨x, wd, u, v, rfl, _⟩ := h
    rfl
  · obtain ⟨x, wd, u, v, rfl, W, v0, v1, k⟩ := h
    obtain ⟨dx, hx⟩ := W.ob
    refine ⟨_, (pss_cons (ps_par (i := 2) (j := 3) (by rfl) sc_law_in_place.nd rfl rfl (by decide) rfl rfl (pa_cons (pv 0) (pa_cons (pv 0) pa_nil)) (by rfl))
      (pss_cons (ps_aug (i := 2) sc_law_in_place.nd rfl (Or.inl rfl) (pv 1) (TzOwn.ip_ownI (ok_Word_add_int T) (hr.mono (by decide)) T.f_Word_add_.M (by decide +kernel) T.x_Word.sf (bd_Word_add_ T) pass0 (by decide +kernel) T.f_Word_radd_.M.at_ (.inr ⟨_, rfl⟩) T.i_int_add.h1 T.i_int_add.h2 T.x_Word.si T.j_iadd (by decide +kernel)))
      (pss_cons (ps_aug (i := 3) sc_law_in_place.nd rfl (Or.inl rfl) (pv 1) (TzOwn.ip_ownI (ok_Word_sub_int T) (hr.mono (by decide)) T.f_Word_sub_.M (by decide +kernel) T.x_Word.sf (bd_Word_sub_ T) pass0 (by decide +kernel) T.f_Word_rsub_.M.at_ (.inr ⟨_, rfl⟩) T.i_int_sub.h1 T.i_int_sub.h2 T.x_Word.si T.j_isub (by decide +kernel)))
      (pss_one (ps_ret (pe_lst (pa_cons (pv 2) (pa_cons (pv 3) pa_nil)))))))), ?_⟩
    refine ⟨_, rfl, _, rfl, ?_⟩
    refine ⟨_, _, rfl, ?_⟩

    refine ⟨_, rfl, _, rfl, x, v, dx, _, rfl, rfl, hx, x, wd, u, v, rfl, W, v0, v1, fun p H1 _ e1 Wp => ?_⟩
    refine ⟨_, rfl, _, rfl, x, v, dx, _, rfl, rfl, e1 _ _ hx, x, wd, u, v, rfl, W.ex e1, v0, v1, fun q H2 _ e2 Wq => ?_⟩

    refine ⟨_, rfl, _, rfl, by show 2 ≤ sizeLine; decide, fun l nl => ?_⟩
    (generalize g_H3 : upd _ l _ = H3); have hl := gat g_H3; have e3 := gex g_H3 nl; clear g_H3
    exact k l p q H3 ((e1.trans e2).trans e3) hl ((Wp.ex e2).ex e3) (Wq.ex e3)
theorem ok_law_apart_right (T : Tx K mg) : FnQ P w K mg base 9 T.f_law_apart_right.a T.f_law_apart_right.fd ["_law_one", "_law_other"] (spApart T.k_Word.C) := by
  refine fnq T.f_law_apart_right.F sc_law_apart_right (fun vs H Q E h => ?_) (fun cdv A outer s H vs Q gd hr h => ?_)
  · obtain ⟨x, y, wd, u, v, rfl, _⟩ := h
    rfl
  · obtain ⟨x, y, wd, u, v, rfl, W, W', k⟩ := h
    obtain ⟨⟨dx, hx⟩, w1, w64, u0, um⟩ := id W
    obtain ⟨dy, hy⟩ := W'.ob

    have m64 := mw_64 w64
    refine ⟨_, (pss_cons (ps_set (i := 2) sc_law_apart_right.nd rfl (Or.inl rfl) (pv 0))
      (pss_cons (ps_aug (i := 2) sc_law_apart_right.nd rfl (Or.inl rfl) (pv 1) (TzOwn.ip_own (ok_Word_xor_ T) (hr.mono (by decide)) T.f_Word_xor_.M (by decide +kernel) T.x_Word.sf (bd_Word_xor_ T) pass0 T.j_ixor (by decide +kernel)))
      (pss_one (ps_ret (pe_cmpR op_eq (pe_callB (TzRepr.repr_list mon_words (fun a => (TzRepr.rpG_ins (ok_Word_repr_ T) T.f_Word_repr_.M (bd_Word_repr_ T) pass0)) gd (hr.mono (by decide))) (by rfl) T.b_repr (by decide +kernel) (pa_cons (pe_lst (pa_cons (pv 2) (pa_cons (pv 0) pa_nil))) pa_nil)) (pe_callB (TzRepr.repr_list mon_words (fun a => (TzRepr.rpG_ins (ok_Word_repr_ T) T.f_Word_repr_.M (bd_Word_repr_ T) pass0)) gd (hr.mono (by decide))) (by rfl) T.b_repr (by decide +kernel) (pa_cons (pe_lst (pa_cons (pe_op (TzOwn.op_own (ok_Word_xor_ T) (hr.mono (by decide)) T.f_Word_xor_.M (by decide +kernel) T.x_Word.sf (bd_Word_xor_ T) pass0) (pv 0) (pv 1)) (pa_cons (pe_make (mk_Word T) (ok_Word_init_ T) (hr.mono (by decide)) (by rfl) T.k_Word.m (bd_Word_init_ T) .nil pass0 (pa_cons (pe_fld (pv 0) rfl) (pa_cons (pe_fld (pv 0) rfl) pa_nil))) pa_nil))) pa_nil)) (nomark _)))))), ?_⟩
    refine ⟨_, rfl, ?_⟩
    refine ⟨_, rfl, _, rfl, x, y, dx, dy, _, _, rfl, rfl, hx, hy, x, y, wd, u, v, rfl, W, W', fun p H1 _ e1 Wp => ?_⟩
    have lp := wtext_len w64 Wp.v0 (by have := Wp.vm; omega)
    have lx := wtext_len w64 u0 (by omega)
    refine ⟨_, rfl, _, rfl, by show 2 ≤ sizeLine; decide, fun l nl => ?_⟩
    (generalize g_H2 : upd _ l _ = H2); have hl := gat g_H2; have e2 := gex g_H2 nl; clear g_H2
    refine ⟨.ref l, _, rfl, ⟨l, _, _, rfl, (fun z => by cases z), hl, rfl, each2 (Wp.ex e2) ((W.ex e1).ex e2)⟩, words2_len lp lx, fun H3 e3 => ?_⟩
    have E2 := (e1.trans e2).trans e3
    refine ⟨_, rfl, _, rfl, x, y, dx, dy, _, _, rfl, rfl, E2 _ _ hx, E2 _ _ hy, x, y, wd, u, v, rfl, W.ex E2, W'.ex E2, fun q H4 _ e4 Wq => ?_⟩
    have W4 := W.ex (E2.trans e4)
    obtain ⟨d4, h4⟩ := W4.ob
    refine ⟨_, rfl, x, _, d4, _, _, rfl, h4, T.k_Word.cl, T.n_Word_width, wf_width _ _, ?_⟩
    refine ⟨_, rfl, x, _, d4, _, _, rfl, h4, T.k_Word.cl, T.n_Word_value, wf_value _ _, ?_⟩
    refine fun r dr nr ndr _ => mk_word1 w1 w64 u0 um nr ndr fun H5 e5 Wr => ⟨rfl, ?_⟩
    refine ⟨by show 2 ≤ sizeLine; decide, fun m nm => ?_⟩
    (generalize g_H6 : upd _ m _ = H6); have hm := gat g_H6; have e6 := gex g_H6 nm; clear g_H6
    refine ⟨.ref m, _, rfl, ⟨m, _, _, rfl, (fun z => by cases z), hm, rfl, each2 ((Wq.ex e5).ex e6) (Wr.ex e6)⟩, words2_len lp lx, fun H7 e7 => ?_⟩
    refine ⟨rfl, ?_⟩
    rw [decide_eq_true rfl]
    exact k H7 ((((E2.trans e4).trans e5).trans e6).trans e7)
theorem ok_law_apart_right_int (T : Tx K mg) : FnQ P w K mg base 9 T.f_law_apart_right.a T.f_law_apart_right.fd ["_law_one", "_law_other"] (spApartI T.k_Word.C) := by
  refine fnq T.f_law_apart_right.F sc_law_apart_right (fun vs H Q E h => ?_) (fun cdv A outer s H vs Q gd hr h => ?_)
  · obtain ⟨x, wd, u, v, rfl, _⟩ := h
    rfl
  · obtain ⟨x, wd, u, v, rfl, W, v0, v1, k⟩ := h
    obtain ⟨⟨dx, hx⟩, w1, w64, u0, um⟩ := id W

    have m64 := mw_64 w64
    refine ⟨_, (pss_cons (ps_set (i := 2) sc_law_apart_right.nd rfl (Or.inl rfl) (pv 0))
      (pss_cons (ps_aug (i := 2) sc_law_apart_right.nd rfl (Or.inl rfl) (pv 1) (TzOwn.ip_ownI (ok_Word_xor_int T) (hr.mono (by decide)) T.f_Word_xor_.M (by decide +kernel) T.x_Word.sf (bd_Word_xor_ T) pass0 (by decide +kernel) T.f_Word_rxor_.M.at_ (.inr ⟨_, rfl⟩) T.i_int_xor.h1 T.i_int_xor.h2 T.x_Word.si T.j_ixor (by decide +kernel)))
      (pss_one (ps_ret (pe_cmpR op_eq (pe_callB (TzRepr.repr_list mon_words (fun a => (TzRepr.rpG_ins (ok_Word_repr_ T) T.f_Word_repr_.M (bd_Word_repr_ T) pass0)) gd (hr.mono (by decide))) (by rfl) T.b_repr (by decide +kernel) (pa_cons (pe_lst (pa_cons (pv 2) (pa_cons (pv 0) pa_nil))) pa_nil)) (pe_callB (TzRepr.repr_list mon_words (fun a => (TzRepr.rpG_ins (ok_Word_repr_ T) T.f_Word_repr_.M (bd_Word_repr_ T) pass0)) gd (hr.mono (by decide))) (by rfl) T.b_repr (by decide +kernel) (pa_cons (pe_lst (pa_cons (pe_op (TzOwn.op_ownI (ok_Word_xor_int T) (hr.mono (by decide)) T.f_Word_xor_.M (by decide +kernel) T.x_Word.sf (bd_Word_xor_ T) pass0 (by decide +kernel) T.f_Word_rxor_.M.at_ (.inr ⟨_, rfl⟩) T.i_int_xor.h1 T.i_int_xor.h2 T.x_Word.si) (pv 0) (pv 1)) (pa_cons (pe_make (mk_Word T) (ok_Word_init_ T) (hr.mono (by decide)) (by rfl) T.k_Word.m (bd_Word_init_ T) .nil pass0 (pa_cons (pe_fld (pv 0) rfl) (pa_cons (pe_fld (pv 0) rfl) pa_nil))) pa_nil))) pa_nil)) (nomark _)))))), ?_⟩
    refine ⟨_, rfl, ?_⟩
    refine ⟨_, rfl, _, rfl, x, v, dx, _, rfl, rfl, hx, x, wd, u, v, rfl, W, v0, v1, fun p H1 _ e1 Wp => ?_⟩
    have lp := wtext_len w64 Wp.v0 (by have := Wp.vm; omega)
    have lx := wtext_len w64 u0 (by omega)
    refine ⟨_, rfl, _, rfl, by show 2 ≤ sizeLine; decide, fun l nl => ?_⟩
    (generalize g_H2 : upd _ l _ = H2); have hl := gat g_H2; have e2 := gex g_H2 nl; clear g_H2
    refine ⟨.ref l, _, rfl, ⟨l, _, _, rfl, (fun z => by cases z), hl, rfl, each2 (Wp.ex e2) ((W.ex e1).ex e2)⟩, words2_len lp lx, fun H3 e3 => ?_⟩
    have E2 := (e1.trans e2).trans e3
    refine ⟨_, rfl, _, rfl, x, v, dx, _, rfl, rfl, E2 _ _ hx, x, wd, u, v, rfl, W.ex E2, v0, v1, fun q H4 _ e4 Wq => ?_⟩
    have W4 := W.ex (E2.trans e4)
    obtain ⟨d4, h4⟩ := W4.ob
    refine ⟨_, rfl, x, _, d4, _, _, rfl, h4, T.k_Word.cl, T.n_Word_width, wf_width _ _, ?_⟩
    refine ⟨_, rfl, x, _, d4, _, _, rfl, h4, T.k_Word.cl, T.n_Word_value, wf_value _ _, ?_⟩
    refine fun r dr nr ndr _ => mk_word1 w1 w64 u0 um nr ndr fun H5 e5 Wr => ⟨rfl, ?_⟩
    refine ⟨by show 2 ≤ sizeLine; decide, fun m nm => ?_⟩
    (generalize g_H6 : upd _ m _ = H6); have hm := gat g_H6; have e6 := gex g_H6 nm; clear g_H6
    refine ⟨.ref m, _, rfl, ⟨m, _, _, rfl, (fun z => by cases z), hm, rfl, each2 ((Wq.ex e5).ex e6) (Wr.ex e6)⟩, words2_len lp lx, fun H7 e7 => ?_⟩
    refine ⟨rfl, ?_⟩
    rw [decide_eq_true rfl]
    exact k H7 ((((E2.trans e4).trans e5).trans e6).trans e7)
theorem g_I {C a : Addr} {w : Nat} {u n : Int} {H : Hp} {Q : VK} {E : XK} {sp : Sp} (Wa : WordAt C H a w u) (h : sp [.ref a, .int n] H Q E) : TzOwn.rOwnI C sp E (.ref a) (.int n) H Q := by
  obtain ⟨da, ha⟩ := Wa.ob
  exact ⟨a, n, da, _, rfl, rfl, ha, h⟩
theorem g_RI {C a : Addr} {w : Nat} {u n : Int} {H : Hp} {Q : VK} {E : XK} {sp : Sp} (Wa : WordAt C H a w u) (h : sp [.ref a, .int n] H Q E) : TzOwn.rIOwn C sp E (.int n) (.ref a) H Q := by
  obtain ⟨da, ha⟩ := Wa.ob
  exact ⟨a, n, da, _, rfl, rfl, ha, h⟩
theorem ok_law_right (T : Tx K mg) : FnQ P w K mg base 10 T.f_law_right.a T.f_law_right.fd ["_law_width_here", "_law_one", "_law_other"] spRight3 := by
  refine fnq T.f_law_right.F sc_law_right (fun vs H Q E h => ?_) (fun cdv A outer s H vs Q gd hr h => ?_)
  · obtain ⟨wd, u, v, rfl, _⟩ := h
    rfl
  · obtain ⟨wd, u, v, rfl, w1, w64, u0, u1, v0, v1, k⟩ := h
    have hM := mw_pos w1
    refine ⟨_, (pss_cons (ps_par3 (i := 3) (j := 4) (l := 5) (by rfl) sc_law_right.nd rfl rfl rfl (by decide) (by decide) (by decide) rfl rfl rfl (pa_cons (pe_op op_sub (pe_op op_shl pe_int (pv 0)) pe_int) (pa_cons (pe_make (mk_Word T) (ok_Word_init_ T) (hr.mono (by decide)) (by rfl) T.k_Word.m (bd_Word_init_ T) .nil pass0 (pa_cons (pv 0) (pa_cons (pv 1) pa_nil))) (pa_cons (pe_make (mk_Word T) (ok_Word_init_ T) (hr.mono (by decide)) (by rfl) T.k_Word.m (bd_Word_init_ T) .nil pass0 (pa_cons (pv 0) (pa_cons (pv 2) pa_nil))) pa_nil))) (by rfl))
      (pss_cons (ps_set (i := 6) sc_law_right.nd rfl (Or.inl rfl) (pe_lst (pa_cons (pe_call (ok_law_sum T) (hr.mono (by decide)) (by rfl) T.f_law_sum.m T.f_law_sum.F.kp (bd_law_sum T) .nil pass0 (pa_cons (pv 0) (pa_cons (pv 1) (pa_cons (pv 2) pa_nil)))) (pa_cons (pe_call (ok_law_sum T) (hr.mono (by decide)) (by rfl) T.f_law_sum.m T.f_law_sum.F.kp (bd_law_sum T) .nil pass0 (pa_cons (pv 0) (pa_cons (pv 1) (pa_cons (pe_op op_sub (pv 3) (pv 2)) pa_nil)))) (pa_cons (pe_call (ok_law_sum T) (hr.mono (by decide)) (by rfl) T.f_law_sum.m T.f_law_sum.F.kp (bd_law_sum T) .nil pass0 (pa_cons (pv 0) (pa_cons (pv 2) (pa_cons (pe_op op_sub (pv 3) (pv 1)) pa_nil)))) pa_nil)))))
      (pss_cons (ps_set (i := 7) sc_law_right.nd rfl (Or.inl rfl) (pe_lst (pa_cons (pe_op (TzOwn.op_own (ok_Word_add_ T) (hr.mono (by decide)) T.f_Word_add_.M (by decide +kernel) T.x_Word.sf (bd_Word_add_ T) pass0) (pv 4) (pv 5)) (pa_cons (pe_op (TzOwn.op_own (ok_Word_sub_ T) (hr.mono (by decide)) T.f_Word_sub_.M (by decide +kernel) T.x_Word.sf (bd_Word_sub_ T) pass0) (pv 4) (pv 5)) (pa_cons (pe_op (TzOwn.op_own (ok_Word_sub_ T) (hr.mono (by decide)) T.f_Word_sub_.M (by decide +kernel) T.x_Word.sf (bd_Word_sub_ T) pass0) (pv 5) (pv 4)) (pa_cons (pe_op (TzOwn.op_ownI (ok_Word_add_int T) (hr.mono (by decide)) T.f_Word_add_.M (by decide +kernel) T.x_Word.sf (bd_Word_add_ T) pass0 (by decide +kernel) T.f_Word_radd_.M.at_ (.inr ⟨_, rfl⟩) T.i_int_add.h1 T.i_int_add.h2 T.x_Word.si) (pv 4) (pv 2)) (pa_cons (pe_op (TzOwn.op_ownI (ok_Word_sub_int T) (hr.mono (by decide)) T.f_Word_sub_.M (by decide +kernel) T.x_Word.sf (bd_Word_sub_ T) pass0 (by decide +kernel) T.f_Word_rsub_.M.at_ (.inr ⟨_, rfl⟩) T.i_int_sub.h1 T.i_int_sub.h2 T.x_Word.si) (pv 4) (pv 2)) (pa_cons (pe_op (TzOwn.op_iown (ok_Word_rsub_int T) (hr.mono (by decide)) T.f_Word_rsub_.M (by decide +kernel) T.f_Word_sub_.M (by decide +kernel) T.x_Word.sf (bd_Word_rsub_ T) pass0 T.x_Word.sw PySem.F.fills_int_sub PySem.F.slot_int_sub PySem.F.entry_int_sub (fun _ _ _ => PySem.F.args_int_sub_2 _ _) (fun n t x dx => TzOwn.int_sub_ins n t x _ dx)) (pv 2) (pv 4)) pa_nil))))))))
      (pss_cons (ps_set (i := 7) sc_law_right.nd rfl (Or.inl rfl) (pe_op op_cat (pv 7) (pe_lst (pa_cons (pe_op (TzOwn.op_iown (ok_Word_radd_int T) (hr.mono (by decide)) T.f_Word_radd_.M (by decide +kernel) T.f_Word_add_.M (by decide +kernel) T.x_Word.sf (bd_Word_radd_ T) pass0 T.x_Word.sw PySem.F.fills_int_add PySem.F.slot_int_add PySem.F.entry_int_add (fun _ _ _ => PySem.F.args_int_add_2 _ _) (fun n t x dx => TzOwn.int_add_ins n t x _ dx)) (pv 1) (pv 5)) (pa_cons (pe_op (TzOwn.op_iown (ok_Word_rsub_int T) (hr.mono (by decide)) T.f_Word_rsub_.M (by decide +kernel) T.f_Word_sub_.M (by decide +kernel) T.x_Word.sf (bd_Word_rsub_ T) pass0 T.x_Word.sw PySem.F.fills_int_sub PySem.F.slot_int_sub PySem.F.entry_int_sub (fun _ _ _ => PySem.F.args_int_sub_2 _ _) (fun n t x dx => TzOwn.int_sub_ins n t x _ dx)) (pv 1) (pv 5)) (pa_cons (pe_op (TzOwn.op_ownI (ok_Word_sub_int T) (hr.mono (by decide)) T.f_Word_sub_.M (by decide +kernel) T.x_Word.sf (bd_Word_sub_ T) pass0 (by decide +kernel) T.f_Word_rsub_.M.at_ (.inr ⟨_, rfl⟩) T.i_int_sub.h1 T.i_int_sub.h2 T.x_Word.si) (pv 5) (pv 1)) (pa_cons (pe_un (TzOwn.un_inv_own (ok_Word_invert_ T) (hr.mono (by decide)) T.f_Word_invert_.M rfl (bd_Word_invert_ T) pass0) (pv 4)) pa_nil)))))))
      (pss_cons (ps_set (i := 7) sc_law_right.nd rfl (Or.inl rfl) (pe_op op_cat (pe_op op_cat (pv 7) (pe_call (ok_law_in_place T) (hr.mono (by decide)) (by rfl) T.f_law_in_place.m T.f_law_in_place.F.kp (bd_law_in_place T) .nil pass0 (pa_cons (pv 4) (pa_cons (pv 5) pa_nil)))) (pe_call (ok_law_in_place_int T) (hr.mono (by decide)) (by rfl) T.f_law_in_place.m T.f_law_in_place.F.kp (bd_law_in_place T) .nil pass0 (pa_cons (pv 4) (pa_cons (pv 2) pa_nil)))))
      (pss_cons (ps_set (i := 8) sc_law_right.nd rfl (Or.inl rfl) (pe_op op_cat (pe_op op_cat (pv 6) (pv 6)) (pe_lst (pa_cons (pe_ix ix_list (pv 6) pe_int (fun _ _ => rfl)) (pa_cons (pe_ix ix_list (pv 6) pe_int (fun _ _ => rfl)) (pa_cons (pe_ix ix_list (pv 6) pe_int (fun _ _ => rfl)) (pa_cons (pe_op op_sub (pv 3) (pv 1)) (pa_cons (pe_ix ix_list (pv 6) pe_int (fun _ _ => rfl)) (pa_cons (pe_ix ix_list (pv 6) pe_int (fun _ _ => rfl)) (pa_cons (pe_ix ix_list (pv 6) pe_int (fun _ _ => rfl)) (pa_cons (pe_ix ix_list (pv 6) pe_int (fun _ _ => rfl)) pa_nil)))))))))))
      (pss_cons (ps_for PassesOwn.never rfl (pi_range1 (by rfl) T.b_range (pa_cons (pe_callB call_len_seq (by rfl) T.b_len (by decide +kernel) (pa_cons (pv 8) pa_nil)) pa_nil)) (pg_name (i := 9) sc_law_right.nd rfl (Or.inl rfl)) (pss_one (ps_if (pt_not (pt_val (pe_call (ok_law_is T) (hr.mono (by decide)) (by rfl) T.f_law_is.m T.f_law_is.F.kp (bd_law_is T) .nil pass0 (pa_cons (pe_ix ix_list (pv 7) (pv 9) (fun _ _ => rfl)) (pa_cons (pv 0) (pa_cons (pe_ix ix_list (pv 8) (pv 9) (fun _ _ => rfl)) pa_nil)))))) (pss_one (ps_ret pe_bl)) pss_nil)))
      (pss_cons (ps_if (PW.pt (pw_or (pt_not (pt_val (pe_meth (pe_op (TzOwn.op_own (ok_Word_sub_ T) (hr.mono (by decide)) T.f_Word_sub_.M (by decide +kernel) T.x_Word.sf (bd_Word_sub_ T) pass0) (pv 4) (pv 5)) T.k_Word.cl T.f_Word_like.M (ok_Word_like T) (hr.mono (by decide)) (bd_Word_like T) .nil pass0 (pa_cons (pe_op (TzOwn.op_own (ok_Word_add_ T) (hr.mono (by decide)) T.f_Word_add_.M (by decide +kernel) T.x_Word.sf (bd_Word_add_ T) pass0) (pv 4) (pe_un (TzOwn.un_inv_own (ok_Word_invert_ T) (hr.mono (by decide)) T.f_Word_invert_.M rfl (bd_Word_invert_ T) pass0) (pv 5))) pa_nil)))) (pw_or1 (pt_not (pt_val (pe_meth (pe_op (TzOwn.op_own (ok_Word_add_ T) (hr.mono (by decide)) T.f_Word_add_.M (by decide +kernel) T.x_Word.sf (bd_Word_add_ T) pass0) (pv 4) (pv 5)) T.k_Word.cl T.f_Word_like.M (ok_Word_like T) (hr.mono (by decide)) (bd_Word_like T) .nil pass0 (pa_cons (pe_op (TzOwn.op_own (ok_Word_add_ T) (hr.mono (by decide)) T.f_Word_add_.M (by decide +kernel) T.x_Word.sf (bd_Word_add_ T) pass0) (pv 5) (pv 4)) pa_nil))))))) (pss_one (ps_ret pe_bl)) pss_nil)
      (pss_cons (ps_if (PW.pt (pw_or (pt_not (pt_val (pe_callQ (ok_law_apart_right T) gd (hr.mono (by decide)) (by rfl) T.f_law_apart_right.m T.f_law_apart_right.F.kp (bd_law_apart_right T) (pa_cons (pv 4) (pa_cons (pv 5) pa_nil))))) (pw_or1 (pt_not (pt_val (pe_callQ (ok_law_apart_right_int T) gd (hr.mono (by decide)) (by rfl) T.f_law_apart_right.m T.f_law_apart_right.F.kp (bd_law_apart_right T) (pa_cons (pv 4) (pa_cons (pv 2) pa_nil)))))))) (pss_one (ps_ret pe_bl)) pss_nil)
      (pss_one (ps_ret (pe_and (pe_call (ok_law_is T) (hr.mono (by decide)) (by rfl) T.f_law_is.m T.f_law_is.F.kp (bd_law_is T) .nil pass0 (pa_cons (pv 4) (pa_cons (pv 0) (pa_cons (pv 1) pa_nil)))) (pe_one (pe_call (ok_law_is T) (hr.mono (by decide)) (by rfl) T.f_law_is.m T.f_law_is.F.kp (bd_law_is T) .nil pass0 (pa_cons (pv 5) (pa_cons (pv 0) (pa_cons (pv 2) pa_nil))))))))))))))))), ?_⟩
    have et : (1 : Int) * 2 ^ (wd : Int).toNat - 1 = mw wd := by
      rw [Int.one_mul, Int.toNat_natCast]
      all_goals rfl
    refine ⟨_, rfl, _, _, rfl, rfl, ⟨by omega, by omega, by decide⟩, _, _, rfl, rfl, ?_⟩
    dsimp only
    rw [et]
    refine ⟨_, rfl, _, rfl, fun p dp np ndp _ => mk_word1 w1 w64 u0 u1 np ndp fun H1 e1 Wp1 => ⟨rfl, ?_⟩⟩
    refine ⟨_, rfl, _, rfl, fun q dq nq ndq _ => mk_word1 w1 w64 v0 v1 nq ndq fun H2 e2 Wq2 => ⟨rfl, ?_⟩⟩
    refine ⟨_, _, _, rfl, ?_⟩
    have Wp2 := Wp1.ex e2
    have E2 := e1.trans e2
    have R2 : Ws T.k_Word.C H2 wd [] [] := .nil
    refine ⟨_, rfl, _, rfl, _, rfl, wd, u, v, rfl, w1, w64, u0, u1, v0, v1, ?_⟩
    refine ⟨_, rfl, _, rfl, _, rfl, _, rfl, _, _, rfl, rfl, wd, u, mw wd - v, rfl, w1, w64, u0, u1, by omega, by omega, ?_⟩
    refine ⟨_, rfl, _, rfl, _, rfl, _, rfl, _, _, rfl, rfl, wd, v, mw wd - u, rfl, w1, w64, v0, v1, by omega, by omega, ?_⟩
    refine ⟨by show 3 ≤ sizeLine; decide, fun ld nld => ?_⟩
    (generalize g_H3 : upd _ ld _ = H3); have ldh_3 := gat g_H3; have e3 := gex g_H3 nld; clear g_H3
    have E3 := E2.trans e3
    have Wp3 := Wp2.ex e3
    have Wq3 := Wq2.ex e3
    have R3 := R2.fw fun _ _ h => h.ex e3
    clear E2 Wp2 Wq2 R2 
    refine ⟨_, rfl, _, rfl, g_add Wp3 Wq3 fun a1 H4 _ e4 W4 => ?_⟩
    have E4 := E3.trans e4
    have Wp4 := Wp3.ex e4
    have Wq4 := Wq3.ex e4
    have R4 := R3.fw fun _ _ h => h.ex e4
    have ldh_4 := e4 _ _ ldh_3
    clear E3 Wp3 Wq3 R3 ldh_3
    have R4 := R4.app (.cons W4 .nil)
    refine ⟨_, rfl, _, rfl, g_sub Wp4 Wq4 fun a2 H5 _ e5 W5 => ?_⟩
    have E5 := E4.trans e5
    have Wp5 := Wp4.ex e5
    have Wq5 := Wq4.ex e5
    have R5 := R4.fw fun _ _ h => h.ex e5
    have ldh_5 := e5 _ _ ldh_4
    clear E4 Wp4 Wq4 R4 ldh_4
    have R5 := R5.app (.cons W5 .nil)
    refine ⟨_, rfl, _, rfl, g_sub Wq5 Wp5 fun a3 H6 _ e6 W6 => ?_⟩
    have E6 := E5.trans e6
    have Wp6 := Wp5.ex e6
    have Wq6 := Wq5.ex e6
    have R6 := R5.fw fun _ _ h => h.ex e6
    have ldh_6 := e6 _ _ ldh_5
    clear E5 Wp5 Wq5 R5 ldh_5
    have R6 := R6.app (.cons W6 .nil)
    refine ⟨_, rfl, _, rfl, g_I Wp6 ⟨p, wd, u, v, rfl, Wp6, v0, v1, fun a4 H7 _ e7 W7 => ?_⟩⟩
    have E7 := E6.trans e7
    have Wp7 := Wp6.ex e7
    have Wq7 := Wq6.ex e7
    have R7 := R6.fw fun _ _ h => h.ex e7
    have ldh_7 := e7 _ _ ldh_6
    clear E6 Wp6 Wq6 R6 ldh_6
    have R7 := R7.app (.cons W7 .nil)
    refine ⟨_, rfl, _, rfl, g_I Wp7 ⟨p, wd, u, v, rfl, Wp7, v0, v1, fun a5 H8 _ e8 W8 => ?_⟩⟩
    have E8 := E7.trans e8
    have Wp8 := Wp7.ex e8
    have Wq8 := Wq7.ex e8
    have R8 := R7.fw fun _ _ h => h.ex e8
    have ldh_8 := e8 _ _ ldh_7
    clear E7 Wp7 Wq7 R7 ldh_7
    have R8 := R8.app (.cons W8 .nil)
    refine ⟨_, rfl, _, rfl, g_RI Wp8 ⟨p, wd, u, v, rfl, Wp8, v0, v1, fun a6 H9 _ e9 W9 => ?_⟩⟩
    have E9 := E8.trans e9
    have Wp9 := Wp8.ex e9
    have Wq9 := Wq8.ex e9
    have R9 := R8.fw fun _ _ h => h.ex e9
    have ldh_9 := e9 _ _ ldh_8
    clear E8 Wp8 Wq8 R8 ldh_8
    have R9 := R9.app (.cons W9 .nil)
    refine ⟨by show 6 ≤ sizeLine; decide, fun la nla => ?_⟩
    (generalize g_H10 : upd _ la _ = H10); have lah_10 := gat g_H10; have e10 := gex g_H10 nla; clear g_H10
    have E10 := E9.trans e10
    have Wp10 := Wp9.ex e10
    have Wq10 := Wq9.ex e10
    have R10 := R9.fw fun _ _ h => h.ex e10
    have ldh_10 := e10 _ _ ldh_9
    clear E9 Wp9 Wq9 R9 ldh_9
    refine ⟨_, rfl, _, rfl, _, rfl, g_RI Wq10 ⟨q, wd, v, u, rfl, Wq10, u0, u1, fun a7 H11 _ e11 W11 => ?_⟩⟩
    have E11 := E10.trans e11
    have Wp11 := Wp10.ex e11
    have Wq11 := Wq10.ex e11
    have R11 := R10.fw fun _ _ h => h.ex e11
    have ldh_11 := e11 _ _ ldh_10
    have lah_11 := e11 _ _ lah_10
    clear E10 Wp10 Wq10 R10 ldh_10 lah_10
    have R11 := R11.app (.cons W11 .nil)
    refine ⟨_, rfl, _, rfl, g_RI Wq11 ⟨q, wd, v, u, rfl, Wq11, u0, u1, fun a8 H12 _ e12 W12 => ?_⟩⟩
    have E12 := E11.trans e12
    have Wp12 := Wp11.ex e12
    have Wq12 := Wq11.ex e12
    have R12 := R11.fw fun _ _ h => h.ex e12
    have ldh_12 := e12 _ _ ldh_11
    have lah_12 := e12 _ _ lah_11
    clear E11 Wp11 Wq11 R11 ldh_11 lah_11
    have R12 := R12.app (.cons W12 .nil)
    refine ⟨_, rfl, _, rfl, g_I Wq12 ⟨q, wd, v, u, rfl, Wq12, u0, u1, fun a9 H13 _ e13 W13 => ?_⟩⟩
    have E13 := E12.trans e13
    have Wp13 := Wp12.ex e13
    have Wq13 := Wq12.ex e13
    have R13 := R12.fw fun _ _ h => h.ex e13
    have ldh_13 := e13 _ _ ldh_12
    have lah_13 := e13 _ _ lah_12
    clear E12 Wp12 Wq12 R12 ldh_12 lah_12
    have R13 := R13.app (.cons W13 .nil)
    refine ⟨_, rfl, g_inv Wp13 fun a10 H14 _ e14 W14 => ?_⟩
    have E14 := E13.trans e14
    have Wp14 := Wp13.ex e14
    have Wq14 := Wq13.ex e14
    have R14 := R13.fw fun _ _ h => h.ex e14
    have ldh_14 := e14 _ _ ldh_13
    have lah_14 := e14 _ _ lah_13
    clear E13 Wp13 Wq13 R13 ldh_13 lah_13
    have R14 := R14.app (.cons W14 .nil)
    refine ⟨by show 4 ≤ sizeLine; decide, fun lb nlb => ?_⟩
    (generalize g_H15 : upd _ lb _ = H15); have lbh_15 := gat g_H15; have e15 := gex g_H15 nlb; clear g_H15
    have E15 := E14.trans e15
    have Wp15 := Wp14.ex e15
    have Wq15 := Wq14.ex e15
    have R15 := R14.fw fun _ _ h => h.ex e15
    have ldh_15 := e15 _ _ ldh_14
    have lah_15 := e15 _ _ lah_14
    clear E14 Wp14 Wq14 R14 ldh_14 lah_14
    refine ⟨la, lb, _, _, rfl, rfl, lah_15, lbh_15, by show 10 ≤ sizeLine; decide, fun lc nlc => ?_⟩
    (generalize g_H16 : upd _ lc _ = H16); have lch_16 := gat g_H16; have e16 := gex g_H16 nlc; clear g_H16
    have E16 := E15.trans e16
    have Wp16 := Wp15.ex e16
    have Wq16 := Wq15.ex e16
    have R16 := R15.fw fun _ _ h => h.ex e16
    have ldh_16 := e16 _ _ ldh_15
    have lah_16 := e16 _ _ lah_15
    have lbh_16 := e16 _ _ lbh_15
    clear E15 Wp15 Wq15 R15 ldh_15 lah_15 lbh_15
    refine ⟨_, rfl, _, rfl, _, rfl, p, q, wd, u, v, rfl, Wp16, Wq16, fun le a11 a12 H17 e17 leh_17 V17 W17 => ?_⟩
    have E17 := E16.trans e17
    have Wp17 := Wp16.ex e17
    have Wq17 := Wq16.ex e17
    have R17 := R16.fw fun _ _ h => h.ex e17
    have ldh_17 := e17 _ _ ldh_16
    have lah_17 := e17 _ _ lah_16
    have lbh_17 := e17 _ _ lbh_16
    have lch_17 := e17 _ _ lch_16
    clear E16 Wp16 Wq16 R16 ldh_16 lah_16 lbh_16 lch_16
    have R17 := R17.app (.cons V17 (.cons W17 .nil))
    refine ⟨lc, le, _, _, rfl, rfl, lch_17, leh_17, by show 12 ≤ sizeLine; decide, fun lf nlf => ?_⟩
    (generalize g_H18 : upd _ lf _ = H18); have lfh_18 := gat g_H18; have e18 := gex g_H18 nlf; clear g_H18
    have E18 := E17.trans e18
    have Wp18 := Wp17.ex e18
    have Wq18 := Wq17.ex e18
    have R18 := R17.fw fun _ _ h => h.ex e18
    have ldh_18 := e18 _ _ ldh_17
    have lah_18 := e18 _ _ lah_17
    have lbh_18 := e18 _ _ lbh_17
    have lch_18 := e18 _ _ lch_17
    have leh_18 := e18 _ _ leh_17
    clear E17 Wp17 Wq17 R17 ldh_17 lah_17 lbh_17 lch_17 leh_17
    refine ⟨_, rfl, _, rfl, p, wd, u, v, rfl, Wp18, v0, v1, fun lg a13 a14 H19 e19 lgh_19 V19 W19 => ?_⟩
    have E19 := E18.trans e19
    have Wp19 := Wp18.ex e19
    have Wq19 := Wq18.ex e19
    have R19 := R18.fw fun _ _ h => h.ex e19
    have ldh_19 := e19 _ _ ldh_18
    have lah_19 := e19 _ _ lah_18
    have lbh_19 := e19 _ _ lbh_18
    have lch_19 := e19 _ _ lch_18
    have leh_19 := e19 _ _ leh_18
    have lfh_19 := e19 _ _ lfh_18
    clear E18 Wp18 Wq18 R18 ldh_18 lah_18 lbh_18 lch_18 leh_18 lfh_18
    have R19 := R19.app (.cons V19 (.cons W19 .nil))
    refine ⟨lf, lg, _, _, rfl, rfl, lfh_19, lgh_19, by show 14 ≤ sizeLine; decide, fun lh nlh => ?_⟩
    (generalize g_H20 : upd _ lh _ = H20); have lhh_20 := gat g_H20; have e20 := gex g_H20 nlh; clear g_H20
    have E20 := E19.trans e20
    have Wp20 := Wp19.ex e20
    have Wq20 := Wq19.ex e20
    have R20 := R19.fw fun _ _ h => h.ex e20
    have ldh_20 := e20 _ _ ldh_19
    have lah_20 := e20 _ _ lah_19
    have lbh_20 := e20 _ _ lbh_19
    have lch_20 := e20 _ _ lch_19
    have leh_20 := e20 _ _ leh_19
    have lfh_20 := e20 _ _ lfh_19
    have lgh_20 := e20 _ _ lgh_19
    clear E19 Wp19 Wq19 R19 ldh_19 lah_19 lbh_19 lch_19 leh_19 lfh_19 lgh_19
    refine ⟨_, rfl, _, rfl, ?_⟩
    refine ⟨ld, ld, _, _, rfl, rfl, ldh_20, ldh_20, by show 6 ≤ sizeLine; decide, fun lk nlk => ?_⟩
    (generalize g_H21 : upd _ lk _ = H21); have lkh_21 := gat g_H21; have e21 := gex g_H21 nlk; clear g_H21
    have E21 := E20.trans e21
    have Wp21 := Wp20.ex e21
    have Wq21 := Wq20.ex e21
    have R21 := R20.fw fun _ _ h => h.ex e21
    have ldh_21 := e21 _ _ ldh_20
    have lah_21 := e21 _ _ lah_20
    have lbh_21 := e21 _ _ lbh_20
    have lch_21 := e21 _ _ lch_20
    have leh_21 := e21 _ _ leh_20
    have lfh_21 := e21 _ _ lfh_20
    have lgh_21 := e21 _ _ lgh_20
    have lhh_21 := e21 _ _ lhh_20
    clear E20 Wp20 Wq20 R20 ldh_20 lah_20 lbh_20 lch_20 leh_20 lfh_20 lgh_20 lhh_20
    refine ⟨_, rfl, ld, _, 0, _, rfl, rfl, sq ldh_21, rfl, _, rfl, ld, _, 1, _, rfl, rfl, sq ldh_21, rfl, _, rfl, ld, _, 2, _, rfl, rfl, sq ldh_21, rfl, _, rfl, _, rfl, _, _, rfl, rfl, _, rfl, ld, _, 0, _, rfl, rfl, sq ldh_21, rfl, _, rfl, ld, _, 1, _, rfl, rfl, sq ldh_21, rfl, _, rfl, ld, _, 0, _, rfl, rfl, sq ldh_21, rfl, _, rfl, ld, _, 1, _, rfl, rfl, sq ldh_21, rfl, ?_⟩
    refine ⟨by show 8 ≤ sizeLine; decide, fun lm nlm => ?_⟩
    (generalize g_H22 : upd _ lm _ = H22); have lmh_22 := gat g_H22; have e22 := gex g_H22 nlm; clear g_H22
    have E22 := E21.trans e22
    have Wp22 := Wp21.ex e22
    have Wq22 := Wq21.ex e22
    have R22 := R21.fw fun _ _ h => h.ex e22
    have ldh_22 := e22 _ _ ldh_21
    have lah_22 := e22 _ _ lah_21
    have lbh_22 := e22 _ _ lbh_21
    have lch_22 := e22 _ _ lch_21
    have leh_22 := e22 _ _ leh_21
    have lfh_22 := e22 _ _ lfh_21
    have lgh_22 := e22 _ _ lgh_21
    have lhh_22 := e22 _ _ lhh_21
    have lkh_22 := e22 _ _ lkh_21
    clear E21 Wp21 Wq21 R21 ldh_21 lah_21 lbh_21 lch_21 leh_21 lfh_21 lgh_21 lhh_21 lkh_21
    refine ⟨lk, lm, _, _, rfl, rfl, lkh_22, lmh_22, by show 14 ≤ sizeLine; decide, fun lw nlw => ?_⟩
    (generalize g_H23 : upd _ lw _ = H23); have lwh_23 := gat g_H23; have e23 := gex g_H23 nlw; clear g_H23
    have E23 := E22.trans e23
    have Wp23 := Wp22.ex e23
    have Wq23 := Wq22.ex e23
    have R23 := R22.fw fun _ _ h => h.ex e23
    have ldh_23 := e23 _ _ ldh_22
    have lah_23 := e23 _ _ lah_22
    have lbh_23 := e23 _ _ lbh_22
    have lch_23 := e23 _ _ lch_22
    have leh_23 := e23 _ _ leh_22
    have lfh_23 := e23 _ _ lfh_22
    have lgh_23 := e23 _ _ lgh_22
    have lhh_23 := e23 _ _ lhh_22
    have lkh_23 := e23 _ _ lkh_22
    have lmh_23 := e23 _ _ lmh_22
    clear E22 Wp22 Wq22 R22 ldh_22 lah_22 lbh_22 lch_22 leh_22 lfh_22 lgh_22 lhh_22 lkh_22 lmh_22
    have hf : H23 lh = some (.lst (([a1, a2, a3, a4, a5, a6, a7, a8, a9, a10, a11, a12, a13, a14] : List Addr).map V.ref)) := lhh_23
    have hw : H23 lw = some (.lst (([cr wd (u + v), cr wd (u + (mw wd - v)), cr wd (v + (mw wd - u)), cr wd (u + v), cr wd (u + (mw wd - v)), cr wd (v + (mw wd - u)), cr wd (u + v), cr wd (u + (mw wd - v)), cr wd (v + (mw wd - u)), mw wd - u, cr wd (u + v), cr wd (u + (mw wd - v)), cr wd (u + v), cr wd (u + (mw wd - v))] : List Int).map V.int)) := lwh_23
    have R : Ws T.k_Word.C H23 wd [a1, a2, a3, a4, a5, a6, a7, a8, a9, a10, a11, a12, a13, a14] [cr wd (u + v), cr wd (u + (mw wd - v)), cr wd (v + (mw wd - u)), cr wd (u + v), cr wd (u + (mw wd - v)), cr wd (v + (mw wd - u)), cr wd (u + v), cr wd (u + (mw wd - v)), cr wd (v + (mw wd - u)), mw wd - u, cr wd (u + v), cr wd (u + (mw wd - v)), cr wd (u + v), cr wd (u + (mw wd - v))] := R23
    have fl : ([a1, a2, a3, a4, a5, a6, a7, a8, a9, a10, a11, a12, a13, a14] : List Addr).length = 14 := rfl
    generalize ([a1, a2, a3, a4, a5, a6, a7, a8, a9, a10, a11, a12, a13, a14] : List Addr) = xs at hf R fl
    generalize ([cr wd (u + v), cr wd (u + (mw wd - v)), cr wd (v + (mw wd - u)), cr wd (u + v), cr wd (u + (mw wd - v)), cr wd (v + (mw wd - u)), cr wd (u + v), cr wd (u + (mw wd - v)), cr wd (v + (mw wd - u)), mw wd - u, cr wd (u + v), cr wd (u + (mw wd - v)), cr wd (u + v), cr wd (u + (mw wd - v))] : List Int) = vs at hw R
    have Wp := Wp23
    have Wq := Wq23
    have E0 := E23
    clear R23 Wp23 Wq23 E23 ldh_23 lah_23 lbh_23 lch_23 leh_23 lfh_23 lgh_23 lhh_23 lkh_23 lmh_23 lwh_23
    have vl : (vs.map V.int).length = 14 := by rw [List.length_map, ← R.len, fl]
    refine ⟨_, rfl, lw, _, rfl, .inl (sq hw), ?_⟩
    rw [vl]
    refine ⟨_, rfl, by decide, by decide, for_range (n := 14) (fun i σ' H' => H' = H23 ∧ ∃ o9, σ' = [some (.int wd), some (.int u), some (.int v), some (.int (mw wd)), some (.ref p), some (.ref q), some (.ref ld), some (.ref lh), some (.ref lw), o9]) ⟨rfl, _, rfl⟩ ?_ ?_⟩
    · rintro i σ' H' hi ⟨rfl, o9, rfl⟩
      obtain ⟨x, val, hx, hv, Wx⟩ := R.get (i := i) (by omega)
      have gx : (xs.map V.ref)[i]? = some (.ref x) := by rw [List.getElem?_map, hx] <;> rfl
      have gv : (vs.map V.int)[i]? = some (.int val) := by rw [List.getElem?_map, hv] <;> rfl
      refine ⟨_, rfl, _, rfl, lh, _, _, _, rfl, rfl, sq hf, at_of (by omega) gx, ?_⟩
      refine ⟨_, rfl, _, rfl, _, rfl, lw, _, _, _, rfl, rfl, sq hw, at_of (by omega) gv, ?_⟩
      refine ⟨x, wd, val, rfl, Wx, ?_⟩
      refine ⟨_, rfl, iteF ?_⟩
      exact ⟨rfl, _, rfl⟩
    rintro σ' H' ⟨rfl, o9, rfl⟩
    clear R hf hw
    have nl : ∀ u : Int, (wf wd u).lookup ("like" : Str) = none := fun u => wf_no _ _ (by decide +kernel) (by decide +kernel) (by decide +kernel) (by decide +kernel) (by decide +kernel)
    refine ⟨_, rfl, _, rfl, g_sub Wp Wq fun x G1 _ g1 X => ?_⟩
    obtain ⟨dx, hx⟩ := X.ob
    refine ⟨x, dx, _, rfl, hx, nl _, ?_⟩
    refine ⟨_, rfl, _, rfl, g_inv (Wq.ex g1) fun y G2 _ g2 Y => ?_⟩
    refine g_add ((Wp.ex g1).ex g2) Y fun z G3 _ g3 Z => ?_
    refine ⟨x, z, wd, _, _, rfl, X.ex (g2.trans g3), Z, ?_⟩
    rw [decide_eq_true rfl]
    refine ⟨_, rfl, iteF ?_⟩
    have g13 := (g1.trans g2).trans g3
    have Wp3 := Wp.ex g13
    have Wq3 := Wq.ex g13
    have E3 := E0.trans g13
    refine ⟨_, rfl, _, rfl, g_add Wp3 Wq3 fun x G4 _ g4 X => ?_⟩
    obtain ⟨dx, hx⟩ := X.ob
    refine ⟨x, dx, _, rfl, hx, nl _, ?_⟩
    refine ⟨_, rfl, _, rfl, g_add (Wq3.ex g4) (Wp3.ex g4) fun y G5 _ g5 Y => ?_⟩
    refine ⟨x, y, wd, _, _, rfl, X.ex g5, Y, ?_⟩
    rw [decide_eq_true (by rw [Int.add_comm v u])]
    refine ⟨_, rfl, iteF ?_⟩
    have g45 := g4.trans g5
    have Wp5 := Wp3.ex g45
    have Wq5 := Wq3.ex g45
    have E5 := E3.trans g45
    refine ⟨_, rfl, _, rfl, p, q, wd, u, v, rfl, Wp5, Wq5, fun G6 g6 => ⟨_, rfl, iteF ?_⟩⟩
    refine ⟨_, rfl, _, rfl, p, wd, u, v, rfl, Wp5.ex g6, v0, v1, fun G7 g7 => ⟨_, rfl, iteF ?_⟩⟩
    have g67 := g6.trans g7
    refine ⟨_, rfl, _, rfl, _, rfl, p, wd, u, rfl, Wp5.ex g67, ?_⟩
    refine ⟨_, rfl, iteT ?_⟩
    refine ⟨_, rfl, _, rfl, _, rfl, q, wd, v, rfl, Wq5.ex g67, ?_⟩
    exact k _ (E5.trans g67)
theorem ok_law (T : Tx K mg) : FnQ P w K mg base 11 T.f_law.a T.f_law.fd ["_law_script"] (spLaw K) := by
  refine fnq T.f_law.F sc_law (fun vs H Q E h => ?_) (fun cdv A outer s H vs Q gd hr h => ?_)
  · obtain ⟨a, ns, rfl, _⟩ := h
    rfl
  · obtain ⟨a, ns, rfl, hS, hl, k⟩ := h
    refine ⟨_, (pss_cons (ps_set (i := 1) sc_law.nd rfl (Or.inl rfl) (pe_call (ok_law_pen T) (hr.mono (by decide)) (by rfl) T.f_law_pen.m T.f_law_pen.F.kp (bd_law_pen T) .nil pass0 (pa_cons (pv 0) pa_nil)))
      (pss_cons (ps_for PassesOwn.never rfl (pi_range1 (by rfl) T.b_range (pa_cons pe_int pa_nil)) (pg_name (i := 2) sc_law.nd rfl (Or.inl rfl)) (pss_cons (ps_set (i := 3) sc_law.nd rfl (Or.inl rfl) (pe_call (ok_law_width T) (hr.mono (by decide)) (by rfl) T.f_law_width.m T.f_law_width.F.kp (bd_law_width T) .nil pass0 (pa_cons (pv 1) pa_nil)))
      (pss_cons (ps_par (i := 4) (j := 5) (by rfl) sc_law.nd rfl rfl (by decide) rfl rfl (pa_cons (pe_call (ok_law_value T) (hr.mono (by decide)) (by rfl) T.f_law_value.m T.f_law_value.F.kp (bd_law_value T) .nil pass0 (pa_cons (pv 1) (pa_cons (pv 3) pa_nil))) (pa_cons (pe_call (ok_law_value T) (hr.mono (by decide)) (by rfl) T.f_law_value.m T.f_law_value.F.kp (bd_law_value T) .nil pass0 (pa_cons (pv 1) (pa_cons (pv 3) pa_nil))) pa_nil)) (by rfl))
      (pss_cons (ps_set (i := 6) sc_law.nd rfl (Or.inl rfl) (pe_call (ok_law_draw T) (hr.mono (by decide)) (by rfl) T.f_law_draw.m T.f_law_draw.F.kp (bd_law_draw T) .nil pass0 (pa_cons (pv 1) (pa_cons pe_int pa_nil))))
      (Evl.pss_cut (ps_if (pt_cmpR op_eq (pv 6) pe_int (nomark _)) (pss_one (ps_set (i := 5) sc_law.nd rfl (Or.inl rfl) (pe_op op_sub (pe_op op_sub (pe_op op_shl pe_int (pv 3)) pe_int) (pv 4)))) pss_nil)
      (Evl.pss_cut (ps_if (pt_cmpR op_eq (pv 6) pe_int (nomark _)) (pss_one (ps_set (i := 5) sc_law.nd rfl (Or.inl rfl) (pv 4))) pss_nil)
      (pss_one (ps_if (pt_not (pt_val (pe_callQ (ok_law_right T) gd (hr.mono (by decide)) (by rfl) T.f_law_right.m T.f_law_right.F.kp (bd_law_right T) (pa_cons (pv 3) (pa_cons (pv 4) (pa_cons (pv 5) pa_nil)))))) (pss_one (ps_ret pe_bl)) pss_nil))))))))
      (pss_one (ps_ret pe_bl)))), ?_⟩
    refine ⟨_, rfl, a, ns, rfl, hS, hl, fun z c H1 P1 e1 nz nc => ?_⟩
    refine ⟨8, rfl, by decide, by decide, for_range (n := 8) (fun i σ' H' => PenAt H' z c ns (i * 200) ∧ ∃ o2 o3 o4 o5 o6, σ' = [some (.ref a), some (.ref z), o2, o3, o4, o5, o6]) ⟨P1, _, _, _, _, _, rfl⟩ ?_ ?_⟩
    · rintro i σ' H2 hi ⟨P2, o2, o3, o4, o5, o6, rfl⟩
      refine ⟨_, rfl, z, c, ns, i * 200, rfl, P2, by omega, fun wd H3 w1 w64 P3 f3 => ?_⟩
      obtain ⟨wd, rfl⟩ : ∃ n : Nat, wd = (n : Int) := ⟨wd.toNat, by omega⟩
      have P3 : PenAt H3 z c ns (i * 200 + 2) := P3
      have hM := mw_pos (w := wd) (by omega)
      refine ⟨_, rfl, _, rfl, z, c, ns, i * 200 + 2, wd, rfl, P3, by omega, by omega, by omega, fun v H4 v0 v1 P4 f4 => ?_⟩
      refine ⟨_, rfl, _, rfl, z, c, ns, i * 200 + 5, wd, rfl, P4, by omega, by omega, by omega, fun b H5 b0 b1 P5 f5 => ?_⟩
      refine ⟨_, _, rfl, ?_⟩
      have v1 := mw_lt.mp v1
      have b1 := mw_lt.mp b1
      refine ⟨_, rfl, z, c, ns, i * 200 + 8, 5, rfl, P5, by omega, by decide, by decide, fun y H6 y0 y1 P6 f6 => ?_⟩
      have et : (1 : Int) * 2 ^ (wd : Int).toNat - 1 = mw wd := by
        rw [Int.one_mul, Int.toNat_natCast]
        all_goals rfl
      refine ⟨fun σ' H' => ∃ b2 : Int, 0 ≤ b2 ∧ b2 ≤ mw wd ∧ H' = H6 ∧ σ' = [some (.ref a), some (.ref z), some (.int (0 + (i : Int))), some (.int wd), some (.int v), some (.int b2), some (.int y)], ?_, ?_⟩
      · refine ⟨_, rfl, rfl, _, rfl, ?_⟩
        refine ite2 (fun _ => ?_) (fun _ => ⟨b, b0, b1, rfl, rfl⟩)
        refine ⟨_, rfl, _, _, rfl, rfl, ⟨by omega, by omega, by decide⟩, _, _, rfl, rfl, _, rfl, _, _, rfl, rfl, ?_⟩
        dsimp only
        rw [et]
        exact ⟨mw wd - v, by omega, by omega, rfl, rfl⟩
      rintro σ' H6 ⟨b2, c0, c1, rfl, rfl⟩
      refine ⟨fun σ' H' => ∃ b2 : Int, 0 ≤ b2 ∧ b2 ≤ mw wd ∧ H' = H6 ∧ σ' = [some (.ref a), some (.ref z), some (.int (0 + (i : Int))), some (.int wd), some (.int v), some (.int b2), some (.int y)], ?_, ?_⟩
      · refine ⟨_, rfl, rfl, _, rfl, ?_⟩
        refine ite2 (fun _ => ?_) (fun _ => ⟨b2, c0, c1, rfl, rfl⟩)
        refine ⟨_, rfl, ?_⟩
        exact ⟨v, v0, v1, rfl, rfl⟩
      rintro σ' H6 ⟨b3, d0, d1, rfl, rfl⟩
      refine ⟨_, rfl, _, rfl, _, rfl, wd, v, b3, rfl, by omega, by omega, v0, v1, d0, d1, fun H7 e7 => ?_⟩
      refine ⟨_, rfl, iteF ?_⟩
      exact ⟨(P6.ex e7).mono (by omega), _, _, _, _, _, rfl⟩
    · rintro σ' H2 ⟨P2, o2, o3, o4, o5, o6, rfl⟩
      exact k H2
end
theorem all_mk {l : PySem.W.OpenLaw} {w : World} {K : PySem.W.Frag} {h : Heap} {mg : Str → Option Value} {fa : Addr} (X : K.In h) (G : h.Ns mainGlobals mg) (hfa : mg "law" = some (.ref fa))
    {C_Word : Addr}
    {t_Word_MOST_WIDTH : Tok}
    {cd_Word : ClassData}
    {fo_add ro_add : Option Value}
    {fo_sub ro_sub : Option Value}
    {fo_xor ro_xor : Option Value}
    {f_is_whole : Addr} {od_is_whole an_is_whole : Option Addr} {sl_is_whole : Array (Option Value)} {oc_is_whole kV_is_whole dc_is_whole pm_is_whole cd_is_whole ct_is_whole : Value}
    {f_is_from : Addr} {od_is_from an_is_from : Option Addr} {sl_is_from : Array (Option Value)} {oc_is_from kV_is_from dc_is_from pm_is_from cd_is_from ct_is_from : Value}
    {f_most_value : Addr} {od_most_value an_most_value : Option Addr} {sl_most_value : Array (Option Value)} {oc_most_value kV_most_value dc_most_value pm_most_value cd_most_value ct_most_value : Value}
    {f_checked_width : Addr} {od_checked_width an_checked_width : Option Addr} {sl_checked_width : Array (Option Value)} {oc_checked_width kV_checked_width dc_checked_width pm_checked_width cd_checked_width ct_checked_width : Value}
    {f_Word_init_ : Addr} {od_Word_init_ an_Word_init_ : Option Addr} {sl_Word_init_ : Array (Option Value)} {oc_Word_init_ kV_Word_init_ dc_Word_init_ pm_Word_init_ cd_Word_init_ ct_Word_init_ : Value}
    {f_carried_round : Addr} {od_carried_round an_carried_round : Option Addr} {sl_carried_round : Array (Option Value)} {oc_carried_round kV_carried_round dc_carried_round pm_carried_round cd_carried_round ct_carried_round : Value}
    {f_sum_word : Addr} {od_sum_word an_sum_word : Option Addr} {sl_sum_word : Array (Option Value)} {oc_sum_word kV_sum_word dc_sum_word pm_sum_word cd_sum_word ct_sum_word : Value}
    {f_difference_word : Addr} {od_difference_word an_difference_word : Option Addr} {sl_difference_word : Array (Option Value)} {oc_difference_word kV_difference_word dc_difference_word pm_difference_word cd_difference_word ct_difference_word : Value}
    {f_operand_value : Addr} {od_operand_value an_operand_value : Option Addr} {sl_operand_value : Array (Option Value)} {oc_operand_value kV_operand_value dc_operand_value pm_operand_value cd_operand_value ct_operand_value : Value}
    {f_found_value : Addr} {od_found_value an_found_value : Option Addr} {sl_found_value : Array (Option Value)} {oc_found_value kV_found_value dc_found_value pm_found_value cd_found_value ct_found_value : Value}
    {f_checked_value : Addr} {od_checked_value an_checked_value : Option Addr} {sl_checked_value : Array (Option Value)} {oc_checked_value kV_checked_value dc_checked_value pm_checked_value cd_checked_value ct_checked_value : Value}
    {f_Word_add_ : Addr} {od_Word_add_ an_Word_add_ : Option Addr} {sl_Word_add_ : Array (Option Value)} {oc_Word_add_ kV_Word_add_ dc_Word_add_ pm_Word_add_ cd_Word_add_ ct_Word_add_ : Value}
    {f_Word_radd_ : Addr} {od_Word_radd_ an_Word_radd_ : Option Addr} {sl_Word_radd_ : Array (Option Value)} {oc_Word_radd_ kV_Word_radd_ dc_Word_radd_ pm_Word_radd_ cd_Word_radd_ ct_Word_radd_ : Value}
    {f_Word_sub_ : Addr} {od_Word_sub_ an_Word_sub_ : Option Addr} {sl_Word_sub_ : Array (Option Value)} {oc_Word_sub_ kV_Word_sub_ dc_Word_sub_ pm_Word_sub_ cd_Word_sub_ ct_Word_sub_ : Value}
    {f_Word_rsub_ : Addr} {od_Word_rsub_ an_Word_rsub_ : Option Addr} {sl_Word_rsub_ : Array (Option Value)} {oc_Word_rsub_ kV_Word_rsub_ dc_Word_rsub_ pm_Word_rsub_ cd_Word_rsub_ ct_Word_rsub_ : Value}
    {f_Word_xor_ : Addr} {od_Word_xor_ an_Word_xor_ : Option Addr} {sl_Word_xor_ : Array (Option Value)} {oc_Word_xor_ kV_Word_xor_ dc_Word_xor_ pm_Word_xor_ cd_Word_xor_ ct_Word_xor_ : Value}
    {f_Word_rxor_ : Addr} {od_Word_rxor_ an_Word_rxor_ : Option Addr} {sl_Word_rxor_ : Array (Option Value)} {oc_Word_rxor_ kV_Word_rxor_ dc_Word_rxor_ pm_Word_rxor_ cd_Word_rxor_ ct_Word_rxor_ : Value}
    {f_Word_invert_ : Addr} {od_Word_invert_ an_Word_invert_ : Option Addr} {sl_Word_invert_ : Array (Option Value)} {oc_Word_invert_ kV_Word_invert_ dc_Word_invert_ pm_Word_invert_ cd_Word_invert_ ct_Word_invert_ : Value}
    {f_Word_like : Addr} {od_Word_like an_Word_like : Option Addr} {sl_Word_like : Array (Option Value)} {oc_Word_like kV_Word_like dc_Word_like pm_Word_like cd_Word_like ct_Word_like : Value}
    {f_Word_repr_ : Addr} {od_Word_repr_ an_Word_repr_ : Option Addr} {sl_Word_repr_ : Array (Option Value)} {oc_Word_repr_ kV_Word_repr_ dc_Word_repr_ pm_Word_repr_ cd_Word_repr_ ct_Word_repr_ : Value}
    {f_law_pen : Addr} {od_law_pen an_law_pen : Option Addr} {sl_law_pen : Array (Option Value)} {oc_law_pen kV_law_pen dc_law_pen pm_law_pen cd_law_pen ct_law_pen : Value}
    {f_law_draw : Addr} {od_law_draw an_law_draw : Option Addr} {sl_law_draw : Array (Option Value)} {oc_law_draw kV_law_draw dc_law_draw pm_law_draw cd_law_draw ct_law_draw : Value}
    {f_law_width : Addr} {od_law_width an_law_width : Option Addr} {sl_law_width : Array (Option Value)} {oc_law_width kV_law_width dc_law_width pm_law_width cd_law_width ct_law_width : Value}
    {f_law_value : Addr} {od_law_value an_law_value : Option Addr} {sl_law_value : Array (Option Value)} {oc_law_value kV_law_value dc_law_value pm_law_value cd_law_value ct_law_value : Value}
    {f_law_is : Addr} {od_law_is an_law_is : Option Addr} {sl_law_is : Array (Option Value)} {oc_law_is kV_law_is dc_law_is pm_law_is cd_law_is ct_law_is : Value}
    {f_law_sum : Addr} {od_law_sum an_law_sum : Option Addr} {sl_law_sum : Array (Option Value)} {oc_law_sum kV_law_sum dc_law_sum pm_law_sum cd_law_sum ct_law_sum : Value}
    {f_law_in_place : Addr} {od_law_in_place an_law_in_place : Option Addr} {sl_law_in_place : Array (Option Value)} {oc_law_in_place kV_law_in_place dc_law_in_place pm_law_in_place cd_law_in_place ct_law_in_place : Value}
    {f_law_apart_right : Addr} {od_law_apart_right an_law_apart_right : Option Addr} {sl_law_apart_right : Array (Option Value)} {oc_law_apart_right kV_law_apart_right dc_law_apart_right pm_law_apart_right cd_law_apart_right ct_law_apart_right : Value}
    {f_law_right : Addr} {od_law_right an_law_right : Option Addr} {sl_law_right : Array (Option Value)} {oc_law_right kV_law_right dc_law_right pm_law_right cd_law_right ct_law_right : Value}
    {f_law : Addr} {od_law an_law : Option Addr} {sl_law : Array (Option Value)} {oc_law kV_law dc_law pm_law cd_law ct_law : Value}
    (b_int : PySem.W.nsIn K mainGlobals "int" = some none)
    (b_len : PySem.W.nsIn K mainGlobals "len" = some none)
    (b_abs : PySem.W.nsIn K mainGlobals "abs" = some none)
    (b_list : PySem.W.nsIn K mainGlobals "list" = some none)
    (b_isinstance : PySem.W.nsIn K mainGlobals "isinstance" = some none)
    (b_bool : PySem.W.nsIn K mainGlobals "bool" = some none)
    (b_range : PySem.W.nsIn K mainGlobals "range" = some none)
    (b_repr : PySem.W.nsIn K mainGlobals "repr" = some none)
    (kC_Word : PySem.W.nsIn K mainGlobals "Word" = some (some (.ref C_Word)))
    (kg_Word : PySem.W.plainGet K C_Word Str.empty = true)
    (kh_Word : PySem.W.hasDictIn K C_Word = true)
    (ko_Word : PySem.W.plainOver K C_Word = true)
    (ks_Word : PySem.W.findIn K (.ref C_Word) "__setattr__" = some (some (.builtin "object.__setattr__")))
    (km_Word : PySem.W.makesIn K C_Word = true)
    (kk_Word : PySem.W.keepIn K (.ref C_Word) = true)
    (n_Word_width : PySem.W.findIn K (.ref C_Word) "width" = some none)
    (n_Word_value : PySem.W.findIn K (.ref C_Word) "value" = some none)
    (n_Word_rest : PySem.W.findIn K (.ref C_Word) "rest" = some none)
    (n_Word_is_empty : PySem.W.findIn K (.ref C_Word) "is_empty" = some none)
    (n_Word_is_full : PySem.W.findIn K (.ref C_Word) "is_full" = some none)
    (x1_Word : PySem.W.readsIn K C_Word (.type "type") = true)
    (x2_Word : PySem.W.specialIn K (.ref C_Word) "__getattribute__" = some (some (.builtin "type.__getattribute__")))
    (x3_Word : PySem.W.selfFirst K C_Word = true)
    (x4_Word : PySem.W.findIn K (.ref C_Word) "__class__" = some (some (.builtin "object.__class__")))
    (x5_Word : PySem.W.specialIn K (.builtin "object.__class__") "__get__" = some (some (.builtin "getset_descriptor.__get__")))
    (x6_Word : PySem.W.takesIn K (.builtin "object.__class__") = some true)
    (x7_Word : PySem.W.mroIn K C_Word (.type "object") = some true)
    (x8_Word : PySem.W.subIn K (.type "int") (.ref C_Word) = some false)
    (x9_Word : PySem.W.subIn K (.ref C_Word) (.type "int") = some false)
    (xa_Word : PySem.W.isClsIn K C_Word = true)
    (xb_Word : PySem.W.typeIn K (.ref C_Word) = some (.type "type"))
    (cc_Word_MOST_WIDTH : PySem.W.findCls K (.ref C_Word) (.type "type") "MOST_WIDTH" = some (.val (.int 64 t_Word_MOST_WIDTH)))
    (jc_Word : PySem.W.clsIn K C_Word = some cd_Word)
    (jm_Word : cd_Word.mro = [.ref C_Word, .type "object"])
    (j1_iadd : PySem.W.findIn K (.ref C_Word) "__iadd__" = some none)
    (j2_iadd : PySem.W.findIn K (.type "object") "__iadd__" = some none)
    (j1_isub : PySem.W.findIn K (.ref C_Word) "__isub__" = some none)
    (j2_isub : PySem.W.findIn K (.type "object") "__isub__" = some none)
    (j1_ixor : PySem.W.findIn K (.ref C_Word) "__ixor__" = some none)
    (j2_ixor : PySem.W.findIn K (.type "object") "__ixor__" = some none)
    (g1_add : PySem.W.findIn K (.type "int") "__add__" = some fo_add)
    (g2_add : PySem.W.findIn K (.type "int") "__radd__" = some ro_add)
    (g1_sub : PySem.W.findIn K (.type "int") "__sub__" = some fo_sub)
    (g2_sub : PySem.W.findIn K (.type "int") "__rsub__" = some ro_sub)
    (g1_xor : PySem.W.findIn K (.type "int") "__xor__" = some fo_xor)
    (g2_xor : PySem.W.findIn K (.type "int") "__rxor__" = some ro_xor)
    (a_is_whole : PySem.W.nsIn K mainGlobals "is_whole" = some (some (.ref f_is_whole)))
    (l_is_whole : K.lookup f_is_whole = some ⟨oc_is_whole, od_is_whole, .func (PySem.W.fnOf "is_whole" "is_whole" (defArgs s_is_whole) (defBody s_is_whole) (defScope s_is_whole) .none kV_is_whole dc_is_whole pm_is_whole an_is_whole cd_is_whole ct_is_whole), sl_is_whole⟩)
    (c_is_whole : PySem.W.codeIn K cd_is_whole "is_whole" = true)
    (q_is_whole : PySem.W.keepIn K (.ref f_is_whole) = true)
    (a_is_from : PySem.W.nsIn K mainGlobals "is_from" = some (some (.ref f_is_from)))
    (l_is_from : K.lookup f_is_from = some ⟨oc_is_from, od_is_from, .func (PySem.W.fnOf "is_from" "is_from" (defArgs s_is_from) (defBody s_is_from) (defScope s_is_from) .none kV_is_from dc_is_from pm_is_from an_is_from cd_is_from ct_is_from), sl_is_from⟩)
    (c_is_from : PySem.W.codeIn K cd_is_from "is_from" = true)
    (q_is_from : PySem.W.keepIn K (.ref f_is_from) = true)
    (a_most_value : PySem.W.nsIn K mainGlobals "most_value" = some (some (.ref f_most_value)))
    (l_most_value : K.lookup f_most_value = some ⟨oc_most_value, od_most_value, .func (PySem.W.fnOf "most_value" "most_value" (defArgs s_most_value) (defBody s_most_value) (defScope s_most_value) .none kV_most_value dc_most_value pm_most_value an_most_value cd_most_value ct_most_value), sl_most_value⟩)
    (c_most_value : PySem.W.codeIn K cd_most_value "most_value" = true)
    (q_most_value : PySem.W.keepIn K (.ref f_most_value) = true)
    (a_checked_width : PySem.W.nsIn K mainGlobals "checked_width" = some (some (.ref f_checked_width)))
    (l_checked_width : K.lookup f_checked_width = some ⟨oc_checked_width, od_checked_width, .func (PySem.W.fnOf "checked_width" "checked_width" (defArgs s_checked_width) (defBody s_checked_width) (defScope s_checked_width) .none kV_checked_width dc_checked_width pm_checked_width an_checked_width cd_checked_width ct_checked_width), sl_checked_width⟩)
    (c_checked_width : PySem.W.codeIn K cd_checked_width "checked_width" = true)
    (q_checked_width : PySem.W.keepIn K (.ref f_checked_width) = true)
    (a_Word_init_ : PySem.W.findIn K (.ref C_Word) "__init__" = some (some (.ref f_Word_init_)))
    (i_Word_init_ : PySem.W.isFn K (.ref f_Word_init_) = true)
    (l_Word_init_ : K.lookup f_Word_init_ = some ⟨oc_Word_init_, od_Word_init_, .func (PySem.W.fnOf "__init__" "Word.__init__" (defArgs s_Word_init_) (defBody s_Word_init_) (defScope s_Word_init_) .none kV_Word_init_ dc_Word_init_ pm_Word_init_ an_Word_init_ cd_Word_init_ ct_Word_init_), sl_Word_init_⟩)
    (c_Word_init_ : PySem.W.codeIn K cd_Word_init_ "Word.__init__" = true)
    (q_Word_init_ : PySem.W.keepIn K (.ref f_Word_init_) = true)
    (a_carried_round : PySem.W.nsIn K mainGlobals "carried_round" = some (some (.ref f_carried_round)))
    (l_carried_round : K.lookup f_carried_round = some ⟨oc_carried_round, od_carried_round, .func (PySem.W.fnOf "carried_round" "carried_round" (defArgs s_carried_round) (defBody s_carried_round) (defScope s_carried_round) .none kV_carried_round dc_carried_round pm_carried_round an_carried_round cd_carried_round ct_carried_round), sl_carried_round⟩)
    (c_carried_round : PySem.W.codeIn K cd_carried_round "carried_round" = true)
    (q_carried_round : PySem.W.keepIn K (.ref f_carried_round) = true)
    (a_sum_word : PySem.W.nsIn K mainGlobals "sum_word" = some (some (.ref f_sum_word)))
    (l_sum_word : K.lookup f_sum_word = some ⟨oc_sum_word, od_sum_word, .func (PySem.W.fnOf "sum_word" "sum_word" (defArgs s_sum_word) (defBody s_sum_word) (defScope s_sum_word) .none kV_sum_word dc_sum_word pm_sum_word an_sum_word cd_sum_word ct_sum_word), sl_sum_word⟩)
    (c_sum_word : PySem.W.codeIn K cd_sum_word "sum_word" = true)
    (q_sum_word : PySem.W.keepIn K (.ref f_sum_word) = true)
    (a_difference_word : PySem.W.nsIn K mainGlobals "difference_word" = some (some (.ref f_difference_word)))
    (l_difference_word : K.lookup f_difference_word = some ⟨oc_difference_word, od_difference_word, .func (PySem.W.fnOf "difference_word" "difference_word" (defArgs s_difference_word) (defBody s_difference_word) (defScope s_difference_word) .none kV_difference_word dc_difference_word pm_difference_word an_difference_word cd_difference_word ct_difference_word), sl_difference_word⟩)
    (c_difference_word : PySem.W.codeIn K cd_difference_word "difference_word" = true)
    (q_difference_word : PySem.W.keepIn K (.ref f_difference_word) = true)
    (a_operand_value : PySem.W.nsIn K mainGlobals "operand_value" = some (some (.ref f_operand_value)))
    (l_operand_value : K.lookup f_operand_value = some ⟨oc_operand_value, od_operand_value, .func (PySem.W.fnOf "operand_value" "operand_value" (defArgs s_operand_value) (defBody s_operand_value) (defScope s_operand_value) .none kV_operand_value dc_operand_value pm_operand_value an_operand_value cd_operand_value ct_operand_value), sl_operand_value⟩)
    (c_operand_value : PySem.W.codeIn K cd_operand_value "operand_value" = true)
    (q_operand_value : PySem.W.keepIn K (.ref f_operand_value) = true)
    (a_found_value : PySem.W.nsIn K mainGlobals "found_value" = some (some (.ref f_found_value)))
    (l_found_value : K.lookup f_found_value = some ⟨oc_found_value, od_found_value, .func (PySem.W.fnOf "found_value" "found_value" (defArgs s_found_value) (defBody s_found_value) (defScope s_found_value) .none kV_found_value dc_found_value pm_found_value an_found_value cd_found_value ct_found_value), sl_found_value⟩)
    (c_found_value : PySem.W.codeIn K cd_found_value "found_value" = true)
    (q_found_value : PySem.W.keepIn K (.ref f_found_value) = true)
    (a_checked_value : PySem.W.nsIn K mainGlobals "checked_value" = some (some (.ref f_checked_value)))
    (l_checked_value : K.lookup f_checked_value = some ⟨oc_checked_value, od_checked_value, .func (PySem.W.fnOf "checked_value" "checked_value" (defArgs s_checked_value) (defBody s_checked_value) (defScope s_checked_value) .none kV_checked_value dc_checked_value pm_checked_value an_checked_value cd_checked_value ct_checked_value), sl_checked_value⟩)
    (c_checked_value : PySem.W.codeIn K cd_checked_value "checked_value" = true)
    (q_checked_value : PySem.W.keepIn K (.ref f_checked_value) = true)
    (a_Word_add_ : PySem.W.findIn K (.ref C_Word) "__add__" = some (some (.ref f_Word_add_)))
    (i_Word_add_ : PySem.W.isFn K (.ref f_Word_add_) = true)
    (l_Word_add_ : K.lookup f_Word_add_ = some ⟨oc_Word_add_, od_Word_add_, .func (PySem.W.fnOf "__add__" "Word.__add__" (defArgs s_Word_add_) (defBody s_Word_add_) (defScope s_Word_add_) .none kV_Word_add_ dc_Word_add_ pm_Word_add_ an_Word_add_ cd_Word_add_ ct_Word_add_), sl_Word_add_⟩)
    (c_Word_add_ : PySem.W.codeIn K cd_Word_add_ "Word.__add__" = true)
    (q_Word_add_ : PySem.W.keepIn K (.ref f_Word_add_) = true)
    (a_Word_radd_ : PySem.W.findIn K (.ref C_Word) "__radd__" = some (some (.ref f_Word_radd_)))
    (i_Word_radd_ : PySem.W.isFn K (.ref f_Word_radd_) = true)
    (l_Word_radd_ : K.lookup f_Word_radd_ = some ⟨oc_Word_radd_, od_Word_radd_, .func (PySem.W.fnOf "__radd__" "Word.__radd__" (defArgs s_Word_radd_) (defBody s_Word_radd_) (defScope s_Word_radd_) .none kV_Word_radd_ dc_Word_radd_ pm_Word_radd_ an_Word_radd_ cd_Word_radd_ ct_Word_radd_), sl_Word_radd_⟩)
    (c_Word_radd_ : PySem.W.codeIn K cd_Word_radd_ "Word.__radd__" = true)
    (q_Word_radd_ : PySem.W.keepIn K (.ref f_Word_radd_) = true)
    (a_Word_sub_ : PySem.W.findIn K (.ref C_Word) "__sub__" = some (some (.ref f_Word_sub_)))
    (i_Word_sub_ : PySem.W.isFn K (.ref f_Word_sub_) = true)
    (l_Word_sub_ : K.lookup f_Word_sub_ = some ⟨oc_Word_sub_, od_Word_sub_, .func (PySem.W.fnOf "__sub__" "Word.__sub__" (defArgs s_Word_sub_) (defBody s_Word_sub_) (defScope s_Word_sub_) .none kV_Word_sub_ dc_Word_sub_ pm_Word_sub_ an_Word_sub_ cd_Word_sub_ ct_Word_sub_), sl_Word_sub_⟩)
    (c_Word_sub_ : PySem.W.codeIn K cd_Word_sub_ "Word.__sub__" = true)
    (q_Word_sub_ : PySem.W.keepIn K (.ref f_Word_sub_) = true)
    (a_Word_rsub_ : PySem.W.findIn K (.ref C_Word) "__rsub__" = some (some (.ref f_Word_rsub_)))
    (i_Word_rsub_ : PySem.W.isFn K (.ref f_Word_rsub_) = true)
    (l_Word_rsub_ : K.lookup f_Word_rsub_ = some ⟨oc_Word_rsub_, od_Word_rsub_, .func (PySem.W.fnOf "__rsub__" "Word.__rsub__" (defArgs s_Word_rsub_) (defBody s_Word_rsub_) (defScope s_Word_rsub_) .none kV_Word_rsub_ dc_Word_rsub_ pm_Word_rsub_ an_Word_rsub_ cd_Word_rsub_ ct_Word_rsub_), sl_Word_rsub_⟩)
    (c_Word_rsub_ : PySem.W.codeIn K cd_Word_rsub_ "Word.__rsub__" = true)
    (q_Word_rsub_ : PySem.W.keepIn K (.ref f_Word_rsub_) = true)
    (a_Word_xor_ : PySem.W.findIn K (.ref C_Word) "__xor__" = some (some (.ref f_Word_xor_)))
    (i_Word_xor_ : PySem.W.isFn K (.ref f_Word_xor_) = true)
    (l_Word_xor_ : K.lookup f_Word_xor_ = some ⟨oc_Word_xor_, od_Word_xor_, .func (PySem.W.fnOf "__xor__" "Word.__xor__" (defArgs s_Word_xor_) (defBody s_Word_xor_) (defScope s_Word_xor_) .none kV_Word_xor_ dc_Word_xor_ pm_Word_xor_ an_Word_xor_ cd_Word_xor_ ct_Word_xor_), sl_Word_xor_⟩)
    (c_Word_xor_ : PySem.W.codeIn K cd_Word_xor_ "Word.__xor__" = true)
    (q_Word_xor_ : PySem.W.keepIn K (.ref f_Word_xor_) = true)
    (a_Word_rxor_ : PySem.W.findIn K (.ref C_Word) "__rxor__" = some (some (.ref f_Word_rxor_)))
    (i_Word_rxor_ : PySem.W.isFn K (.ref f_Word_rxor_) = true)
    (l_Word_rxor_ : K.lookup f_Word_rxor_ = some ⟨oc_Word_rxor_, od_Word_rxor_, .func (PySem.W.fnOf "__rxor__" "Word.__rxor__" (defArgs s_Word_rxor_) (defBody s_Word_rxor_) (defScope s_Word_rxor_) .none kV_Word_rxor_ dc_Word_rxor_ pm_Word_rxor_ an_Word_rxor_ cd_Word_rxor_ ct_Word_rxor_), sl_Word_rxor_⟩)
    (c_Word_rxor_ : PySem.W.codeIn K cd_Word_rxor_ "Word.__rxor__" = true)
    (q_Word_rxor_ : PySem.W.keepIn K (.ref f_Word_rxor_) = true)
    (a_Word_invert_ : PySem.W.findIn K (.ref C_Word) "__invert__" = some (some (.ref f_Word_invert_)))
    (i_Word_invert_ : PySem.W.isFn K (.ref f_Word_invert_) = true)
    (l_Word_invert_ : K.lookup f_Word_invert_ = some ⟨oc_Word_invert_, od_Word_invert_, .func (PySem.W.fnOf "__invert__" "Word.__invert__" (defArgs s_Word_invert_) (defBody s_Word_invert_) (defScope s_Word_invert_) .none kV_Word_invert_ dc_Word_invert_ pm_Word_invert_ an_Word_invert_ cd_Word_invert_ ct_Word_invert_), sl_Word_invert_⟩)
    (c_Word_invert_ : PySem.W.codeIn K cd_Word_invert_ "Word.__invert__" = true)
    (q_Word_invert_ : PySem.W.keepIn K (.ref f_Word_invert_) = true)
    (a_Word_like : PySem.W.findIn K (.ref C_Word) "like" = some (some (.ref f_Word_like)))
    (i_Word_like : PySem.W.isFn K (.ref f_Word_like) = true)
    (l_Word_like : K.lookup f_Word_like = some ⟨oc_Word_like, od_Word_like, .func (PySem.W.fnOf "like" "Word.like" (defArgs s_Word_like) (defBody s_Word_like) (defScope s_Word_like) .none kV_Word_like dc_Word_like pm_Word_like an_Word_like cd_Word_like ct_Word_like), sl_Word_like⟩)
    (c_Word_like : PySem.W.codeIn K cd_Word_like "Word.like" = true)
    (q_Word_like : PySem.W.keepIn K (.ref f_Word_like) = true)
    (a_Word_repr_ : PySem.W.findIn K (.ref C_Word) "__repr__" = some (some (.ref f_Word_repr_)))
    (i_Word_repr_ : PySem.W.isFn K (.ref f_Word_repr_) = true)
    (l_Word_repr_ : K.lookup f_Word_repr_ = some ⟨oc_Word_repr_, od_Word_repr_, .func (PySem.W.fnOf "__repr__" "Word.__repr__" (defArgs s_Word_repr_) (defBody s_Word_repr_) (defScope s_Word_repr_) .none kV_Word_repr_ dc_Word_repr_ pm_Word_repr_ an_Word_repr_ cd_Word_repr_ ct_Word_repr_), sl_Word_repr_⟩)
    (c_Word_repr_ : PySem.W.codeIn K cd_Word_repr_ "Word.__repr__" = true)
    (q_Word_repr_ : PySem.W.keepIn K (.ref f_Word_repr_) = true)
    (a_law_pen : PySem.W.nsIn K mainGlobals "_law_pen" = some (some (.ref f_law_pen)))
    (l_law_pen : K.lookup f_law_pen = some ⟨oc_law_pen, od_law_pen, .func (PySem.W.fnOf "_law_pen" "_law_pen" (defArgs s_law_pen) (defBody s_law_pen) (defScope s_law_pen) .none kV_law_pen dc_law_pen pm_law_pen an_law_pen cd_law_pen ct_law_pen), sl_law_pen⟩)
    (c_law_pen : PySem.W.codeIn K cd_law_pen "_law_pen" = true)
    (q_law_pen : PySem.W.keepIn K (.ref f_law_pen) = true)
    (a_law_draw : PySem.W.nsIn K mainGlobals "_law_draw" = some (some (.ref f_law_draw)))
    (l_law_draw : K.lookup f_law_draw = some ⟨oc_law_draw, od_law_draw, .func (PySem.W.fnOf "_law_draw" "_law_draw" (defArgs s_law_draw) (defBody s_law_draw) (defScope s_law_draw) .none kV_law_draw dc_law_draw pm_law_draw an_law_draw cd_law_draw ct_law_draw), sl_law_draw⟩)
    (c_law_draw : PySem.W.codeIn K cd_law_draw "_law_draw" = true)
    (q_law_draw : PySem.W.keepIn K (.ref f_law_draw) = true)
    (a_law_width : PySem.W.nsIn K mainGlobals "_law_width" = some (some (.ref f_law_width)))
    (l_law_width : K.lookup f_law_width = some ⟨oc_law_width, od_law_width, .func (PySem.W.fnOf "_law_width" "_law_width" (defArgs s_law_width) (defBody s_law_width) (defScope s_law_width) .none kV_law_width dc_law_width pm_law_width an_law_width cd_law_width ct_law_width), sl_law_width⟩)
    (c_law_width : PySem.W.codeIn K cd_law_width "_law_width" = true)
    (q_law_width : PySem.W.keepIn K (.ref f_law_width) = true)
    (a_law_value : PySem.W.nsIn K mainGlobals "_law_value" = some (some (.ref f_law_value)))
    (l_law_value : K.lookup f_law_value = some ⟨oc_law_value, od_law_value, .func (PySem.W.fnOf "_law_value" "_law_value" (defArgs s_law_value) (defBody s_law_value) (defScope s_law_value) .none kV_law_value dc_law_value pm_law_value an_law_value cd_law_value ct_law_value), sl_law_value⟩)
    (c_law_value : PySem.W.codeIn K cd_law_value "_law_value" = true)
    (q_law_value : PySem.W.keepIn K (.ref f_law_value) = true)
    (a_law_is : PySem.W.nsIn K mainGlobals "_law_is" = some (some (.ref f_law_is)))
    (l_law_is : K.lookup f_law_is = some ⟨oc_law_is, od_law_is, .func (PySem.W.fnOf "_law_is" "_law_is" (defArgs s_law_is) (defBody s_law_is) (defScope s_law_is) .none kV_law_is dc_law_is pm_law_is an_law_is cd_law_is ct_law_is), sl_law_is⟩)
    (c_law_is : PySem.W.codeIn K cd_law_is "_law_is" = true)
    (q_law_is : PySem.W.keepIn K (.ref f_law_is) = true)
    (a_law_sum : PySem.W.nsIn K mainGlobals "_law_sum" = some (some (.ref f_law_sum)))
    (l_law_sum : K.lookup f_law_sum = some ⟨oc_law_sum, od_law_sum, .func (PySem.W.fnOf "_law_sum" "_law_sum" (defArgs s_law_sum) (defBody s_law_sum) (defScope s_law_sum) .none kV_law_sum dc_law_sum pm_law_sum an_law_sum cd_law_sum ct_law_sum), sl_law_sum⟩)
    (c_law_sum : PySem.W.codeIn K cd_law_sum "_law_sum" = true)
    (q_law_sum : PySem.W.keepIn K (.ref f_law_sum) = true)
    (a_law_in_place : PySem.W.nsIn K mainGlobals "_law_in_place" = some (some (.ref f_law_in_place)))
    (l_law_in_place : K.lookup f_law_in_place = some ⟨oc_law_in_place, od_law_in_place, .func (PySem.W.fnOf "_law_in_place" "_law_in_place" (defArgs s_law_in_place) (defBody s_law_in_place) (defScope s_law_in_place) .none kV_law_in_place dc_law_in_place pm_law_in_place an_law_in_place cd_law_in_place ct_law_in_place), sl_law_in_place⟩)
    (c_law_in_place : PySem.W.codeIn K cd_law_in_place "_law_in_place" = true)
    (q_law_in_place : PySem.W.keepIn K (.ref f_law_in_place) = true)
    (a_law_apart_right : PySem.W.nsIn K mainGlobals "_law_apart_right" = some (some (.ref f_law_apart_right)))
    (l_law_apart_right : K.lookup f_law_apart_right = some ⟨oc_law_apart_right, od_law_apart_right, .func (PySem.W.fnOf "_law_apart_right" "_law_apart_right" (defArgs s_law_apart_right) (defBody s_law_apart_right) (defScope s_law_apart_right) .none kV_law_apart_right dc_law_apart_right pm_law_apart_right an_law_apart_right cd_law_apart_right ct_law_apart_right), sl_law_apart_right⟩)
    (c_law_apart_right : PySem.W.codeIn K cd_law_apart_right "_law_apart_right" = true)
    (q_law_apart_right : PySem.W.keepIn K (.ref f_law_apart_right) = true)
    (a_law_right : PySem.W.nsIn K mainGlobals "_law_right" = some (some (.ref f_law_right)))
    (l_law_right : K.lookup f_law_right = some ⟨oc_law_right, od_law_right, .func (PySem.W.fnOf "_law_right" "_law_right" (defArgs s_law_right) (defBody s_law_right) (defScope s_law_right) .none kV_law_right dc_law_right pm_law_right an_law_right cd_law_right ct_law_right), sl_law_right⟩)
    (c_law_right : PySem.W.codeIn K cd_law_right "_law_right" = true)
    (q_law_right : PySem.W.keepIn K (.ref f_law_right) = true)
    (a_law : PySem.W.nsIn K mainGlobals "law" = some (some (.ref f_law)))
    (l_law : K.lookup f_law = some ⟨oc_law, od_law, .func (PySem.W.fnOf "law" "law" (defArgs s_law) (defBody s_law) (defScope s_law) .none kV_law dc_law pm_law an_law cd_law ct_law), sl_law⟩)
    (c_law : PySem.W.codeIn K cd_law "law" = true)
    (q_law : PySem.W.keepIn K (.ref f_law) = true) :
    ∃ fd : FuncData, (∀ (s : Shared) (v : Value), BindsTo s fd ⟨[v], []⟩ [("_law_script", v)]) ∧ ∀ base : Heap, K.In base → base.Ns mainGlobals mg → FnQ l.prog w K mg base 11 fa fd ["_law_script"] (spLaw K) := by
  have e := hfa.symm.trans (PySem.W.mg_of X G a_law)
  cases e
  let T : Tx K mg := { b_int := PySem.W.mg_none_of X G b_int, b_len := PySem.W.mg_none_of X G b_len, b_abs := PySem.W.mg_none_of X G b_abs, b_list := PySem.W.mg_none_of X G b_list, b_isinstance := PySem.W.mg_none_of X G b_isinstance, b_bool := PySem.W.mg_none_of X G b_bool, b_range := PySem.W.mg_none_of X G b_range, b_repr := PySem.W.mg_none_of X G b_repr, k_Word := ⟨C_Word, ⟨kg_Word, kh_Word, ko_Word, ks_Word⟩, PySem.W.mg_of X G kC_Word, km_Word, kk_Word⟩, n_Word_width := n_Word_width, n_Word_value := n_Word_value, n_Word_rest := n_Word_rest, n_Word_is_empty := n_Word_is_empty, n_Word_is_full := n_Word_is_full, x_Word := ⟨⟨x1_Word, x2_Word⟩, x3_Word, x4_Word, x5_Word, x6_Word, x7_Word, x8_Word, x9_Word, xa_Word, xb_Word⟩, cc_Word_MOST_WIDTH := ⟨t_Word_MOST_WIDTH, ⟨cc_Word_MOST_WIDTH, ⟨_, rfl⟩⟩⟩, j_iadd := ⟨TzOwn.solo_of jc_Word jm_Word, j1_iadd, j2_iadd⟩, j_isub := ⟨TzOwn.solo_of jc_Word jm_Word, j1_isub, j2_isub⟩, j_ixor := ⟨TzOwn.solo_of jc_Word jm_Word, j1_ixor, j2_ixor⟩, i_int_add := ⟨fo_add, ro_add, g1_add, g2_add⟩, i_int_sub := ⟨fo_sub, ro_sub, g1_sub, g2_sub⟩, i_int_xor := ⟨fo_xor, ro_xor, g1_xor, g2_xor⟩, f_is_whole := ⟨_, _, fun_mk (st := s_is_whole) l_is_whole c_is_whole q_is_whole, PySem.W.mg_of X G a_is_whole⟩, f_is_from := ⟨_, _, fun_mk (st := s_is_from) l_is_from c_is_from q_is_from, PySem.W.mg_of X G a_is_from⟩, f_most_value := ⟨_, _, fun_mk (st := s_most_value) l_most_value c_most_value q_most_value, PySem.W.mg_of X G a_most_value⟩, f_checked_width := ⟨_, _, fun_mk (st := s_checked_width) l_checked_width c_checked_width q_checked_width, PySem.W.mg_of X G a_checked_width⟩, f_Word_init_ := ⟨_, _, fun_mk (st := s_Word_init_) l_Word_init_ c_Word_init_ q_Word_init_, ⟨a_Word_init_, i_Word_init_, q_Word_init_⟩⟩, f_carried_round := ⟨_, _, fun_mk (st := s_carried_round) l_carried_round c_carried_round q_carried_round, PySem.W.mg_of X G a_carried_round⟩, f_sum_word := ⟨_, _, fun_mk (st := s_sum_word) l_sum_word c_sum_word q_sum_word, PySem.W.mg_of X G a_sum_word⟩, f_difference_word := ⟨_, _, fun_mk (st := s_difference_word) l_difference_word c_difference_word q_difference_word, PySem.W.mg_of X G a_difference_word⟩, f_operand_value := ⟨_, _, fun_mk (st := s_operand_value) l_operand_value c_operand_value q_operand_value, PySem.W.mg_of X G a_operand_value⟩, f_found_value := ⟨_, _, fun_mk (st := s_found_value) l_found_value c_found_value q_found_value, PySem.W.mg_of X G a_found_value⟩, f_checked_value := ⟨_, _, fun_mk (st := s_checked_value) l_checked_value c_checked_value q_checked_value, PySem.W.mg_of X G a_checked_value⟩, f_Word_add_ := ⟨_, _, fun_mk (st := s_Word_add_) l_Word_add_ c_Word_add_ q_Word_add_, ⟨a_Word_add_, i_Word_add_, q_Word_add_⟩⟩, f_Word_radd_ := ⟨_, _, fun_mk (st := s_Word_radd_) l_Word_radd_ c_Word_radd_ q_Word_radd_, ⟨a_Word_radd_, i_Word_radd_, q_Word_radd_⟩⟩, f_Word_sub_ := ⟨_, _, fun_mk (st := s_Word_sub_) l_Word_sub_ c_Word_sub_ q_Word_sub_, ⟨a_Word_sub_, i_Word_sub_, q_Word_sub_⟩⟩, f_Word_rsub_ := ⟨_, _, fun_mk (st := s_Word_rsub_) l_Word_rsub_ c_Word_rsub_ q_Word_rsub_, ⟨a_Word_rsub_, i_Word_rsub_, q_Word_rsub_⟩⟩, f_Word_xor_ := ⟨_, _, fun_mk (st := s_Word_xor_) l_Word_xor_ c_Word_xor_ q_Word_xor_, ⟨a_Word_xor_, i_Word_xor_, q_Word_xor_⟩⟩, f_Word_rxor_ := ⟨_, _, fun_mk (st := s_Word_rxor_) l_Word_rxor_ c_Word_rxor_ q_Word_rxor_, ⟨a_Word_rxor_, i_Word_rxor_, q_Word_rxor_⟩⟩, f_Word_invert_ := ⟨_, _, fun_mk (st := s_Word_invert_) l_Word_invert_ c_Word_invert_ q_Word_invert_, ⟨a_Word_invert_, i_Word_invert_, q_Word_invert_⟩⟩, f_Word_like := ⟨_, _, fun_mk (st := s_Word_like) l_Word_like c_Word_like q_Word_like, ⟨a_Word_like, i_Word_like, q_Word_like⟩⟩, f_Word_repr_ := ⟨_, _, fun_mk (st := s_Word_repr_) l_Word_repr_ c_Word_repr_ q_Word_repr_, ⟨a_Word_repr_, i_Word_repr_, q_Word_repr_⟩⟩, f_law_pen := ⟨_, _, fun_mk (st := s_law_pen) l_law_pen c_law_pen q_law_pen, PySem.W.mg_of X G a_law_pen⟩, f_law_draw := ⟨_, _, fun_mk (st := s_law_draw) l_law_draw c_law_draw q_law_draw, PySem.W.mg_of X G a_law_draw⟩, f_law_width := ⟨_, _, fun_mk (st := s_law_width) l_law_width c_law_width q_law_width, PySem.W.mg_of X G a_law_width⟩, f_law_value := ⟨_, _, fun_mk (st := s_law_value) l_law_value c_law_value q_law_value, PySem.W.mg_of X G a_law_value⟩, f_law_is := ⟨_, _, fun_mk (st := s_law_is) l_law_is c_law_is q_law_is, PySem.W.mg_of X G a_law_is⟩, f_law_sum := ⟨_, _, fun_mk (st := s_law_sum) l_law_sum c_law_sum q_law_sum, PySem.W.mg_of X G a_law_sum⟩, f_law_in_place := ⟨_, _, fun_mk (st := s_law_in_place) l_law_in_place c_law_in_place q_law_in_place, PySem.W.mg_of X G a_law_in_place⟩, f_law_apart_right := ⟨_, _, fun_mk (st := s_law_apart_right) l_law_apart_right c_law_apart_right q_law_apart_right, PySem.W.mg_of X G a_law_apart_right⟩, f_law_right := ⟨_, _, fun_mk (st := s_law_right) l_law_right c_law_right q_law_right, PySem.W.mg_of X G a_law_right⟩, f_law := ⟨_, _, fun_mk (st := s_law) l_law c_law q_law, PySem.W.mg_of X G a_law⟩ }
  exact ⟨T.f_law.fd, fun s v => .of_eq rfl, fun base _ _ => ok_law T⟩
theorem walk {l : PySem.W.OpenLaw} {q : Program} {loose : List Str} {XP : (Str → Option Value) → Heap → Prop} {YP : World → Heap → Prop} {d : DefRec} {K : Params → PySem.W.Frag} (hn : l.most = some 63) (hdf : d.params.defaults = [])
    (hY : ∀ (w : World) (h : Heap), YP w h → (K w.params).In h)
    (F : ∀ (w : World) (mg : Str → Option Value) (fa : Addr) (h : Heap), (K w.params).In h → h.Ns mainGlobals mg → mg d.name = some (.ref fa) →
      ∃ fd : FuncData, (∀ (s : Shared) (u : Value), BindsTo s fd ⟨[u], []⟩ [("_law_script", u)]) ∧ ∀ base : Heap, (K w.params).In base → base.Ns mainGlobals mg → FnQ l.prog w (K w.params) mg base 11 fa fd ["_law_script"] (spLaw (K w.params))) :
    PySem.W.WalkO q loose XP YP l.row.toRowW d [] (fun f vs => PySem.call f vs) :=
  walk_q (n := 63) (k := 11) (x := "_law_script") (sp := spLaw) hn (by decide) hdf ⟨rfl, by decide, by decide⟩ hY F fun _ _ a ns hl hS => ⟨a, ns, rfl, hS, hl, fun _ => rfl⟩
end Tz
open PySem PySem.W PyProof.Rows
set_option maxRecDepth 100000 in
set_option maxHeartbeats 0 in
theorem PySem.Challenge.cw_twozeros_k03_sums_and_differences_holds : PySem.Challenge.rw_twozeros_k03_sums_and_differences.Holds := by
  w_on; o_law; k_head; (case hw => w_witness2)
  k_fill
  refine Tz.walk (l := PySem.Challenge.rw_twozeros_k03_sums_and_differences) rfl rfl (fun w h Y => PySem.W.kIn_of Y) ?F
  case F =>
    intro w mg fa h KX G hmg
    refine' Tz.all_mk KX G hmg ?b_int ?b_len ?b_abs ?b_list ?b_isinstance ?b_bool ?b_range ?b_repr ?kC_Word ?kg_Word ?kh_Word ?ko_Word ?ks_Word ?km_Word ?kk_Word ?n_Word_width ?n_Word_value ?n_Word_rest ?n_Word_is_empty ?n_Word_is_full ?x1_Word ?x2_Word ?x3_Word ?x4_Word ?x5_Word ?x6_Word ?x7_Word ?x8_Word ?x9_Word ?xa_Word ?xb_Word ?cc_Word_MOST_WIDTH ?jc_Word ?jm_Word ?j1_iadd ?j2_iadd ?j1_isub ?j2_isub ?j1_ixor ?j2_ixor ?g1_add ?g2_add ?g1_sub ?g2_sub ?g1_xor ?g2_xor ?a_is_whole ?l_is_whole ?c_is_whole ?q_is_whole ?a_is_from ?l_is_from ?c_is_from ?q_is_from ?a_most_value ?l_most_value ?c_most_value ?q_most_value ?a_checked_width ?l_checked_width ?c_checked_width ?q_checked_width ?a_Word_init_ ?i_Word_init_ ?l_Word_init_ ?c_Word_init_ ?q_Word_init_ ?a_carried_round ?l_carried_round ?c_carried_round ?q_carried_round ?a_sum_word ?l_sum_word ?c_sum_word ?q_sum_word ?a_difference_word ?l_difference_word ?c_difference_word ?q_difference_word ?a_operand_value ?l_operand_value ?c_operand_value ?q_operand_value ?a_found_value ?l_found_value ?c_found_value ?q_found_value ?a_checked_value ?l_checked_value ?c_checked_value ?q_checked_value ?a_Word_add_ ?i_Word_add_ ?l_Word_add_ ?c_Word_add_ ?q_Word_add_ ?a_Word_radd_ ?i_Word_radd_ ?l_Word_radd_ ?c_Word_radd_ ?q_Word_radd_ ?a_Word_sub_ ?i_Word_sub_ ?l_Word_sub_ ?c_Word_sub_ ?q_Word_sub_ ?a_Word_rsub_ ?i_Word_rsub_ ?l_Word_rsub_ ?c_Word_rsub_ ?q_Word_rsub_ ?a_Word_xor_ ?i_Word_xor_ ?l_Word_xor_ ?c_Word_xor_ ?q_Word_xor_ ?a_Word_rxor_ ?i_Word_rxor_ ?l_Word_rxor_ ?c_Word_rxor_ ?q_Word_rxor_ ?a_Word_invert_ ?i_Word_invert_ ?l_Word_invert_ ?c_Word_invert_ ?q_Word_invert_ ?a_Word_like ?i_Word_like ?l_Word_like ?c_Word_like ?q_Word_like ?a_Word_repr_ ?i_Word_repr_ ?l_Word_repr_ ?c_Word_repr_ ?q_Word_repr_ ?a_law_pen ?l_law_pen ?c_law_pen ?q_law_pen ?a_law_draw ?l_law_draw ?c_law_draw ?q_law_draw ?a_law_width ?l_law_width ?c_law_width ?q_law_width ?a_law_value ?l_law_value ?c_law_value ?q_law_value ?a_law_is ?l_law_is ?c_law_is ?q_law_is ?a_law_sum ?l_law_sum ?c_law_sum ?q_law_sum ?a_law_in_place ?l_law_in_place ?c_law_in_place ?q_law_in_place ?a_law_apart_right ?l_law_apart_right ?c_law_apart_right ?q_law_apart_right ?a_law_right ?l_law_right ?c_law_right ?q_law_right ?a_law ?l_law ?c_law ?q_law
    (case b_int => k_is)
    (case b_len => k_is)
    (case b_abs => k_is)
    (case b_list => k_is)
    (case b_isinstance => k_is)
    (case b_bool => k_is)
    (case b_range => k_is)
    (case b_repr => k_is)
    (case kC_Word => k_is)
    (case kg_Word => k_is)
    (case kh_Word => k_is)
    (case ko_Word => k_is)
    (case ks_Word => k_is)
    (case km_Word => k_is)
    (case kk_Word => k_is)
    (case n_Word_width => k_is)
    (case n_Word_value => k_is)
    (case n_Word_rest => k_is)
    (case n_Word_is_empty => k_is)
    (case n_Word_is_full => k_is)
    (case x1_Word => k_is)
    (case x2_Word => k_is)
    (case x3_Word => k_is)
    (case x4_Word => k_is)
    (case x5_Word => k_is)
    (case x6_Word => k_is)
    (case x7_Word => k_is)
    (case x8_Word => k_is)
    (case x9_Word => k_is)
    (case xa_Word => k_is)
    (case xb_Word => k_is)
    (case cc_Word_MOST_WIDTH => k_is)
    (case jc_Word => k_is)
    (case jm_Word => exact rfl)
    (case j1_iadd => k_is)
    (case j2_iadd => k_is)
    (case j1_isub => k_is)
    (case j2_isub => k_is)
    (case j1_ixor => k_is)
    (case j2_ixor => k_is)
    (case g1_add => k_is)
    (case g2_add => k_is)
    (case g1_sub => k_is)
    (case g2_sub => k_is)
    (case g1_xor => k_is)
    (case g2_xor => k_is)
    (case a_is_whole => k_is)
    (case l_is_whole => k_is)
    (case c_is_whole => k_is)
    (case q_is_whole => k_is)
    (case a_is_from => k_is)
    (case l_is_from => k_is)
    (case c_is_from => k_is)
    (case q_is_from => k_is)
    (case a_most_value => k_is)
    (case l_most_value => k_is)
    (case c_most_value => k_is)
    (case q_most_value => k_is)
    (case a_checked_width => k_is)
    (case l_checked_width => k_is)
    (case c_checked_width => k_is)
    (case q_checked_width => k_is)
    (case a_Word_init_ => k_is)
    (case i_Word_init_ => k_is)
    (case l_Word_init_ => k_is)
    (case c_Word_init_ => k_is)
    (case q_Word_init_ => k_is)
    (case a_carried_round => k_is)
    (case l_carried_round => k_is)
    (case c_carried_round => k_is)
    (case q_carried_round => k_is)
    (case a_sum_word => k_is)
    (case l_sum_word => k_is)
    (case c_sum_word => k_is)
    (case q_sum_word => k_is)
    (case a_difference_word => k_is)
    (case l_difference_word => k_is)
    (case c_difference_word => k_is)
    (case q_difference_word => k_is)
    (case a_operand_value => k_is)
    (case l_operand_value => k_is)
    (case c_operand_value => k_is)
    (case q_operand_value => k_is)
    (case a_found_value => k_is)
    (case l_found_value => k_is)
    (case c_found_value => k_is)
    (case q_found_value => k_is)
    (case a_checked_value => k_is)
    (case l_checked_value => k_is)
    (case c_checked_value => k_is)
    (case q_checked_value => k_is)
    (case a_Word_add_ => k_is)
    (case i_Word_add_ => k_is)
    (case l_Word_add_ => k_is)
    (case c_Word_add_ => k_is)
    (case q_Word_add_ => k_is)
    (case a_Word_radd_ => k_is)
    (case i_Word_radd_ => k_is)
    (case l_Word_radd_ => k_is)
    (case c_Word_radd_ => k_is)
    (case q_Word_radd_ => k_is)
    (case a_Word_sub_ => k_is)
    (case i_Word_sub_ => k_is)
    (case l_Word_sub_ => k_is)
    (case c_Word_sub_ => k_is)
    (case q_Word_sub_ => k_is)
    (case a_Word_rsub_ => k_is)
    (case i_Word_rsub_ => k_is)
    (case l_Word_rsub_ => k_is)
    (case c_Word_rsub_ => k_is)
    (case q_Word_rsub_ => k_is)
    (case a_Word_xor_ => k_is)
    (case i_Word_xor_ => k_is)
    (case l_Word_xor_ => k_is)
    (case c_Word_xor_ => k_is)
    (case q_Word_xor_ => k_is)
    (case a_Word_rxor_ => k_is)
    (case i_Word_rxor_ => k_is)
    (case l_Word_rxor_ => k_is)
    (case c_Word_rxor_ => k_is)
    (case q_Word_rxor_ => k_is)
    (case a_Word_invert_ => k_is)
    (case i_Word_invert_ => k_is)
    (case l_Word_invert_ => k_is)
    (case c_Word_invert_ => k_is)
    (case q_Word_invert_ => k_is)
    (case a_Word_like => k_is)
    (case i_Word_like => k_is)
    (case l_Word_like => k_is)
    (case c_Word_like => k_is)
    (case q_Word_like => k_is)
    (case a_Word_repr_ => k_is)
    (case i_Word_repr_ => k_is)
    (case l_Word_repr_ => k_is)
    (case c_Word_repr_ => k_is)
    (case q_Word_repr_ => k_is)
    (case a_law_pen => k_is)
    (case l_law_pen => k_is)
    (case c_law_pen => k_is)
    (case q_law_pen => k_is)
    (case a_law_draw => k_is)
    (case l_law_draw => k_is)
    (case c_law_draw => k_is)
    (case q_law_draw => k_is)
    (case a_law_width => k_is)
    (case l_law_width => k_is)
    (case c_law_width => k_is)
    (case q_law_width => k_is)
    (case a_law_value => k_is)
    (case l_law_value => k_is)
    (case c_law_value => k_is)
    (case q_law_value => k_is)
    (case a_law_is => k_is)
    (case l_law_is => k_is)
    (case c_law_is => k_is)
    (case q_law_is => k_is)
    (case a_law_sum => k_is)
    (case l_law_sum => k_is)
    (case c_law_sum => k_is)
    (case q_law_sum => k_is)
    (case a_law_in_place => k_is)
    (case l_law_in_place => k_is)
    (case c_law_in_place => k_is)
    (case q_law_in_place => k_is)
    (case a_law_apart_right => k_is)
    (case l_law_apart_right => k_is)
    (case c_law_apart_right => k_is)
    (case q_law_apart_right => k_is)
    (case a_law_right => k_is)
    (case l_law_right => k_is)
    (case c_law_right => k_is)
    (case q_law_right => k_is)
    (case a_law => k_is)
    (case l_law => k_is)
    (case c_law => k_is)
    (case q_law => k_is)
