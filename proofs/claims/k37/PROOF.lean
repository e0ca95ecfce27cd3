import PyProof.Rows.All
import Wide.All
import OpenK.AllK
import Wide.FinOn
import HandS.ForMost
import HandS.Wide
import HandS.Style
import HandS.Evl
import HandS.WideBits
import HandS.ClsMeth
import KE.KOpsOwn
import PyProof.TwoTypes
import PyProof.ListMulRoad
import PyProof.NeKinds
import HandS.IsInst
import KE.KEqDict
import HandS.RaiseMore
import HandS.Codes
import PyProof.ReprRoads
import HandS.Walk
import OpenK.KOps
import PyProof.ReprReads
import HandS.FStr
import KE.KFmtOwn
import HandS.Small
import HandS.MakeKw
import HandS.CallLocal
import HandS.TryMany
import HandS.TryOnly
import HandS.ExcInit
import HandS.ExcField
import HandS.HeadHook4
import HandS.HeadWalk
import PyProof.ReprDict
import HandS.Lambda
import HandS.WordsExc
import HandS.Star
import HandS.IntHex
import HandS.RevRange
import PyProof.StrLawsRepr
import HandS.ExcIs
import KE.KExcIs
import PyProof.StrBlock2
import PyProof.FString3
import PyProof.Rows.StrIntSpec
import HandS.Gcd
import HandS.Head2
import HandS.Head3
import HandS.HeadHook4
import PySem.Challenge.RW_twozeros_k37_orders_and_shared
set_option Elab.async false
set_option linter.all false
set_option maxRecDepth 100000
set_option maxHeartbeats 4000000
namespace Tz
open PySem L2
/-! ### heaps -/
/-- all but z is as it was -/
def Fw (z : Addr) (H H' : Hp) : Prop := ∀ a o, a ≠ z → H a = some o → H' a = some o
theorem Fw.refl (z : Addr) (H : Hp) : Fw z H H := fun _ _ _ h => h
theorem Fw.trans {z : Addr} {H H1 H2 : Hp} (a : Fw z H H1) (b : Fw z H1 H2) : Fw z H H2 := fun x o n h => b x o n (a x o n h)
theorem Fw.new {z : Addr} {H : Hp} {p : Addr} {o : HO} (h : H p = none) : Fw z H (upd H p o) := fun a u _ e => by
  rw [upd_ne (ne_of_none e h)]
  exact e
theorem Fw.at {z : Addr} {H : Hp} {o : HO} : Fw z H (upd H z o) := fun a u n e => by
  rw [upd_ne n]
  exact e
/-- all is as it was -/
def Ex (H H' : Hp) : Prop := ∀ a o, H a = some o → H' a = some o
theorem Ex.refl (H : Hp) : Ex H H := fun _ _ h => h
theorem Ex.trans {H H1 H2 : Hp} (a : Ex H H1) (b : Ex H1 H2) : Ex H H2 := fun x o h => b x o (a x o h)
theorem Ex.fw {z : Addr} {H H' : Hp} (e : Ex H H') : Fw z H H' := fun a o _ h => e a o h
theorem Ex.new {H : Hp} {p : Addr} {o : HO} (h : H p = none) : Ex H (upd H p o) := fun a u e => by
  rw [upd_ne (ne_of_none e h)]
  exact e
/-- a new object, told without its heap -/
theorem anew {H : Hp} {o : HO} {Q : V → Hp → Prop} (k : ∀ p H', H p = none → H' p = some o → Ex H H' → Q (.ref p) H') : ∀ p, H p = none → Q (.ref p) (upd H p o) := fun p hp => k p _ hp upd_same (Ex.new hp)
theorem sq {K : PySem.W.Frag} {H : Hp} {a : Addr} {xs : List V} (h : H a = some (.lst xs)) : SqL K H a xs := Or.inl (Or.inl h)
theorem sqt {K : PySem.W.Frag} {H : Hp} {a : Addr} {xs : List V} (h : H a = some (.tup xs)) : SqT K H a xs := Or.inl (Or.inl h)
theorem szl {n : Nat} (h : n ≤ 10000) : n ≤ sizeLine := Nat.le_trans h (by decide)
theorem gat {H H1 : Hp} {p : Addr} {o : HO} (g : upd H p o = H1) : H1 p = some o := by rw [← g]; exact upd_same
theorem gex {H H1 : Hp} {p : Addr} {o : HO} (g : upd H p o = H1) (h : H p = none) : Ex H H1 := by rw [← g]; exact Ex.new h
theorem gfw {H H1 : Hp} {p : Addr} {o : HO} (g : upd H p o = H1) : Fw p H H1 := by rw [← g]; exact Fw.at
/-! ### the pen -/
structure PenAt (H : Hp) (z c : Addr) (cells : List Int) (t : Nat) : Prop where
  pen : ∃ ix left : Int, H z = some (.lst [.ref c, .int ix, .int left]) ∧ 0 ≤ ix ∧ ix ≤ t ∧ 0 ≤ left
  cs : H c = some (.lst (cells.map V.int))
  ne : c ≠ z
  few : cells.length ≤ 63
theorem PenAt.ex {H H' : Hp} {z c : Addr} {cells : List Int} {t : Nat} (h : PenAt H z c cells t) (e : Ex H H') : PenAt H' z c cells t := by
  obtain ⟨⟨i, l, h1, h2⟩, h3, h4, h5⟩ := h
  exact ⟨⟨i, l, e _ _ h1, h2⟩, e _ _ h3, h4, h5⟩
theorem PenAt.mono {H : Hp} {z c : Addr} {cells : List Int} {t u : Nat} (h : PenAt H z c cells t) (e : t ≤ u) : PenAt H z c cells u := by
  obtain ⟨⟨i, l, h1, h2, h3, h6⟩, h4, h5, h7⟩ := h
  exact ⟨⟨i, l, h1, h2, by omega, h6⟩, h4, h5, h7⟩
theorem cell_get {cells : List Int} {j : Nat} (h : j < cells.length) : ∃ v : Int, (cells.map V.int)[j]? = some (.int v) := by
  refine ⟨cells[j], ?_⟩
  rw [List.getElem?_map, List.getElem?_eq_getElem h] <;> rfl
/-- one draw: what it asks, what it gives -/
def spDraw : Sp := fun vs H Q _ => ∃ z c cells t many, vs = [.ref z, .int many] ∧ PenAt H z c cells t ∧ t ≤ 100000 ∧ 0 < many ∧ many ≤ 100000 ∧
  ∀ n H', 0 ≤ n → n < many → PenAt H' z c cells (t + 1) → Fw z H H' → Q (.int n) H'
def spPen (K : PySem.W.Frag) : Sp := fun vs H Q _ => ∃ (a : Addr) (ns : List Int), vs = [.ref a] ∧ SqL K H a (ns.map V.int) ∧ ns.length ≤ 63 ∧
  ∀ z c H', PenAt H' z c ns 0 → Ex H H' → H z = none → H c = none → Q (.ref z) H'
def spWidth : Sp := fun vs H Q _ => ∃ z c cells t, vs = [.ref z] ∧ PenAt H z c cells t ∧ t ≤ 90000 ∧
  ∀ n H', 1 ≤ n → n ≤ 64 → PenAt H' z c cells (t + 2) → Fw z H H' → Q (.int n) H'
def spValue : Sp := fun vs H Q _ => ∃ z c cells t, ∃ w : Nat, vs = [.ref z, .int w] ∧ PenAt H z c cells t ∧ t ≤ 90000 ∧ 1 ≤ w ∧ w ≤ 64 ∧
  ∀ n H', 0 ≤ n → n < 2 ^ w → PenAt H' z c cells (t + 3) → Fw z H H' → Q (.int n) H'
/-! ### mathematics -/
theorem emod_bd {a m : Int} (h : 0 < m) : 0 ≤ a % m ∧ a % m < m := ⟨Int.emod_nonneg _ (by omega), Int.emod_lt_of_pos _ h⟩
theorem sq_le {i : Int} (h0 : 0 ≤ i) (h1 : i ≤ 100000) : 0 ≤ i * i ∧ i * i ≤ 10000000000 := by
  refine ⟨Int.mul_nonneg h0 h0, ?_⟩
  have := Int.mul_le_mul h1 h1 h0 (by decide : (0 : Int) ≤ 100000)
  omega
theorem mul_bd {a b A B : Int} (a0 : 0 ≤ a) (a1 : a ≤ A) (b0 : 0 ≤ b) (b1 : b ≤ B) : 0 ≤ a * b ∧ a * b ≤ A * B :=
  ⟨Int.mul_nonneg a0 b0, Int.mul_le_mul a1 b1 b0 (by omega)⟩
theorem cpow_of {i j : Int} (h0 : 0 ≤ i) (h1 : i < 18446744073709551616) (h2 : 0 ≤ j) (h3 : j ≤ 1000000) : CPow i j := ⟨h2, h3, by omega⟩
theorem draw_pw5 {cell ix a b : Int} (h0 : 0 ≤ ix) (h1 : ix ≤ 100000) (ha : 0 ≤ a) (ha2 : a ≤ 1000000) (hb : 0 ≤ b) (hb2 : b ≤ 1000000) : CPow (cell % 2147483563 + a * ix + b) 5 := by
  have h := emod_bd (a := cell) (m := 2147483563) (by decide)
  have m := mul_bd ha ha2 h0 h1
  exact cpow_of (by omega) (by omega) (by decide) (by decide)
theorem draw_pw3 {m ix c d e : Int} (h0 : 0 ≤ ix) (h1 : ix ≤ 100000) (m0 : 0 ≤ m) (m1 : m < 2147483629) (hc : 0 ≤ c) (hc2 : c ≤ 1000000) (hd : 0 ≤ d) (hd2 : d ≤ 1000000) (he : 0 ≤ e) (he2 : e ≤ 1000000) :
    CPow (m * (2 * ix + c) + d * ix * ix + e) 3 := by
  have a := mul_bd m0 (A := 2147483629) (by omega) (b := 2 * ix + c) (by omega) (B := 1200000) (by omega)
  have b := mul_bd hd hd2 h0 h1
  have g := mul_bd b.1 b.2 h0 h1
  exact cpow_of (by omega) (by omega) (by decide) (by decide)
theorem pow18 : (10 : Int) ^ (18 : Int).toNat = 1000000000000000000 := by decide
theorem pow_gt {n : Nat} (h : 1 ≤ n) : (1 : Int) < 2 ^ n := by
  obtain ⟨m, rfl⟩ : ∃ m, n = m + 1 := ⟨n - 1, by omega⟩
  have := Int.pow_pos (n := (2 : Int)) (m := m) (by decide)
  rw [Int.pow_succ]
  omega
theorem pow_le64 {n : Nat} (h : n ≤ 64) : (2 : Int) ^ n ≤ 18446744073709551616 := by
  have h1 : (2 : Nat) ^ n ≤ 2 ^ 64 := Nat.pow_le_pow_right (by decide) h
  have h2 : ((2 ^ n : Nat) : Int) = 2 ^ n := by rw [Int.natCast_pow] <;> rfl
  have h3 : (2 : Nat) ^ 64 = 18446744073709551616 := by decide
  omega
theorem and_top {wd : Nat} {x : Int} (hx : 0 ≤ x) : 0 ≤ Builtin.bitAnd x (2 ^ wd - 1) ∧ Builtin.bitAnd x (2 ^ wd - 1) < 2 ^ wd := by
  have e : Builtin.bitAnd x (2 ^ wd - 1) = x % 2 ^ wd := PySem.W.kbt_mask x wd
  rw [e]
  exact emod_bd (Int.pow_pos (by decide))
theorem back {H H' : Hp} {p : Addr} (e : Ex H H') (h : H' p = none) : H p = none := by
  cases q : H p with
  | none => rfl
  | some o =>
    rw [e _ _ q] at h
    cases h
theorem cut63 (n : Nat) : HT.sIx n n (some 63) = min 63 n := by
  show HT.sIx n n (some (63 : Int)) = min 63 n
  simp [HT.sIx]
  all_goals omega
theorem dp_ints {K : PySem.W.Frag} {H : Hp} : ∀ cells : List Int, DpAll K H (cells.map V.int) (cells.map PyData.int)
  | [] => DpAll.nil
  | c :: r => DpAll.cons (Dp.int c) (dp_ints r)
theorem lay_ints : ∀ cells : List Int, PyData.canLayAll0 (cells.map PyData.int) = true
  | [] => by rw [List.map_nil, PyData.canLayAll0]
  | c :: r => by rw [List.map_cons, PyData.canLayAll0, PyData.canLay0, lay_ints r] <;> rfl
theorem deep_ints : ∀ cells : List Int, PyData.depthAll (cells.map PyData.int) = 0
  | [] => by rw [List.map_nil, PyData.depthAll]
  | c :: r => by rw [List.map_cons, PyData.depthAll, PyData.depth, deep_ints r] <;> rfl
theorem shaped_ints (cells : List Int) : SeqAt.shaped (.list (cells.map PyData.int)) = true := by
  unfold SeqAt.shaped
  rw [PyData.canLay0, lay_ints, PyData.depth, deep_ints] <;> decide
end Tz
namespace TzOwn
open PySem L2 ClX
section
variable {X : Cx} {CX : CXT} {k : Nat} {f C g p : Addr} {fd : FuncData} {ps : List Str} {sp : Sp} {E : XK} {pins : List (Addr × Obj)} {σ : L2.St} {H : Hp} {s : Shared} {mc : Value} {m : Str} {o e : Expr} {es : List Expr} {apos pos : Pos} {ta : TE} {t : TA} {pl : Sem Bool}
theorem back_cmp {Q : VK} {u : Value} {s' : Shared} (h : EP X pins σ Q u s') : PySem.W.CmpBack (EP X pins σ Q) u s' := by
  obtain ⟨v, H', I, r, q⟩ := id h
  cases v with
  | non => cases (show u = Value.none from r); exact h
  | bl b => cases (show u = Value.bool b from r); exact h
  | int i => obtain ⟨t, e⟩ := (show ∃ t, u = Value.int i t from r); subst e; exact h
  | str i => obtain ⟨t, e⟩ := (show ∃ t, u = Value.str i t from r); subst e; exact h
  | byt i => obtain ⟨t, e⟩ := (show ∃ t, u = Value.bytes i t from r); subst e; exact h
  | flt i => obtain ⟨t, e⟩ := (show ∃ t, u = Value.float i t from r); subst e; exact h
  | ref a => cases (show u = Value.ref a from r); exact h
  | ty a => cases (show u = Value.type a from r); exact h
theorem inst_at (I : Inv X pins σ H s) {a dx : Addr} {fs : List (Str × V)} (h : H a = some (.ins C dx fs)) : ∃ od, PySem.W.InstAt s.heap a (PySem.W.instObj C dx) C (some od) := by
  obtain ⟨mA, J, _⟩ := ins_get I.hok h
  obtain ⟨od, J, _⟩ := J.look
  exact ⟨od, J⟩
/-- a, b instances of the class at C: its own method, by its promise -/
def rOwn (C : Addr) (sp : Sp) (E : XK) : R2 := fun x y H Q => ∃ a b dx dy fs gs, x = .ref a ∧ y = .ref b ∧ H a = some (.ins C dx fs) ∧ H b = some (.ins C dy gs) ∧ sp [.ref a, .ref b] H Q E
/-- a an instance, b an int -/
def rOwnI (C : Addr) (sp : Sp) (E : XK) : R2 := fun x y H Q => ∃ a n dx fs, x = .ref a ∧ y = .int n ∧ H a = some (.ins C dx fs) ∧ sp [.ref a, .int n] H Q E
def rIOwn (C : Addr) (sp : Sp) (E : XK) : R2 := fun x y H Q => ∃ a n dx fs, x = .int n ∧ y = .ref a ∧ H a = some (.ins C dx fs) ∧ sp [.ref a, .int n] H Q E
def rOwn1 (C : Addr) (sp : Sp) (E : XK) : V → Hp → VK → Prop := fun x H Q => ∃ a dx fs, x = .ref a ∧ H a = some (.ins C dx fs) ∧ sp [.ref a] H Q E
theorem op_own {op : Operator} {nm : Str} (F : FnOk X.prog X.w X.K X.mg X.base CX k f fd ps sp) (hr : Room k X.A) (M : Meth X.K C nm f) (hn : PySem.dunder op.info.2 = nm) (sf : PySem.W.selfFirst X.K C = true) (hb : Binds X.K fd ps []) (hx : Passes CX X E) :
    OpR X (binaryOp op) (rOwn C sp E) := by
  intro pins s σ H x y v u Q I rx ry h
  obtain ⟨a, b, dx, dy, fs, gs, rfl, rfl, ha, hb', q⟩ := h
  cases rx
  cases ry
  obtain ⟨od, J⟩ := inst_at I ha
  obtain ⟨od', J'⟩ := inst_at I hb'
  obtain ⟨m, hF⟩ := I.fr
  refine PySem.W.binop_K hF I.ok.mod.kin J J'.type sf (hn ▸ M.at_) M.fn ?_
  exact thn (run_fn (us := [.ref a, .ref b]) (vs := [.ref a, .ref b]) F hr hb .nil hx I (.cons rfl (.cons rfl .nil)) q) fun _ _ z => back_cmp z
theorem op_ownI {op : Operator} {nm nr : Str} {fo ro rc : Option Value} (F : FnOk X.prog X.w X.K X.mg X.base CX k f fd ps sp) (hr : Room k X.A) (M : Meth X.K C nm f) (hn : PySem.dunder op.info.2 = nm) (sf : PySem.W.selfFirst X.K C = true) (hb : Binds X.K fd ps []) (hx : Passes CX X E)
    (hnr : dunderR op.info.2 = nr) (hc : PySem.W.findIn X.K (.ref C) nr = some rc) (hp : rc = none ∨ ∃ g : Addr, rc = some (.ref g)) (h1 : PySem.W.findIn X.K (.type "int") nm = some fo) (h2 : PySem.W.findIn X.K (.type "int") nr = some ro)
    (hsub : PySem.W.subIn X.K (.type "int") (.ref C) = some false) :
    OpR X (binaryOp op) (rOwnI C sp E) := by
  intro pins s σ H x y v u Q I rx ry h
  obtain ⟨a, n, dx, fs, rfl, rfl, ha, q⟩ := h
  cases rx
  obtain ⟨t, rfl⟩ := ry
  obtain ⟨od, J⟩ := inst_at I ha
  obtain ⟨m, hF⟩ := I.fr
  refine PySem.W.ksp_binT (T := "int") hF I.ok.mod.kin J rfl sf (hn ▸ M.at_) M.fn (hnr ▸ hc) hp (hn ▸ h1) (hnr ▸ h2) hsub ?_
  exact thn (run_fn (us := [.ref a, .int n t]) (vs := [.ref a, .int n]) F hr hb .nil hx I (.cons rfl (.cons ⟨_, rfl⟩ .nil)) q) fun _ _ z => back_cmp z
theorem un_inv_own {nm : Str} (F : FnOk X.prog X.w X.K X.mg X.base CX k f fd ps sp) (hr : Room k X.A) (M : Meth X.K C nm f) (hn : "__invert__" = nm) (hb : Binds X.K fd ps []) (hx : Passes CX X E) : UnR X (unaryOp .Invert) (rOwn1 C sp E) := by
  intro pins s σ H x v Q I rx h
  obtain ⟨a, dx, fs, rfl, ha, q⟩ := h
  cases rx
  obtain ⟨od, J⟩ := inst_at I ha
  obtain ⟨m, hF⟩ := I.fr
  refine PySem.W.ksp_inv hF I.ok.mod.kin J (hn ▸ M.at_) M.fn ?_
  exact run_fn (us := [.ref a]) (vs := [.ref a]) F hr hb .nil hx I (.cons rfl .nil) q
theorem cmp_own {op : CmpOp} {nm : Str} (F : FnOk X.prog X.w X.K X.mg X.base CX k f fd ps sp) (hr : Room k X.A) (M : Meth X.K C nm f) (hn : (cmpInfo op).2.1 = nm) (ho : compareOp op = richCompare op) (hb : Binds X.K fd ps []) (hx : Passes CX X E) : OpR X (compareOp op) (rOwn C sp E) := by
  intro pins s σ H x y v u Q I rx ry h
  obtain ⟨a, b, dx, dy, fs, gs, rfl, rfl, ha, hb', q⟩ := h
  cases rx
  cases ry
  obtain ⟨od, J⟩ := inst_at I ha
  obtain ⟨od', J'⟩ := inst_at I hb'
  obtain ⟨m, hF⟩ := I.fr
  rw [ho]
  refine PySem.W.cmp_K (op := op) (tb := .ref C) hr.units0 hF I.ok.mod.kin J J'.type (by simp [PySem.W.notFirst]) (hn ▸ M.at_) M.fn ?_
  exact thn (run_fn (us := [.ref a, .ref b]) (vs := [.ref a, .ref b]) F hr hb .nil hx I (.cons rfl (.cons rfl .nil)) q) fun _ _ z => back_cmp z
theorem int_mul_ins (n : Int) (t : Tok) (x C dx : Addr) : Meets (Builtin.«int.__mul__» ⟨[.int n t, .ref x], []⟩) (fun _ R s => s.heap.get? x = some (PySem.W.instObj C dx) ∧ R (.ok (.ret Value.notImplemented)) s) :=
  .of_wp fun prog w A R s h => by obtain ⟨hp, g, d, tk, os⟩ := s; obtain ⟨hl, h⟩ := h; wp_walk; exact ⟨_, rfl, h⟩
theorem int_add_ins (n : Int) (t : Tok) (x C dx : Addr) : Meets (Builtin.«int.__add__» ⟨[.int n t, .ref x], []⟩) (fun _ R s => s.heap.get? x = some (PySem.W.instObj C dx) ∧ R (.ok (.ret Value.notImplemented)) s) :=
  .of_wp fun prog w A R s h => by obtain ⟨hp, g, d, tk, os⟩ := s; obtain ⟨hl, h⟩ := h; wp_walk; exact ⟨_, rfl, h⟩
theorem int_sub_ins (n : Int) (t : Tok) (x C dx : Addr) : Meets (Builtin.«int.__sub__» ⟨[.int n t, .ref x], []⟩) (fun _ R s => s.heap.get? x = some (PySem.W.instObj C dx) ∧ R (.ok (.ret Value.notImplemented)) s) :=
  .of_wp fun prog w A R s h => by obtain ⟨hp, g, d, tk, os⟩ := s; obtain ⟨hl, h⟩ := h; wp_walk; exact ⟨_, rfl, h⟩
theorem int_xor_ins (n : Int) (t : Tok) (x C dx : Addr) : Meets (Builtin.«int.__xor__» ⟨[.int n t, .ref x], []⟩) (fun _ R s => s.heap.get? x = some (PySem.W.instObj C dx) ∧ R (.ok (.ret Value.notImplemented)) s) :=
  .of_wp fun prog w A R s h => by obtain ⟨hp, g, d, tk, os⟩ := s; obtain ⟨hl, h⟩ := h; wp_walk; exact ⟨_, rfl, h⟩
/-- int op instance: the left one declines, the class's reflected method answers -/
theorem op_iown {op : Operator} {nm nl : Str} {fl : Addr} {idl : String} {B : Builtin} (F : FnOk X.prog X.w X.K X.mg X.base CX k f fd ps sp) (hr : Room k X.A) (M : Meth X.K C nm f) (hn : dunderR op.info.2 = nm) (ML : Meth X.K C nl fl) (hnl : PySem.dunder op.info.2 = nl) (sf : PySem.W.selfFirst X.K C = true)
    (hb : Binds X.K fd ps []) (hx : Passes CX X E) (hsub : PySem.W.subIn X.K (.ref C) (.type "int") = some false)
    (fills : fillsNumberSlot (.type "int") op.info.2 = pure true) (slot : Slot "int" (PySem.dunder op.info.2) idl) (entry : entryFor table idl = some B) (args : ∀ n t a, argsOk idl ⟨[.int n t, .ref a], []⟩)
    (meets : ∀ n t x dx, Meets (B ⟨[.int n t, .ref x], []⟩) (fun _ R s => s.heap.get? x = some (PySem.W.instObj C dx) ∧ R (.ok (.ret Value.notImplemented)) s)) :
    OpR X (binaryOp op) (rIOwn C sp E) := by
  intro pins s σ H x y v u Q I rx ry h
  obtain ⟨a, n, dx, fs, rfl, rfl, ha, q⟩ := h
  cases ry
  obtain ⟨t, rfl⟩ := rx
  obtain ⟨mA, J0, _⟩ := ins_get I.hok ha
  obtain ⟨od, J, _⟩ := J0.look
  have Xk := I.kIn
  obtain ⟨cd, rest, hcd, hm⟩ := PySem.W.ksp_first sf
  rcases hi : op.info with ⟨sym, nm'⟩
  rw [hi] at hn hnl fills slot
  dsimp only at hn hnl fills slot
  have L3 : PySem.W.Looks (model X.prog X.w) s.heap (fillsNumberSlot (.ref C) nm') true := PySem.W.fills_K Xk hcd hm (hnl ▸ ML.at_)
  have L5 : PySem.W.Looks (model X.prog X.w) s.heap (isSubtype (.ref C) (.type "int")) false := PySem.W.looks_subIn Xk hsub
  have hne : (Value.type "int" == Value.ref C) = false := Bool.eq_false_iff.mpr fun q => by cases beq_iff_eq.mp q
  have L0 : typeOf (.int n t) = pure (.type "int") := rfl
  simp only [binaryOp, hi]
  refine wpAny_holding (wpAny_bind ?_)
  unfold binaryOp1
  refine wpAny_bind (wpAny_of_eq L0 (wpAny_bind (J.type.here (wpAny_bind (wpAny_of_eq fills ?_)))))
  simp only [hne, Bool.false_eq_true, if_false]
  refine wpAny_bind (L3.here ?_)
  simp only [Bool.and_self, if_true]
  refine wpAny_bind (L5.here ?_)
  have hpy : numberSlotInPython (.type "int") nm' = pure false := rfl
  simp only [Bool.false_eq_true, if_false, pure_bind, Bool.not_false, Bool.and_self, if_true, hpy]
  refine wpAny_bind (wpAny_tryMethod_declines (T := "int") rfl slot (call_meets slot rfl entry (args n t a) (meets n t a dx) ⟨J0.obj, rfl, ?_⟩))
  refine wpAny_bind ?_
  have z := PySem.W.ksp_try (Q := EP X pins σ Q) Xk J (hn ▸ M.at_) M.fn (thn (run_fn (us := [.ref a, .int n t]) (vs := [.ref a, .int n]) F hr hb .nil hx I (.cons rfl (.cons ⟨_, rfl⟩ .nil)) q) fun _ _ z => back_cmp z)
  refine wpAny_mono z (fun r s' hr' => ?_) fun _ _ e => e
  obtain ⟨v, rfl, hq⟩ := hr'
  exact wpAny_bind (wpAny_rule (wpAny_pure (wpAny_pure hq)))
/-- C.m is a staticmethod: its record at p, its def at g -/
structure SMet (K : PySem.W.Frag) (C : Addr) (mc : Value) (m : Str) (p g : Addr) : Prop where
  at_ : PySem.W.findCls K (.ref C) mc m = some (.get (.builtin "staticmethod.__get__") (.ref p) .none (.ref C))
  rc : ∃ rest, PySem.W.recIn K p "staticmethod" = some (.ref g :: rest)
  kp : PySem.W.keepIn K (.ref g) = true
theorem getsmet_ok {b : Bool} {A : Around} {E : Value → Shared → Prop} {Q : Value → Shared → Prop} (I : Inv X pins σ H s) (r : CRead X.K C mc) (c : SMet X.K C mc m p g)
    (h : ∀ s', Inv X pins σ H s' → Q (.ref g) s') : wpAny (model X.prog X.w) A (getAttr (.ref C) m b) Q E s := by
  obtain ⟨rest, hp⟩ := c.rc
  refine PySem.W.cls_bind I.kIn r.rd c.at_ ?_
  exact wpAny_call (PySem.W.sm_get (s := { s with toks := s.toks + 1 }) I.kIn hp (PySem.W.handed_on rfl (h _ (I.tok _))))
def tSMeth (C : Addr) (sp : Sp) (E : XK) (ta : TE) (t : TA) : TE := fun σ H Q => ta σ H fun x H1 => x = .ref C ∧ t σ H1 fun vs H2 => sp vs H2 Q E
theorem pe_smeth (he : PE X o ta) (r : CRead X.K C mc) (c : SMet X.K C mc m p g) (F : FnOk X.prog X.w X.K X.mg X.base CX k g fd ps sp) (hr : Room k X.A) (hb : Binds X.K fd ps []) (hx : Passes CX X E) (ha : PA X (e :: es) t)
    (hst : starEach (e :: es) X.env = (false, eval e X.env) :: starEach es X.env := by rfl) (hpl : (backTo pos (starEach es X.env)).any (·.1) = false := by rfl)
    (ht : eval (.Call (.Attribute o m apos) (e :: es) [] pos) X.env = (do
      let ov ← eval o X.env
      standAt apos.atName
      let (f, first) ← holding [ov] (getMethod ov m pl)
      callWith pos f first (backTo pos (starEach (e :: es) X.env)) (backToKw pos (keywordEach [] X.env))) := by rfl) :
    PE X (.Call (.Attribute o m apos) (e :: es) [] pos) (tSMeth C sp E ta t) := by
  refine ⟨fun pins s σ H Q I h => ?_⟩
  refine PySem.W.methodCall_KW (pl := pl) (thn (he.run pins s σ H _ I h) fun u s1 ⟨x, H1, I1, rx, ex, q⟩ => ?_) ht
  subst ex
  obtain rfl : u = Value.ref C := rx
  refine PySem.W.method_cls I1.kIn r.ga (getsmet_ok I1 r c fun s2 I2 => ?_)
  refine PySem.W.callWith_K (first := []) (h₀ := X.base) I.ok.mod.kin c.kp (thn (ha.run pos _ s2 σ H1 _ I2 q) fun us s3 ⟨vs, H2, I3, rv, q2⟩ => ⟨I3.kIn, ?_⟩) hst hpl
  exact run_fn (us := us) (vs := vs) F hr hb .nil hx I3 rv (by rw [List.append_nil]; exact q2)
end
end TzOwn
namespace TzOwn
open PySem L2 SeqAt
section
variable {X : Cx}
/-- xs != [], xs == [], whatever the items are: the second list is empty -/
def rNeNil : R2 := fun x y H Q => ∃ a b xs, x = .ref a ∧ y = .ref b ∧ H a = some (.lst xs) ∧ H b = some (.lst []) ∧ Q (.bl (!xs.isEmpty)) H
def rEqNil : R2 := fun x y H Q => ∃ a b xs, x = .ref a ∧ y = .ref b ∧ H a = some (.lst xs) ∧ H b = some (.lst []) ∧ Q (.bl xs.isEmpty) H
theorem op_neNil (hu : X.A.units < cLine) : OpR X (compareOp .NotEq) rNeNil := by
  intro pins s σ H x y v u Q I rx ry h
  obtain ⟨a, b, xs, rfl, rfl, ha, hb, q⟩ := h
  cases rx
  cases ry
  obtain ⟨_, its, n, r, e⟩ := I.hok a _ ha
  obtain ⟨_, its2, n2, r2, e2⟩ := I.hok b _ hb
  have l2 : its2 = [] := List.length_eq_zero_iff.mp r2.length.symm
  subst l2
  show wpAny (model X.prog X.w) X.A (richCompare .NotEq (.ref a) (.ref b)) (EP X pins σ Q) X.xe s
  cases xs with
  | nil =>
    have l1 : its = [] := List.length_eq_zero_iff.mp r.length.symm
    subst l1
    exact RcNeAt.lists (e := fun _ => true) ⟨_, e, rfl, n, rfl⟩ ⟨_, e2, rfl, n2, rfl⟩ rfl hu (fun i h1 => absurd h1 (Nat.not_lt_zero _)) _ _ _ _ ⟨.bl false, H, I, rfl, q⟩
  | cons y ys =>
    have l1 : its.length = ys.length + 1 := r.length.symm
    exact RcNeAt.lists_lengths ⟨_, e, rfl, n, rfl⟩ ⟨_, e2, rfl, n2, rfl⟩ (by simp [l1]) hu _ _ _ _ ⟨.bl true, H, I, rfl, q⟩
end
end TzOwn
namespace Tz
open PySem L2
/-! ### mathematics of carried sums -/
/-- the greatest value -/
def mw (w : Nat) : Int := 2 ^ w - 1
theorem mw_pos {w : Nat} (h : 1 ≤ w) : 1 ≤ mw w := by
  have := pow_gt h
  unfold mw
  omega
theorem mw_64 {w : Nat} (h : w ≤ 64) : mw w < 18446744073709551616 := by
  have := pow_le64 h
  unfold mw
  omega
theorem mw_lt {w : Nat} {v : Int} : v < 2 ^ w ↔ v ≤ mw w := by
  unfold mw
  omega
/-- the value of a sum of words whose plain sum is n -/
def cr (w : Nat) (n : Int) : Int := if 0 < n then (n - 1) % mw w + 1 else 0
theorem cr_bd {w : Nat} (h : 1 ≤ w) (n : Int) : 0 ≤ cr w n ∧ cr w n ≤ mw w := by
  have hm := mw_pos h
  unfold cr
  split
  · have := emod_bd (a := n - 1) (m := mw w) (by omega)
    omega
  · omega
theorem cr_pos {w : Nat} (h : 1 ≤ w) {n : Int} (hn : 0 < n) : 1 ≤ cr w n := by
  have hm := mw_pos h
  unfold cr
  rw [if_pos hn]
  have := emod_bd (a := n - 1) (m := mw w) (by omega)
  omega
theorem cr_zero (w : Nat) : cr w 0 = 0 := rfl
theorem cr_non {w : Nat} {n : Int} (h : ¬ 0 < n) : cr w n = 0 := if_neg h
/-- the one word from 1 to M with the rest of n -/
theorem cr_eq {w : Nat} {n r q : Int} (hn : 0 < n) (h1 : 1 ≤ r) (h2 : r ≤ mw w) (e : n = r + mw w * q) : cr w n = r := by
  unfold cr
  rw [if_pos hn, show n - 1 = (r - 1) + mw w * q by omega, Int.add_mul_emod_self_left, Int.emod_eq_of_lt (by omega) (by omega)]
  omega
theorem cr_ex {w : Nat} (n : Int) (hn : 0 < n) : ∃ q, n = cr w n + mw w * q := by
  refine ⟨(n - 1) / mw w, ?_⟩
  unfold cr
  rw [if_pos hn]
  have := Int.emod_add_mul_ediv (n - 1) (mw w)
  omega
theorem cr_self {w : Nat} {x : Int} (h0 : 0 ≤ x) (h1 : x ≤ mw w) : cr w x = x := by
  by_cases h : 0 < x
  · exact cr_eq (q := 0) h (by omega) h1 (by omega)
  · rw [cr_non h]
    omega
/-- the carry may be done ahead -/
theorem cr_add {w : Nat} (h : 1 ≤ w) {a b : Int} (ha : 0 ≤ a) (hb : 0 ≤ b) : cr w (cr w a + b) = cr w (a + b) := by
  by_cases h0 : 0 < a
  · obtain ⟨q, e⟩ := cr_ex (w := w) a h0
    have p1 := cr_pos h h0
    have p2 := cr_bd h (a + b)
    have p3 := cr_pos h (n := a + b) (by omega)
    obtain ⟨r, e2⟩ := cr_ex (w := w) (a + b) (by omega)
    refine cr_eq (q := r - q) (by omega) p3 p2.2 ?_
    rw [Int.mul_sub]
    omega
  · rw [cr_non h0, show a = 0 by omega]
theorem cr_add2 {w : Nat} (h : 1 ≤ w) {a b : Int} (ha : 0 ≤ a) (hb : 0 ≤ b) : cr w (cr w a + cr w b) = cr w (a + b) := by
  rw [cr_add h ha (cr_bd h b).1, Int.add_comm, cr_add h hb ha, Int.add_comm]
theorem cr_mul {w : Nat} (h : 1 ≤ w) {k a : Int} (hk : 0 ≤ k) (ha : 0 ≤ a) : cr w (k * cr w a) = cr w (k * a) := by
  by_cases h0 : 0 < a
  · by_cases k0 : 0 < k
    · obtain ⟨q, e⟩ := cr_ex (w := w) a h0
      have p1 := cr_pos h h0
      have hka := Int.mul_pos k0 h0
      have hkc := Int.mul_pos k0 (show 0 < cr w a by omega)
      have p2 := cr_bd h (k * a)
      have p3 := cr_pos h hka
      obtain ⟨r, e2⟩ := cr_ex (w := w) (k * a) hka
      refine cr_eq (q := r - k * q) hkc p3 p2.2 ?_
      have e3 : k * a = k * cr w a + mw w * (k * q) := by
        conv => lhs; rw [e]
        rw [Int.mul_add, Int.mul_left_comm]
      rw [Int.mul_sub]
      omega
    · rw [show k = 0 by omega, Int.zero_mul, Int.zero_mul]
  · rw [cr_non h0, show a = 0 by omega]
/-! ### what a word is -/
/-- its attributes, in the order in which __init__ stores them -/
def wf (w : Nat) (v : Int) : List (Str × V) :=
  putF "is_full" (.bl (v == mw w)) (putF "is_empty" (.bl (v == 0)) (putF "rest" (.int (v % mw w)) (putF "value" (.int v) (putF "width" (.int w) []))))
theorem sne : (¬ (("width" : Str) = "value")) ∧ (¬ (("width" : Str) = "rest")) ∧ (¬ (("width" : Str) = "is_empty")) ∧ (¬ (("width" : Str) = "is_full")) ∧ (¬ (("value" : Str) = "rest")) ∧ (¬ (("value" : Str) = "is_empty")) ∧ (¬ (("value" : Str) = "is_full")) ∧
    (¬ (("rest" : Str) = "is_empty")) ∧ (¬ (("rest" : Str) = "is_full")) ∧ (¬ (("is_empty" : Str) = "is_full")) := by decide +kernel
theorem wf_width (w : Nat) (v : Int) : (wf w v).lookup ("width" : Str) = some (.int w) := by
  unfold wf
  rw [lookup_putF, if_neg sne.2.2.2.1, lookup_putF, if_neg sne.2.2.1, lookup_putF, if_neg sne.2.1, lookup_putF, if_neg sne.1, lookup_putF, if_pos rfl]
theorem wf_value (w : Nat) (v : Int) : (wf w v).lookup ("value" : Str) = some (.int v) := by
  unfold wf
  rw [lookup_putF, if_neg sne.2.2.2.2.2.2.1, lookup_putF, if_neg sne.2.2.2.2.2.1, lookup_putF, if_neg sne.2.2.2.2.1, lookup_putF, if_pos rfl]
theorem wf_rest (w : Nat) (v : Int) : (wf w v).lookup ("rest" : Str) = some (.int (v % mw w)) := by
  unfold wf
  rw [lookup_putF, if_neg sne.2.2.2.2.2.2.2.2.1, lookup_putF, if_neg sne.2.2.2.2.2.2.2.1, lookup_putF, if_pos rfl]
theorem wf_is_empty (w : Nat) (v : Int) : (wf w v).lookup ("is_empty" : Str) = some (.bl (v == 0)) := by
  unfold wf
  rw [lookup_putF, if_neg sne.2.2.2.2.2.2.2.2.2, lookup_putF, if_pos rfl]
theorem wf_is_full (w : Nat) (v : Int) : (wf w v).lookup ("is_full" : Str) = some (.bl (v == mw w)) := by
  unfold wf
  rw [lookup_putF, if_pos rfl]
theorem wf_no (w : Nat) (v : Int) {m : Str} (h1 : ¬ m = "width") (h2 : ¬ m = "value") (h3 : ¬ m = "rest") (h4 : ¬ m = "is_empty") (h5 : ¬ m = "is_full") : (wf w v).lookup m = none := by
  unfold wf
  rw [lookup_putF, if_neg h5, lookup_putF, if_neg h4, lookup_putF, if_neg h3, lookup_putF, if_neg h2, lookup_putF, if_neg h1]
  all_goals rfl
structure WordAt (C : Addr) (H : Hp) (x : Addr) (w : Nat) (v : Int) : Prop where
  ob : ∃ dx, H x = some (.ins C dx (wf w v))
  w1 : 1 ≤ w
  w64 : w ≤ 64
  v0 : 0 ≤ v
  vm : v ≤ mw w
theorem WordAt.ex {C : Addr} {H H' : Hp} {x : Addr} {w : Nat} {v : Int} (h : WordAt C H x w v) (e : Ex H H') : WordAt C H' x w v := by
  obtain ⟨⟨dx, h1⟩, h2, h3, h4, h5⟩ := h
  exact ⟨⟨dx, e _ _ h1⟩, h2, h3, h4, h5⟩
theorem WordAt.fw {C : Addr} {H H' : Hp} {x z : Addr} {w : Nat} {v : Int} (h : WordAt C H x w v) (e : Fw z H H') (n : x ≠ z) : WordAt C H' x w v := by
  obtain ⟨⟨dx, h1⟩, h2, h3, h4, h5⟩ := h
  exact ⟨⟨dx, e _ _ n h1⟩, h2, h3, h4, h5⟩
theorem WordAt.ne_pen {C : Addr} {H : Hp} {x z c : Addr} {w t : Nat} {v : Int} {cells : List Int} (h : WordAt C H x w v) (p : PenAt H z c cells t) : x ≠ z := by
  obtain ⟨⟨dx, h1⟩, _⟩ := h
  obtain ⟨⟨i, l, h2, _⟩, _⟩ := p
  exact ne_of h1 h2 (by intro q; cases q)
/-! ### promises -/
def spIsFromI : Sp := fun vs H Q _ => ∃ v lo hi : Int, vs = [.int v, .int lo, .int hi] ∧ ∀ b : Bool, (b = true ↔ lo ≤ v ∧ v ≤ hi) → Q (.bl b) H
def spMost : Sp := fun vs H Q _ => ∃ w : Nat, vs = [.int w] ∧ 1 ≤ w ∧ w ≤ 64 ∧ Q (.int (mw w)) H
def spCheckedWidth : Sp := fun vs H Q _ => ∃ w : Nat, vs = [.int w] ∧ 1 ≤ w ∧ w ≤ 64 ∧ Q (.int w) H
def spWordInit (C : Addr) : Sp := fun vs H Q _ => ∃ p dx, ∃ w : Nat, ∃ v : Int, vs = [.ref p, .int w, .int v] ∧ H p = some (.ins C dx []) ∧ 1 ≤ w ∧ w ≤ 64 ∧ 0 ≤ v ∧ v ≤ mw w ∧
  ∀ H', H' p = some (.ins C dx (wf w v)) → (∀ b o, H b = some o → b ≠ p → H' b = some o) → Q .non H'
def spCarried : Sp := fun vs H Q _ => ∃ w : Nat, ∃ n : Int, vs = [.int w, .int n] ∧ 1 ≤ w ∧ w ≤ 64 ∧ Q (.int (cr w n)) H
/-- a new word -/
def NewW (C : Addr) (w : Nat) (v : Int) (H : Hp) (Q : VK) : Prop := ∀ p H', H p = none → Ex H H' → WordAt C H' p w v → Q (.ref p) H'
theorem NewW.go {C : Addr} {w : Nat} {v : Int} {H H1 H2 : Hp} {Q : VK} {p : Addr} (k : NewW C w v H Q) (e : Ex H H1) (n : H1 p = none) (e2 : Ex H1 H2) (W : WordAt C H2 p w v) : Q (.ref p) H2 := k p H2 (back e n) (e.trans e2) W
def spSumWord (C : Addr) : Sp := fun vs H Q _ => ∃ w : Nat, ∃ a b : Int, vs = [.int w, .int a, .int b] ∧ 1 ≤ w ∧ w ≤ 64 ∧ NewW C w (cr w (a + b)) H Q
def spDiffWord (C : Addr) : Sp := fun vs H Q _ => ∃ w : Nat, ∃ a b : Int, vs = [.int w, .int a, .int b] ∧ 1 ≤ w ∧ w ≤ 64 ∧ NewW C w (cr w (a + (mw w - b))) H Q
def spTimes : Sp := fun vs H Q _ => ∃ k : Int, vs = [.int k] ∧ 0 ≤ k ∧ k ≤ 1000000000000000000000000000000 ∧ Q (.int k) H
def spTurned (C : Addr) : Sp := fun vs H Q _ => ∃ x, ∃ w : Nat, ∃ v k : Int, vs = [.ref x, .int k] ∧ WordAt C H x w v ∧ NewW C w (cr w (v * 2 ^ (k % w).toNat)) H Q
def spOperand (C : Addr) : Sp := fun vs H Q _ => ∃ x y, ∃ w : Nat, ∃ u v : Int, vs = [.ref x, .ref y] ∧ WordAt C H x w u ∧ WordAt C H y w v ∧ Q (.int v) H
def spAdd (C : Addr) : Sp := fun vs H Q _ => ∃ x y, ∃ w : Nat, ∃ u v : Int, vs = [.ref x, .ref y] ∧ WordAt C H x w u ∧ WordAt C H y w v ∧ NewW C w (cr w (u + v)) H Q
def spSub (C : Addr) : Sp := fun vs H Q _ => ∃ x y, ∃ w : Nat, ∃ u v : Int, vs = [.ref x, .ref y] ∧ WordAt C H x w u ∧ WordAt C H y w v ∧ NewW C w (cr w (u + (mw w - v))) H Q
def spEq (C : Addr) : Sp := fun vs H Q _ => ∃ x y, ∃ w1 w2 : Nat, ∃ u v : Int, vs = [.ref x, .ref y] ∧ WordAt C H x w1 u ∧ WordAt C H y w2 v ∧ Q (.bl (decide (w1 = w2) && decide (u = v))) H
def spLike (C : Addr) : Sp := fun vs H Q _ => ∃ x y, ∃ w : Nat, ∃ u v : Int, vs = [.ref x, .ref y] ∧ WordAt C H x w u ∧ WordAt C H y w v ∧ Q (.bl (decide (u % mw w = v % mw w))) H
def spMulI (C : Addr) : Sp := fun vs H Q _ => ∃ x, ∃ w : Nat, ∃ u k : Int, vs = [.ref x, .int k] ∧ WordAt C H x w u ∧ 0 ≤ k ∧ k ≤ 1000000000000000000000000000000 ∧ NewW C w (cr w (k * u)) H Q
def spShlI (C : Addr) : Sp := fun vs H Q _ => ∃ x, ∃ w : Nat, ∃ u k : Int, vs = [.ref x, .int k] ∧ WordAt C H x w u ∧ 0 ≤ k ∧ k ≤ 1000000000000000000000000000000 ∧ NewW C w (cr w (u * 2 ^ (k % w).toNat)) H Q
def spInv (C : Addr) : Sp := fun vs H Q _ => ∃ x, ∃ w : Nat, ∃ u : Int, vs = [.ref x] ∧ WordAt C H x w u ∧ NewW C w (mw w - u) H Q
def spConst (C : Addr) (f : Nat → Int) : Sp := fun vs H Q _ => ∃ w : Nat, vs = [.int w] ∧ 1 ≤ w ∧ w ≤ 64 ∧ NewW C w (f w) H Q
/-- a new instance and its __init__ -/
theorem mk_word {C : Addr} {w : Nat} {v : Int} {H : Hp} {Q : VK} {E : XK} (w1 : 1 ≤ w) (w64 : w ≤ 64) (v0 : 0 ≤ v) (vm : v ≤ mw w) (k : NewW C w v H Q) :
    ∀ x dx, H x = none → H dx = none → dx ≠ x → spWordInit C [.ref x, .int w, .int v] (upd (upd H dx (.own x)) x (.ins C dx [])) (fun u H2 => u = .non ∧ Q (.ref x) H2) E := fun x dx nx ndx _ =>
  ⟨x, dx, w, v, rfl, upd_same, w1, w64, v0, vm, fun H' hx hk => ⟨rfl, k x H' nx (fun b o e => hk b o (by rw [upd_ne (ne_of_none e nx), upd_ne (ne_of_none e ndx)]; exact e) (ne_of_none e nx)) ⟨⟨dx, hx⟩, w1, w64, v0, vm⟩⟩⟩
theorem kit_self {K : PySem.W.Frag} {v : Value} : PySem.W.kitOne K v v = some true := by
  unfold PySem.W.kitOne
  rw [if_pos (beq_self_eq_true v)]
/-! ### rows of words -/
inductive Ws (C : Addr) (H : Hp) (w : Nat) : List Addr → List Int → Prop where
  | nil : Ws C H w [] []
  | cons {x : Addr} {v : Int} {xs : List Addr} {vs : List Int} (h : WordAt C H x w v) (t : Ws C H w xs vs) : Ws C H w (x :: xs) (v :: vs)
theorem Ws.len {C : Addr} {H : Hp} {w : Nat} {xs : List Addr} {vs : List Int} (h : Ws C H w xs vs) : xs.length = vs.length := by
  induction h with
  | nil => rfl
  | cons _ _ ih => rw [List.length_cons, List.length_cons, ih]
theorem Ws.get {C : Addr} {H : Hp} {w : Nat} {xs : List Addr} {vs : List Int} (h : Ws C H w xs vs) : ∀ {i : Nat}, i < xs.length → ∃ x v, xs[i]? = some x ∧ vs[i]? = some v ∧ WordAt C H x w v := by
  induction h with
  | nil => intro i hi; exact absurd hi (Nat.not_lt_zero _)
  | @cons x v xs vs h t ih =>
    intro i hi
    cases i with
    | zero => exact ⟨x, v, rfl, rfl, h⟩
    | succ i => exact ih (by simpa using hi)
theorem Ws.fw {C : Addr} {H H' : Hp} {w : Nat} {xs : List Addr} {vs : List Int} (h : Ws C H w xs vs) (k : ∀ x v, WordAt C H x w v → WordAt C H' x w v) : Ws C H' w xs vs := by
  induction h with
  | nil => exact .nil
  | cons h _ ih => exact .cons (k _ _ h) ih
theorem Ws.app {C : Addr} {H : Hp} {w : Nat} {xs ys : List Addr} {vs us : List Int} (h : Ws C H w xs vs) (g : Ws C H w ys us) : Ws C H w (xs ++ ys) (vs ++ us) := by
  induction h with
  | nil => exact g
  | cons h _ ih => exact .cons h ih
theorem Ws.take {C : Addr} {H : Hp} {w : Nat} {xs : List Addr} {vs : List Int} (h : Ws C H w xs vs) : ∀ n, Ws C H w (xs.take n) (vs.take n) := by
  induction h with
  | nil => intro n; rw [List.take_nil, List.take_nil]; exact .nil
  | cons h _ ih =>
    intro n
    cases n with
    | zero => exact .nil
    | succ n => exact .cons h (ih n)
theorem Ws.drop {C : Addr} {H : Hp} {w : Nat} {xs : List Addr} {vs : List Int} (h : Ws C H w xs vs) : ∀ n, Ws C H w (xs.drop n) (vs.drop n) := by
  induction h with
  | nil => intro n; rw [List.drop_nil, List.drop_nil]; exact .nil
  | @cons x v xs vs h t ih =>
    intro n
    cases n with
    | zero => exact .cons h t
    | succ n => exact ih n
theorem Ws.erase {C : Addr} {H : Hp} {w : Nat} {xs : List Addr} {vs : List Int} (h : Ws C H w xs vs) : ∀ n, Ws C H w (xs.eraseIdx n) (vs.eraseIdx n) := by
  induction h with
  | nil => intro n; exact .nil
  | @cons x v xs vs h t ih =>
    intro n
    cases n with
    | zero => exact t
    | succ n => exact .cons h (ih n)
theorem Ws.nonneg {C : Addr} {H : Hp} {w : Nat} {xs : List Addr} {vs : List Int} (h : Ws C H w xs vs) : 0 ≤ vs.sum := by
  induction h with
  | nil => exact Int.le_refl 0
  | cons h _ ih =>
    have := h.v0
    rw [List.sum_cons]
    omega
theorem sum_erase : ∀ {vs : List Int} {i : Nat} {v : Int}, vs[i]? = some v → vs.sum = v + (vs.eraseIdx i).sum
  | [], i, v, h => by simp at h
  | a :: r, 0, v, h => by
    have e : a = v := Option.some.inj h
    subst e
    rw [List.sum_cons, List.eraseIdx_cons_zero]
  | a :: r, i + 1, v, h => by
    have ih := sum_erase (vs := r) (i := i) (v := v) h
    rw [List.sum_cons, ih, List.eraseIdx_cons_succ, List.sum_cons]
    omega
theorem sum_mid : ∀ {vs : List Int} {i : Nat} {a b : Int}, vs[i]? = some a → vs[i + 1]? = some b → vs.sum = (vs.take i).sum + (a + b) + (vs.drop (i + 2)).sum
  | [], i, a, b, h, _ => by simp at h
  | [c], i, a, b, _, h => by simp at h
  | c :: d :: r, 0, a, b, h, h' => by
    have e : c = a := Option.some.inj h
    have e' : d = b := Option.some.inj h'
    subst e e'
    show (c :: d :: r).sum = 0 + (c + d) + r.sum
    rw [List.sum_cons, List.sum_cons]
    omega
  | c :: d :: r, i + 1, a, b, h, h' => by
    have ih := sum_mid (vs := d :: r) (i := i) (a := a) (b := b) h h'
    rw [List.sum_cons, ih, List.take_succ_cons, List.sum_cons]
    show c + ((List.take i (d :: r)).sum + (a + b) + (List.drop (i + 2) (d :: r)).sum) = c + (List.take i (d :: r)).sum + (a + b) + (List.drop (i + 2) (d :: r)).sum
    omega
/-! ### one operation, told by words -/
section
variable {C : Addr} {E : XK} {H : Hp} {Q : VK} {a b : Addr} {w w' : Nat} {u v k : Int}
theorem g_add (Wa : WordAt C H a w u) (Wb : WordAt C H b w v) (q : NewW C w (cr w (u + v)) H Q) : TzOwn.rOwn C (spAdd C) E (.ref a) (.ref b) H Q := by
  obtain ⟨da, ha⟩ := Wa.ob
  obtain ⟨db, hb⟩ := Wb.ob
  exact ⟨a, b, da, db, _, _, rfl, rfl, ha, hb, a, b, w, u, v, rfl, Wa, Wb, q⟩
theorem g_sub (Wa : WordAt C H a w u) (Wb : WordAt C H b w v) (q : NewW C w (cr w (u + (mw w - v))) H Q) : TzOwn.rOwn C (spSub C) E (.ref a) (.ref b) H Q := by
  obtain ⟨da, ha⟩ := Wa.ob
  obtain ⟨db, hb⟩ := Wb.ob
  exact ⟨a, b, da, db, _, _, rfl, rfl, ha, hb, a, b, w, u, v, rfl, Wa, Wb, q⟩
theorem g_eq (Wa : WordAt C H a w u) (Wb : WordAt C H b w v) (q : Q (.bl (decide (u = v))) H) : TzOwn.rOwn C (spEq C) E (.ref a) (.ref b) H Q := by
  obtain ⟨da, ha⟩ := Wa.ob
  obtain ⟨db, hb⟩ := Wb.ob
  refine ⟨a, b, da, db, _, _, rfl, rfl, ha, hb, a, b, w, w, u, v, rfl, Wa, Wb, ?_⟩
  rw [decide_eq_true (rfl : w = w), Bool.true_and]
  exact q
/-- .. two that are equal -/
theorem g_eqT (Wa : WordAt C H a w u) (Wb : WordAt C H b w v) (e : u = v) (q : Q (.bl true) H) : TzOwn.rOwn C (spEq C) E (.ref a) (.ref b) H Q := g_eq Wa Wb (by rw [decide_eq_true e]; exact q)
theorem g_rmul (Wa : WordAt C H a w u) (k0 : 0 ≤ k) (k1 : k ≤ 1000000000000000000000000000000) (q : NewW C w (cr w (k * u)) H Q) : TzOwn.rIOwn C (spMulI C) E (.int k) (.ref a) H Q := by
  obtain ⟨da, ha⟩ := Wa.ob
  exact ⟨a, k, da, _, rfl, rfl, ha, a, w, u, k, rfl, Wa, k0, k1, q⟩
theorem g_mul (Wa : WordAt C H a w u) (k0 : 0 ≤ k) (k1 : k ≤ 1000000000000000000000000000000) (q : NewW C w (cr w (k * u)) H Q) : TzOwn.rOwnI C (spMulI C) E (.ref a) (.int k) H Q := by
  obtain ⟨da, ha⟩ := Wa.ob
  exact ⟨a, k, da, _, rfl, rfl, ha, a, w, u, k, rfl, Wa, k0, k1, q⟩
theorem g_shl (Wa : WordAt C H a w u) (k0 : 0 ≤ k) (k1 : k ≤ 1000000000000000000000000000000) (q : NewW C w (cr w (u * 2 ^ (k % w).toNat)) H Q) : TzOwn.rOwnI C (spShlI C) E (.ref a) (.int k) H Q := by
  obtain ⟨da, ha⟩ := Wa.ob
  exact ⟨a, k, da, _, rfl, rfl, ha, a, w, u, k, rfl, Wa, k0, k1, q⟩
theorem g_inv (Wa : WordAt C H a w u) (q : NewW C w (mw w - u) H Q) : TzOwn.rOwn1 C (spInv C) E (.ref a) H Q := by
  obtain ⟨da, ha⟩ := Wa.ob
  exact ⟨a, da, _, rfl, ha, a, w, u, rfl, Wa, q⟩
end
theorem Fw.mut {z p : Addr} {H H' : Hp} {o : HO} (e : Fw z H H') (h : H p = none) : Fw z H (upd H' p o) := fun a u n ha => by
  rw [upd_ne (ne_of_none ha h)]
  exact e a u n ha
theorem PenAt.upd {H : Hp} {z c b : Addr} {cells : List Int} {t : Nat} {o : HO} (h : PenAt H z c cells t) (bz : b ≠ z) (bc : b ≠ c) : PenAt (upd H b o) z c cells t := by
  obtain ⟨⟨i, l, h1, h2⟩, h3, h4, h5⟩ := h
  exact ⟨⟨i, l, by rw [upd_ne bz.symm]; exact h1, h2⟩, by rw [upd_ne bc.symm]; exact h3, h4, h5⟩
theorem PenAt.off {H : Hp} {z c b : Addr} {cells : List Int} {t : Nat} (h : PenAt H z c cells t) (n : H b = none) : b ≠ z ∧ b ≠ c := by
  obtain ⟨⟨i, l, h1, _⟩, h3, _⟩ := h
  exact ⟨(ne_of_none h1 n).symm, (ne_of_none h3 n).symm⟩
theorem seqIx {i n : Nat} (h : i < n) : seqIndex? (i : Int) n = some i := by
  have e : ixN n (i : Int) = some i := by
    unfold ixN
    rw [if_pos (by omega), if_pos (by omega), Int.toNat_natCast]
  exact (ixN_seq e).1
theorem erase_map {α β : Type} (f : α → β) : ∀ (xs : List α) (i : Nat), (xs.map f).eraseIdx i = (xs.eraseIdx i).map f
  | [], _ => rfl
  | _ :: _, 0 => rfl
  | x :: r, i + 1 => by
    rw [List.map_cons, List.eraseIdx_cons_succ, List.eraseIdx_cons_succ, List.map_cons, erase_map f r i]
theorem eqv_ints (ns ms : List Int) : PyData.eqv (.list (ns.map PyData.int)) (.list (ms.map PyData.int)) = decide (ns = ms) := by
  rw [← SeqAt.same_eq_eqv _ _ (by simp only [SeqAt.noMix]; exact PySem.W.noMix_ints ns ms)]
  simp only [PySem.Spec.same]
  exact PySem.W.same_ints ns ms
theorem WordAt.off {C : Addr} {H : Hp} {x b : Addr} {w : Nat} {v : Int} {ys : List V} {o : HO} (h : WordAt C H x w v) (hb : H b = some (.lst ys)) : WordAt C (upd H b o) x w v := by
  obtain ⟨⟨dx, h1⟩, h2, h3, h4, h5⟩ := h
  exact ⟨⟨dx, by rw [upd_ne (ne_of h1 hb (by intro q; cases q))]; exact h1⟩, h2, h3, h4, h5⟩
theorem atI_neg1 {α : Type} {xs : List α} {v : α} {n : Nat} (hn : xs.length = n + 1) (h : xs[n]? = some v) : atI xs (-1) = some v := by
  unfold atI ixN
  rw [if_neg (by decide), if_pos (by omega), hn]
  show xs[((-1 : Int) + ((n + 1 : Nat) : Int)).toNat]? = some v
  rw [show ((-1 : Int) + ((n + 1 : Nat) : Int)).toNat = n by omega]
  exact h
theorem sum_zero : ∀ {vs : List Int}, (∀ v ∈ vs, 0 ≤ v) → (vs.sum = 0 ↔ vs = List.replicate vs.length 0)
  | [], _ => ⟨fun _ => rfl, fun _ => rfl⟩
  | a :: r, h => by
    have ih := sum_zero (vs := r) fun v hv => h v (List.mem_cons_of_mem _ hv)
    have a0 := h a List.mem_cons_self
    have r0 : 0 ≤ r.sum := by
      have : ∀ l : List Int, (∀ v ∈ l, 0 ≤ v) → 0 ≤ l.sum := by
        intro l
        induction l with
        | nil => intro _; exact Int.le_refl 0
        | cons x t iht =>
          intro hx
          have := hx x List.mem_cons_self
          have := iht fun v hv => hx v (List.mem_cons_of_mem _ hv)
          rw [List.sum_cons]
          omega
      exact this r fun v hv => h v (List.mem_cons_of_mem _ hv)
    rw [List.sum_cons, List.length_cons, List.replicate_succ]
    constructor
    · intro e
      rw [show a = 0 by omega, ← ih.mp (by omega)]
    · intro e
      injection e with e1 e2
      rw [e1, ih.mpr e2]
      all_goals rfl
theorem rep_flat (v : Int) : ∀ n : Nat, (List.replicate n [V.int v]).flatten = (List.replicate n v).map V.int
  | 0 => rfl
  | n + 1 => by
    rw [List.replicate_succ, List.flatten_cons, rep_flat v n, List.replicate_succ, List.map_cons]
    all_goals rfl
theorem yes_go {σ : L2.St} {H : Hp} {A B : Hp → Prop} (h : A H) : tYes σ H fun b H3 => if b = true then A H3 else B H3 := by
  show (if true = true then A H else B H)
  rw [if_pos rfl]
  exact h
theorem mk_word1 {C x dx : Addr} {w : Nat} {v : Int} {H : Hp} {Q : VK} {E : XK} (w1 : 1 ≤ w) (w64 : w ≤ 64) (v0 : 0 ≤ v) (vm : v ≤ mw w) (nx : H x = none) (ndx : H dx = none) (k : ∀ H', Ex H H' → WordAt C H' x w v → Q .non H') :
    spWordInit C [.ref x, .int w, .int v] (upd (upd H dx (.own x)) x (.ins C dx [])) Q E :=
  ⟨x, dx, w, v, rfl, upd_same, w1, w64, v0, vm, fun H' hx hk => k H' (fun b o e => hk b o (by rw [upd_ne (ne_of_none e nx), upd_ne (ne_of_none e ndx)]; exact e) (ne_of_none e nx)) ⟨⟨dx, hx⟩, w1, w64, v0, vm⟩⟩
end Tz
namespace Tz
open PySem PySem.Spec PyProof.Rows L2
/-! ### promises that hold where no repr is under way -/
structure FnQ (P : Program) (w : World) (K : PySem.W.Frag) (mg : Str → Option Value) (base : Heap) (k : Nat) (f : Addr) (fd : FuncData) (ps : List Str) (sp : Sp) : Prop where
  len : ∀ vs H Q E, sp vs H Q E → vs.length = ps.length
  run : ∀ (A : Around) (out : List Env) (s : Shared) (H : Hp) (args : Args) (us : List Value) (vs : List V) (Q : VK), A.guards = some [] → Room k A → Env0 P w K mg base A out s H → BindsTo s fd args (ps.zip us) → Vals vs us →
    sp vs H Q E0 → codeAny (model P w) A (.call (.ref f) args) (CR CX0 out P w H s Q E0) s
section
variable {P : Program} {w : World} {K : PySem.W.Frag} {mg : Str → Option Value} {base : Heap} {k : Nat} {f : Addr} {fd : FuncData} {ps N : List Str} {sp : Sp}
theorem FnQ.of_ok (F : FnOk P w K mg base CX0 k f fd ps sp) : FnQ P w K mg base k f fd ps sp :=
  ⟨F.len, fun A out s H args us vs Q _ hr e0 hb r h => F.run A out s H args us vs Q E0 hr e0 hb r h⟩
/-- a def by its body, nothing under way -/
theorem fnq {x qual : Str} {st : Stmt} (F : Fun K x qual st f fd) (S : FnScope N ps (defScope st)) (len : ∀ vs H Q E, sp vs H Q E → vs.length = ps.length)
    (body : ∀ (cdv : Value) (A : Around) (out : List Env) (s : Shared) (H : Hp) (vs : List V) (Q : VK), A.guards = some [] → Room k (A.deeper (envOfC qual (defScope st) s.heap.objs.size f cdv)) → sp vs H Q E0 →
      ∃ t, PSs (cxOf CX0 P w K mg base N qual (defScope st) f cdv A out s H E0).nox (defBody st) t ∧ t { nx := fun _ J => Q .non J, rt := Q } (start N vs) H) : FnQ P w K mg base (k + 1) f fd ps sp := by
  obtain ⟨oc, od, kV, doc, pm, an, cdv, ct, osl, rfl, lk, code⟩ := F.ex
  refine ⟨len, fun A out s H args us vs Q gd rm en bn rel want => ?_⟩
  have width := len _ _ _ _ want
  have inK : K.In s.heap := en.mod.kin.keeps fun b o q => (en.bs b o q).1
  have free : s.heap.NoLimit := en.mod.nolimit.keeps fun b o q => (en.bs b o q).1
  refine codeAny_call_function rm.depth (inK _ _ lk) rfl S.co S.gen rfl (PySem.W.codeRec_of inK code) (bn _ _ _ _ ?_)
  refine wpAny_newFunctionEnv_cells S.kind (fun ⟨n, v⟩ hy => (S.par n (List.of_mem_zip hy).1).elim .inl fun q => .inr ⟨q, PySem.W.cellsFrom_some _ _ _ (.inl q)⟩) fun env he s1 x => ?_
  subst he
  obtain ⟨t, ht, q⟩ := body cdv A out s H vs Q gd (rm.deeper _) want
  have J := inv_start (CX := CX0) (E := E0) S rm.hd en width rel x
  refine ⟨free.keeps x.toInCall.keep, codeAny_func (wpAny_mono (ht.nox.run [] s1 (start N vs) H _ J q) (fun fl s2 z => ?_) fun e s2 z => z)⟩
  have done : ∀ {σ : L2.St} {H2 : Hp} {v : V} {u : Value}, L2.Inv (cxOf CX0 P w K mg base N qual (defScope st) f cdv A out s H E0) [] σ H2 s2 → RelV v u → Q v H2 → CE out P w H s Q u s2 :=
    fun {σ H2 v u} I2 rv hv => ⟨v, H2, I2.os, I2.bare, I2.base, I2.hok, rv, hv⟩
  cases fl with
  | ret u =>
    obtain ⟨v, σ, H2, I2, rv, hv⟩ := z
    exact done I2 rv hv
  | next =>
    obtain ⟨σ, H2, I2, hv⟩ := z
    exact done (v := .non) I2 rfl hv
  | brk =>
    obtain ⟨_, _, _, no⟩ := z
    exact no.elim
  | cont =>
    obtain ⟨_, _, _, no⟩ := z
    exact no.elim
end
section
variable {X : Cx} {k : Nat} {f : Addr} {fd : FuncData} {ps : List Str} {sp : Sp} {x : Str} {p pos : Pos} {e : Expr} {es : List Expr} {t : TA}
theorem run_q {pins : List (Addr × Obj)} {σ : L2.St} {H : Hp} {s : Shared} {Q : VK} {us : List Value} {vs : List V} (F : FnQ X.prog X.w X.K X.mg X.base k f fd ps sp) (hg : X.A.guards = some []) (hr : Room k X.A) (hb : Binds X.K fd ps [])
    (I : L2.Inv X pins σ H s) (r : Vals vs us) (h : sp vs H Q E0) : wpAny (model X.prog X.w) X.A (call (.ref f) us) (EP X pins σ Q) X.xe s := by
  have ln : us.length = ps.length := r.length.symm.trans (F.len _ _ _ _ h)
  have bd := hb s us I.kIn (by rw [List.append_nil]; exact ln)
  rw [List.append_nil] at bd
  refine wpAny_call (codeAny_mono (F.run X.A X.stack s H ⟨us, []⟩ us vs Q hg hr I.env0 bd r h) fun res s' q => ?_)
  cases res with
  | error e => exact (show False from q).elim
  | ok fl =>
    cases fl with
    | ret u => exact I.after q
    | next => exact (show False from q).elim
    | brk => exact (show False from q).elim
    | cont => exact (show False from q).elim
/-- f(e, ..) -/
theorem pe_callQ (F : FnQ X.prog X.w X.K X.mg X.base k f fd ps sp) (hg : X.A.guards = some []) (hr : Room k X.A) (gl : Gl X x) (hm : X.mg x = some (.ref f)) (hk : PySem.W.keepIn X.K (.ref f) = true) (hb : Binds X.K fd ps []) (ha : PA X (e :: es) t)
    (hst : starEach (e :: es) X.env = (false, eval e X.env) :: starEach es X.env := by rfl) (hpl : (backTo pos (starEach es X.env)).any (·.1) = false := by rfl)
    (hdb : (x == ("__debug__" : Str)) = false := by decide) : PE X (.Call (.Name x p) (e :: es) [] pos) (tCall sp [] E0 t) :=
  ⟨fun pins s σ H Q I h => wpAny_Call_Name_kw (ld_glob I gl hm (PySem.W.callWith_K (h₀ := X.base) I.ok.mod.kin hk (thn (ha.run pos pins s σ H _ I h) fun us s1 ⟨vs, H1, I1, r, q⟩ =>
    ⟨I1.kIn, run_q (us := us) (vs := vs) F hg hr hb I1 r ((List.append_nil vs) ▸ (show sp (vs ++ []) H1 Q E0 from q))⟩) hst hpl) hdb)⟩
end
/-! ### a law, where no repr is under way -/
section
variable {P : Program} {w : World} {K : PySem.W.Frag} {mg mb : Str → Option Value} {k : Nat} {fa a : Addr} {fd : FuncData} {x : Str} {sp : Sp} {s : Shared} {vs : List Value} {ns : List Int}
theorem law_q (KX : K.In s.heap) (hns : s.heap.Ns mainGlobals mg) (hb : s.heap.Ns builtinsNs mb) (hbb : ∀ x : Str, x ≠ "__name__" → mb x = bootBuiltins x) (hlim : s.heap.NoLimit) (hg : s.gens = #[])
    (ha : s.heap.get? a = some { cls := .type "list", data := .seq vs.toArray }) (hi : IntsAre vs ns) (hl : ns.length ≤ sizeLine) (hr : Room k callerA)
    (F : ∀ base : Heap, K.In base → base.Ns mainGlobals mg → FnQ P w K mg base k fa fd [x] sp) (bind : ∀ (s : Shared) (u : Value), BindsTo s fd ⟨[u], []⟩ [(x, u)])
    (want : ∀ H : Hp, SqL K H a (ns.map V.int) → sp [.ref a] H (fun v _ => v = .bl true) E0) :
    codeAny (model P w) callerA (.call (.ref fa) ⟨[.ref a], []⟩) (fun r s' => r = .ok (.ret (.bool true)) ∧ OldK s.heap s'.heap ∧ s'.os = s.os ∧ AllBare s'.gens) s := by
  -- the script alone is told, and only where the module does not hold it
  obtain ⟨H, told, seq, atA, apart⟩ : ∃ H : Hp, (∀ b u, H b = some u → b = a ∧ u = .frz { cls := .type "list", data := .seq vs.toArray } (.lst (ns.map V.int))) ∧ SqL K H a (ns.map V.int) ∧ HOk P w H s.heap ∧ (H a ≠ none → K.lookup a = none) := by
    cases lk : K.lookup a with
    | some o =>
      have q := KX a o lk
      rw [ha] at q
      cases q
      refine ⟨fun _ => none, fun b u z => ?_, .inr ⟨_, vs.toArray, _, lk, rfl, rfl, rfl, by rw [List.size_toArray, hi.length]; exact hl, by simpa using vals_ints hi⟩, fun b u z => ?_, fun z => absurd rfl z⟩
      · have z' : (none : Option HO) = some u := z
        cases z'
      · have z' : (none : Option HO) = some u := z
        cases z'
    | none =>
      refine ⟨upd (fun _ => none) a (.frz { cls := .type "list", data := .seq vs.toArray } (.lst (ns.map V.int))), fun b u z => ?_, .inl (.inr ⟨_, upd_same⟩), fun b u z => ?_, fun _ => rfl⟩
      · by_cases q : b = a
        · subst q
          rw [upd_same] at z
          exact ⟨rfl, (Option.some.inj z).symm⟩
        · rw [upd_ne q] at z
          cases z
      · by_cases q : b = a
        · subst q
          rw [upd_same] at z
          cases z
          exact ⟨ha, by rw [List.length_map]; exact hl, vs, _, vals_ints hi, ha⟩
        · rw [upd_ne q] at z
          cases z
  have un0 : ∀ {b : Addr}, b ≠ a → H b = none := fun {b} n => by
    cases q : H b with
    | none => rfl
    | some u => exact absurd (told b u q).1 n
  have ns0 : ∀ {b : Addr} {m : Str → Option Value}, s.heap.Ns b m → (hidT s.heap H).Ns b m := fun {b m} ⟨o, es, ep, e, d, r⟩ => ⟨o, es, ep, hidT_get e (un0 fun q => by
    subst q
    rw [ha] at e
    cases e
    cases d), d, r⟩
  have k0 : K.In (hidT s.heap H) := fun b o e => hidT_get (KX b o e) (by
    by_cases q : b = a
    · subst q
      cases z : H b with
      | none => rfl
      | some u =>
        have n := apart (by rw [z]; exact fun q => nomatch q)
        rw [e] at n
        cases n
    · exact un0 q)
  have md : Mod K mg (hidT s.heap H) := ⟨k0, ns0 hns, ⟨mb, ns0 hb, hbb⟩, hlim.elim fun mc z => ⟨mc, ns0 z.1, z.2⟩⟩
  have en : Env0 P w K mg (hidT s.heap H) callerA [] s H := ⟨rfl, md, fun _ _ e => of_hidT e, Nat.le_of_eq (hidT_size _ _), trivial, fun b z => absurd (show b ∈ ([] : List Addr) from z) List.not_mem_nil, atA, .of_eq hg⟩
  refine codeAny_mono ((F _ k0 (ns0 hns)).run callerA [] s H ⟨[.ref a], []⟩ [.ref a] [.ref a] _ rfl hr en (bind s (.ref a)) (.cons rfl .nil) (want H seq)) fun r s2 z => ?_
  cases r with
  | error e => exact (show False from z).elim
  | ok fl =>
    cases fl with
    | next => exact (show False from z).elim
    | brk => exact (show False from z).elim
    | cont => exact (show False from z).elim
    | ret u =>
      obtain ⟨v, H2, os, bare, un, ok2, rv, q⟩ := z
      subst q
      cases (show u = Value.bool true from rv)
      refine ⟨rfl, OldK.of_keep fun b o e => ?_, os, bare⟩
      cases q : H b with
      | none => exact un.keep b o e q (fun z => absurd (show b ∈ ([] : List Addr) from z) List.not_mem_nil) List.not_mem_nil
      | some u =>
        obtain ⟨rfl, rfl⟩ := told b u q
        rw [ha] at e
        cases e
        exact (ok2 _ _ (un.frzs _ _ _ q)).1
theorem walk_q {l : PySem.W.OpenLaw} {n k : Nat} {q : Program} {loose : List Str} {XP : (Str → Option Value) → Heap → Prop} {YP : World → Heap → Prop} {d : DefRec} {K : Params → PySem.W.Frag} {sp : PySem.W.Frag → Sp} {x : Str}
    (hn : l.most = some n) (hn2 : n ≤ sizeLine) (hdf : d.params.defaults = []) (hr : Room k callerA) (hY : ∀ (w : World) (h : Heap), YP w h → (K w.params).In h)
    (F : ∀ (w : World) (mg : Str → Option Value) (fa : Addr) (h : Heap), (K w.params).In h → h.Ns mainGlobals mg → mg d.name = some (.ref fa) →
      ∃ fd : FuncData, (∀ (s : Shared) (u : Value), BindsTo s fd ⟨[u], []⟩ [(x, u)]) ∧ ∀ base : Heap, (K w.params).In base → base.Ns mainGlobals mg → FnQ l.prog w (K w.params) mg base k fa fd [x] (sp (K w.params)))
    (want : ∀ (K : PySem.W.Frag) (H : Hp) (a : Addr) (ns : List Int), ns.length ≤ n → SqL K H a (ns.map V.int) → sp K [.ref a] H (fun v _ => v = .bl true) E0) :
    PySem.W.WalkO q loose XP YP l.row.toRowW d [] (fun f vs => PySem.call f vs) := by
  refine Att.attach_call hn hdf fun w s0 s1 mg mb fa o pm cd doc a vs ns G Y ho hd hcd hmg obj isI len gens => ?_
  obtain ⟨fd, bd, FQ⟩ := F w mg fa _ (hY w _ Y) G.T.g hmg
  exact law_q (hY w _ Y) G.T.g G.T.b G.T.builtins G.T.nolimit gens obj isI (Nat.le_trans len hn2) hr FQ bd fun H seq => want _ H a ns len seq
end
end Tz
namespace TzOwn
open PySem PySem.Spec PyProof.Rows L2
section
variable {X : Cx} {CX : CXT} {k : Nat} {f C g p : Addr} {fd : FuncData} {ps ks : List Str} {sp : Sp} {E : XK} {m : Str} {o : Expr} {kws : List Keyword} {apos pos : Pos} {ta : TE} {tk : TA} {pl : Sem Bool}
/-- abs(o), o an instance with its own __abs__ -/
theorem abs_own (F : FnOk X.prog X.w X.K X.mg X.base CX k f fd ps sp) (hr : Room (k + 1) X.A) (M : Meth X.K C "__abs__" f) (hb : Binds X.K fd ps []) (hx : Passes CX X E) :
    CallR X (.builtin "abs") (fun xs H Q => ∃ a dx fs, xs = [.ref a] ∧ H a = some (.ins C dx fs) ∧ sp [.ref a] H Q E) := by
  intro pins s σ H xs us Q I r h
  obtain ⟨a, dx, fs, rfl, ha, q⟩ := h
  obtain ⟨u, rfl, ru⟩ := vals1 r
  cases ru
  obtain ⟨od, J⟩ := inst_at I ha
  refine Calls.call_function_entry PyProof.Rows.kind_abs PyProof.Rows.plain_abs PyProof.Rows.entry_abs (PyProof.Rows.args_abs _) ?_
  unfold Builtin.«abs»
  refine wpAny_bind (m := oneArg "abs" _) (wpAny_pure ?_)
  refine wpAny_bind (PySem.W.special_fn I.kIn J M.at_ (beq_iff_eq.mp M.fn) ?_)
  have en : Env0 X.prog X.w X.K X.mg X.base X.A.in1 X.stack s H := I.env0.in1
  have bd := hb s [.ref a] I.kIn (by
    have := F.len _ _ _ _ q
    simpa using this)
  rw [List.append_nil] at bd
  refine wpAny_call (codeAny_mono (F.run X.A.in1 X.stack s H ⟨[.ref a], []⟩ [.ref a] [.ref a] _ E hr.in1 en bd (.cons rfl .nil) q) fun r s' hq => ?_)
  cases r with
  | error e => exact hx pins σ H s e s' I hq
  | ok fl =>
    cases fl with
    | ret u => exact wpAny_pure ⟨_, rfl, I.after hq⟩
    | next => exact False.elim hq
    | brk => exact False.elim hq
    | cont => exact False.elim hq
/-- repr of a list or tuple of built-in data, where no repr is under way -/
theorem repr_data (hg : X.A.guards = some []) (hu : X.A.units + 64 < cLine) :
    CallR X (.builtin "repr") (fun xs H Q => ∃ a d, xs = [.ref a] ∧ Dp X.K H (.ref a) d ∧ d.showable = true ∧ d.hasDict = false ∧ d.depth ≤ 60 ∧ d.shown.length ≤ sizeLine ∧ Q (.str d.shown) H) := by
  intro pins s σ H xs us Q I r h
  obtain ⟨a, d, rfl, D, sh, nd, dep, sz, q⟩ := h
  obtain ⟨u, rfl, ru⟩ := vals1 r
  cases ru
  obtain ⟨as, rd⟩ := Dp.reads I d _ _ D rfl
  exact repr_of_reads' rd sh (fun z => by rw [nd] at z; cases z) hg (by omega) (fun _ _ e => e) (fun h' u tk hk => ⟨.str d.shown, H, I.kept hk, ⟨_, rfl⟩, q⟩) sz
def tMethK (C : Addr) (m : Str) (sp : Sp) (E : XK) (gV : List V → List V) (ta : TE) (t : TA) : TE := fun σ H Q => ta σ H fun x H1 => ∃ a dx fs, x = .ref a ∧ H1 a = some (.ins C dx fs) ∧ fs.lookup m = none ∧ t σ H1 fun zs H2 => sp (gV (.ref a :: zs)) H2 Q E
/-- o.m(k = e, ..), by keywords alone -/
theorem pe_methK {gs : List Value → List Value → List Value} {gV : List V → List V → List V} (he : PE X o ta) (c : Cls X.K C) (hm : Meth X.K C m f) (F : FnOk X.prog X.w X.K X.mg X.base CX k f fd ps sp) (hr : Room k X.A) (hb : KBinds X.K fd ps ks gs gV) (hx : Passes CX X E) (hkw : PK X kws tk)
    (hall : (backToKw pos (keywordEach kws X.env)).all (·.1.isSome) = true := by rfl) (hks : (backToKw pos (keywordEach kws X.env)).filterMap (·.1) = ks := by rfl)
    (hpl : ((backTo pos (starEach [] X.env)).any (·.1) || (backToKw pos (keywordEach kws X.env)).any (·.1.isNone)) = false := by rfl)
    (ht : eval (.Call (.Attribute o m apos) [] kws pos) X.env = (do
      let ov ← eval o X.env
      standAt apos.atName
      let (f, first) ← holding [ov] (getMethod ov m pl)
      callWith pos f first (backTo pos (starEach [] X.env)) (backToKw pos (keywordEach kws X.env))) := by rfl) :
    PE X (.Call (.Attribute o m apos) [] kws pos) (tMethK C m sp E (fun vs => gV (vs.take 1) (vs.drop 1)) ta tk) := by
  refine ⟨fun pins s σ H Q I h => PySem.W.methodCall_KW (pl := pl) (thn (he.run pins s σ H _ I h) fun u s1 ⟨x, H1, I1, rx, a, dx, fs, ex, ea, l, q⟩ => ?_) ht⟩
  subst ex
  cases (show u = Value.ref a from rx)
  refine getmeth_ok I1 ea c hm l (PySem.W.callWith_KW0 (first := [.ref a]) (h₀ := X.base) I.ok.mod.kin hm.kp hall (thn (hkw.run pos pins s1 σ H1 _ I1 q) fun ws s2 ⟨zs, H2, I2, rz, q2⟩ => ⟨I2.kIn, ?_⟩) hpl)
  rw [hks]
  exact run_fnk (us := [.ref a]) (vs := [.ref a]) F hr hb hx I2 (.cons rfl .nil) rz q2
end
end TzOwn
namespace Tz
open PySem L2
/-! ### mathematics: bits one by one -/
/-- the signs of the i lowest bits, the highest one first -/
def bt (v : Nat) : Nat → List Nat
  | 0 => []
  | i + 1 => (48 + v / 2 ^ i % 2) :: bt v i
theorem bt_len (v : Nat) : ∀ i, (bt v i).length = i
  | 0 => rfl
  | i + 1 => by rw [bt, List.length_cons, bt_len v i]
/-- what the signs are worth, read from the left -/
def worth (l : List Nat) : Nat := l.foldl (fun a c => 2 * a + (c - 48)) 0
theorem worth_go : ∀ (l : List Nat) (a : Nat), l.foldl (fun a c => 2 * a + (c - 48)) a = a * 2 ^ l.length + worth l
  | [], a => by
    show a = a * 2 ^ 0 + 0
    rw [Nat.pow_zero, Nat.mul_one, Nat.add_zero]
  | c :: l, a => by
    have e1 := worth_go l (2 * a + (c - 48))
    have e2 := worth_go l (2 * 0 + (c - 48))
    show l.foldl _ (2 * a + (c - 48)) = a * 2 ^ (l.length + 1) + l.foldl _ (2 * 0 + (c - 48))
    rw [e1, e2, Nat.pow_succ, Nat.add_mul, Nat.add_mul]
    have : 2 * a * 2 ^ l.length = a * (2 ^ l.length * 2) := by rw [Nat.mul_comm 2 a, Nat.mul_assoc, Nat.mul_comm 2]
    omega
theorem worth_app (l m : List Nat) : worth (l ++ m) = worth l * 2 ^ m.length + worth m := by
  show (l ++ m).foldl _ 0 = _
  rw [List.foldl_append, worth_go]
  rfl
theorem worth_bt (v : Nat) : ∀ i, worth (bt v i) = v % 2 ^ i
  | 0 => by rw [bt, Nat.pow_zero, Nat.mod_one]; rfl
  | i + 1 => by
    have e := worth_app [48 + v / 2 ^ i % 2] (bt v i)
    rw [List.singleton_append, worth_bt v i, bt_len] at e
    rw [bt, e, show worth [48 + v / 2 ^ i % 2] = v / 2 ^ i % 2 by show 2 * 0 + (48 + v / 2 ^ i % 2 - 48) = _; omega, Nat.pow_succ, Nat.mod_mul]
    rw [Nat.mul_comm]
    omega
theorem bt_drop (v : Nat) : ∀ (n s : Nat), s ≤ n → (bt v n).drop s = bt v (n - s)
  | n, 0, _ => by rw [List.drop_zero, Nat.sub_zero]
  | 0, s + 1, h => absurd h (Nat.not_succ_le_zero s)
  | n + 1, s + 1, h => by
    rw [bt, List.drop_succ_cons, bt_drop v n s (by omega), Nat.succ_sub_succ]
theorem bt_take (v : Nat) : ∀ (n s : Nat), s ≤ n → (bt v n).take s = bt (v / 2 ^ (n - s)) s
  | n, 0, _ => by rw [List.take_zero, bt]
  | 0, s + 1, h => absurd h (Nat.not_succ_le_zero s)
  | n + 1, s + 1, h => by
    have e : v / 2 ^ (n - s) / 2 ^ s = v / 2 ^ n := by
      rw [Nat.div_div_eq_div_mul, ← Nat.pow_add]
      congr 2
      omega
    rw [bt, List.take_succ_cons, bt_take v n s (by omega), Nat.succ_sub_succ]
    show _ = (48 + v / 2 ^ (n - s) / 2 ^ s % 2) :: bt (v / 2 ^ (n - s)) s
    rw [e]
/-- the bits turned by s places -/
theorem worth_turn {v n s : Nat} (h : s ≤ n) (hv : v < 2 ^ n) : worth ((bt v n).drop s ++ (bt v n).take s) = v % 2 ^ (n - s) * 2 ^ s + v / 2 ^ (n - s) := by
  have hlt : v / 2 ^ (n - s) < 2 ^ s := by
    rw [Nat.div_lt_iff_lt_mul (Nat.pow_pos (by decide)), ← Nat.pow_add]
    have : s + (n - s) = n := by omega
    rw [this]
    exact hv
  rw [worth_app, bt_drop v n s h, bt_take v n s h, worth_bt, worth_bt, bt_len, Nat.mod_eq_of_lt hlt]
theorem cr_turn {w s v : Nat} (_ : 1 ≤ w) (hs : s ≤ w) (hv : v < 2 ^ w) : cr w ((v : Int) * 2 ^ s) = ((v % 2 ^ (w - s) * 2 ^ s + v / 2 ^ (w - s) : Nat) : Int) := by
  by_cases v0 : v = 0
  · subst v0
    rw [Nat.zero_mod, Nat.zero_mul, Nat.zero_div]
    show cr w ((0 : Int) * 2 ^ s) = 0
    rw [Int.zero_mul, cr_zero]
  · have hp : (0 : Int) < 2 ^ s := Int.pow_pos (by decide)
    have e := Nat.div_add_mod v (2 ^ (w - s))
    generalize hlo : v % 2 ^ (w - s) = lo at e
    generalize hhi : v / 2 ^ (w - s) = hi at e
    have lo1 : lo < 2 ^ (w - s) := by rw [← hlo]; exact Nat.mod_lt _ (Nat.pow_pos (by decide))
    have hi1 : hi < 2 ^ s := by
      rw [← hhi, Nat.div_lt_iff_lt_mul (Nat.pow_pos (by decide)), ← Nat.pow_add]
      have : s + (w - s) = w := by omega
      rw [this]
      exact hv
    have ew : (2 : Nat) ^ (w - s) * 2 ^ s = 2 ^ w := by
      rw [← Nat.pow_add]
      congr 1
      omega
    have ewI : (2 : Int) ^ (w - s) * 2 ^ s = 2 ^ w := by
      have := congrArg (fun n : Nat => (n : Int)) ew
      simpa using this
    have b1 : lo * 2 ^ s + hi < 2 ^ w := by
      have : (lo + 1) * 2 ^ s ≤ 2 ^ (w - s) * 2 ^ s := Nat.mul_le_mul_right _ (by omega)
      rw [ew, Nat.add_mul, Nat.one_mul] at this
      omega
    have b0 : 1 ≤ lo * 2 ^ s + hi := by
      by_cases z : hi = 0
      · subst z
        have : lo ≠ 0 := fun q => by
          subst q
          rw [Nat.mul_zero, Nat.add_zero] at e
          exact v0 e.symm
        have := Nat.mul_pos (Nat.pos_of_ne_zero this) (Nat.pow_pos (n := s) (show 0 < 2 by decide))
        omega
      · omega
    have c1 : ((lo * 2 ^ s + hi : Nat) : Int) ≤ mw w := by
      have : ((2 ^ w : Nat) : Int) = 2 ^ w := by rw [Int.natCast_pow] <;> rfl
      unfold mw
      omega
    refine cr_eq (q := (hi : Int)) (Int.mul_pos (by omega) hp) (by omega) c1 ?_
    have ev : (v : Int) = 2 ^ (w - s) * (hi : Int) + (lo : Int) := by
      have := congrArg (fun n : Nat => (n : Int)) e
      simpa using this.symm
    rw [ev, Int.add_mul, Int.mul_right_comm, ewI]
    unfold mw
    rw [Int.sub_mul, Int.one_mul]
    have : ((lo * 2 ^ s + hi : Nat) : Int) = (lo : Int) * 2 ^ s + (hi : Int) := by simp
    omega
/-- a whole turn changes nothing -/
theorem cr_round {w : Nat} (h : 1 ≤ w) {v : Int} (h0 : 0 ≤ v) : ∀ q : Nat, cr w (v * 2 ^ (w * q)) = cr w v
  | 0 => by rw [Nat.mul_zero, Int.pow_zero, Int.mul_one]
  | q + 1 => by
    have ih := cr_round h h0 q
    by_cases v0 : v = 0
    · subst v0
      rw [Int.zero_mul]
    · have vp : 0 < v * 2 ^ (w * q) := Int.mul_pos (by omega) (Int.pow_pos (by decide))
      have e : v * 2 ^ (w * (q + 1)) = v * 2 ^ (w * q) + mw w * (v * 2 ^ (w * q)) := by
        rw [Nat.mul_succ, Int.pow_add, ← Int.mul_assoc]
        generalize v * 2 ^ (w * q) = x
        unfold mw
        rw [Int.sub_mul, Int.one_mul, Int.mul_comm]
        omega
      obtain ⟨r, hr⟩ := cr_ex (w := w) _ vp
      rw [← ih]
      have np : 0 < v * 2 ^ (w * (q + 1)) := Int.mul_pos (by omega) (Int.pow_pos (by decide))
      refine cr_eq (q := r + v * 2 ^ (w * q)) np (cr_pos h vp) (cr_bd h _).2 ?_
      rw [e, Int.mul_add]
      conv => lhs; lhs; rw [hr]
      omega
theorem cr_far {w : Nat} (h : 1 ≤ w) {v : Int} (h0 : 0 ≤ v) (t : Nat) : cr w (v * 2 ^ (t % w)) = cr w (v * 2 ^ t) := by
  have e : v * 2 ^ t = v * 2 ^ (t % w) * 2 ^ (w * (t / w)) := by
    rw [Int.mul_assoc, ← Int.pow_add, Nat.mod_add_div]
  rw [e, cr_round h (Int.mul_nonneg h0 (two_pow_nn _))]
theorem or_and_xor (x y : Int) : Builtin.bitOr x y - Builtin.bitAnd x y = Builtin.bitXor x y := by
  rw [PyProof.Rows.bitXor_and, PyProof.Rows.bitOr_and]
  omega
theorem xor_bd {w : Nat} {x y : Int} (hx : 0 ≤ x) (hx1 : x ≤ mw w) (hy : 0 ≤ y) (hy1 : y ≤ mw w) : 0 ≤ Builtin.bitXor x y ∧ Builtin.bitXor x y ≤ mw w := by
  rw [Bits.bitXor_pp hx hy]
  have e : ((2 ^ w : Nat) : Int) = 2 ^ w := by rw [Int.natCast_pow] <;> rfl
  have := Nat.xor_lt_two_pow (x := x.toNat) (y := y.toNat) (n := w) (by unfold mw at hx1; omega) (by unfold mw at hy1; omega)
  unfold mw
  omega
theorem xor_comm (x y : Int) : Builtin.bitXor x y = Builtin.bitXor y x := by
  rw [PyProof.Rows.bitXor_and, PyProof.Rows.bitXor_and, PyProof.Rows.bitAnd_comm]
  omega
theorem sum_spec {w : Nat} (h : 1 ≤ w) {a b : Int} (a0 : 0 ≤ a) (a1 : a ≤ mw w) (b0 : 0 ≤ b) (b1 : b ≤ mw w) : (if a + b ≤ mw w then a + b else a + b - mw w) = cr w (a + b) := by
  have hm := mw_pos h
  split
  · rw [cr_self (by omega) (by omega)]
  · exact (cr_eq (q := 1) (by omega) (by omega) (by omega) (by omega)).symm
theorem rest_eq {w : Nat} (h : 1 ≤ w) {v : Int} (v0 : 0 ≤ v) (v1 : v ≤ mw w) : v % mw w = if v = mw w then 0 else v := by
  have hm := mw_pos h
  split
  · rename_i e
    rw [e, Int.emod_self]
  · exact Int.emod_eq_of_lt v0 (by omega)
/-! ### promises -/
def spXor (C : Addr) : Sp := fun vs H Q _ => ∃ x y, ∃ w : Nat, ∃ u v : Int, vs = [.ref x, .ref y] ∧ WordAt C H x w u ∧ WordAt C H y w v ∧ NewW C w (Builtin.bitXor u v) H Q
def spXorI (C : Addr) : Sp := fun vs H Q _ => ∃ x, ∃ w : Nat, ∃ u n : Int, vs = [.ref x, .int n] ∧ WordAt C H x w u ∧ 0 ≤ n ∧ n ≤ mw w ∧ NewW C w (Builtin.bitXor u n) H Q
def spOperandI (C : Addr) : Sp := fun vs H Q _ => ∃ x, ∃ w : Nat, ∃ u n : Int, vs = [.ref x, .int n] ∧ WordAt C H x w u ∧ 0 ≤ n ∧ n ≤ mw w ∧ Q (.int n) H
def spFoundI : Sp := fun vs H Q _ => ∃ w : Nat, ∃ n : Int, vs = [.int w, .int n] ∧ 1 ≤ w ∧ w ≤ 64 ∧ 0 ≤ n ∧ n ≤ mw w ∧ Q (.int n) H
def spLikeI (C : Addr) : Sp := fun vs H Q _ => ∃ x, ∃ w : Nat, ∃ u n : Int, vs = [.ref x, .int n] ∧ WordAt C H x w u ∧ 0 ≤ n ∧ n ≤ mw w ∧ Q (.bl (decide (u % mw w = n % mw w))) H
def spShrI (C : Addr) : Sp := fun vs H Q _ => ∃ x, ∃ w : Nat, ∃ u k : Int, vs = [.ref x, .int k] ∧ WordAt C H x w u ∧ 0 ≤ k ∧ k ≤ 1000000000000000000000000000000 ∧ NewW C w (cr w (u * 2 ^ (-k % w).toNat)) H Q
/-- the distance of the rest from 0 -/
def far (w : Nat) (u : Int) : Int := if u % mw w < mw w - u % mw w then u % mw w else mw w - u % mw w
def spAbs (C : Addr) : Sp := fun vs H Q _ => ∃ x, ∃ w : Nat, ∃ u : Int, vs = [.ref x] ∧ WordAt C H x w u ∧ Q (.int (far w u)) H
def spIs (C : Addr) : Sp := fun vs H Q _ => ∃ x, ∃ w : Nat, ∃ u : Int, vs = [.ref x, .int w, .int u] ∧ WordAt C H x w u ∧ Q (.bl true) H
def spSum : Sp := fun vs H Q _ => ∃ w : Nat, ∃ a b : Int, vs = [.int w, .int a, .int b] ∧ 1 ≤ w ∧ w ≤ 64 ∧ 0 ≤ a ∧ a ≤ mw w ∧ 0 ≤ b ∧ b ≤ mw w ∧ Q (.int (cr w (a + b))) H
def spMultiple : Sp := fun vs H Q _ => ∃ w : Nat, ∃ v k : Int, vs = [.int w, .int v, .int k] ∧ 1 ≤ w ∧ w ≤ 64 ∧ 0 ≤ v ∧ v ≤ mw w ∧ 0 ≤ k ∧ Q (.int (cr w (k * v))) H
def spLawTurned : Sp := fun vs H Q _ => ∃ w : Nat, ∃ v n : Int, vs = [.int w, .int v, .int n] ∧ 1 ≤ w ∧ w ≤ 64 ∧ 0 ≤ v ∧ v ≤ mw w ∧ Q (.int (cr w (v * 2 ^ (n % w).toNat))) H
def spLawTimes : Sp := fun vs H Q _ => ∃ z c cells t, ∃ w : Nat, vs = [.ref z, .int w] ∧ PenAt H z c cells t ∧ t ≤ 90000 ∧ 1 ≤ w ∧ w ≤ 64 ∧
  ∀ n H', 0 ≤ n → n ≤ 1000000000000000000000000000000 → PenAt H' z c cells (t + 3) → Fw z H H' → Q (.int n) H'
def spRight4 : Sp := fun vs H Q _ => ∃ w : Nat, ∃ v b k : Int, vs = [.int w, .int v, .int b, .int k] ∧ 1 ≤ w ∧ w ≤ 64 ∧ 0 ≤ v ∧ v ≤ mw w ∧ 0 ≤ b ∧ b ≤ mw w ∧ 0 ≤ k ∧ k ≤ 1000000000000000000000000000000 ∧ ∀ H', Ex H H' → Q (.bl true) H'
def spLaw (K : PySem.W.Frag) : Sp := fun vs H Q _ => ∃ (a : Addr) (ns : List Int), vs = [.ref a] ∧ SqL K H a (ns.map V.int) ∧ ns.length ≤ 63 ∧ ∀ H', Q (.bl true) H'
theorem kit_no {K : PySem.W.Frag} {T : String} {C : Addr} (h : PySem.W.subIn K (.type T) (.ref C) = some false) (hc : PySem.W.isClsIn K C = true) (ht : PySem.W.typeIn K (.ref C) = some (.type "type")) : PySem.W.kitOne K (.type T) (.ref C) = some false := by
  have ne : ¬ (Value.type T == Value.ref C) = true := fun q => by cases beq_iff_eq.mp q
  unfold PySem.W.kitOne
  rw [if_neg ne]
  unfold PySem.W.kitCls
  have hs : (PySem.W.clsIn K C).isSome = true := hc
  dsimp only
  rw [ht, hs, h]
  rfl
theorem shown4 {n : Int} {a b c : Bool} (h0 : 0 ≤ n) (h1 : n < 18446744073709551616) : (PyData.list [.int n, .bool a, .bool b, .bool c]).showable = true ∧ (PyData.list [.int n, .bool a, .bool b, .bool c]).hasDict = false ∧
    (PyData.list [.int n, .bool a, .bool b, .bool c]).depth ≤ 60 ∧ (PyData.list [.int n, .bool a, .bool b, .bool c]).shown.length ≤ sizeLine := by
  have l2 : n.natAbs.log2 < 1920 := by
    have : n.natAbs < 2 ^ 64 := by omega
    have := PySem.Flt.log2_lt_of (by decide) this
    omega
  refine ⟨?_, rfl, by simp [PyData.depth, PyData.depthAll], ?_⟩
  · simp [PyData.showable, PyData.showableAll, l2]
  · have sh : (PyData.shown (.int n)).length ≤ 21 := by
      rw [PyData.shown_int]
      exact PyProof.Rows.toString_length_le h0 (k := 20) (by decide) (by omega) |> fun h => Nat.le_trans h (by decide)
    have := PyData.shown_le_bulk 21 (by decide) (.list [.int n, .bool a, .bool b, .bool c]) (by simp [PyData.leavesShort, PyData.leavesShortAll, sh])
    refine Nat.le_trans this ?_
    show (21 + 2) * (0 + 1 + (0 + 1 + (0 + 1 + (0 + 1 + 0)))) + 21 ≤ sizeLine
    decide
/-! ### texts of bits -/
theorem bit_text {b : Nat} (h : b < 2) (l : List Nat) : ((toString ((b : Nat) : Int) : String) : Str) ++ SX.S l = SX.S ((48 + b) :: l) := by
  have e : ((toString ((b : Nat) : Int) : String) : Str) = SX.S [48 + b] := by
    match b, h with
    | 0, _ => rfl
    | 1, _ => rfl
  rw [e, SX.S_cat, List.singleton_append]
theorem bit_sign {c : Nat} (h : c = 48 ∨ c = 49) : PySem.intText? (SX.S [c]) = some (((c - 48 : Nat) : Nat) : Int) := by
  rcases h with rfl | rfl
  · exact SX.int_S (a := [48]) (by decide) (by decide) (by decide)
  · exact SX.int_S (a := [49]) (by decide) (by decide) (by decide)
theorem bt_mem {v : Nat} : ∀ {i c : Nat}, c ∈ bt v i → c = 48 ∨ c = 49
  | 0, c, h => by cases h
  | i + 1, c, h => by
    rcases List.mem_cons.mp h with h | h
    · have := Nat.mod_lt (v / 2 ^ i) (show 0 < 2 by decide)
      omega
    · exact bt_mem h
theorem worth_take {l : List Nat} {i c : Nat} (h : l[i]? = some c) : worth (l.take (i + 1)) = 2 * worth (l.take i) + (c - 48) := by
  have hi := (List.getElem?_eq_some_iff.mp h).1
  have e := (List.getElem?_eq_some_iff.mp h).2
  rw [List.take_succ_eq_append_getElem hi, e, worth_app]
  show worth (l.take i) * 2 ^ 1 + (2 * 0 + (c - 48)) = _
  omega
/-- one doubling -/
theorem cr_double {w : Nat} (h : 1 ≤ w) {f d q : Int} (f0 : 0 ≤ f) (d0 : 0 ≤ d) (q0 : 0 ≤ q) : cr w (f + cr w (d + d) * q) = cr w (f + (d + d) * q) := by
  have a := cr_add h (a := (d + d) * q) (b := f) (Int.mul_nonneg (by omega) q0) f0
  have b := cr_add h (a := cr w (d + d) * q) (b := f) (Int.mul_nonneg (cr_bd h _).1 q0) f0
  have c := cr_mul h (k := q) (a := d + d) q0 (by omega)
  rw [Int.mul_comm q, Int.mul_comm q] at c
  rw [Int.add_comm f, ← b, c, a, Int.add_comm f]
end Tz
namespace TzRepr
open PySem PySem.Spec PyProof.Rows L2 PySem.Builtin PySem.Builtin.List Tz
/-- what repr of a thing gives, by the abstract heap -/
abbrev Rpr := V → Str → Hp → Prop
def Mon (D : Rpr) : Prop := ∀ x t H H', Ex H H' → D x t H → D x t H'
/-- repr within a repr gives what D says, and only makes objects; as: what may be under way -/
def RpG (X : Cx) (n : Nat) (as : List Addr) (D : Rpr) : Prop :=
  ∀ (A : Around) (g : List Code) (pins : List (Addr × Obj)) (s : Shared) (σ : L2.St) (H : Hp) (x : V) (u : Value) (t : Str) (b : Nat), Room n A → A.frames = X.A.frames → A.guards = some g → (∀ p, p ∉ as → Clear g p) → L2.Inv X pins σ H s → RelV x u → D x t H → b + t.length ≤ sizeLine →
    wpAny (model X.prog X.w) A (pyReprUnder b u) (fun r s' => r = t ∧ ∃ H', L2.Inv X pins σ H' s' ∧ Ex H H') X.xe s
theorem RpG.mono {X : Cx} {n m : Nat} {as : List Addr} {D : Rpr} (h : RpG X n as D) (hn : n ≤ m) : RpG X m as D := fun A g pins s σ H x u t b hr => h A g pins s σ H x u t b (hr.mono hn)
theorem RpG.or {X : Cx} {n : Nat} {as : List Addr} {D D' : Rpr} (h : RpG X n as D) (h' : RpG X n as D') : RpG X n as (fun x t H => D x t H ∨ D' x t H) := fun A g pins s σ H x u t b hr hf hg hc I r d hs =>
  d.elim (fun d => h A g pins s σ H x u t b hr hf hg hc I r d hs) fun d => h' A g pins s σ H x u t b hr hf hg hc I r d hs
theorem Mon.or {D D' : Rpr} (h : Mon D) (h' : Mon D') : Mon (fun x t H => D x t H ∨ D' x t H) := fun x t H H' e d => d.elim (fun d => .inl (h x t H H' e d)) fun d => .inr (h' x t H H' e d)
/-! ### flat things -/
def RFlat : Rpr := fun x t _ => (x = .non ∧ t = "None") ∨ (∃ b : Bool, x = .bl b ∧ t = PyData.shown (.bool b)) ∨ (∃ i : Int, x = .int i ∧ i.natAbs.log2 < 1920 ∧ t = PyData.shown (.int i))
theorem mon_flat : Mon RFlat := fun _ _ _ _ _ d => d
section
variable {X : Cx} {n : Nat} {as : List Addr} {D : Rpr}
theorem is_of {x : Value} {t : Str} {A : Around} {pins : List (Addr × Obj)} {s : Shared} {σ : L2.St} {H : Hp} {b : Nat} (h : ReprIs X.prog X.w x t) (I : L2.Inv X pins σ H s) (hs : b + t.length ≤ sizeLine) :
    wpAny (model X.prog X.w) A (pyReprUnder b x) (fun r s' => r = t ∧ ∃ H', L2.Inv X pins σ H' s' ∧ Ex H H') X.xe s :=
  h b hs A X.xe s _ fun tk => ⟨rfl, H, I.kept (h' := s.heap) (t' := tk) fun _ _ e => e, fun _ _ e => e⟩
/-- flat things by what the library tells of them -/
theorem rpG_flat : RpG X 0 as RFlat := by
  intro A g pins s σ H x u t b hr hf hg hc I r d hs
  rcases d with ⟨rfl, rfl⟩ | ⟨c, rfl, rfl⟩ | ⟨i, rfl, hi, rfl⟩
  · cases r
    exact is_of ReprIs.none I hs
  · cases r
    rw [PyData.shown_bool] at hs ⊢
    exact is_of (ReprIs.bool c) I hs
  · obtain ⟨tk, rfl⟩ := r
    rw [PyData.shown_int] at hs ⊢
    exact is_of (ReprIs.int tk hi) I hs
/-- texts -/
def RStr : Rpr := fun x t _ => ∃ z : Str, x = .str z ∧ t = reprText z
theorem rpG_str : RpG X 0 as RStr := by
  intro A g pins s σ H x u t b hr hf hg hc I r d hs
  obtain ⟨z, rfl, rfl⟩ := d
  obtain ⟨tk, rfl⟩ := r
  exact is_of (ReprIs.str z tk (by omega)) I hs
/-! ### instances with the text's own __repr__ -/
theorem byBound_K {prog : Program} {w : World} {A : Around} {E : Value → Shared → Prop} {s : Shared} {K : PySem.W.Frag} {x C f : Addr} {ox : Obj} {od : Option Obj} {name : Str} {last : Value → List Value → Sem Value} {Q : Option Value → Shared → Prop} (X : K.In s.heap)
    (I : PySem.W.InstAt s.heap x ox C od) (hs : PySem.W.findIn K (.ref C) name = some (some (.ref f))) (hf : PySem.W.isFn K (.ref f) = true)
    (h : wpAny (model prog w) A (last (.ref f) [.ref x]) (fun v => Q (some v)) E s) : wpAny (model prog w) A (callSpecialIfBoundBy? last (.ref x) name) Q E s := by
  simp only [callSpecialIfBoundBy?, bindSpecialIfBound?]
  refine wpAny_holding (wpAny_bind (wpAny_bind (wpAny_bind (I.type.here ((PySem.W.looks_findIn X hs).here ?_)))))
  refine wpAny_bind (wpAny_askSetting (wpAny_ite ?_))
  have fin : wpAny (model prog w) A (last (.ref f) [.ref x] >>= fun v => pure (some v)) Q E s := wpAny_bind (wpAny_mono h (fun v s' h' => wpAny_pure h') fun _ _ h' => h')
  split
  · exact wpAny_bind ((PySem.W.bind_fn X _ (beq_iff_eq.mp hf)).here (wpAny_pure (by exact fin)))
  · exact wpAny_tryCatch (wpAny_bind ((PySem.W.bind_fn X _ (beq_iff_eq.mp hf)).here (wpAny_pure (by exact fin))))
/-- what the own __repr__ promises: the text t, where R says so -/
def spRepr (R : Addr → Str → Hp → Prop) : Sp := fun vs H Q _ => ∃ a t, vs = [.ref a] ∧ R a t H ∧ ∀ H', Ex H H' → Q (.str t) H'
def RIns (C : Addr) (R : Addr → Str → Hp → Prop) : Rpr := fun x t H => ∃ a dx fs, x = .ref a ∧ H a = some (.ins C dx fs) ∧ R a t H
theorem rpG_ins {CX : CXT} {C f : Addr} {fd : FuncData} {ps : List Str} {R : Addr → Str → Hp → Prop} {E : XK} (F : FnOk X.prog X.w X.K X.mg X.base CX n f fd ps (spRepr R)) (M : Meth X.K C "__repr__" f) (hb : Binds X.K fd ps []) (hx : Passes CX X E) : RpG X n as (RIns C R) := by
  intro A g pins s σ H x u t b hr hf hg hc I r d hs
  obtain ⟨a, dx, fs, rfl, ha, hR⟩ := d
  cases r
  obtain ⟨od, J⟩ := TzOwn.inst_at I ha
  refine wpAny_pyReprUnder_ref (by omega) ?_
  unfold pyReprObjUnder pyReprObjBy
  refine wpAny_bind (wpAny_cRoomFor hr.units0 ?_)
  refine wpAny_bind (wpAny_bind (J.type.here ((PySem.W.looks_findIn I.kIn M.at_).here ?_)))
  show wpAny _ _ (if (some (Value.ref f)).isNone = true then _ else _) _ _ _
  rw [if_neg (by simp)]
  refine wpAny_bind (m := callSpecialIfBoundBy? _ (.ref a) (Str.ofString "__repr__")) (byBound_K I.kIn J M.at_ M.fn ?_)
  show wpAny _ _ (call (.ref f) [.ref a]) _ _ s
  have hsp : spRepr R [.ref a] H (fun v H' => v = .str t ∧ Ex H H') E := ⟨a, t, rfl, hR, fun H' e => ⟨rfl, e⟩⟩
  have e0 : Env0 X.prog X.w X.K X.mg X.base A X.stack s H := by
    have e := I.env0
    exact ⟨by rw [hf]; exact e.frames, e.mod, e.bs, e.bsz, e.funs, e.frf, e.hok, e.bare⟩
  have hl := F.len _ _ _ _ hsp
  refine wpAny_call (codeAny_mono (F.run A X.stack s H ⟨[.ref a], []⟩ [.ref a] [.ref a] _ E hr e0 (by
    have := hb s [.ref a] I.kIn (by simpa using hl)
    simpa using this) (.cons rfl .nil) hsp) fun r s' hq => ?_)
  cases r with
  | error e => exact hx pins σ H s e s' I hq
  | ok fl =>
    cases fl with
    | ret w =>
      obtain ⟨z, H', I', rz, ez, ex⟩ := I.after hq
      subst ez
      obtain ⟨tk, rfl⟩ := rz
      refine wpAny_bind (wpAny_isInstance (typeIs_str _ _ _) isSubtype_str_str ?_)
      rw [if_pos rfl]
      exact wpAny_pure ⟨_, _, rfl, rfl, H', I', ex⟩
    | next => exact False.elim hq
    | brk => exact False.elim hq
    | cont => exact False.elim hq
/-! ### lists -/
theorem vals_strs : ∀ {ts : List Str} {us : List Value}, Vals (ts.map V.str) us → ∃ done : List (Str × Tok), us = strValues done ∧ done.map (·.1) = ts
  | [], [], _ => ⟨[], rfl, rfl⟩
  | t :: ts, u :: us, .cons a r => by
    obtain ⟨tk, rfl⟩ := a
    obtain ⟨done, rfl, e⟩ := vals_strs r
    exact ⟨(t, tk) :: done, rfl, by rw [List.map_cons, e]⟩
theorem room_loop {A : Around} {k : Nat} {args : Args} (r : Room (k + 1) A) : Room k (A.under (.builtin "list.__repr__.loop" args)) := by
  have hu := units_under_list_loop A args
  have hd : (A.under (.builtin "list.__repr__.loop" args)).depth ≤ A.depth + 1 := by
    first | exact Nat.le_of_eq rfl | exact Nat.le_succ _ | simp [Around.under, Code.weight, Code.isCreation, Code.isGuard, Code.isCaller, Code.frames, Code.isFrame, guardIds]
  have hh : (A.under (.builtin "list.__repr__.loop" args)).handled = A.handled := by
    first | rfl | simp [Around.under]
  refine ⟨by rw [hh]; exact r.hd, by have := r.dp; omega, by have := r.un; rw [hu]; omega⟩
theorem frames_loop {A : Around} {args : Args} : (A.under (.builtin "list.__repr__.loop" args)).frames = A.frames := by
  first | rfl | simp [Around.under, Code.frames, Code.isFrame]
/-- item by item -/
def Each (D : Rpr) (xs : List V) (ts : List Str) (H : Hp) : Prop := xs.length = ts.length ∧ ∀ (i : Nat) x t, xs[i]? = some x → ts[i]? = some t → D x t H
theorem Each.mon (hD : Mon D) {xs : List V} {ts : List Str} {H H' : Hp} (e : Ex H H') (p : Each D xs ts H) : Each D xs ts H' := ⟨p.1, fun i x t h1 h2 => hD x t H H' e (p.2 i x t h1 h2)⟩
theorem loop_run {A : Around} {g : List Code} {pins : List (Addr × Obj)} {σ : L2.St} {H0 : Hp} {a P : Addr} {xs : List V} {ts : List Str} {base : Nat} {R : Result → Shared → Prop} (h : RpG X n (a :: as) D) (hm : Mon D) (hr : Room (n + 1) A) (hf : A.frames = X.A.frames) (hg : A.guards = some g)
    (hcl : ∀ p, p ∉ as → Clear g p) (ha : H0 a = some (.lst xs)) (hP : H0 P = none) (d : Each D xs ts H0) (hsz : base + (listText ts).length ≤ sizeLine) (hE : ∀ e s', X.xe e s' → R (.error e) s')
    (hR : ∀ u H' s', L2.Inv X pins σ H' s' → Ex H0 H' → R (.ok (.ret (.str (listText ts) u))) s') :
    ∀ (k i : Nat) (s : Shared) (H1 : Hp), ts.length - i = k → i ≤ ts.length → L2.Inv X pins σ H1 s → Ex H0 H1 → H1 P = some (.lst ((ts.take i).map V.str)) →
    codeAny (model X.prog X.w) A (.builtin "list.__repr__.loop" ⟨[.ref a, rawInt i, .ref P, rawInt ((base + piled (ts.take i) : Nat) : Int)], []⟩) R s := by
  have hX : (listText ts).length = (textFrom 0 "[" ts).length + 1 := by
    show (textFrom 0 "[" ts ++ "]").length = _
    rw [strLen_append]; rfl
  have hL := textFrom_len ts 0 "["
  have hsz1 : ts.length ≤ sizeLine := by
    have h1 := hL.1
    rw [if_neg (Nat.lt_irrefl 0)] at h1
    omega
  have hsz2 : ∀ t ∈ ts, t.length ≤ sizeLine := fun t ht => by
    have h2 := hL.2.1 t ht
    omega
  have hsz3 : (listText ts).length ≤ sizeLine := by omega
  have hp3 := piled_le_listText ts
  intro k
  induction k with
  | zero =>
    intro i s H1 hk hi I e hH
    have hin : i = ts.length := by omega
    obtain ⟨_, its, m, r, hl, he⟩ := I.lstM (e _ _ ha)
    obtain ⟨_, ps, m2, r2, hl2, he2⟩ := I.lstM hH
    refine codeAny_builtin F.entry_list_repr_loop ?_
    show wpAny _ _ («list.__repr__.loop» ⟨[.ref a, .int i 0, .ref P, .int ((base + piled (ts.take i) : Nat) : Int) 0], []⟩) _ _ s
    rw [repr_loop_tree]
    refine wpAny_bind (wpAny_listItems he rfl ?_)
    have hnone : its.toArray[(i : Int).toNat]? = none := by
      have := d.1
      simp
      omega
    simp only [hnone]
    unfold reprEnd
    refine wpAny_bind (wpAny_listItems he2 rfl ?_)
    obtain ⟨done, rfl, hdone⟩ := vals_strs r2
    rw [List.toList_toArray, repr_fold]
    refine wpAny_bind (wpAny_pure ?_)
    rw [hdone, hin, List.take_length]
    refine wpAny_bind (wpAny_mkStr (wpAny_pure ?_) hsz3)
    exact hR _ H1 _ (I.kept (h' := s.heap) fun _ _ z => z) e
  | succ k ih =>
    intro i s H1 hk hi I e hH
    have hlt : i < ts.length := by omega
    obtain ⟨_, its, m, r, hl, he⟩ := I.lstM (e _ _ ha)
    have hlt2 : i < its.length := by have := d.1; omega
    have hlt3 : i < xs.length := by have := d.1; omega
    have ht : ts[i]? = some ts[i] := List.getElem?_eq_getElem hlt
    have hp1 := piled_take_succ ht
    have hp2 := piled_take_le ts (i + 1)
    refine codeAny_builtin F.entry_list_repr_loop ?_
    show wpAny _ _ («list.__repr__.loop» ⟨[.ref a, .int i 0, .ref P, .int ((base + piled (ts.take i) : Nat) : Int) 0], []⟩) _ _ s
    rw [repr_loop_tree]
    refine wpAny_bind (wpAny_listItems he rfl ?_)
    have hsome : its.toArray[(i : Int).toNat]? = some its[i] := by simp [hlt2]
    simp only [hsome]
    rw [Int.toNat_natCast]
    obtain ⟨u, hu, ru⟩ := r.get (List.getElem?_eq_getElem hlt3)
    have eu : u = its[i] := by
      rw [List.getElem?_eq_getElem hlt2] at hu
      exact (Option.some.inj hu).symm
    subst eu
    have hit := h _ _ pins s σ H1 _ its[i] ts[i] (base + piled (ts.take i) + 1) (room_loop (args := ⟨[.ref a, rawInt i, .ref P, rawInt ((base + piled (ts.take i) : Nat) : Int)], []⟩) hr) (frames_loop.trans hf) (guards_under_guard (isGuard_list_loop _) hg)
      (fun p hp => (hcl p fun q => hp (.tail _ q)).cons (a := a) fun q => hp (q ▸ .head _)) I ru (hm _ _ _ _ e (d.2 i _ _ (List.getElem?_eq_getElem hlt3) ht)) (by omega)
    refine wpAny_bind (wpAny_holding (wpAny_mono hit (fun z s2 q => ?_) fun e s' q => hE e s' q))
    obtain ⟨rfl, H2, I2, e2⟩ := q
    refine wpAny_bind (wpAny_mkStr ?_ (hsz2 _ (List.getElem_mem hlt)))
    refine wpAny_bind ?_
    show wpAny _ _ (updateSeq P _) _ _ _
    obtain ⟨_, ps, m2, r2, hl2, he2⟩ := I2.lstM (e2 _ _ hH)
    have hpl : ps.length ≤ sizeLine := by
      rw [← hl2, List.length_map, List.length_take]
      omega
    have hpl2 : ps.length = i := by
      rw [← hl2, List.length_map, List.length_take]
      omega
    have I3 := I2.kept (h' := s2.heap) (t' := s2.toks + 1) fun _ _ z => z
    refine wpAny_updateSeq he2 rfl (wpAny_pure ⟨F.quiet_list_repr_loop _, ?_⟩) (by rw [List.size_toArray]; exact hpl)
    have e1 : ((i : Int) + 1) = ((i + 1 : Nat) : Int) := by omega
    have e3 : base + piled (ts.take i) + (ts[i].length + 2) = base + piled (ts.take (i + 1)) := by omega
    rw [e1, e3]
    have I4 := I3.lset (f := (·.push (.str ts[i] s2.toks))) (its' := ps ++ [.str ts[i] s2.toks]) (ys := (ts.take (i + 1)).map V.str) (t' := s2.toks + 1) (e2 _ _ hH) he2 (by simp) (by
      rw [List.take_add_one, ht, List.map_append]
      exact r2.append (.cons ⟨_, rfl⟩ .nil)) (by
      rw [List.length_map, List.length_take]
      omega)
    refine ih (i + 1) _ (upd H2 P (.lst ((ts.take (i + 1)).map V.str))) (by omega) hlt I4 (fun b o z => ?_) upd_same
    rw [upd_ne (ne_of_none z hP)]
    exact e2 _ _ (e _ _ z)
theorem at_run {A : Around} {g : List Code} {pins : List (Addr × Obj)} {σ : L2.St} {H : Hp} {s : Shared} {a : Addr} {xs : List V} {ts : List Str} {base : Nat} {R : Result → Shared → Prop} (h : RpG X n (a :: as) D) (hm : Mon D) (hr : Room (n + 1) A) (hf : A.frames = X.A.frames) (hg : A.guards = some g)
    (hcl : ∀ p, p ∉ as → Clear g p) (hna : a ∉ as) (I : L2.Inv X pins σ H s) (ha : H a = some (.lst xs)) (hne : xs ≠ []) (d : Each D xs ts H) (hsz : base + (listText ts).length ≤ sizeLine) (hE : ∀ e s', X.xe e s' → R (.error e) s')
    (hR : ∀ u H' s', L2.Inv X pins σ H' s' → Ex H H' → R (.ok (.ret (.str (listText ts) u))) s') :
    wpAny (model X.prog X.w) A.in1 (Builtin.listReprAt base ⟨[.ref a], []⟩) (fun fin s' => match fin with | .done f => R (.ok f) s' | .again c' => c'.quiet = true ∧ codeAny (model X.prog X.w) A c' R s') (fun e s' => R (.error e) s') s := by
  obtain ⟨_, its, m, r, hl, he⟩ := I.lstM ha
  cases its with
  | nil => exact absurd (List.length_eq_zero_iff.mp hl) hne
  | cons y l =>
    refine wpAny_list_repr_head (A := A.in1) hg (fun v rest kw hm' => listSameRef_of_ne (hcl a hna _ _ _ _ hm')) he rfl ?_
    refine wpAny_bind (m := newList []) (wpAny_newObj_type ?_)
    refine wpAny_pure ⟨F.quiet_list_repr_loop _, ?_⟩
    have hP := I.fresh
    have I1 := I.lnew (ys := []) (its := []) (t' := s.toks) .nil (Nat.zero_le _)
    have e1 : Ex H (upd H s.heap.objs.size (.lst [])) := fun b o z => by
      rw [upd_ne (ne_of_none z hP)]
      exact z
    have := loop_run (P := s.heap.objs.size) (H0 := H) (R := R) (base := base) h hm hr hf hg hcl ha hP d hsz hE hR _ 0 _ (upd H s.heap.objs.size (.lst [])) rfl (Nat.zero_le _) I1 e1 upd_same
    exact this
/-- lists, item by item -/
def RList (D : Rpr) (as : List Addr) : Rpr := fun x t H => ∃ a xs ts, x = .ref a ∧ a ∉ as ∧ H a = some (.lst xs) ∧ t = listText ts ∧ Each D xs ts H
theorem mon_list (hD : Mon D) : Mon (RList D as) := fun x t H H' e ⟨a, xs, ts, hx, hn, h1, ht, p⟩ => ⟨a, xs, ts, hx, hn, e _ _ h1, ht, p.mon hD e⟩
theorem rpG_list (hm : Mon D) (h : ∀ a, RpG X n (a :: as) D) : RpG X (n + 1) as (RList D as) := by
  intro A g pins s σ H x u t b hr hf hg hc I r d hs
  obtain ⟨a, xs, ts, rfl, hna, ha, rfl, p⟩ := d
  cases r
  refine wpAny_pyReprUnder_ref (by omega) ?_
  obtain ⟨_, its, m, rv, hl, he⟩ := I.lstM ha
  by_cases hne : xs = []
  · subst hne
    have e1 : its = [] := List.length_eq_zero_iff.mp hl.symm
    subst e1
    have e2 : ts = [] := List.length_eq_zero_iff.mp p.1.symm
    subst e2
    exact wpAny_pyReprObjUnder_list_empty ⟨_, he, rfl⟩ hr.units0 he rfl ⟨_, _, rfl, rfl, H, I.kept (h' := s.heap) fun _ _ z => z, fun _ _ z => z⟩
  · refine wpAny_pyReprObjUnder_twin (twin := "list.__repr__.under") ⟨_, he, rfl⟩ F.slot_list_repr.toG rfl hr.units0 ?_
    refine call_twin_plain F.plain_list_repr_under F.entry_list_repr_under F.check_list_repr_under ⟨_, he, rfl⟩ F.slot_list_repr.toG (F.args_list_repr_1 _) ?_
    exact at_run (R := callEnd _ X.xe) (h a) hm hr hf hg hc hna I ha hne p hs (fun e s' q => q) fun u H' s' I' e => ⟨⟨_, _, rfl⟩, _, _, rfl, rfl, H', I', e⟩
/-- repr(x) of a list, where no repr is under way -/
theorem repr_list (hm : Mon D) (h : ∀ a, RpG X n [a] D) (hg : X.A.guards = some []) (hr : Room (n + 2) X.A) :
    CallR X (.builtin "repr") (fun xs H Q => ∃ x t, xs = [x] ∧ RList D [] x t H ∧ t.length ≤ sizeLine ∧ ∀ H', Ex H H' → Q (.str t) H') := by
  intro pins s σ H xs us Q I r hq
  obtain ⟨x, t, rfl, ⟨a, xs, ts, rfl, _, ha, rfl, p⟩, hs, q⟩ := hq
  obtain ⟨u, rfl, ru⟩ := vals1 r
  cases ru
  obtain ⟨_, its, m, rv, hl, he⟩ := I.lstM ha
  refine call_repr_slot hr.in1.units0 ⟨_, he, rfl⟩ F.slot_list_repr.toG ?_
  by_cases hne : xs = []
  · subst hne
    have e1 : its = [] := List.length_eq_zero_iff.mp hl.symm
    subst e1
    have e2 : ts = [] := List.length_eq_zero_iff.mp p.1.symm
    subst e2
    exact call_list_repr_empty ⟨_, he, rfl⟩ he rfl ⟨_, _, rfl, .str "[]", H, I.kept (h' := s.heap) fun _ _ z => z, ⟨_, rfl⟩, q H fun _ _ z => z⟩
  · refine wpAny_call (codeAny_call_builtin F.slot_list_repr.plain F.entry_list_repr (F.slot_list_repr.check _ _ _ _ _ _ _ _ ⟨_, he, rfl⟩ (F.args_list_repr_1 _) ?_))
    exact at_run (base := 0) (R := callEnd _ X.xe) (A := X.A.in1) (g := []) (h a) hm hr.in1 rfl hg (fun p _ => Clear.nil p) (fun z => by cases z) I ha hne p (by omega) (fun e s' q => q) fun u H' s' I' e => ⟨_, _, rfl, .str (listText ts), H', I', ⟨_, rfl⟩, q H' e⟩
/-- repr(x) of an instance with its own __repr__ -/
theorem repr_ins {CX : CXT} {C f : Addr} {fd : FuncData} {ps : List Str} {sp : Sp} {E : XK} (F : FnOk X.prog X.w X.K X.mg X.base CX n f fd ps sp) (hr : Room (n + 1) X.A) (M : Meth X.K C "__repr__" f) (hb : Binds X.K fd ps []) (hx : Passes CX X E) :
    CallR X (.builtin "repr") (fun xs H Q => ∃ a dx fs, xs = [.ref a] ∧ H a = some (.ins C dx fs) ∧ sp [.ref a] H (fun v H' => (∃ t, v = .str t) ∧ Q v H') E) := by
  intro pins s σ H xs us Q I r hq
  obtain ⟨a, dx, fs, rfl, ha, q⟩ := hq
  obtain ⟨u, rfl, ru⟩ := vals1 r
  cases ru
  obtain ⟨od, J⟩ := TzOwn.inst_at I ha
  refine Calls.call_function_entry PySem.F.kind_repr PySem.F.plain_repr PySem.F.entry_repr (PySem.F.args_repr1 _) ?_
  unfold Builtin.«repr»
  refine wpAny_bind (m := oneArg "repr" _) (wpAny_pure ?_)
  refine wpAny_bind (wpAny_cRoomFor hr.in1.units0 ?_)
  refine wpAny_bind (wpAny_bind (J.type.here ((PySem.W.looks_findIn I.kIn M.at_).here ?_)))
  show wpAny _ _ (if (some (Value.ref f)).isNone = true then _ else _) _ _ _
  rw [if_neg (by simp)]
  have e0 : Env0 X.prog X.w X.K X.mg X.base X.A.in1 X.stack s H := I.env0.in1
  have hl := F.len _ _ _ _ q
  refine wpAny_bind (m := callSpecialIfBound? (.ref a) (Str.ofString "__repr__") _) (PySem.W.ifBound_K I.kIn J M.at_ M.fn ?_)
  refine wpAny_call (codeAny_mono (F.run X.A.in1 X.stack s H ⟨[.ref a], []⟩ [.ref a] [.ref a] _ E hr.in1 e0 (by
    have := hb s [.ref a] I.kIn (by simpa using hl)
    simpa using this) (.cons rfl .nil) q) fun r s' hq => ?_)
  cases r with
  | error e => exact hx pins σ H s e s' I hq
  | ok fl =>
    cases fl with
    | ret w =>
      obtain ⟨z, H', I', rz, ⟨t, ez⟩, q'⟩ := I.after hq
      subst ez
      obtain ⟨tk, rfl⟩ := rz
      refine wpAny_bind (wpAny_isInstance (typeIs_str _ _ _) isSubtype_str_str ?_)
      rw [if_pos rfl]
      exact wpAny_pure ⟨_, rfl, .str t, H', I', ⟨_, rfl⟩, q'⟩
    | next => exact False.elim hq
    | brk => exact False.elim hq
    | cont => exact False.elim hq
end
end TzRepr
namespace TzOwn
open PySem PySem.Spec PyProof.Rows L2
/-- the class stands alone under object -/
def solo (K : PySem.W.Frag) (C : Addr) : Bool := (PySem.W.clsIn K C).any fun cd => cd.mro == [.ref C, .type "object"]
section
variable {prog : Program} {w : World} {A : Around} {E : Value → Shared → Prop} {s : Shared} {K : PySem.W.Frag} {a b C f : Addr} {od od' : Option Obj} {oa ob : Obj} {Q : Value → Shared → Prop} {nm : String} {fo ro rc : Option Value}
theorem bin1_same (Xk : K.In s.heap) (J : PySem.W.InstAt s.heap a oa C od) (J' : PySem.W.InstAt s.heap b ob C od') (sf : PySem.W.selfFirst K C = true) (hs : PySem.W.findIn K (.ref C) (PySem.dunder nm) = some (some (.ref f))) (hf : PySem.W.isFn K (.ref f) = true)
    (h : wpAny (model prog w) A (call (.ref f) [.ref a, .ref b]) (PySem.W.CmpBack Q) E s) : wpAny (model prog w) A (binaryOp1 nm (.ref a) (.ref b)) (fun r s' => ∃ v, r = some v ∧ Q v s') E s := by
  obtain ⟨cd, rest, hcd, hm⟩ := PySem.W.ksp_first sf
  have one := PySem.W.ksp_try Xk J hs hf h
  have L1 : PySem.W.Looks (model prog w) s.heap (typeOf (.ref a)) (.ref C) := J.type
  have L2 : PySem.W.Looks (model prog w) s.heap (typeOf (.ref b)) (.ref C) := J'.type
  have L3 : PySem.W.Looks (model prog w) s.heap (fillsNumberSlot (.ref C) nm) true := PySem.W.fills_K Xk hcd hm hs
  unfold binaryOp1
  refine wpAny_bind (L1.here (wpAny_bind (L2.here (wpAny_bind (L3.here ?_)))))
  have e : (Value.ref C == Value.ref C) = true := beq_self_eq_true _
  simp only [e, if_true, pure_bind, Bool.and_false, Bool.false_and, Bool.false_eq_true, if_false]
  refine wpAny_bind (wpAny_mono one (fun r s' hr => ?_) fun _ _ z => z)
  obtain ⟨v, rfl, q⟩ := hr
  exact wpAny_pure ⟨v, rfl, q⟩
theorem bin1_int {n : Int} {t : Tok} (Xk : K.In s.heap) (J : PySem.W.InstAt s.heap a oa C od) (sf : PySem.W.selfFirst K C = true) (hs : PySem.W.findIn K (.ref C) (PySem.dunder nm) = some (some (.ref f))) (hf : PySem.W.isFn K (.ref f) = true)
    (hr : PySem.W.findIn K (.ref C) (dunderR nm) = some rc) (hp : rc = none ∨ ∃ g : Addr, rc = some (.ref g)) (h1 : PySem.W.findIn K (.type "int") (PySem.dunder nm) = some fo) (h2 : PySem.W.findIn K (.type "int") (dunderR nm) = some ro) (hsub : PySem.W.subIn K (.type "int") (.ref C) = some false)
    (h : wpAny (model prog w) A (call (.ref f) [.ref a, .int n t]) (PySem.W.CmpBack Q) E s) : wpAny (model prog w) A (binaryOp1 nm (.ref a) (.int n t)) (fun r s' => ∃ v, r = some v ∧ Q v s') E s := by
  obtain ⟨cd, rest, hcd, hm⟩ := PySem.W.ksp_first sf
  have one := PySem.W.ksp_try Xk J hs hf h
  have L1 : PySem.W.Looks (model prog w) s.heap (typeOf (.ref a)) (.ref C) := J.type
  have L2 : typeOf (.int n t) = pure (.type "int") := rfl
  have L3 : PySem.W.Looks (model prog w) s.heap (fillsNumberSlot (.ref C) nm) true := PySem.W.fills_K Xk hcd hm hs
  have L4 := PySem.W.ksp_fillsT (M := model prog w) Xk h1 h2
  have L5 : PySem.W.Looks (model prog w) s.heap (isSubtype (.type "int") (.ref C)) false := PySem.W.looks_subIn Xk hsub
  have L6 : PySem.W.Looks (model prog w) s.heap (numberSlotInPython (.ref C) nm) true := PySem.W.ksp_inPy Xk hs hr hp
  have L7 : numberSlotInPython (.type "int") nm = pure false := rfl
  have L8 : PySem.W.Looks (model prog w) s.heap (typeLookup (.type "int") (dunderR nm)) ro := PySem.W.looks_findIn Xk h2
  generalize ((fo.isSome && !isSeqSlot fo) || (ro.isSome && !isSeqSlot ro)) = right at L4
  have hne : (Value.ref C == Value.type "int") = false := Bool.eq_false_iff.mpr fun q => by cases beq_iff_eq.mp q
  unfold binaryOp1
  refine wpAny_bind (L1.here (wpAny_bind (wpAny_of_eq L2 (wpAny_bind (L3.here ?_)))))
  simp only [hne, if_false, Bool.false_eq_true]
  refine wpAny_bind (L4.here ?_)
  cases right with
  | false =>
    simp only [pure_bind, Bool.and_false, Bool.false_and, if_false, Bool.false_eq_true, if_true]
    refine wpAny_bind (wpAny_mono one (fun r s' hr => ?_) fun _ _ z => z)
    obtain ⟨v, rfl, q⟩ := hr
    exact wpAny_pure ⟨v, rfl, q⟩
  | true =>
    simp only [Bool.and_self, if_true]
    refine wpAny_bind (L5.here ?_)
    simp only [pure_bind, Bool.not_false, Bool.and_self, if_true, if_false, Bool.false_eq_true]
    refine wpAny_bind (L6.here ?_)
    simp only [if_true, L7, pure_bind, Bool.not_false]
    refine wpAny_bind (L8.here ?_)
    refine wpAny_bind (wpAny_mono one (fun r s' hr => ?_) fun _ _ z => z)
    obtain ⟨v, rfl, q⟩ := hr
    exact wpAny_pure ⟨v, rfl, q⟩
theorem fillsI_not {add : Bool} (Xk : K.In s.heap) (so : solo K C = true) (n1 : PySem.W.findIn K (.ref C) (dunderI nm) = some none) (n2 : PySem.W.findIn K (.type "object") (dunderI nm) = some none) : PySem.W.Looks (model prog w) s.heap (fillsInplaceSlot (.ref C) nm add) false := by
  obtain ⟨cd, hcd, hm⟩ := PySem.W.any_some so
  have hm := beq_iff_eq.mp hm
  intro A Q E s' k q
  have Lm : PySem.W.Looks (model prog w) s.heap (mroOf (.ref C)) cd.mro := (PySem.W.looks_clsIn Xk hcd).andThen (f := fun cd => pure cd.mro) .now
  have X' : K.In s'.heap := Xk.keeps k
  unfold fillsInplaceSlot
  refine wpAny_bind ((Lm.keeps k).here ?_)
  rw [hm, List.anyM_cons]
  refine wpAny_bind (wpAny_bind ((PySem.W.looks_findIn X' n1).here (wpAny_pure ?_)))
  simp only [Bool.false_eq_true, if_false, List.anyM_cons, List.anyM_nil]
  refine wpAny_bind (wpAny_bind ((PySem.W.looks_findIn X' n2).here (wpAny_pure ?_)))
  exact wpAny_pure q
theorem inpl {op : Operator} {v u : Value} (L1 : PySem.W.Looks (model prog w) s.heap (typeOf v) (.ref C)) (L2 : PySem.W.Looks (model prog w) s.heap (fillsInplaceSlot (.ref C) op.info.2 (op == .Add)) false)
    (h : wpAny (model prog w) A (binaryOp1 op.info.2 v u) (fun r s' => ∃ z, r = some z ∧ Q z s') E s) : wpAny (model prog w) A (inplaceOp op v u) Q E s := by
  unfold inplaceOp
  refine wpAny_holding (wpAny_bind (L1.here (wpAny_bind (L2.here ?_))))
  simp only [Bool.false_eq_true, if_false]
  refine wpAny_bind (wpAny_mono h (fun r s' hr => ?_) fun _ _ z => z)
  obtain ⟨v, rfl, q⟩ := hr
  exact wpAny_pure q
end
theorem solo_of {K : PySem.W.Frag} {C : Addr} {cd : ClassData} (h : PySem.W.clsIn K C = some cd) (hm : cd.mro = [.ref C, .type "object"]) : solo K C = true := by
  unfold solo
  rw [h]
  show (cd.mro == [.ref C, .type "object"]) = true
  exact beq_iff_eq.mpr hm
/-- a op= b in a class that has no such method: as a op b -/
structure INo (K : PySem.W.Frag) (C : Addr) (m : Str) : Prop where
  so : solo K C = true
  n1 : PySem.W.findIn K (.ref C) m = some none
  n2 : PySem.W.findIn K (.type "object") m = some none
section
variable {X : Cx} {CX : CXT} {k : Nat} {f C : Addr} {fd : FuncData} {ps : List Str} {sp : Sp} {E : XK} {op : Operator} {nm nr ni : Str} {fo ro rc : Option Value}
theorem ip_own (F : FnOk X.prog X.w X.K X.mg X.base CX k f fd ps sp) (hr : Room k X.A) (M : Meth X.K C nm f) (hn : PySem.dunder op.info.2 = nm) (sf : PySem.W.selfFirst X.K C = true) (hb : Binds X.K fd ps []) (hx : Passes CX X E) (no : INo X.K C ni) (hi : dunderI op.info.2 = ni) :
    PIp X op (rOwn C sp E) := by
  intro pins s σ H x y v u Q I rx ry h
  obtain ⟨a, b, dx, dy, fs, gs, rfl, rfl, ha, hb', q⟩ := h
  cases rx
  cases ry
  obtain ⟨od, J⟩ := inst_at I ha
  obtain ⟨od', J'⟩ := inst_at I hb'
  refine inpl J.type (fillsI_not I.kIn no.so (hi ▸ no.n1) (hi ▸ no.n2)) (bin1_same I.kIn J J' sf (hn ▸ M.at_) M.fn ?_)
  exact thn (run_fn (us := [.ref a, .ref b]) (vs := [.ref a, .ref b]) F hr hb .nil hx I (.cons rfl (.cons rfl .nil)) q) fun _ _ z => back_cmp z
theorem ip_ownI (F : FnOk X.prog X.w X.K X.mg X.base CX k f fd ps sp) (hr : Room k X.A) (M : Meth X.K C nm f) (hn : PySem.dunder op.info.2 = nm) (sf : PySem.W.selfFirst X.K C = true) (hb : Binds X.K fd ps []) (hx : Passes CX X E)
    (hnr : dunderR op.info.2 = nr) (hc : PySem.W.findIn X.K (.ref C) nr = some rc) (hp : rc = none ∨ ∃ g : Addr, rc = some (.ref g)) (h1 : PySem.W.findIn X.K (.type "int") nm = some fo) (h2 : PySem.W.findIn X.K (.type "int") nr = some ro)
    (hsub : PySem.W.subIn X.K (.type "int") (.ref C) = some false) (no : INo X.K C ni) (hi : dunderI op.info.2 = ni) : PIp X op (rOwnI C sp E) := by
  intro pins s σ H x y v u Q I rx ry h
  obtain ⟨a, n, dx, fs, rfl, rfl, ha, q⟩ := h
  cases rx
  obtain ⟨t, rfl⟩ := ry
  obtain ⟨od, J⟩ := inst_at I ha
  refine inpl J.type (fillsI_not I.kIn no.so (hi ▸ no.n1) (hi ▸ no.n2)) (bin1_int I.kIn J sf (hn ▸ M.at_) M.fn (hnr ▸ hc) hp (hn ▸ h1) (hnr ▸ h2) hsub ?_)
  exact thn (run_fn (us := [.ref a, .int n t]) (vs := [.ref a, .int n]) F hr hb .nil hx I (.cons rfl (.cons ⟨_, rfl⟩ .nil)) q) fun _ _ z => back_cmp z
end
end TzOwn
namespace Tz
open PySem PyProof.Rows L2
def spAddI (C : Addr) : Sp := fun vs H Q _ => ∃ x, ∃ w : Nat, ∃ u n : Int, vs = [.ref x, .int n] ∧ WordAt C H x w u ∧ 0 ≤ n ∧ n ≤ mw w ∧ NewW C w (cr w (u + n)) H Q
def spRAddI (C : Addr) : Sp := fun vs H Q _ => ∃ x, ∃ w : Nat, ∃ u n : Int, vs = [.ref x, .int n] ∧ WordAt C H x w u ∧ 0 ≤ n ∧ n ≤ mw w ∧ NewW C w (cr w (n + u)) H Q
def spSubI (C : Addr) : Sp := fun vs H Q _ => ∃ x, ∃ w : Nat, ∃ u n : Int, vs = [.ref x, .int n] ∧ WordAt C H x w u ∧ 0 ≤ n ∧ n ≤ mw w ∧ NewW C w (cr w (u + (mw w - n))) H Q
def spRSubI (C : Addr) : Sp := fun vs H Q _ => ∃ x, ∃ w : Nat, ∃ u n : Int, vs = [.ref x, .int n] ∧ WordAt C H x w u ∧ 0 ≤ n ∧ n ≤ mw w ∧ NewW C w (cr w (n + (mw w - u))) H Q
/-! ### repr of words -/
def wtext (w : Nat) (u : Int) : Str := ((((Str.empty ++ ("Word(" : Str)) ++ ((toString (w : Int) : String) : Str)) ++ (", " : Str)) ++ ((toString u : String) : Str)) ++ (")" : Str)
def WText (C : Addr) : Addr → Str → Hp → Prop := fun a t H => ∃ w u, WordAt C H a w u ∧ t = wtext w u
theorem mon_words {C : Addr} : TzRepr.Mon (TzRepr.RIns C (WText C)) := fun _ _ _ _ e ⟨a, dx, fs, hx, ha, w, u, W, ht⟩ => ⟨a, dx, fs, hx, e _ _ ha, w, u, W.ex e, ht⟩
theorem int20 {n : Int} (h0 : 0 ≤ n) (h1 : n < 18446744073709551616) : ((toString n : String) : Str).length ≤ 21 :=
  Nat.le_trans (PyProof.Rows.toString_length_le h0 (k := 20) (by decide) (by omega)) (by decide)
theorem wtext_len {w : Nat} {u : Int} (hw : w ≤ 64) (h0 : 0 ≤ u) (h1 : u < 18446744073709551616) : (wtext w u).length ≤ 60 := by
  have a := int20 (n := (w : Int)) (by omega) (by omega)
  have b := int20 h0 h1
  have e0 : (Str.empty : Str).length = 0 := rfl
  have e1 : ("Word(" : Str).length = 5 := rfl
  have e2 : (", " : Str).length = 2 := rfl
  have e3 : (")" : Str).length = 1 := rfl
  unfold wtext
  rw [strLen_append, strLen_append, strLen_append, strLen_append, strLen_append, e0, e1, e2, e3]
  omega
theorem words2_len {a b : Str} (ha : a.length ≤ 60) (hb : b.length ≤ 60) : (listText [a, b]).length ≤ sizeLine := by
  have := textFrom_len_le [a, b] 0 "["
  have e : (listText [a, b]).length = (textFrom 0 "[" [a, b]).length + 1 := by
    show (textFrom 0 "[" [a, b] ++ "]").length = _
    rw [strLen_append]; rfl
  have e1 : ("[" : Str).length = 1 := rfl
  have e2 : (([a, b].map (·.length)).sum) = a.length + (b.length + 0) := rfl
  have e3 : [a, b].length = 2 := rfl
  refine Nat.le_trans (show _ ≤ 200 by omega) (by decide)
theorem each2 {C a b : Addr} {H : Hp} {w w' : Nat} {u v : Int} (Wa : WordAt C H a w u) (Wb : WordAt C H b w' v) : TzRepr.Each (TzRepr.RIns C (WText C)) [.ref a, .ref b] [wtext w u, wtext w' v] H := by
  obtain ⟨da, ha⟩ := Wa.ob
  obtain ⟨db, hb⟩ := Wb.ob
  refine ⟨rfl, fun i x t h1 h2 => ?_⟩
  match i with
  | 0 =>
    cases h1
    cases h2
    exact ⟨a, da, _, rfl, ha, w, u, Wa, rfl⟩
  | 1 =>
    cases h1
    cases h2
    exact ⟨b, db, _, rfl, hb, w', v, Wb, rfl⟩
  | i + 2 => simp at h1
/-! ### promises -/
def spInPlace (C : Addr) : Sp := fun vs H Q _ => ∃ x y, ∃ w : Nat, ∃ u v : Int, vs = [.ref x, .ref y] ∧ WordAt C H x w u ∧ WordAt C H y w v ∧
  ∀ l p q H', Ex H H' → H' l = some (.lst [.ref p, .ref q]) → WordAt C H' p w (cr w (u + v)) → WordAt C H' q w (cr w (u + (mw w - v))) → Q (.ref l) H'
def spInPlaceI (C : Addr) : Sp := fun vs H Q _ => ∃ x, ∃ w : Nat, ∃ u v : Int, vs = [.ref x, .int v] ∧ WordAt C H x w u ∧ 0 ≤ v ∧ v ≤ mw w ∧
  ∀ l p q H', Ex H H' → H' l = some (.lst [.ref p, .ref q]) → WordAt C H' p w (cr w (u + v)) → WordAt C H' q w (cr w (u + (mw w - v))) → Q (.ref l) H'
def spApart (C : Addr) : Sp := fun vs H Q _ => ∃ x y, ∃ w : Nat, ∃ u v : Int, vs = [.ref x, .ref y] ∧ WordAt C H x w u ∧ WordAt C H y w v ∧ ∀ H', Ex H H' → Q (.bl true) H'
def spApartI (C : Addr) : Sp := fun vs H Q _ => ∃ x, ∃ w : Nat, ∃ u v : Int, vs = [.ref x, .int v] ∧ WordAt C H x w u ∧ 0 ≤ v ∧ v ≤ mw w ∧ ∀ H', Ex H H' → Q (.bl true) H'
def spRight3 : Sp := fun vs H Q _ => ∃ w : Nat, ∃ u v : Int, vs = [.int w, .int u, .int v] ∧ 1 ≤ w ∧ w ≤ 64 ∧ 0 ≤ u ∧ u ≤ mw w ∧ 0 ≤ v ∧ v ≤ mw w ∧ ∀ H', Ex H H' → Q (.bl true) H'
end Tz
namespace TzRepr
open PySem PySem.Spec PyProof.Rows L2 PySem.Builtin PySem.Builtin.List Tz
section
variable {X : Cx} {n : Nat} {as : List Addr} {D : Rpr}
/-! ### tuples -/
theorem Each.tail {x : V} {xs : List V} {t : Str} {ts : List Str} {H : Hp} (p : Each D (x :: xs) (t :: ts) H) : Each D xs ts H := ⟨by simpa using p.1, fun i y u h1 h2 => p.2 (i + 1) y u (by simpa using h1) (by simpa using h2)⟩
theorem Each.head {x : V} {xs : List V} {t : Str} {ts : List Str} {H : Hp} (p : Each D (x :: xs) (t :: ts) H) : D x t H := p.2 0 x t rfl rfl
theorem tup_fold {A : Around} {g : List Code} {pins : List (Addr × Obj)} {σ : L2.St} {bs : List Addr} (h : RpG X n bs D) (hm : Mon D) (hr : Room n A) (hf : A.frames = X.A.frames) (hg : A.guards = some g) (hcl : ∀ p, p ∉ bs → Clear g p) :
    ∀ (l : List Value) (xs : List V) (ts : List Str) (acc : Array Str) (m : Nat) (s : Shared) (H1 : Hp), Vals xs l → Each D xs ts H1 → m + piled ts ≤ sizeLine → L2.Inv X pins σ H1 s →
    wpAny (model X.prog X.w) A (forIn l (⟨acc, m⟩ : (Array Str × Nat)) tupBody) (fun r s' => r = ⟨acc ++ ts.toArray, m + piled ts⟩ ∧ ∃ H', L2.Inv X pins σ H' s' ∧ Ex H1 H') X.xe s := by
  intro l
  induction l with
  | nil =>
    intro xs ts acc m s H1 rv d hs I
    cases rv
    have e : ts = [] := List.length_eq_zero_iff.mp d.1.symm
    subst e
    rw [List.forIn_nil]
    exact wpAny_pure ⟨by simp [piled], H1, I, fun _ _ z => z⟩
  | cons y l ih =>
    intro xs ts acc m s H1 rv d hs I
    cases rv with
    | cons ry rv =>
      rename_i x xs
      cases ts with
      | nil => exact absurd d.1 (by simp)
      | cons t ts =>
        rw [piled_cons] at hs
        rw [List.forIn_cons]
        refine wpAny_bind (wpAny_bind (wpAny_mono (h A g pins s σ H1 x y t (m + 1) hr hf hg hcl I ry d.head (by omega)) (fun z s2 q => ?_) fun _ _ z => z))
        obtain ⟨rfl, H2, I2, e2⟩ := q
        refine wpAny_pure ?_
        refine wpAny_mono (ih xs ts (acc.push z) (m + (z.length + 2)) s2 H2 rv (d.tail.mon hm e2) (by omega) I2) (fun r s3 q => ?_) fun _ _ z => z
        obtain ⟨rfl, H3, I3, e3⟩ := q
        refine ⟨?_, H3, I3, e2.trans e3⟩
        rw [piled_cons]
        refine Prod.ext ?_ ?_
        · simp
        · show m + (z.length + 2) + piled ts = m + (z.length + 2 + piled ts)
          omega
/-- a code that is repr of a tuple -/
structure TupC (A : Around) (c : Code) : Prop where
  gd : c.isGuard = true
  un : (A.under c).units = A.units + 1
  dp : (A.under c).depth ≤ A.depth + 1
  hd : (A.under c).handled = A.handled
  fr : (A.under c).frames = A.frames
theorem TupC.room {A : Around} {c : Code} {k : Nat} (h : TupC A c) (r : Room (k + 1) A) : Room k (A.under c) := ⟨by rw [h.hd]; exact r.hd, by have := r.dp; have := h.dp; omega, by have := r.un; rw [h.un]; omega⟩
theorem tupC1 (A : Around) (args : Args) : TupC A (.builtin "tuple.__repr__" args) :=
  ⟨isGuard_tuple_repr _, units_under_tuple_repr _ _, by first | exact Nat.le_of_eq rfl | exact Nat.le_succ _ | simp [Around.under, Code.weight, Code.isCreation, Code.isGuard, Code.isCaller, Code.frames, Code.isFrame, guardIds], by first | rfl | simp [Around.under], by first | rfl | simp [Around.under, Code.frames, Code.isFrame]⟩
theorem tupC2 (A : Around) (args : Args) : TupC A (.builtin "tuple.__repr__.under" args) :=
  ⟨isGuard_tuple_repr_under _, units_under_tuple_repr_under _ _, by first | exact Nat.le_of_eq rfl | exact Nat.le_succ _ | simp [Around.under, Code.weight, Code.isCreation, Code.isGuard, Code.isCaller, Code.frames, Code.isFrame, guardIds], by first | rfl | simp [Around.under], by first | rfl | simp [Around.under, Code.frames, Code.isFrame]⟩
theorem tup_at {A : Around} {g : List Code} {pins : List (Addr × Obj)} {σ : L2.St} {H : Hp} {s : Shared} {a : Addr} {xs : List V} {ts : List Str} {base : Nat} {id : String} {rest : List Value} {R : Result → Shared → Prop} (h : RpG X n (a :: as) D) (hm : Mon D) (hr : Room (n + 1) A) (hf : A.frames = X.A.frames)
    (hg : A.guards = some g) (hcl : ∀ p, p ∉ as → Clear g p) (hna : a ∉ as) (c : TupC A (.builtin id ⟨.ref a :: rest, []⟩)) (I : L2.Inv X pins σ H s) (ha : SqT X.K H a xs) (d : Each D xs ts H) (hsz : base + (tupleText ts).length ≤ sizeLine) (hE : ∀ e s', X.xe e s' → R (.error e) s')
    (hR : ∀ u H' s', L2.Inv X pins σ H' s' → Ex H H' → R (.ok (.ret (.str (tupleText ts) u))) s') :
    wpOwn (model X.prog X.w) A (.builtin id ⟨.ref a :: rest, []⟩) (Builtin.tupleReprAt base ⟨[.ref a], []⟩) (fun fin s' => match fin with | .done f => R (.ok f) s' | .again c' => c'.quiet = true ∧ codeAny (model X.prog X.w) A c' R s') (fun e s' => R (.error e) s') s := by
  obtain ⟨its, rv, ⟨o, ho, hc, m, hd⟩, hz⟩ := I.tuple ha
  have hp := piled_le_tupleText ts
  have hlen : ts.length = its.toArray.size := by rw [List.size_toArray, ← rv.length]; exact d.1.symm
  rw [tuple_repr_tree, tupleReprUnderWay_eq]
  refine wpOwn_bind (wpOwn_stackTailAny hg (tupGuardF_off _) (tupGuardF_pos _) ?_)
  have hn : (g.any fun c => tupGuardF (.ref a) (c, default)) = false := by
    refine List.any_eq_false.mpr fun c hcm => ?_
    rw [tupGuardF_of_clear (hcl a hna) c hcm]
    exact Bool.false_ne_true
  rw [hn]
  refine wpOwn_of_wpAny ?_
  show wpAny _ _ (tupleReprRest base (.ref a)) _ _ s
  unfold tupleReprRest Builtin.Tuple.tupleItemsOf
  refine wpAny_bind (wpAny_bind (wpAny_seqItems ho hd (wpAny_pure ?_)))
  rw [← Array.forIn_toList]
  refine wpAny_bind (wpAny_mono (tup_fold h hm (c.room hr) (c.fr.trans hf) (guards_under_guard c.gd hg) (fun p hp => (hcl p fun q => hp (.tail _ q)).cons (a := a) fun q => hp (q ▸ .head _)) _ xs ts #[] base s H (by simpa using rv) d (by omega) I) (fun r s2 q => ?_) fun e s' q => hE e s' q)
  obtain ⟨rfl, H2, I2, e2⟩ := q
  have hsz0 : (tupleText ts).length ≤ sizeLine := by omega
  refine wpAny_bind (wpAny_mkStr (wpAny_pure ?_) (by simpa [tupleText, hlen] using hsz0))
  have h1 := hR s2.toks H2 { s2 with toks := s2.toks + 1 } (I2.kept (h' := s2.heap) fun _ _ z => z) e2
  simpa [tupleText, hlen] using h1
/-- tuples, item by item -/
def RTup (K : PySem.W.Frag) (D : Rpr) (as : List Addr) : Rpr := fun x t H => ∃ a xs ts, x = .ref a ∧ a ∉ as ∧ SqT K H a xs ∧ t = tupleText ts ∧ Each D xs ts H
theorem sqT_ex {K : PySem.W.Frag} {H H' : Hp} {a : Addr} {xs : List V} (h : SqT K H a xs) (e : Ex H H') : SqT K H' a xs := by
  rcases h with (h | ⟨o, h⟩) | h
  · exact .inl (.inl (e _ _ h))
  · exact .inl (.inr ⟨o, e _ _ h⟩)
  · exact .inr h
theorem mon_tup {K : PySem.W.Frag} (hD : Mon D) : Mon (RTup K D as) := fun x t H H' e ⟨a, xs, ts, hx, hn, h1, ht, p⟩ => ⟨a, xs, ts, hx, hn, sqT_ex h1 e, ht, p.mon hD e⟩
theorem rpG_tup (hm : Mon D) (h : ∀ a, RpG X n (a :: as) D) : RpG X (n + 1) as (RTup X.K D as) := by
  intro A g pins s σ H x u t b hr hf hg hc I r d hs
  obtain ⟨a, xs, ts, rfl, hna, ha, rfl, p⟩ := d
  cases r
  refine wpAny_pyReprUnder_ref (by omega) ?_
  obtain ⟨its, rv, ⟨o, ho, hcls, m, hd⟩, hz⟩ := I.tuple ha
  refine wpAny_pyReprObjUnder_twin (twin := "tuple.__repr__.under") ⟨o, ho, hcls⟩ F.slot_tuple_repr rfl hr.units0 ?_
  exact call_twin_own (F.quiet_tuple_repr_under _) F.entry_tuple_repr_under F.check_tuple_repr_under ⟨o, ho, hcls⟩ F.slot_tuple_repr (F.args_tuple_repr_1 _)
    (tup_at (R := callEnd _ X.xe) (h a) hm hr hf hg hc hna (tupC2 _ _) I ha p hs (fun e s' q => q) fun u H' s' I' e => ⟨⟨_, _, rfl⟩, _, _, rfl, rfl, H', I', e⟩)
/-- repr(x) of a tuple, where no repr is under way -/
theorem repr_tup (hm : Mon D) (h : ∀ a, RpG X n [a] D) (hg : X.A.guards = some []) (hr : Room (n + 2) X.A) :
    CallR X (.builtin "repr") (fun xs H Q => ∃ x t, xs = [x] ∧ RTup X.K D [] x t H ∧ t.length ≤ sizeLine ∧ ∀ H', Ex H H' → Q (.str t) H') := by
  intro pins s σ H xs us Q I r hq
  obtain ⟨x, t, rfl, ⟨a, xs, ts, rfl, hna, ha, rfl, p⟩, hs, q⟩ := hq
  obtain ⟨u, rfl, ru⟩ := vals1 r
  cases ru
  obtain ⟨its, rv, ⟨o, ho, hcls, m, hd⟩, hz⟩ := I.tuple ha
  refine call_repr_slot hr.in1.units0 ⟨o, ho, hcls⟩ F.slot_tuple_repr ?_
  exact wpAny_call (codeAny_call_builtin_own (Code.quiet_builtin _ (by decide +kernel)) F.entry_tuple_repr (F.slot_tuple_repr.check _ _ _ _ _ _ _ _ ⟨o, ho, hcls⟩ (F.args_tuple_repr_1 _)
    (tup_at (base := 0) (R := callEnd _ X.xe) (A := X.A.in1) (g := []) (h a) hm hr.in1 rfl hg (fun p _ => Clear.nil p) hna (tupC1 _ _) I ha p (by omega) (fun e s' q => q) fun u H' s' I' e => ⟨_, _, rfl, .str (tupleText ts), H', I', ⟨_, rfl⟩, q H' e⟩)))
end
end TzRepr
namespace TzOwn
open PySem PySem.Spec PyProof.Rows L2 PySem.Builtin PySem.Builtin.Str
section
variable {prog : Program} {w : World} {A : Around} {E : Value → Shared → Prop} {s : Shared} {K : PySem.W.Frag} {x C f : Addr} {od : Option Obj} {ox : Obj}
/-- str(x), x an instance with its own __str__ -/
theorem str_call {Q : Value → Shared → Prop} (hu : A.in1.in1.units < cLine) (Xk : K.In s.heap) (J : PySem.W.InstAt s.heap x ox C od) (hs : PySem.W.findIn K (.ref C) "__str__" = some (some (.ref f))) (hf : PySem.W.isFn K (.ref f) = true)
    (h : wpAny (model prog w) A.in1.in1 (call (.ref f) [.ref x]) (PySem.W.StrBack Q) E s) : wpAny (model prog w) A (call (.type "str") [.ref x]) Q E s := by
  have fin : wpAny (model prog w) A.in1.in1 (PySem.Builtin.Str.strOf (.ref x)) (fun r s1 => ∃ y u, r = .str y u ∧ Q r s1) E s := by
    unfold PySem.Builtin.Str.strOf
    have no : isExactStr (.ref x) = false := rfl
    rw [no]
    refine wpAny_bind (m := cRoomFor _ _) (wpAny_cRoomFor hu ?_)
    have one : wpAny (model prog w) A.in1.in1 (callSpecial? (.ref x) (Str.ofString "__str__") []) (fun r s1 => ∃ y u, r = some (.str y u) ∧ Q (.str y u) s1) E s :=
      PySem.W.special_fn Xk J hs (beq_iff_eq.mp hf) (wpAny_mono h (fun v s1 z => by cases v <;> first | exact z.elim | exact ⟨_, _, rfl, z⟩) fun _ _ z => z)
    refine wpAny_bind (m := callSpecial? (.ref x) (Str.ofString "__str__")) (wpAny_mono one (fun r s1 z => ?_) fun _ _ z => z)
    obtain ⟨y, u, rfl, q⟩ := z
    exact wpAny_pure ⟨_, _, rfl, q⟩
  refine callType_codes (T := "str") (Bi := Builtin.«object.__init__») (Q₁ := fun r s1 => ∃ y u, r = .str y u ∧ Q r s1)
    PySem.F.called_str (PySem.F.typeCall_str_1 _) PySem.F.entry_object_init ?_ (fun obj s1 z => ?_)
  · refine codeAny_of_tree ?_
    show wpAny _ A.in1.in1
      (do checkBuiltinCall "str.__new__" ⟨[.type "str", .ref x], []⟩; again (.builtin "str.__new__" ⟨[.type "str", .ref x], []⟩)) _ _ s
    have pl : plainId "str.__new__" = true := by decide +kernel
    refine wpAny_bind (wpAny_of_eq (PySem.F.newCall_str_1 _)
      (wpAny_pure ⟨plainId_quiet pl _, codeAny_builtin PySem.F.entry_str_new ?_⟩))
    rw [Around.under_plainId pl, str_new_tree]
    refine wpAny_bind (wpAny_pure (wpAny_bind (wpAny_of_eq isSubtype_str_str ?_)))
    exact wpAny_bind (wpAny_mono fin (fun r s1 z => wpAny_pure z) fun _ _ z => z)
  · obtain ⟨y, u, rfl, q⟩ := z
    exact ⟨typeIs_str _ _ _, PySem.F.args_object_init_2 _ _,
      object_init_meets PySem.F.called_str.init.lookup PySem.F.called_str.made (by decide) prog w A.in1 _ s1 ⟨typeIs_str _ _ _, rfl, q⟩⟩
theorem bool_call {Q : Value → Shared → Prop} (Xk : K.In s.heap) (J : PySem.W.InstAt s.heap x ox C od) (hs : PySem.W.findIn K (.ref C) "__bool__" = some (some (.ref f))) (hf : PySem.W.isFn K (.ref f) = true)
    (h : wpAny (model prog w) A.in1.in1 (call (.ref f) [.ref x]) (PySem.W.BoolBack fun b => Q (.bool b)) E s) : wpAny (model prog w) A (call (.type "bool") [.ref x]) Q E s := by
  have fin : wpAny (model prog w) A.in1.in1 (truthy (.ref x)) (fun b s1 => Q (.bool b) s1) E s := by
    unfold truthy
    refine wpAny_bind (m := callSpecial? (.ref x) (Str.ofString "__bool__"))
      (PySem.W.special_fn Xk J hs (beq_iff_eq.mp hf) (wpAny_mono h (fun r s1 z => ?_) fun _ _ y => y))
    cases r <;> first | exact z.elim | exact wpAny_pure z
  refine callType_codes (T := "bool") (Bi := Builtin.«object.__init__») (Q₁ := fun r s1 => ∃ b, r = .bool b ∧ Q r s1)
    PySem.F.called_bool (PySem.F.typeCall_bool_1 _) PySem.F.entry_object_init ?_ (fun obj s1 z => ?_)
  · refine codeAny_of_tree ?_
    show wpAny _ A.in1.in1
      (do checkBuiltinCall "bool.__new__" ⟨[.type "bool", .ref x], []⟩; again (.builtin "bool.__new__" ⟨[.type "bool", .ref x], []⟩)) _ _ s
    have pl : plainId "bool.__new__" = true := by decide +kernel
    refine wpAny_bind (wpAny_of_eq (PySem.F.newCall_bool_1 _)
      (wpAny_pure ⟨plainId_quiet pl _, codeAny_builtin PySem.F.entry_bool_new ?_⟩))
    rw [Around.under_plainId pl]
    unfold Builtin.«bool.__new__»
    have t1 : PySem.W.Looks (model prog w) s.heap (isType (.type "bool")) true := PySem.W.Looks.of_pure rfl
    refine wpAny_bind (t1.here ?_)
    have t2 : PySem.W.Looks (model prog w) s.heap (isSubtype (.type "bool") (.type "bool")) true := PySem.W.Looks.of_pure F.conv_sub_bool
    simp only [Bool.not_true, Bool.false_eq_true, if_false]
    refine wpAny_bind (t2.here ?_)
    simp only [Bool.not_true, Bool.false_eq_true, if_false]
    refine wpAny_bind (wpAny_pure ?_)
    exact wpAny_bind (wpAny_mono fin (fun c s1 z => wpAny_pure ⟨_, rfl, z⟩) fun _ _ z => z)
  · obtain ⟨b, rfl, q⟩ := z
    exact ⟨PySem.typeIs_bool _ _, PySem.F.args_object_init_2 _ _,
      object_init_meets PySem.F.called_bool.init.lookup PySem.F.called_bool.made (by decide) prog w A.in1 _ s1 ⟨PySem.typeIs_bool _ _, rfl, q⟩⟩
end
section
variable {X : Cx} {CX : CXT} {n : Nat} {f C : Addr} {fd : FuncData} {ps : List Str} {sp : Sp} {E : XK}
theorem str_own (F : FnOk X.prog X.w X.K X.mg X.base CX n f fd ps sp) (hr : Room (n + 2) X.A) (M : Meth X.K C "__str__" f) (hb : Binds X.K fd ps []) (hx : Passes CX X E) :
    CallR X (.type "str") (fun xs H Q => ∃ a dx fs, xs = [.ref a] ∧ H a = some (.ins C dx fs) ∧ sp [.ref a] H (fun v H' => (∃ t, v = .str t) ∧ Q v H') E) := by
  intro pins s σ H xs us Q I r hq
  obtain ⟨a, dx, fs, rfl, ha, q⟩ := hq
  obtain ⟨u, rfl, ru⟩ := vals1 r
  cases ru
  obtain ⟨od, J⟩ := inst_at I ha
  refine str_call hr.in1.in1.units0 I.kIn J M.at_ M.fn ?_
  have e0 : Env0 X.prog X.w X.K X.mg X.base X.A.in1.in1 X.stack s H := I.env0.in1.in1
  have hl := F.len _ _ _ _ q
  refine wpAny_call (codeAny_mono (F.run X.A.in1.in1 X.stack s H ⟨[.ref a], []⟩ [.ref a] [.ref a] _ E hr.in1.in1 e0 (by
    have := hb s [.ref a] I.kIn (by simpa using hl)
    simpa using this) (.cons rfl .nil) q) fun r s' hq => ?_)
  cases r with
  | error e => exact hx pins σ H s e s' I hq
  | ok fl =>
    cases fl with
    | ret w =>
      obtain ⟨z, H', I', rz, ⟨t, ez⟩, q'⟩ := I.after hq
      subst ez
      obtain ⟨tk, rfl⟩ := rz
      exact ⟨.str t, H', I', ⟨_, rfl⟩, q'⟩
    | next => exact False.elim hq
    | brk => exact False.elim hq
    | cont => exact False.elim hq
theorem bool_own (F : FnOk X.prog X.w X.K X.mg X.base CX n f fd ps sp) (hr : Room (n + 2) X.A) (M : Meth X.K C "__bool__" f) (hb : Binds X.K fd ps []) (hx : Passes CX X E) :
    CallR X (.type "bool") (fun xs H Q => ∃ a dx fs, xs = [.ref a] ∧ H a = some (.ins C dx fs) ∧ sp [.ref a] H (fun v H' => (∃ t, v = .bl t) ∧ Q v H') E) := by
  intro pins s σ H xs us Q I r hq
  obtain ⟨a, dx, fs, rfl, ha, q⟩ := hq
  obtain ⟨u, rfl, ru⟩ := vals1 r
  cases ru
  obtain ⟨od, J⟩ := inst_at I ha
  refine bool_call I.kIn J M.at_ M.fn ?_
  have e0 : Env0 X.prog X.w X.K X.mg X.base X.A.in1.in1 X.stack s H := I.env0.in1.in1
  have hl := F.len _ _ _ _ q
  refine wpAny_call (codeAny_mono (F.run X.A.in1.in1 X.stack s H ⟨[.ref a], []⟩ [.ref a] [.ref a] _ E hr.in1.in1 e0 (by
    have := hb s [.ref a] I.kIn (by simpa using hl)
    simpa using this) (.cons rfl .nil) q) fun r s' hq => ?_)
  cases r with
  | error e => exact hx pins σ H s e s' I hq
  | ok fl =>
    cases fl with
    | ret w =>
      obtain ⟨z, H', I', rz, ⟨t, ez⟩, q'⟩ := I.after hq
      subst ez
      cases rz
      exact ⟨.bl t, H', I', rfl, q'⟩
    | next => exact False.elim hq
    | brk => exact False.elim hq
    | cont => exact False.elim hq
end
section
variable {X : Cx} {CX : CXT} {k : Nat} {f C g p : Addr} {fd : FuncData} {ps ks : List Str} {sp : Sp} {E : XK} {m : Str} {o : Expr} {mc : Value} {kws : List Keyword} {apos pos : Pos} {ta : TE} {tk : TA} {pl : Sem Bool}
def tSMethK (C : Addr) (sp : Sp) (E : XK) (gV : List V → List V) (ta : TE) (t : TA) : TE := fun σ H Q => ta σ H fun x H1 => x = .ref C ∧ t σ H1 fun zs H2 => sp (gV zs) H2 Q E
/-- C.m(k = e, ..), m a staticmethod, by keywords alone -/
theorem pe_smethK {gs : List Value → List Value → List Value} {gV : List V → List V → List V} (he : PE X o ta) (r : ClX.CRead X.K C mc) (c : SMet X.K C mc m p g) (F : FnOk X.prog X.w X.K X.mg X.base CX k g fd ps sp) (hr : Room k X.A) (hb : KBinds X.K fd ps ks gs gV) (hx : Passes CX X E) (hkw : PK X kws tk)
    (hall : (backToKw pos (keywordEach kws X.env)).all (·.1.isSome) = true := by rfl) (hks : (backToKw pos (keywordEach kws X.env)).filterMap (·.1) = ks := by rfl)
    (hpl : ((backTo pos (starEach [] X.env)).any (·.1) || (backToKw pos (keywordEach kws X.env)).any (·.1.isNone)) = false := by rfl)
    (ht : eval (.Call (.Attribute o m apos) [] kws pos) X.env = (do
      let ov ← eval o X.env
      standAt apos.atName
      let (f, first) ← holding [ov] (getMethod ov m pl)
      callWith pos f first (backTo pos (starEach [] X.env)) (backToKw pos (keywordEach kws X.env))) := by rfl) :
    PE X (.Call (.Attribute o m apos) [] kws pos) (tSMethK C sp E (gV []) ta tk) := by
  refine ⟨fun pins s σ H Q I h => ?_⟩
  refine PySem.W.methodCall_KW (pl := pl) (thn (he.run pins s σ H _ I h) fun u s1 ⟨x, H1, I1, rx, ex, q⟩ => ?_) ht
  subst ex
  obtain rfl : u = Value.ref C := rx
  refine PySem.W.method_cls I1.kIn r.ga (getsmet_ok I1 r c fun s2 I2 => ?_)
  refine PySem.W.callWith_KW0 (first := []) (h₀ := X.base) I.ok.mod.kin c.kp hall (thn (hkw.run pos pins s2 σ H1 _ I2 q) fun ws s3 ⟨zs, H2, I3, rz, q2⟩ => ⟨I3.kIn, ?_⟩) hpl
  rw [hks]
  exact run_fnk (us := []) (vs := []) F hr hb hx I3 .nil rz q2
end
section
variable {X : Cx} {CX : CXT} {k n i : Nat} {f C g p : Addr} {fd : FuncData} {ps ks : List Str} {sp : Sp} {dvs : List V} {ds : List Value} {E : XK} {x m : Str} {o e : Expr} {es : List Expr} {mc : Value} {kws : List Keyword} {np apos pos : Pos} {ta : TE} {t tk : TA} {pl : Sem Bool}
/-- C(k = e, ..), by keywords alone -/
theorem pe_makeK0 {gs : List Value → List Value → List Value} {gV : List V → List V → List V} (M : Mk X.K C f) (F : FnOk X.prog X.w X.K X.mg X.base CX k f fd ps sp) (hr : Room (k + 1) X.A) (hg : Gl X x) (hm : X.mg x = some (.ref C)) (hb : KBn X.K fd ps 1 ks gs gV) (hx : Passes CX X E) (hkw : PK X kws tk)
    (hall : (backToKw pos (keywordEach kws X.env)).all (·.1.isSome) = true := by rfl) (hks : (backToKw pos (keywordEach kws X.env)).filterMap (·.1) = ks := by rfl)
    (hdb : (x == ("__debug__" : Str)) = false := by decide)
    (hpl : ((backTo pos (starEach [] X.env)).any (·.1) || (backToKw pos (keywordEach kws X.env)).any (·.1.isNone)) = false := by rfl) :
    PE X (.Call (.Name x np) [] kws pos) (tMakeN C 0 ks.length sp gV E tNil tk) := by
  refine ⟨fun pins s σ H Q I h => ?_⟩
  refine wpAny_Call_Name_kw (ld_glob I hg hm ?_ hdb)
  refine PySem.W.callWith_KW0 (first := []) (h₀ := X.base) I.ok.mod.kin M.kp hall (thn (hkw.run pos pins s σ H _ I h) fun ws s2 ⟨zs, H2, I2, rz, l1, l2, q2⟩ => ⟨I2.kIn, ?_⟩) hpl
  rw [hks]
  exact run_makeN M F hr hb hx I2 .nil rz l1 l2 q2
/-- cls(e, ..): the slot i holds the class -/
def tMakeL (i : Nat) (C : Addr) (sp : Sp) (dvs : List V) (E : XK) (t : TA) : TE := fun σ H Q => σ[i]? = some (some (.ref C)) ∧ tMake C sp dvs E t σ H Q
theorem pe_makeL (M : Mk X.K C f) (F : FnOk X.prog X.w X.K X.mg X.base CX k f fd ps sp) (hr : Room (k + 1) X.A) (hN : X.N[i]? = some x) (hv : Vis X.env.scope x) (hb : Binds X.K fd ps ds) (hd : Vals dvs ds) (hx : Passes CX X E) (ha : PA X (e :: es) t)
    (hdb : (x == ("__debug__" : Str)) = false := by decide) (hcd : (x == ("__classdict__" : Str)) = false := by decide)
    (he : starEach (e :: es) X.env = (false, eval e X.env) :: starEach es X.env := by rfl) (hpl : (backTo pos (starEach es X.env)).any (·.1) = false := by rfl) : PE X (.Call (.Name x np) (e :: es) [] pos) (tMakeL i C sp dvs E t) := by
  refine ⟨fun pins s σ H Q I h => ?_⟩
  obtain ⟨hs, ht⟩ := h
  refine wpAny_Call_Name_kw (thn ((pe_var (pos := np) hN hv hdb hcd).run pins s σ H (fun v H1 => v = .ref C ∧ H1 = H) I ⟨.ref C, hs, rfl, rfl⟩) fun u s1 ⟨v, H1, I1, r1, q1⟩ => ?_)
  obtain ⟨rfl, rfl⟩ := q1
  cases r1
  refine PySem.W.callWith_K (h₀ := X.base) I.ok.mod.kin M.kp (thn (ha.run pos pins s1 σ _ _ I1 ht) fun us s2 ⟨vs, H2, I2, r, q⟩ => ⟨I2.kIn, ?_⟩) he hpl
  exact run_make M F hr hb hd hx I2 r q
/-- C.m(k = e, ..), m a classmethod, by keywords alone -/
theorem pe_cmethK {gs : List Value → List Value → List Value} {gV : List V → List V → List V} (he : PE X o ta) (r : ClX.CRead X.K C mc) (c : ClX.CMet X.K C mc m p g) (F : FnOk X.prog X.w X.K X.mg X.base CX k g fd ps sp) (hr : Room k X.A) (hb : KBinds X.K fd ps ks gs gV) (hx : Passes CX X E) (hkw : PK X kws tk)
    (hall : (backToKw pos (keywordEach kws X.env)).all (·.1.isSome) = true := by rfl) (hks : (backToKw pos (keywordEach kws X.env)).filterMap (·.1) = ks := by rfl)
    (hpl : ((backTo pos (starEach [] X.env)).any (·.1) || (backToKw pos (keywordEach kws X.env)).any (·.1.isNone)) = false := by rfl)
    (ht : eval (.Call (.Attribute o m apos) [] kws pos) X.env = (do
      let ov ← eval o X.env
      standAt apos.atName
      let (f, first) ← holding [ov] (getMethod ov m pl)
      callWith pos f first (backTo pos (starEach [] X.env)) (backToKw pos (keywordEach kws X.env))) := by rfl) :
    PE X (.Call (.Attribute o m apos) [] kws pos) (tSMethK C sp E (gV [.ref C]) ta tk) := by
  refine ⟨fun pins s σ H Q I h => ?_⟩
  refine PySem.W.methodCall_KW (pl := pl) (thn (he.run pins s σ H _ I h) fun u s1 ⟨x, H1, I1, rx, ex, q⟩ => ?_) ht
  subst ex
  obtain rfl : u = Value.ref C := rx
  refine ClX.getmethcm_ok I1 r c fun s2 I2 => ?_
  refine PySem.W.callWith_of (P := PySem.W.MethP X.K s1.heap.objs.size g (.ref C)) hpl (PySem.W.keeps_M c.fi) (PyProof.Rows.evalArgs_kw2_nil hall (thn (hkw.run pos _ s2 σ H1 _ I2 q) fun ws s3 ⟨zs, H2, I3, rz, q2⟩ => ⟨⟨ClX.pin_at I3, I3.kIn⟩, ?_⟩))
  rw [hks]
  have r2 := hb.rel (vs := [.ref C]) (us := [.ref C]) (.cons rfl .nil) rz
  have hl : (gs [.ref C] ws).length = ps.length := by rw [← r2.length]; exact F.len _ _ _ _ q2
  have z : wpAny (model X.prog X.w) X.A (call (.ref s1.heap.objs.size) [] (ks.zip ws)) (EP X ((s1.heap.objs.size, PySem.W.methodObj (.ref g) (.ref C)) :: pins) σ Q) X.xe s3 := by
    refine wpAny_call (PySem.W.method_call (ClX.pin_at I3) (codeAny_mono (F.run X.A X.stack s3 H2 ⟨[.ref C], ks.zip ws⟩ (gs [.ref C] ws) (gV [.ref C] zs) Q E hr I3.env0 (hb.to s3 [.ref C] ws I3.kIn hl) r2 q2) fun r s' hq => ?_))
    cases r with
    | error e => exact hx _ σ H2 s3 e s' I3 hq
    | ok fl =>
      cases fl with
      | ret u => exact I3.after hq
      | next => exact False.elim hq
      | brk => exact False.elim hq
      | cont => exact False.elim hq
  exact thn z fun _ _ y => ClX.unpinE y
end
end TzOwn
namespace TzTry
open PySem PySem.Spec PyProof.Rows L2
/-! several clauses, each with its name; nothing passes by all of them -/
/-- so many slots there are -/
def atN (X : Cx) (W : WX) : WX := fun k d z J => z.length = X.N.length → W k d z J
/-- behind a clause its name is unbound -/
def gone (i : Nat) (D : Ends) : Ends := ⟨fun z J => D.nx (z.set i none) J, D.rt, fun z J => D.bk (z.set i none) J, fun z J => D.ct (z.set i none) J⟩
abbrev Clause := Value × Nat × (Addr → Value → Option Addr → TS)
def wAll (K : PySem.W.Frag) (D : Ends) : List Clause → WX
  | [] => fun _ _ _ _ => False
  | (c, i, ts) :: l => fun k d z J => ∃ b, PySem.W.exmOne K k c = some b ∧ (b = true → ∀ a, J a = none → ts a k d (gone i D) (z.set i (some (.ref a))) J) ∧ (b = false → wAll K D l k d z J)
inductive Clauses (X : Cx) : List ExceptHandler → List Clause → Prop
  | nil : Clauses X [] []
  | cons {x n : Str} {i : Nat} {c : Value} {ts : Addr → Value → Option Addr → TS} {st : Stmt} {sts : List Stmt} {p1 p2 : Pos} {es : List ExceptHandler} {l : List Clause} (known : Names X x c) (slot : X.N[i]? = some n) (loc : X.env.kindOf n = some .local)
      (suite : ∀ (a : Addr) (o : Obj) (k : Value) (d : Option Addr) (ps : List (Addr × Obj)), Zc k d o → (∃ us, o.data = .fields us) → PSs (X.suite a ((a, o) :: ps)) (st :: sts) (ts a k d)) (more : Clauses X es l) :
      Clauses X (.ExceptHandler (some (.Name x p1)) (some n) (st :: sts) p2 :: es) ((c, i, ts) :: l)
section
variable {X : Cx} {body : List Stmt} {e1 : ExceptHandler} {es : List ExceptHandler} {l : List Clause} {pos : Pos} {tb : WX → TS}
theorem ps_try_all (top : X.stack = X.env :: X.outer) (fr : X.env.frame = some X.env.locals) (nd : X.N.Nodup)
    (tries : ∀ (W : WX) (ps : List (Addr × Obj)) (out : Value → Shared → Prop), Takes (X.tr ps out) W → PassesOwn (model X.prog X.w) X.A X.env out → PSs (X.tr ps out) body (tb W))
    (cl : Clauses X (e1 :: es) l) : PS X (.Try body (e1 :: es) [] [] pos) (fun D z J => tb (atN X (wAll X.K D l)) D z J) := by
  refine ⟨fun pins s z J D I0 want => ?_⟩
  have fine := I0.ok
  have frames : X.A.frames = some (X.env :: X.outer) := by rw [fine.frames, top]
  refine wpAny_Try_except ?_
  have inner := (tries (atN X (wAll X.K D l)) (X.pn ++ pins) (fun u s1 => wpAny (model X.prog X.w) X.A (noteFrame u X.env) (fun _ s2 => wpAny (model X.prog X.w) X.A (setFlight u none) (fun _ s3 => wpAny (model X.prog X.w) X.A (handleBy u X.env (e1 :: es)) (SP X pins D) X.xe s3) X.xe s2) X.xe s1) (fun u s2 caught => ?_) PassesOwn.looking).run [] s z J D (I0.toTry _) want
  · refine wpAny_mono inner (fun fl s1 ends => ?_) fun u s1 q => q
    cases fl with
    | next =>
      obtain ⟨z1, J1, I1, q⟩ := ends
      exact wpAny_execs_nil ⟨z1, J1, I1.ofTry fine, q⟩
    | brk =>
      obtain ⟨z1, J1, I1, q⟩ := ends
      exact ⟨z1, J1, I1.ofTry fine, q⟩
    | cont =>
      obtain ⟨z1, J1, I1, q⟩ := ends
      exact ⟨z1, J1, I1.ofTry fine, q⟩
    | ret v =>
      obtain ⟨y, z1, J1, I1, r, q⟩ := ends
      exact ⟨y, z1, J1, I1.ofTry fine, r, q⟩
  · obtain ⟨a, B, sb, pins1, z1, J1, k, d, rfl, Ib, nb, upto, sky, na, os, bare, w⟩ := caught
    have I1 : L2.Inv X pins z1 J1 sb := Ib.ofTry fine
    rw [top] at sky
    show wpAny (model X.prog X.w) X.A (noteFrame (.ref a) X.env) _ _ _
    refine Sky.land Zc.steady frames fr sky fun h3 fl3 up3 => ?_
    have I3 : L2.Inv X pins z1 J1 { s2 with heap := h3 } := I1.landed nb fl3.1 (upto.trans up3) os bare
    obtain ⟨o3, us3, at3, zc3, dt3⟩ := fl3.there
    have apart : a ∉ frs (X.env :: X.outer) := fun hm => by
      obtain ⟨_, o', e', nf⟩ := fl3.2.2.1.mem hm
      rw [at3] at e'
      cases e'
      exact nf _ dt3
    have aL : a ≠ X.env.locals := fun q => apart (List.mem_filterMap.mpr ⟨X.env, List.mem_cons_self, by rw [fr, q]⟩)
    have aF : a ∉ X.fs := fun hm => by
      obtain ⟨e, he, q⟩ := List.mem_filterMap.mp hm
      exact apart (List.mem_filterMap.mpr ⟨e, List.mem_cons_of_mem _ he, q⟩)
    have S3 := I3.suite at3 dt3 na aL aF
    have each : ∀ {hs : List ExceptHandler} {m : List Clause}, Clauses X hs m → wAll X.K D m k d z1 J1 → wpAny (model X.prog X.w) X.A (handleBy (.ref a) X.env hs) (SP X pins D) X.xe { s2 with heap := h3 } := by
      intro hs m some_
      induction some_ with
      | nil => exact fun w => w.elim
      | @cons x n i c ts st sts p1 p2 hs2 m2 known slot loc suite more ih =>
        intro w
        obtain ⟨b, is, yes, no⟩ := w
        refine wpAny_handleBy_cons (codeAny_handlers_test ?_) (by intro q; cases q)
        have T1 : PySem.W.Looks (model X.prog X.w) h3 (typeOf (.ref a)) k := fun A Q E s4 keeps q => wpAny_typeOf_ref (keeps _ _ at3) (by rw [zc3.1]; exact q)
        have T2 := PySem.W.exm_one (M := model X.prog X.w) I3.kIn T1 is
        have named : ∀ {Q : Value → Shared → Prop} {E : Value → Shared → Prop}, Q c { s2 with heap := h3 } → wpAny (model X.prog X.w) (X.A.mark (some (.ref a))) (eval (.Name x p1) X.env) Q E { s2 with heap := h3 } := fun {Q E} q => by
          obtain ⟨g, dbg, hm | ⟨hm, hv, hn⟩⟩ := known
          · exact ld_glob (X := X.suite a ((a, o3) :: (X.pn ++ pins))) S3 g hm q dbg
          · exact ld_blt (X := X.suite a ((a, o3) :: (X.pn ++ pins))) S3 g hm hv q hn dbg
        refine named (T2.here ?_)
        cases b with
        | false =>
          show wpAny _ X.A (handleBy (.ref a) X.env hs2) _ _ _
          exact ih (no rfl)
        | true =>
          refine codeAny_handlers_suite_as ?_
          refine HandSPX.lands_againZ fl3 fun h4 fl4 up4 => ?_
          have I4 : L2.Inv X pins z1 J1 { s2 with heap := h4 } := I1.landed nb fl4.1 ((upto.trans up3).trans up4) os bare
          obtain ⟨o4, us4, at4, zc4, dt4⟩ := fl4.there
          have S4 := I4.suite at4 dt4 na aL aF
          refine store_ok (X := X.suite a ((a, o4) :: (X.pn ++ pins))) (v := .ref a) S4 nd slot (.inl loc) rfl (fun s5 S5 => ?_) (.inr loc)
          refine wpAny_mono ((suite a o4 k d (X.pn ++ pins) zc4 ⟨_, dt4⟩).run [] s5 _ J1 _ S5 (yes rfl a na)) (fun fl s6 ends => ?_) fun _ _ q => False.elim q
          have unbind : ∀ {z6 : L2.St} {J6 : Hp} {R : Shared → Prop}, L2.Inv (X.suite a ((a, o4) :: (X.pn ++ pins))) [] z6 J6 s6 → (∀ s7, L2.Inv X pins (z6.set i none) J6 s7 → R s7) →
              wpAny (model X.prog X.w) X.A (do bindName X.env n .none; unbindBehindTheSuite X.env n p2) (fun _ s7 => R s7) X.xe s6 := fun {z6 J6 R} S6 q => gone_ok (S6.unsuite fine) nd slot loc q
          cases fl with
          | next =>
            obtain ⟨z6, J6, S6, q⟩ := ends
            exact unbind S6 fun s7 I7 => ⟨_, _, I7, q⟩
          | brk =>
            obtain ⟨z6, J6, S6, q⟩ := ends
            exact unbind S6 fun s7 I7 => ⟨_, _, I7, q⟩
          | cont =>
            obtain ⟨z6, J6, S6, q⟩ := ends
            exact unbind S6 fun s7 I7 => ⟨_, _, I7, q⟩
          | ret v =>
            obtain ⟨y, z6, J6, S6, r, q⟩ := ends
            exact unbind S6 fun s7 I7 => ⟨_, _, _, I7, r, q⟩
    exact each cl (w I1.len)
end
end TzTry
namespace TzF
open PySem PySem.Spec PyProof.Rows L2
/-! what a Bool tells of the written part -/
theorem two {a b : Bool} (h : (a && b) = true) : a = true ∧ b = true := Bool.and_eq_true_iff.mp h
def seven : List String := ["NoneType", "bool", "int", "str", "list", "tuple", "dict"]
/-- an own class, no sub-class of a built-in type, nor the other way round -/
structure Alone (K : PySem.W.Frag) (C : Addr) : Prop where
  ic : PySem.W.isClsIn K C = true
  ty : PySem.W.typeIn K (.ref C) = some (.type "type")
  to : ∀ T ∈ seven, PySem.W.subIn K (.type T) (.ref C) = some false
  of_ : ∀ T ∈ seven, PySem.W.subIn K (.ref C) (.type T) = some false
  ha : PySem.W.findIn K (.ref C) "__class__" = some (some (.builtin "object.__class__"))
  hn : PySem.W.specialIn K (.builtin "object.__class__") "__get__" = some (some (.builtin "getset_descriptor.__get__"))
  ht : PySem.W.takesIn K (.builtin "object.__class__") = some true
  hm : PySem.W.mroIn K C (.type "object") = some true
  sf : PySem.W.selfFirst K C = true
def eqV (a b : Option (Option Value)) : Bool := decide (a = b)
def aloneB (K : PySem.W.Frag) (C : Addr) : Bool := PySem.W.isClsIn K C && (decide (PySem.W.typeIn K (.ref C) = some (.type "type")) && seven.all fun T => decide (PySem.W.subIn K (.type T) (.ref C) = some false) && decide (PySem.W.subIn K (.ref C) (.type T) = some false)) && (eqV (PySem.W.findIn K (.ref C) "__class__") (some (some (.builtin "object.__class__"))) && (eqV (PySem.W.specialIn K (.builtin "object.__class__") "__get__") (some (some (.builtin "getset_descriptor.__get__"))) &&
  (decide (PySem.W.takesIn K (.builtin "object.__class__") = some true) && (decide (PySem.W.mroIn K C (.type "object") = some true) && PySem.W.selfFirst K C))))
theorem alone_ok {K : PySem.W.Frag} {C : Addr} (h : aloneB K C = true) : Alone K C := by
  obtain ⟨h, g⟩ := two h
  obtain ⟨h1, h⟩ := two h
  obtain ⟨h2, h3⟩ := two h
  obtain ⟨g1, g⟩ := two g
  obtain ⟨g2, g⟩ := two g
  obtain ⟨g3, g⟩ := two g
  obtain ⟨g4, g5⟩ := two g
  exact ⟨h1, of_decide_eq_true h2, fun T hT => of_decide_eq_true (two (List.all_eq_true.mp h3 T hT)).1, fun T hT => of_decide_eq_true (two (List.all_eq_true.mp h3 T hT)).2, of_decide_eq_true g1, of_decide_eq_true g2, of_decide_eq_true g3, of_decide_eq_true g4, g5⟩
/-- an error class of the program -/
def errO (C : Addr) : Obj → Bool
  | ⟨.type t, _, .cls cd, sl⟩ => decide (t = "type") && (cd.hasDict && (!cd.hasDel && ((match cd.mro with
    | .ref D :: bm => decide (D = C) && PySem.HandSPX.refsVE bm
    | _ => false) && (match sl.toList with
    | [_, _, _, _, some (.builtin n), _] => decide (n = "ValueError.__new__")
    | _ => false))))
  | _ => false
theorem errO_ok {C : Addr} {o : Obj} (h : errO C o = true) : ∃ nm q N bs bm sn sub ab col dd k0 k1 k2 k3 k5, o = excClassObj nm q C N bs bm true sn sub ab col dd k0 k1 k2 k3 k5 "ValueError.__new__" ∧ PySem.HandSPX.refsVE bm = true := by
  obtain ⟨oc, od, dt, sl⟩ := o
  cases oc with
  | type t =>
    cases dt with
    | cls cd =>
      obtain ⟨nm, bs, mro, ns, qn, hd, sn, sub, ab, col, dl⟩ := cd
      obtain ⟨h1, h⟩ := two h
      obtain ⟨h2, h⟩ := two h
      obtain ⟨h3, h⟩ := two h
      obtain ⟨h4, h5⟩ := two h
      have e1 : t = "type" := of_decide_eq_true h1
      have e2 : hd = true := h2
      have e3 : dl = false := by
        have z : (!dl) = true := h3
        cases dl with
        | false => rfl
        | true => cases z
      subst e1 e2 e3
      cases mro with
      | nil => cases h4
      | cons m bm =>
        cases m with
        | ref D =>
          obtain ⟨h6, h7⟩ := two (show (decide (D = C) && PySem.HandSPX.refsVE bm) = true from h4)
          have e4 : D = C := of_decide_eq_true h6
          subst e4
          obtain ⟨l⟩ := sl
          clear h h1 h2 h3 h4 h6
          simp only at h5
          split at h5
          · rename_i k0 k1 k2 k3 n k5 _ _
            have e5 : n = "ValueError.__new__" := of_decide_eq_true h5
            subst e5
            exact ⟨nm, qn, ns, bs, bm, sn, sub, ab, col, od, k0, k1, k2, k3, k5, rfl, h7⟩
          · cases h5
        | _ => cases h4
    | _ => cases h
  | _ => cases dt <;> cases h
/-- what is wanted of an error class: it can be made and raised, its fields can be read -/
structure Err (K : PySem.W.Frag) (C : Addr) : Prop where
  made : OexC K C
  read : XfC K C
def errB (K : PySem.W.Frag) (C : Addr) : Bool := (match K.lookup C with
  | some o => errO C o
  | none => false) && (xfB K C && (eqV (PySem.W.findIn K (.ref C) "__setattr__") (some (some (.builtin "object.__setattr__"))) && (decide (PySem.W.typeIn K (.ref C) = some (.type "type")) && PySem.W.keepIn K (.ref C))))
theorem err_ok {K : PySem.W.Frag} {C : Addr} (h : errB K C = true) : Err K C := by
  obtain ⟨h1, h⟩ := two h
  obtain ⟨h2, h⟩ := two h
  obtain ⟨h3, h⟩ := two h
  obtain ⟨h4, h5⟩ := two h
  have X := xfB_ok h2
  cases q : K.lookup C with
  | none =>
    rw [q] at h1
    cases h1
  | some o =>
    rw [q] at h1
    obtain ⟨nm, qn, N, bs, bm, sn, sub, ab, col, dd, k0, k1, k2, k3, k5, e, hb⟩ := errO_ok h1
    exact ⟨⟨⟨nm, qn, N, bs, bm, sn, sub, ab, col, dd, k0, k1, k2, k3, k5, by rw [q, e], hb⟩, of_decide_eq_true h3, X.exC, of_decide_eq_true h4, h5⟩, X⟩
/-- operators: the seven types' own and reflected methods are known, whatever they are -/
def knownB (K : PySem.W.Frag) (nm : Str) : Bool := seven.all fun T => (PySem.W.findIn K (.type T) nm).isSome
theorem known_ok {K : PySem.W.Frag} {nm : Str} (h : knownB K nm = true) {T : String} (hT : T ∈ seven) : ∃ fo, PySem.W.findIn K (.type T) nm = some fo := Option.isSome_iff_exists.mp (List.all_eq_true.mp h T hT)
/-! ### things of all sorts -/
inductive Tag where
  | non | bl | int | str | lst | tup | dic | own
  deriving DecidableEq
def Tag.nm : Tag → String
  | .non => "NoneType" | .bl => "bool" | .int => "int" | .str => "str" | .lst => "list" | .tup => "tuple" | .dic => "dict" | .own => ""
def Tag.ty (C : Addr) : Tag → Value
  | .own => .ref C
  | g => .type g.nm
/-- isinstance(x, T) by the tag -/
def Tag.is (T : String) : Tag → Bool
  | .own => false
  | .bl => decide (T = "bool") || decide (T = "int")
  | g => decide (g.nm = T)
theorem Tag.mem {g : Tag} (h : g ≠ .own) : g.nm ∈ seven := by
  cases g <;> first | exact absurd rfl h | decide
theorem kitB_tag {g : Tag} (h : g ≠ .own) {T : String} (hT : T ∈ seven) : kitB g.nm T = some (g.is T) := by
  have key : ∀ g : Tag, g ≠ .own → ∀ T ∈ seven, kitB g.nm T = some (g.is T) := by
    intro g h
    cases g with
    | own => exact absurd rfl h
    | _ => decide +kernel
  exact key g h T hT
theorem kit_cls {K : PySem.W.Frag} {C : Addr} (A : Alone K C) {T : String} (hT : T ∈ seven) : PySem.W.kitOne K (.type T) (.ref C) = some false := by
  have ne : ¬ (Value.type T == Value.ref C) = true := fun q => by cases beq_iff_eq.mp q
  unfold PySem.W.kitOne
  rw [if_neg ne]
  unfold PySem.W.kitCls
  have hs : (PySem.W.clsIn K C).isSome = true := A.ic
  dsimp only
  rw [A.ty, hs, A.to T hT]
  rfl
theorem kit_own {K : PySem.W.Frag} {C : Addr} (A : Alone K C) {T : String} (hT : T ∈ seven) : PySem.W.kitOne K (.ref C) (.type T) = some false := by
  have ne : ¬ (Value.ref C == Value.type T) = true := fun q => by cases beq_iff_eq.mp q
  have hm : PySem.W.kitMeta T = true := by
    have key : ∀ T ∈ seven, PySem.W.kitMeta T = true := by decide +kernel
    exact key T hT
  unfold PySem.W.kitOne
  rw [if_neg ne]
  show (if PySem.W.kitMeta T = true then PySem.W.subIn K (.ref C) (.type T) else none) = some false
  rw [if_pos hm]
  exact A.of_ T hT
theorem Tag.kit {K : PySem.W.Frag} {C : Addr} (A : Alone K C) (g : Tag) {T : String} (hT : T ∈ seven) : PySem.W.kitOne K (g.ty C) (.type T) = some (g.is T) := by
  by_cases h : g = .own
  · subst h
    exact kit_own A hT
  · have e : g.ty C = .type g.nm := by cases g <;> first | rfl | exact absurd rfl h
    rw [e]
    exact kit_ty (kitB_tag h hT)
theorem Tag.kitC {K : PySem.W.Frag} {C : Addr} (A : Alone K C) (g : Tag) : PySem.W.kitOne K (g.ty C) (.ref C) = some (decide (g = .own)) := by
  by_cases h : g = .own
  · subst h
    show PySem.W.kitOne K (.ref C) (.ref C) = _
    unfold PySem.W.kitOne
    rw [if_pos (beq_self_eq_true _)]
    rfl
  · have e : g.ty C = .type g.nm := by cases g <;> first | rfl | exact absurd rfl h
    rw [e, decide_eq_false h]
    exact kit_cls A (Tag.mem h)
/-- a number as a class value -/
def cvalB (K : PySem.W.Frag) (C : Addr) (x : Str) (n : Int) : Bool := match PySem.W.findCls K (.ref C) (.type "type") x with
  | some (.val (.int m _)) => decide (m = n)
  | _ => false
theorem cval_ok {K : PySem.W.Frag} {C : Addr} {x : Str} {n : Int} (h : cvalB K C x n = true) : ∃ t : Tok, ClX.CVal K C (.type "type") x (.int n) (.int n t) := by
  unfold cvalB at h
  split at h
  · rename_i m t e
    have e2 : m = n := of_decide_eq_true h
    subst e2
    exact ⟨t, e, ⟨_, rfl⟩⟩
  · cases h
theorem fun_of_D {K : PySem.W.Frag} {x qual : Str} {st : Stmt} {f : Addr} {fd : FuncData} (F : FunD K x qual (defArgs st) (defBody st) (defScope st) [] [] f fd) : Fun K x qual st f fd := by
  obtain ⟨oc, od, dV, kV, doc, pm, an, cdv, ct, osl, e, lk, code, df, _⟩ := F.ex
  rcases df with ⟨_, rfl⟩ | ⟨n, _⟩
  · exact ⟨⟨oc, od, kV, doc, pm, an, cdv, ct, osl, e, lk, code⟩, F.kp⟩
  · exact absurd rfl n
/-! ### static and class methods: their records, their defs -/
def recA (K : PySem.W.Frag) (p : Str × Str) : Addr := match PySem.W.findIn K (.ref (He.ga K p.1)) p.2 with
  | some (some (.ref a)) => a
  | _ => 0
def defA (K : PySem.W.Frag) (knd : String) (p : Str × Str) : Addr := match PySem.W.recIn K (recA K p) knd with
  | some (.ref g :: _) => g
  | _ => 0
def recB (K : PySem.W.Frag) (knd : String) (p : Str × Str) : Bool := (match PySem.W.findCls K (.ref (He.ga K p.1)) (.type "type") p.2 with
  | some (.get (.builtin b) (.ref r) .none (.ref C)) => decide (b = knd ++ ".__get__") && (decide (r = recA K p) && decide (C = He.ga K p.1))
  | _ => false) && ((match PySem.W.recIn K (recA K p) knd with
  | some (.ref _ :: _) => true
  | _ => false) && PySem.W.fnIn K (defA K knd p))
theorem recB_ok {K : PySem.W.Frag} {knd : String} {p : Str × Str} (h : recB K knd p = true) : PySem.W.findCls K (.ref (He.ga K p.1)) (.type "type") p.2 = some (.get (.builtin (knd ++ ".__get__")) (.ref (recA K p)) .none (.ref (He.ga K p.1))) ∧
    (∃ rest, PySem.W.recIn K (recA K p) knd = some (.ref (defA K knd p) :: rest)) ∧ PySem.W.fnIn K (defA K knd p) = true := by
  obtain ⟨h1, h⟩ := two h
  obtain ⟨h2, h3⟩ := two h
  refine ⟨?_, ?_, h3⟩
  · split at h1
    · rename_i b r C e
      obtain ⟨g1, g⟩ := two h1
      obtain ⟨g2, g3⟩ := two g
      rw [e, of_decide_eq_true g1, of_decide_eq_true g2, of_decide_eq_true g3]
    · cases h1
  · split at h2
    · rename_i g rest e
      refine ⟨rest, ?_⟩
      have eg : defA K knd p = g := by
        unfold defA
        rw [e]
      rw [eg, e]
    · cases h2
open He in
def valA (K : PySem.W.Frag) (a : Addr) : FnW := match K.lookup a with
  | some ⟨_, _, .func fd, _⟩ => some (fd.name, fd.qualname, fd.params, fd.body, fd.scope, fd.globals, fd.closure, fd.builtins)
  | _ => none
def noneB : Value → Bool
  | .none => true
  | _ => false
def okA (K : PySem.W.Frag) (a : Addr) (q : Str) : Bool := PySem.W.keepIn K (.ref a) && (match K.lookup a with
  | some ⟨_, _, .func fd, _⟩ => PySem.W.codeIn K fd.code q && noneB fd.defaults
  | _ => false)
open He in
theorem fun_at {K : PySem.W.Frag} {a : Addr} {x q : Str} {st : Stmt} (e : valA K a = some (x, q, defArgs st, .stmts (defBody st), defScope st, mainGlobals, [], builtinsNs)) (c : okA K a q = true) : ∃ fd, Fun K x q st a fd := by
  obtain ⟨kp, c2⟩ := two c
  unfold valA at e
  cases z : K.lookup a with
  | none =>
    rw [z] at c2
    cases c2
  | some o =>
    obtain ⟨oc, od, dt, osl⟩ := o
    rw [z] at c2 e
    cases dt with
    | func fd =>
      obtain ⟨n1, n2, n3, n4, n5, n6, n7, n8, n9, n10, n11, n12, n13, n14, n15⟩ := fd
      have e2 : (some (n1, n2, n3, n4, n5, n6, n7, n15) : FnW) = some (x, q, defArgs st, .stmts (defBody st), defScope st, mainGlobals, [], builtinsNs) := e
      simp only [Option.some.injEq, Prod.mk.injEq] at e2
      obtain ⟨h1, h2, h3, h4, h5, h6, h7, h8⟩ := e2
      subst h1 h2 h3 h4 h5 h6 h7 h8
      obtain ⟨k1, k2⟩ := two (show (PySem.W.codeIn K n13 n2 && noneB n8) = true from c2)
      cases n8 with
      | none => exact ⟨_, ⟨⟨oc, od, n9, n10, n11, n12, n13, n14, osl, rfl, z, k1⟩, kp⟩⟩
      | _ => cases k2
    | _ => cases c2
/-- one static or class method: its kind, its class and name, its qualified name, where its text stands -/
structure SM where
  knd : String
  at_ : Str × Str
  qual : Str
  st : Stmt
def SM.a (K : PySem.W.Frag) (d : SM) : Addr := defA K d.knd d.at_
open He in
def SM.val (d : SM) : FnW := some (d.at_.2, d.qual, defArgs d.st, .stmts (defBody d.st), defScope d.st, mainGlobals, [], builtinsNs)
def SM.ok (K : PySem.W.Frag) (d : SM) : Bool := recB K d.knd d.at_ && okA K (d.a K) d.qual
/-! ### the head, the statics of the machine beside -/
open He in
structure SaysY (fa : List Fa) (fn : List DefD) (sm : List SM) (tf : List Defn) (ex : PySem.W.Frag → Bool) (h : Heap) (K : PySem.W.Frag) : Prop where
  d : SaysD fa fn K
  v : sm.map (fun d => valA K (d.a K)) = sm.map SM.val
  k : ∀ d ∈ sm, d.ok K = true
  more : ex K = true
  hd : ∀ p ∈ tf, PySem.W.codeHdIn K (cT K p).1 (cT K p).2 = true
  out : ∀ p ∈ tf, K.lookup (cT K p).2 = none
  empty : ∀ p ∈ tf, h.get? (cT K p).2 = some { cls := .none, data := .fields #[] }
open He in
theorem SaysY.sm {fa : List Fa} {fn : List DefD} {sm : List SM} {tf : List Defn} {ex : PySem.W.Frag → Bool} {h : Heap} {K : PySem.W.Frag} (c : SaysY fa fn sm tf ex h K) (i : Nat) {d : SM} (e : sm[i]? = some d := by rfl) :
    (∃ fd, Fun K d.at_.2 d.qual d.st (d.a K) fd) ∧ recB K d.knd d.at_ = true := by
  obtain ⟨h1, h2⟩ := two (c.k d (List.mem_of_getElem? e))
  have e2 : (sm.map fun d => valA K (d.a K))[i]? = (sm.map SM.val)[i]? := by rw [c.v]
  rw [List.getElem?_map, List.getElem?_map, e] at e2
  exact ⟨fun_at (Option.some.inj e2) h2, h1⟩
open He in
def frY (n : Nat) (g : Addr → Option Obj) : PySem.W.Frag := frT g (PySem.cStatics :: asD g n)
open He in
abbrev AlY : Type := (AlD × List FnW) × Bool
open He in
def obsK (fa : List Fa) (fn : List DefD) (sm : List SM) (tf : List Defn) (ex : PySem.W.Frag → Bool) (g : Addr → Option Obj) (K : PySem.W.Frag) : AlY := ((obsD fa fn K, sm.map fun d => valA K (d.a K)), (sm.all fun d => d.ok K) && (ex K && tabsB g tf K))
open He in
def obsY (n : Nat) (fa : List Fa) (fn : List DefD) (sm : List SM) (tf : List Defn) (ex : PySem.W.Frag → Bool) (g : Addr → Option Obj) : AlY := obsK fa fn sm tf ex g (frY n g)
open He in
def valY (fn : List DefD) (sm : List SM) : AlY := ((valD fn, sm.map SM.val), true)
open He in
theorem saysY_of {n : Nat} {fa : List Fa} {fn : List DefD} {sm : List SM} {tf : List Defn} {ex : PySem.W.Frag → Bool} {h : Heap} (e : obsY n fa fn sm tf ex h.get? = valY fn sm) : SaysY fa fn sm tf ex h (frY n h.get?) := by
  have e1 : obsD fa fn (frY n h.get?) = valD fn := congrArg (fun z : AlY => z.1.1) e
  have e2 : sm.map (fun d => valA (frY n h.get?) (d.a (frY n h.get?))) = sm.map SM.val := congrArg (fun z : AlY => z.1.2) e
  obtain ⟨h0, h12⟩ := two (show ((sm.all fun d => d.ok (frY n h.get?)) && (ex (frY n h.get?) && tabsB h.get? tf (frY n h.get?))) = true from congrArg Prod.snd e)
  obtain ⟨h1, h2⟩ := two h12
  have key : ∀ p ∈ tf, PySem.W.codeHdIn (frY n h.get?) (cT (frY n h.get?) p).1 (cT (frY n h.get?) p).2 = true ∧ ∃ o, h.get? (cT (frY n h.get?) p).2 = some o ∧ emptyTab o = true := fun p hp => by
    obtain ⟨h3, h4⟩ := two (List.all_eq_true.mp h2 p hp)
    cases q : h.get? (cT (frY n h.get?) p).2 with
    | none =>
      rw [q] at h4
      cases h4
    | some o =>
      rw [q] at h4
      exact ⟨h3, o, rfl, h4⟩
  refine ⟨e1, e2, fun d hd => List.all_eq_true.mp h0 d hd, h1, fun p hp => (key p hp).1, fun p hp => ?_, fun p hp => ?_⟩
  · obtain ⟨_, o, q, z⟩ := key p hp
    exact frT_none q z
  · obtain ⟨_, o, q, z⟩ := key p hp
    rw [q, emptyTab_eq z]
open He in
def hookY (n : Nat) (fa : List Fa) (fn : List DefD) (sm : List SM) (tf : List Defn) (ex : PySem.W.Frag → Bool) : PySem.W.Hook where
  α := AlY
  obs := fun s => obsY n fa fn sm tf ex s.heap.get?
  val := fun _ => valY fn sm
  says := fun _ h => ∃ K : PySem.W.Frag, K.In h ∧ SaysY fa fn sm tf ex h K
  of := fun _ _ e => ⟨_, frT_in, saysY_of e⟩
  keeps := fun _ _ _ ⟨K, hK, c⟩ k => ⟨K, PySem.W.Frag.In.keeps hK k, ⟨c.d, c.v, c.k, c.more, c.hd, c.out, fun p hp => k _ _ (c.empty p hp)⟩⟩
open He in
theorem obsY_eq {n : Nat} {fa : List Fa} {fn : List DefD} {sm : List SM} {tf : List Defn} {ex : PySem.W.Frag → Bool} {g : Addr → Option Obj} {s : Shared} (h : ∀ a, g a = s.heap.get? a) : obsY n fa fn sm tf ex g = (hookY n fa fn sm tf ex).obs s := by
  have e : g = s.heap.get? := funext h
  rw [e] <;> rfl
end TzF
namespace Tz
open PySem PySem.Spec PyProof.Rows L2
/-! a law with lambdas: tables of code objects, empty at the start; no repr is under way -/
abbrev noCode : Obj := { cls := .none, data := .fields #[] }
section
variable {P : Program} {w : World} {K : PySem.W.Frag} {mg mb : Str → Option Value} {k : Nat} {fa a : Addr} {fd : FuncData} {x : Str} {sp : Sp} {s : Shared} {vs : List Value} {ns : List Int} {cs : List (Addr × Addr)}
theorem law_qt (KX : K.In s.heap) (top : s.heap.Ns mainGlobals mg) (bl : s.heap.Ns builtinsNs mb) (boot : ∀ y : Str, y ≠ "__name__" → mb y = bootBuiltins y) (lim : s.heap.NoLimit) (gens : s.gens = #[])
    (empty : ∀ p ∈ cs, s.heap.get? p.2 = some noCode) (outside : ∀ p ∈ cs, K.lookup p.2 = none) (heads : ∀ p ∈ cs, PySem.W.CodeHd s.heap p.1 p.2)
    (bmod : ∃ (m : Addr) (o : Obj), mg "__builtins__" = some (.ref m) ∧ m ≠ builtinsNs ∧ s.heap.get? m = some o ∧ o.cls = .type "module" ∧ o.dict = some builtinsNs ∧ o.data = .plain)
    (script : s.heap.get? a = some { cls := .type "list", data := .seq vs.toArray }) (isI : IntsAre vs ns) (len : ns.length ≤ sizeLine) (rm : Room k callerA)
    (F : ∀ base : Heap, K.In base → base.Ns mainGlobals mg → (∀ p ∈ cs, LamX.TabB base mg p.1 p.2) → FnQ P w K mg base k fa fd [x] sp) (bind : ∀ (s : Shared) (u : Value), BindsTo s fd ⟨[u], []⟩ [(x, u)])
    (want : ∀ H : Hp, (∀ p ∈ cs, H p.2 = some (.tbl #[])) → SqL K H a (ns.map V.int) → sp [.ref a] H (fun v _ => v = .bl true) E0) :
    codeAny (model P w) callerA (.call (.ref fa) ⟨[.ref a], []⟩) (fun r s' => r = .ok (.ret (.bool true)) ∧ OldK s.heap s'.heap ∧ s'.os = s.os ∧ AllBare s'.gens) s := by
  have tabAt : ∀ b : Addr, b ∈ cs.map (·.2) → s.heap.get? b = some noCode := fun b hb => by
    obtain ⟨p, hp, rfl⟩ := List.mem_map.mp hb
    exact empty p hp
  have notTab : a ∉ cs.map (·.2) := fun z => by
    have q := tabAt a z
    rw [script] at q
    have d := congrArg Obj.data (Option.some.inj q)
    cases d
  have isTab : ∀ p ∈ cs, p.2 ∈ cs.map (·.2) := fun p hp => List.mem_map.mpr ⟨p, hp, rfl⟩
  -- what is told: the tables; the script where the module does not hold it
  obtain ⟨H, tabs, told, seq, fits, apart⟩ : ∃ H : Hp, (∀ p ∈ cs, H p.2 = some (.tbl #[])) ∧ (∀ b u, H b = some u → (b = a ∧ u = .frz { cls := .type "list", data := .seq vs.toArray } (.lst (ns.map V.int))) ∨ (b ∈ cs.map (·.2) ∧ u = .tbl #[])) ∧
      SqL K H a (ns.map V.int) ∧ HOk P w H s.heap ∧ (H a ≠ none → K.lookup a = none) := by
    have h0 : ∃ H0 : Hp, (∀ b, b ∈ cs.map (·.2) → H0 b = some (.tbl #[])) ∧ ∀ b, b ∉ cs.map (·.2) → H0 b = none := ⟨fun b => if b ∈ cs.map (·.2) then some (.tbl #[]) else none, fun b hb => if_pos hb, fun b hb => if_neg hb⟩
    obtain ⟨H0, yes, no⟩ := h0
    have only : ∀ b u, H0 b = some u → b ∈ cs.map (·.2) ∧ u = .tbl #[] := fun b u z => by
      by_cases hb : b ∈ cs.map (·.2)
      · rw [yes b hb] at z
        exact ⟨hb, (Option.some.inj z).symm⟩
      · rw [no b hb] at z
        cases z
    have fit0 : HOk P w H0 s.heap := fun b u z => by
      obtain ⟨hb, rfl⟩ := only b u z
      exact tabAt b hb
    cases lk : K.lookup a with
    | some o =>
      have q := KX a o lk
      rw [script] at q
      cases q
      refine ⟨H0, fun p hp => yes _ (isTab p hp), fun b u z => .inr (only b u z), .inr ⟨_, vs.toArray, _, lk, rfl, rfl, rfl, by rw [List.size_toArray, isI.length]; exact len, by simpa using vals_ints isI⟩, fit0, fun z => absurd (no a notTab) z⟩
    | none =>
      have old : ∀ {b : Addr}, b ∈ cs.map (·.2) → b ≠ a := fun {b} hb q => notTab (q ▸ hb)
      refine ⟨upd H0 a (.frz { cls := .type "list", data := .seq vs.toArray } (.lst (ns.map V.int))), fun p hp => by rw [upd_ne (old (isTab p hp))]; exact yes _ (isTab p hp), fun b u z => ?_, .inl (.inr ⟨_, upd_same⟩), fun b u z => ?_, fun _ => rfl⟩
      · by_cases q : b = a
        · subst q
          rw [upd_same] at z
          exact .inl ⟨rfl, (Option.some.inj z).symm⟩
        · rw [upd_ne q] at z
          exact .inr (only b u z)
      · by_cases q : b = a
        · subst q
          rw [upd_same] at z
          cases z
          exact ⟨script, by rw [List.length_map]; exact len, vs, _, vals_ints isI, script⟩
        · rw [upd_ne q] at z
          obtain ⟨hb, rfl⟩ := only b u z
          exact tabAt b hb
  -- other things are not told
  have free : ∀ {b : Addr} {o : Obj}, s.heap.get? b = some o → (∀ us n, o.data ≠ .seq us n) → o.data ≠ .fields #[] → H b = none := fun {b o} e h1 h2 => by
    cases q : H b with
    | none => rfl
    | some u =>
      rcases told b u q with ⟨rfl, _⟩ | ⟨hb, _⟩
      · rw [script] at e
        cases e
        exact absurd rfl (h1 _ _)
      · rw [tabAt b hb] at e
        cases e
        exact absurd rfl h2
  have freeD : ∀ {b : Addr} {o : Obj} {es : Array DictEntry} {ep : Nat}, s.heap.get? b = some o → o.data = .dict es ep → H b = none := fun {b o es ep} e d => free e (fun us n z => by rw [d] at z; cases z) fun z => by rw [d] at z; cases z
  have ns0 : ∀ {b : Addr} {m : Str → Option Value}, s.heap.Ns b m → (hidT s.heap H).Ns b m := fun {b m} ⟨o, es, ep, e, d, r⟩ => ⟨o, es, ep, hidT_get e (freeD e d), d, r⟩
  have k0 : K.In (hidT s.heap H) := fun b o e => hidT_get (KX b o e) (by
    cases q : H b with
    | none => rfl
    | some u =>
      rcases told b u q with ⟨rfl, _⟩ | ⟨hb, _⟩
      · have n := apart (by rw [q]; exact fun z => nomatch z)
        rw [e] at n
        cases n
      · obtain ⟨p, hp, rfl⟩ := List.mem_map.mp hb
        rw [outside p hp] at e
        cases e)
  have md : Mod K mg (hidT s.heap H) := ⟨k0, ns0 top, ⟨mb, ns0 bl, boot⟩, lim.elim fun mc z => ⟨mc, ns0 z.1, z.2⟩⟩
  have TB : ∀ p ∈ cs, LamX.TabB (hidT s.heap H) mg p.1 p.2 := fun p hp => by
    have ep := empty p hp
    obtain ⟨og, es, pos, eg, dg, _⟩ := id top
    refine ⟨?_, ?_, fun z => ?_⟩
    · obtain ⟨o, us, q1, q2, q3, q4, q5, q6, q7, e1, e2, e3, e4, rest⟩ := heads p hp
      refine ⟨o, us, q1, q2, q3, q4, q5, q6, q7, hidT_get e1 (free e1 (fun vs n z => ?_) fun z => ?_), e2, e3, e4, rest⟩
      · rw [e3] at z
        cases z
      · rw [e3] at z
        cases z
        simp at e4
    · obtain ⟨m, o, b1, b2, b3, b4, b5, b6⟩ := bmod
      refine ⟨m, o, b1, b2, fun q => ?_, fun q => ?_, hidT_get b3 (free b3 (fun us n z => ?_) fun z => ?_), b4, b5, b6⟩
      · rw [q, eg] at b3
        cases b3
        rw [dg] at b6
        cases b6
      · rw [q, ep] at b3
        cases b3
        cases b6
      · rw [b6] at z
        cases z
      · rw [b6] at z
        cases z
    · rw [z, ep] at eg
      cases eg
      cases dg
  have en : Env0 P w K mg (hidT s.heap H) callerA [] s H := ⟨rfl, md, fun _ _ e => of_hidT e, Nat.le_of_eq (hidT_size _ _), trivial, fun b z => absurd (show b ∈ ([] : List Addr) from z) List.not_mem_nil, fits, .of_eq gens⟩
  refine codeAny_mono ((F _ k0 (ns0 top) TB).run callerA [] s H ⟨[.ref a], []⟩ [.ref a] [.ref a] _ rfl rm en (bind s (.ref a)) (.cons rfl .nil) (want H tabs seq)) fun r s2 z => ?_
  cases r with
  | error e => exact (show False from z).elim
  | ok fl =>
    cases fl with
    | next => exact (show False from z).elim
    | brk => exact (show False from z).elim
    | cont => exact (show False from z).elim
    | ret u =>
      obtain ⟨v, H2, os, bare, un, ok2, rv, q⟩ := z
      subst q
      cases (show u = Value.bool true from rv)
      have grows : ∀ b, b ∈ cs.map (·.2) → ∃ (p : Addr × Addr) (more : Array Value), p ∈ cs ∧ p.2 = b ∧ s2.heap.get? b = some { cls := .none, data := .fields more } := fun b hb => by
        obtain ⟨p, hp, rfl⟩ := List.mem_map.mp hb
        obtain ⟨more, z⟩ := un.tbls p.2 #[] (tabs p hp)
        exact ⟨p, _, hp, rfl, ok2 p.2 _ z⟩
      have stays : ∀ b o, b ∉ cs.map (·.2) → s.heap.get? b = some o → s2.heap.get? b = some o := fun b o nb e => by
        cases q : H b with
        | none => exact un.keep b o e q (fun z => absurd (show b ∈ ([] : List Addr) from z) List.not_mem_nil) List.not_mem_nil
        | some u =>
          rcases told b u q with ⟨rfl, rfl⟩ | ⟨hb, _⟩
          · rw [script] at e
            cases e
            exact (ok2 _ _ (un.frzs _ _ _ q)).1
          · exact absurd hb nb
      refine ⟨rfl, ⟨fun b o e => ?_, fun b o e => ?_⟩, os, bare⟩
      · by_cases hb : b ∈ cs.map (·.2)
        · obtain ⟨p, more, hp, rfl, hm⟩ := grows b hb
          rw [empty p hp] at e
          cases e
          exact .inr (.inl ⟨((heads p hp).tab (empty p hp)).isCodeTable, rfl, #[], more, rfl, by rw [Array.empty_append]; exact hm⟩)
        · exact .inl (stays b o hb e)
      · by_cases hb : b ∈ cs.map (·.2)
        · obtain ⟨p, more, hp, rfl, hm⟩ := grows b hb
          exact ⟨_, hm⟩
        · exact ⟨o, stays b o hb e⟩
/-- what the head tells of the law -/
def LawQ (l : PySem.W.OpenLaw) (w : World) (K : PySem.W.Frag) (k n : Nat) (x : Str) (mg : Str → Option Value) (fa : Addr) (h : Heap) : Prop :=
  ∃ (fd : FuncData) (cs : List (Addr × Addr)) (sp : Sp), (∀ p ∈ cs, h.get? p.2 = some noCode) ∧ (∀ p ∈ cs, K.lookup p.2 = none) ∧ (∀ p ∈ cs, PySem.W.CodeHd h p.1 p.2) ∧ (∀ (s : Shared) (u : Value), BindsTo s fd ⟨[u], []⟩ [(x, u)]) ∧
    (∀ (H : Hp) (a : Addr) (ns : List Int), ns.length ≤ n → (∀ p ∈ cs, H p.2 = some (.tbl #[])) → SqL K H a (ns.map V.int) → sp [.ref a] H (fun v _ => v = .bl true) E0) ∧
    ∀ base : Heap, K.In base → base.Ns mainGlobals mg → (∀ p ∈ cs, LamX.TabB base mg p.1 p.2) → FnQ l.prog w K mg base k fa fd [x] sp
theorem walk_qt {l : PySem.W.OpenLaw} {n k : Nat} {q : Program} {loose : List Str} {XP : (Str → Option Value) → Heap → Prop} {YP : World → Heap → Prop} {d : DefRec} {x : Str}
    (most : l.most = some n) (small : n ≤ sizeLine) (nodf : d.params.defaults = []) (rm : Room k callerA)
    (F : ∀ (w : World) (mg : Str → Option Value) (fa : Addr) (h : Heap), YP w h → h.Ns mainGlobals mg → mg d.name = some (.ref fa) → ∃ K : PySem.W.Frag, K.In h ∧ LawQ l w K k n x mg fa h) :
    PySem.W.WalkO q loose XP YP l.row.toRowW d [] (fun f vs => PySem.call f vs) := by
  refine Att.attach_callB most nodf fun w s0 s1 mg mb fa o pm cd doc a vs ns G Y _ _ _ hmg script isI few _ gens => ?_
  obtain ⟨K, KX, fd, cs, sp, e1, e2, e3, bd, want, FQ⟩ := F w mg fa _ Y G.T.g hmg
  exact law_qt KX G.T.g G.T.b G.T.builtins G.T.nolimit gens e1 e2 e3 G.T.bmain script isI (Nat.le_trans few small) rm FQ bd fun H tb seq => want H a ns few tb seq
end
theorem fnq_one {P : Program} {w : World} {K : PySem.W.Frag} {mg : Str → Option Value} {base : Heap} {k : Nat} {f : Addr} {ps N : List Str} {sp : Sp} {x qual : Str} {st : Stmt} {oc kV doc pm cdv ct : Value} {od an : Option Addr} {osl : Array (Option Value)}
    (lk : K.lookup f = some ⟨oc, od, .func (PySem.W.fnOf x qual (defArgs st) (defBody st) (defScope st) .none kV doc pm an cdv ct), osl⟩) (code : PySem.W.codeIn K cdv qual = true) (S : FnScope N ps (defScope st)) (len : ∀ vs H Q E, sp vs H Q E → vs.length = ps.length)
    (body : ∀ (A : Around) (out : List Env) (s : Shared) (H : Hp) (vs : List V) (Q : VK), A.guards = some [] → Room k (A.deeper (envOfC qual (defScope st) s.heap.objs.size f cdv)) → sp vs H Q E0 →
      ∃ t, PSs (cxOf CX0 P w K mg base N qual (defScope st) f cdv A out s H E0).nox (defBody st) t ∧ t { nx := fun _ J => Q .non J, rt := Q } (start N vs) H) : FnQ P w K mg base (k + 1) f (PySem.W.fnOf x qual (defArgs st) (defBody st) (defScope st) .none kV doc pm an cdv ct) ps sp := by
  refine ⟨len, fun A out s H args us vs Q gd rm en bn rel want => ?_⟩
  have width := len _ _ _ _ want
  have inK : K.In s.heap := en.mod.kin.keeps fun b o q => (en.bs b o q).1
  have free : s.heap.NoLimit := en.mod.nolimit.keeps fun b o q => (en.bs b o q).1
  refine codeAny_call_function rm.depth (inK _ _ lk) rfl S.co S.gen rfl (PySem.W.codeRec_of inK code) (bn _ _ _ _ ?_)
  refine wpAny_newFunctionEnv_cells S.kind (fun ⟨n, v⟩ hy => (S.par n (List.of_mem_zip hy).1).elim .inl fun q => .inr ⟨q, PySem.W.cellsFrom_some _ _ _ (.inl q)⟩) fun env he s1 x => ?_
  subst he
  obtain ⟨t, ht, q⟩ := body A out s H vs Q gd (rm.deeper _) want
  have J := inv_start (CX := CX0) (E := E0) S rm.hd en width rel x
  refine ⟨free.keeps x.toInCall.keep, codeAny_func (wpAny_mono (ht.nox.run [] s1 (start N vs) H _ J q) (fun fl s2 z => ?_) fun e s2 z => z)⟩
  have done : ∀ {σ : L2.St} {H2 : Hp} {v : V} {u : Value}, L2.Inv (cxOf CX0 P w K mg base N qual (defScope st) f cdv A out s H E0) [] σ H2 s2 → RelV v u → Q v H2 → CE out P w H s Q u s2 :=
    fun {σ H2 v u} I2 rv hv => ⟨v, H2, I2.os, I2.bare, I2.base, I2.hok, rv, hv⟩
  cases fl with
  | ret u =>
    obtain ⟨v, σ, H2, I2, rv, hv⟩ := z
    exact done I2 rv hv
  | next =>
    obtain ⟨σ, H2, I2, hv⟩ := z
    exact done (v := .non) I2 rfl hv
  | brk =>
    obtain ⟨_, _, _, no⟩ := z
    exact no.elim
  | cont =>
    obtain ⟨_, _, _, no⟩ := z
    exact no.elim
/-- a def by its body, nothing under way, its code object known -/
theorem fnqC {P : Program} {w : World} {K : PySem.W.Frag} {mg : Str → Option Value} {base : Heap} {k : Nat} {f c : Addr} {fd : FuncData} {ps N : List Str} {sp : Sp} {x qual : Str} {st : Stmt} (F : Fun K x qual st f fd) (S : FnScope N ps (defScope st))
    (code : ∀ (fd' : FuncData) (oc : Value) (od : Option Addr) (osl : Array (Option Value)), K.lookup f = some ⟨oc, od, .func fd', osl⟩ → PySem.W.codeIn K fd'.code qual = true → fd'.code = .ref c) (len : ∀ vs H Q E, sp vs H Q E → vs.length = ps.length)
    (body : ∀ (A : Around) (out : List Env) (s : Shared) (H : Hp) (vs : List V) (Q : VK), A.guards = some [] → Room k (A.deeper (envOfC qual (defScope st) s.heap.objs.size f (.ref c))) → sp vs H Q E0 →
      ∃ t, PSs (cxOf CX0 P w K mg base N qual (defScope st) f (.ref c) A out s H E0).nox (defBody st) t ∧ t { nx := fun _ J => Q .non J, rt := Q } (start N vs) H) : FnQ P w K mg base (k + 1) f fd ps sp := by
  obtain ⟨oc, od, kV, doc, pm, an, cdv, ct, osl, rfl, lk, ci⟩ := F.ex
  have ec : cdv = .ref c := code _ _ _ _ lk ci
  subst ec
  exact fnq_one lk ci S len body
end Tz
namespace Tz
open PySem PySem.Spec PyProof.Rows L2 TzF TzRepr
/-! ### things of all sorts -/
/-- a thing by its tag: a word, or no word -/
inductive Kd (C : Addr) (H : Hp) : V → Tag → Prop where
  | non : Kd C H .non .non
  | bl (b : Bool) : Kd C H (.bl b) .bl
  | int (i : Int) : Kd C H (.int i) .int
  | str (z : Str) : Kd C H (.str z) .str
  | lst {a : Addr} {xs : List V} (h : H a = some (.lst xs)) : Kd C H (.ref a) .lst
  | tup {a : Addr} {xs : List V} (h : H a = some (.tup xs)) : Kd C H (.ref a) .tup
  | dic {a : Addr} {kvs : List (Key × V)} (h : H a = some (.dK kvs)) : Kd C H (.ref a) .dic
  | own {a : Addr} {w : Nat} {u : Int} (W : WordAt C H a w u) : Kd C H (.ref a) .own
section
variable {K : PySem.W.Frag} {C : Addr} {H H' : Hp} {y : V} {g : Tag}
theorem Kd.step (k : Kd C H y g) (e : ∀ a o, H a = some o → (∀ ps, o ≠ .tbl ps) → y = .ref a → H' a = some o) : Kd C H' y g := by
  cases k with
  | non => exact .non
  | bl b => exact .bl b
  | int i => exact .int i
  | str z => exact .str z
  | lst h => exact .lst (e _ _ h (fun _ z => by cases z) rfl)
  | tup h => exact .tup (e _ _ h (fun _ z => by cases z) rfl)
  | dic h => exact .dic (e _ _ h (fun _ z => by cases z) rfl)
  | own W =>
    obtain ⟨⟨dx, h1⟩, h2, h3, h4, h5⟩ := W
    exact .own ⟨⟨dx, e _ _ h1 (fun _ z => by cases z) rfl⟩, h2, h3, h4, h5⟩
theorem Kd.ex (k : Kd C H y g) (e : Ex H H') : Kd C H' y g := k.step fun a o h _ _ => e a o h
theorem Kd.tyx (A : Alone K C) (cl : Cls K C) (k : Kd C H y g) : TyX K H y (g.ty C) := by
  cases k with
  | non => exact .base .non
  | bl b => exact .base (.bl b)
  | int i => exact .base (.int i)
  | str z => exact .base (.str z)
  | lst h => exact .base (.lst h)
  | tup h => exact .base (.tup h)
  | dic h => exact .base (.dK h)
  | own W =>
    obtain ⟨⟨dx, h1⟩, _⟩ := W
    exact .base (.ins h1 cl A.ha A.hn A.ht A.hm)
theorem Kd.int_of (k : Kd C H y .int) : ∃ n, y = .int n := by
  cases k
  exact ⟨_, rfl⟩
theorem Kd.own_of (k : Kd C H y .own) : ∃ a w u, y = .ref a ∧ WordAt C H a w u := by
  cases k
  exact ⟨_, _, _, rfl, by assumption⟩
/-- isinstance(y, T), T one of the seven | the own class -/
theorem Kd.isi {Q : VK} {T : String} (A : Alone K C) (cl : Cls K C) (k : Kd C H y g) (hT : T ∈ seven) (q : Q (.bl (g.is T)) H) : rIsi K [y, .ty T] H Q :=
  ⟨_, _, _, _, _, rfl, .ty T, k.tyx A cl, g.kit A hT, q⟩
theorem Kd.isiC {Q : VK} (A : Alone K C) (cl : Cls K C) (k : Kd C H y g) (q : Q (.bl (decide (g = .own))) H) : rIsi K [y, .ref C] H Q :=
  ⟨_, _, _, _, _, rfl, .own C, k.tyx A cl, g.kitC A, q⟩
end
/-! ### what stands beside a word of the width w -/
inductive Res where
  | val (v : Int) | unlike (w : Nat) | bad
inductive Side (C : Addr) (H : Hp) (w : Nat) : V → Res → Prop where
  | word {b : Addr} {v : Int} (W : WordAt C H b w v) : Side C H w (.ref b) (.val v)
  | int {n : Int} (h0 : 0 ≤ n) (h1 : n ≤ mw w) : Side C H w (.int n) (.val n)
  | unlike {b : Addr} {w' : Nat} {v : Int} (W : WordAt C H b w' v) (ne : w' ≠ w) : Side C H w (.ref b) (.unlike w')
  | bad {y : V} {g : Tag} (k : Kd C H y g) (ng : g ≠ .own) (no : ∀ n, y = .int n → ¬ (0 ≤ n ∧ n ≤ mw w)) : Side C H w y .bad
section
variable {C : Addr} {H H' : Hp} {w : Nat} {y : V} {r : Res}
theorem Side.step (k : Side C H w y r) (e : ∀ a o, H a = some o → (∀ ps, o ≠ .tbl ps) → y = .ref a → H' a = some o) : Side C H' w y r := by
  cases k with
  | word W =>
    obtain ⟨⟨dx, h1⟩, h2, h3, h4, h5⟩ := W
    exact .word ⟨⟨dx, e _ _ h1 (fun _ z => by cases z) rfl⟩, h2, h3, h4, h5⟩
  | int h0 h1 => exact .int h0 h1
  | unlike W ne =>
    obtain ⟨⟨dx, h1⟩, h2, h3, h4, h5⟩ := W
    exact .unlike ⟨⟨dx, e _ _ h1 (fun _ z => by cases z) rfl⟩, h2, h3, h4, h5⟩ ne
  | bad k ng no => exact .bad (k.step e) ng no
theorem Side.ex (k : Side C H w y r) (e : Ex H H') : Side C H' w y r := k.step fun a o h _ _ => e a o h
theorem Side.kd (k : Side C H w y r) : ∃ g, Kd C H y g := by
  cases k with
  | word W => exact ⟨_, .own W⟩
  | int _ _ => exact ⟨_, .int _⟩
  | unlike W _ => exact ⟨_, .own W⟩
  | bad k _ _ => exact ⟨_, k⟩
theorem Side.val_bd {v : Int} (k : Side C H w y (.val v)) : 0 ≤ v ∧ v ≤ mw w := by
  cases k with
  | word W => exact ⟨W.v0, W.vm⟩
  | int h0 h1 => exact ⟨h0, h1⟩
end
/-! ### errors on their way -/
/-- an error of the class X with these fields leaves -/
def Flies (X : Addr) (fs : List (Str × V)) (H : Hp) (E : XK) : Prop := ∀ d H', Ex H H' → H' d = some (.xd fs) → E (.ref X) (some d) H'
theorem Flies.ex {X : Addr} {fs : List (Str × V)} {H H' : Hp} {E : XK} (f : Flies X fs H E) (e : Ex H H') : Flies X fs H' E := fun d H2 e2 h => f d H2 (e.trans e2) h
/-- by the answer: the value goes on, or an error leaves -/
def Got (B U : Addr) (w : Nat) (y : V) (r : Res) (H : Hp) (E : XK) (q : Int → Prop) : Prop := match r with
  | .val v => q v
  | .unlike w' => Flies U [("other", .int w'), ("one", .int w)] H E
  | .bad => Flies B [("value", y)] H E
/-- __init__ of an error with one field, with two -/
def spErr1 (C : Addr) (f : Str) : Sp := fun vs H Q _ => ∃ a v, vs = [.ref a, v] ∧ H a = some (exo a C none) ∧
  ∀ dx, H dx = none → dx ≠ a → Q .non (upd (upd H dx (exd dx [(f, v)])) a (exo a C (some dx)))
def spErr2 (C : Addr) (f g : Str) : Sp := fun vs H Q _ => ∃ a u v, vs = [.ref a, u, v] ∧ H a = some (exo a C none) ∧
  ∀ dx, H dx = none → dx ≠ a → Q .non (upd (upd (upd H dx (exd dx [(f, u)])) a (exo a C (some dx))) dx (exd dx [(g, v), (f, u)]))
/-- what the making of an error asks -/
def MkErr (C : Addr) (sp : Sp) (vs : List V) (H1 : Hp) (Q : XK) : Prop := vs.length ≤ 1000 ∧ ∀ a, H1 a = none → sp (.ref a :: (vs ++ [])) (upd H1 a (exo a C none))
  (fun v H2 => v = .non ∧ ∃ (d : Addr) (fs : List (Str × V)), H2 a = some (exo a C (some d)) ∧ H2 d = some (exd d fs) ∧ H1 d = none ∧ Q (.ref C) (some d) (upd (del H2 a) d (.xd fs))) (fun _ _ _ => False)
section
variable {C : Addr} {f g : Str} {u v : V} {H1 : Hp} {Q : XK}
theorem err1 (k : Flies C [(f, v)] H1 Q) : MkErr C (spErr1 C f) [v] H1 Q := by
  refine ⟨by show 1 ≤ 1000; decide, fun a na => ⟨a, v, rfl, upd_same, fun dx ndx hne => ⟨rfl, dx, [(f, v)], upd_same, by rw [upd_ne hne, upd_same], ?_, k dx _ (fun b o q => ?_) upd_same⟩⟩⟩
  · rw [upd_ne hne] at ndx
    exact ndx
  · have h1 : b ≠ a := ne_of_none q na
    have h2 : b ≠ dx := fun z => by
      rw [z] at q
      rw [upd_ne hne] at ndx
      rw [ndx] at q
      cases q
    rw [upd_ne h2, del_ne h1, upd_ne h1, upd_ne h2, upd_ne h1]
    exact q
theorem err2 (k : Flies C [(g, v), (f, u)] H1 Q) : MkErr C (spErr2 C f g) [u, v] H1 Q := by
  refine ⟨by show 2 ≤ 1000; decide, fun a na => ⟨a, u, v, rfl, upd_same, fun dx ndx hne => ⟨rfl, dx, [(g, v), (f, u)], by rw [upd_ne hne.symm, upd_same], upd_same, ?_, k dx _ (fun b o q => ?_) upd_same⟩⟩⟩
  · rw [upd_ne hne] at ndx
    exact ndx
  · have h1 : b ≠ a := ne_of_none q na
    have h2 : b ≠ dx := fun z => by
      rw [z] at q
      rw [upd_ne hne] at ndx
      rw [ndx] at q
      cases q
    rw [upd_ne h2, del_ne h1, upd_ne h2, upd_ne h1, upd_ne h2, upd_ne h1]
    exact q
end
/-! ### repr of things -/
/-- the empty dict -/
def RDic : Rpr := fun x t H => ∃ a, x = .ref a ∧ H a = some (.dK []) ∧ t = "{}"
theorem mon_dic : Mon RDic := fun _ _ _ _ e ⟨a, h1, h2, h3⟩ => ⟨a, h1, e _ _ h2, h3⟩
theorem mon_str : Mon RStr := fun _ _ _ _ _ d => d
theorem rpG_dic {X : Cx} {as : List Addr} : RpG X 1 as (fun x t H => RDic x t H ∧ ∀ a ∈ as, x ≠ .ref a) := by
  intro A g pins s σ H x u t b hr hf hg hc I r d hs
  obtain ⟨⟨a, rfl, ha, rfl⟩, na⟩ := d
  cases r
  have off : a ∉ as := fun z => na a z rfl
  obtain ⟨_, hsys, us, kv, o, es, ep, h1, h2, h3, h4⟩ := (show ObjOk X.prog X.w H s.heap a (.dK []) from I.hok a _ ha)
  have e0 : us = [] := List.length_eq_zero_iff.mp (by
    have := Paired.length kv
    simpa using this.symm)
  subst e0
  have e1 : es.toList = [] := by
    have h5 := h4.2.1
    cases q : es.toList with
    | nil => rfl
    | cons y l =>
      rw [q] at h5
      cases h5
  have e2 : dictText [] = ("{}" : Str) := by decide +kernel
  refine wpAny_pyReprUnder_ref (by rw [e2] at *; omega) (wpAny_pyReprObjUnder_dictK (as := as.filter fun _ => false) (h₀ := s.heap) (d := 0) (ps := []) h1 h2.1 h3 hsys (by simp) (by rw [e1]; exact .nil) hg (fun p hp => ?_) (by have := hr.un; have := hr.units0; omega) (fun _ _ q => q) (fun h' v tk hk => ?_) (by rw [e2]; omega))
  · rcases List.mem_cons.mp hp with rfl | z
    · exact hc _ off
    · simp at z
  · rw [e2]
    exact ⟨_, _, rfl, rfl, H, I.kept hk, fun _ _ q => q⟩
/-- a thing that is told without what stands in it | with it; beside p -/
def Flat (C : Addr) : Rpr := fun x t H => RFlat x t H ∨ (RStr x t H ∨ RIns C (WText C) x t H)
def Thg (K : PySem.W.Frag) (C p : Addr) : Rpr := fun x t H => Flat C x t H ∨ ((RDic x t H ∧ ∀ a ∈ [p], x ≠ .ref a) ∨ (RList (Flat C) [p] x t H ∨ RTup K (Flat C) [p] x t H))
theorem mon_Flat {C : Addr} : Mon (Flat C) := mon_flat.or (mon_str.or mon_words)
theorem mon_Thg {K : PySem.W.Frag} {C p : Addr} : Mon (Thg K C p) := mon_Flat.or (Mon.or (fun x t H H' e d => ⟨mon_dic x t H H' e d.1, d.2⟩) ((mon_list mon_Flat).or (mon_tup mon_Flat)))
/-- a thing's text, wherever it will stand -/
def Shown (C : Addr) (H : Hp) (y : V) (t : Str) : Prop := Flat C y t H ∨ (RDic y t H ∨ ((∃ l xs ts, y = .ref l ∧ H l = some (.lst xs) ∧ t = listText ts ∧ Each (Flat C) xs ts H) ∨ ∃ l xs ts, y = .ref l ∧ H l = some (.tup xs) ∧ t = tupleText ts ∧ Each (Flat C) xs ts H))
theorem Shown.ex {C : Addr} {H H' : Hp} {y : V} {t : Str} (s : Shown C H y t) (e : Ex H H') : Shown C H' y t := by
  rcases s with s | s | ⟨l, xs, ts, h1, h2, h3, h4⟩ | ⟨l, xs, ts, h1, h2, h3, h4⟩
  · exact .inl (mon_Flat _ _ _ _ e s)
  · exact .inr (.inl (mon_dic _ _ _ _ e s))
  · exact .inr (.inr (.inl ⟨l, xs, ts, h1, e _ _ h2, h3, h4.mon mon_Flat e⟩))
  · exact .inr (.inr (.inr ⟨l, xs, ts, h1, e _ _ h2, h3, h4.mon mon_Flat e⟩))
theorem Shown.at {K : PySem.W.Frag} {C p : Addr} {H : Hp} {y : V} {t : Str} (s : Shown C H y t) (np : H p = none) : Thg K C p y t H := by
  rcases s with s | ⟨a, h1, h2, h3⟩ | ⟨l, xs, ts, h1, h2, h3, h4⟩ | ⟨l, xs, ts, h1, h2, h3, h4⟩
  · exact .inl s
  · refine .inr (.inl ⟨⟨a, h1, h2, h3⟩, fun b hb z => ?_⟩)
    rw [List.mem_singleton.mp hb, h1] at z
    have e : a = p := by cases z; rfl
    rw [e, np] at h2
    cases h2
  · exact .inr (.inr (.inl ⟨l, xs, ts, h1, fun z => ne_of_none h2 np (List.mem_singleton.mp z), h2, h3, h4⟩))
  · exact .inr (.inr (.inr ⟨l, xs, ts, h1, fun z => ne_of_none h2 np (List.mem_singleton.mp z), .inl (.inl h2), h3, h4⟩))
section
variable {X : Cx} {D : Rpr}
/-- repr(x) of a tuple, told for just this one -/
theorem repr_tupA {n : Nat} {D : Addr → Rpr} (hm : ∀ a, Mon (D a)) (h : ∀ a, RpG X n [a] (D a)) (hg : X.A.guards = some []) (hr : Room (n + 2) X.A) :
    CallR X (.builtin "repr") (fun xs H Q => ∃ a ys ts, xs = [.ref a] ∧ SqT X.K H a ys ∧ Each (D a) ys ts H ∧ (tupleText ts).length ≤ sizeLine ∧ ∀ H', Ex H H' → Q (.str (tupleText ts)) H') := by
  intro pins s σ H xs us Q I r hq
  obtain ⟨a, ys, ts, rfl, ha, p, hs, q⟩ := hq
  obtain ⟨u, rfl, ru⟩ := vals1 r
  cases ru
  obtain ⟨its, rv, ⟨o, ho, hcls, m, hd⟩, hz⟩ := I.tuple ha
  refine call_repr_slot hr.in1.units0 ⟨o, ho, hcls⟩ F.slot_tuple_repr ?_
  exact wpAny_call (codeAny_call_builtin_own (Code.quiet_builtin _ (by decide +kernel)) F.entry_tuple_repr (F.slot_tuple_repr.check _ _ _ _ _ _ _ _ ⟨o, ho, hcls⟩ (F.args_tuple_repr_1 _)
    (tup_at (base := 0) (R := callEnd _ X.xe) (A := X.A.in1) (g := []) (as := []) (h a) (hm a) hr.in1 rfl hg (fun p _ => Clear.nil p) (fun z => by cases z) (tupC1 _ _) I ha p (by omega) (fun e s' q => q) fun u H' s' I' e => ⟨_, _, rfl, .str (tupleText ts), H', I', ⟨_, rfl⟩, q H' e⟩)))
theorem rpG_Thg {CX : CXT} {C f : Addr} {fd : FuncData} {ps : List Str} {E : XK} (F : FnOk X.prog X.w X.K X.mg X.base CX 1 f fd ps (spRepr (WText C))) (M : Meth X.K C "__repr__" f) (hb : Binds X.K fd ps []) (hx : Passes CX X E) (p : Addr) : RpG X 3 [p] (Thg X.K C p) := by
  have fl : ∀ as, RpG X 1 as (Flat C) := fun as => (rpG_flat.mono (by decide)).or ((rpG_str.mono (by decide)).or (rpG_ins F M hb hx))
  exact ((fl _).mono (by decide)).or ((rpG_dic.mono (by decide)).or (((rpG_list mon_Flat fun a => fl _).mono (by decide)).or ((rpG_tup mon_Flat fun a => fl _).mono (by decide))))
end
/-! ### texts that are short -/
theorem ln_eq {a b : Str} (e : a = b) : a.length = b.length := by rw [e]
theorem short_tup {ts : List Str} (h : ∀ t ∈ ts, t.length ≤ 10000) (n : ts.length ≤ 100) : (tupleText ts).length ≤ sizeLine := by
  have key : ∀ l : List Str, (∀ t ∈ l, t.length ≤ 10000) → (l.map (·.length)).sum ≤ 10000 * l.length := by
    intro l
    induction l with
    | nil => intro _; exact Nat.le_refl 0
    | cons a r ih =>
      intro hl
      have h1 := hl a List.mem_cons_self
      have h2 := ih fun t ht => hl t (List.mem_cons_of_mem _ ht)
      rw [List.map_cons, List.sum_cons, List.length_cons]
      omega
  have h1 := tupleText_len_le ts
  have h2 := key ts h
  exact Nat.le_trans (show _ ≤ 2000000 by omega) (by decide)
end Tz
namespace Tz
open PySem PySem.Spec PyProof.Rows L2 TzF TzRepr
section
variable {X : Cx} {CX : CXT} {C f : Addr} {fd : FuncData} {ps : List Str} {sp : Sp} {E : XK} {k : Nat} {pins : List (Addr × Obj)} {σ : L2.St} {H : Hp} {s : Shared} {y : V} {u : Value} {g : Tag}
theorem obj_ty {M : Model} {h : Heap} {a : Addr} {o : Obj} {c : Value} (e : h.get? a = some o) (hc : o.cls = c) : PySem.W.Looks M h (typeOf (.ref a)) c := fun A Q E s keeps q => wpAny_typeOf_ref (keeps _ _ e) (by rw [hc]; exact q)
/-- the type of a thing is looked up -/
theorem Kd.looks (I : L2.Inv X pins σ H s) (r : RelV y u) (d : Kd C H y g) : PySem.W.Looks (model X.prog X.w) s.heap (typeOf u) (g.ty C) := by
  cases d with
  | non =>
    cases r
    exact .of_pure rfl
  | bl b =>
    cases r
    exact .of_pure rfl
  | int i =>
    obtain ⟨t, rfl⟩ := r
    exact .of_pure rfl
  | str z =>
    obtain ⟨t, rfl⟩ := r
    exact .of_pure rfl
  | @lst a xs h =>
    cases r
    obtain ⟨_, its, n, _, e⟩ := (show ObjOk X.prog X.w H s.heap a (.lst xs) from I.hok a _ h)
    exact obj_ty e rfl
  | @tup a xs h =>
    cases r
    obtain ⟨_, its, _, o, e, hc, _⟩ := (show ObjOk X.prog X.w H s.heap a (.tup xs) from I.hok a _ h)
    exact obj_ty e hc
  | @dic a kvs h =>
    cases r
    obtain ⟨_, _, us, _, o, es, ep, e, hc, _⟩ := (show ObjOk X.prog X.w H s.heap a (.dK kvs) from I.hok a _ h)
    exact obj_ty e hc.1
  | own W =>
    cases r
    obtain ⟨dx, h⟩ := W.ob
    obtain ⟨od, J⟩ := TzOwn.inst_at I h
    exact J.type
end
section
open PySem.W
variable {prog : Program} {w : World} {A : Around} {E : Value → Shared → Prop} {s : Shared} {K : Frag} {x C f L : Addr} {ox : Obj} {od : Option Obj} {h0 : Heap} {m : Str → Option Value} {T : String}
/-- an instance with its own method, beside a value of a built-in type -/
theorem bin_any {op : Operator} {b : Value} {fo ro rc : Option Value} {Q : Value → Shared → Prop} (R : Fr h0 L s.heap m) (KI : K.In h0) (I : InstAt s.heap x ox C od) (tb : Looks (model prog w) s.heap (typeOf b) (.type T)) (first : selfFirst K C = true)
    (own : findIn K (.ref C) (PySem.dunder op.info.2) = some (some (.ref f))) (fn : isFn K (.ref f) = true) (refl : findIn K (.ref C) (dunderR op.info.2) = some rc) (form : rc = none ∨ ∃ g : Addr, rc = some (.ref g))
    (t1 : findIn K (.type T) (PySem.dunder op.info.2) = some fo) (t2 : findIn K (.type T) (dunderR op.info.2) = some ro) (apart : subIn K (.type T) (.ref C) = some false)
    (h : wpAny (model prog w) A (call (.ref f) [.ref x, b]) (PySem.W.CmpBack Q) E s) : wpAny (model prog w) A (binaryOp op (.ref x) b) Q E s := by
  have KS := KI.keeps R.keep
  obtain ⟨cd, more, ecd, em⟩ := ksp_first first
  rcases ei : op.info with ⟨sy, nm⟩
  rw [ei] at own refl t1 t2
  dsimp only at own refl t1 t2
  have one := ksp_try KS I own fn h
  obtain ⟨hp, gs, dr, tk, os⟩ := s
  have a1 : Looks (model prog w) hp (typeOf (.ref x)) (.ref C) := I.type
  have a2 : Looks (model prog w) hp (fillsNumberSlot (.ref C) nm) true := fills_K KS ecd em own
  have a3 : Looks (model prog w) hp (fillsNumberSlot (.type T) nm) ((fo.isSome && !isSeqSlot fo) || (ro.isSome && !isSeqSlot ro)) := ksp_fillsT KS t1 t2
  have a4 : Looks (model prog w) hp (isSubtype (.type T) (.ref C)) false := looks_subIn KS apart
  have a5 : Looks (model prog w) hp (numberSlotInPython (.ref C) nm) true := ksp_inPy KS own refl form
  have a6 : Looks (model prog w) hp (numberSlotInPython (.type T) nm) false := Looks.of_pure rfl
  have a7 : Looks (model prog w) hp (typeLookup (.type T) (dunderR nm)) ro := looks_findIn KS t2
  generalize ((fo.isSome && !isSeqSlot fo) || (ro.isSome && !isSeqSlot ro)) = both at a3
  have unlike : (Value.ref C == Value.type T) = false := Bool.eq_false_iff.mpr fun q => by cases beq_iff_eq.mp q
  simp only [binaryOp, ei]
  refine wpAny_holding (wpAny_bind ?_)
  unfold binaryOp1
  refine wpAny_bind (a1.at (wpAny_bind (tb.at (wpAny_bind (a2.at ?_)))))
  simp only [unlike, Bool.false_eq_true, if_false]
  cases both with
  | false =>
    ksp_lk
    refine wpAny_mono one (fun r s2 q => ?_) fun _ _ e => e
    obtain ⟨v, rfl, q⟩ := q
    ksp_lk
    exact q
  | true =>
    ksp_lk
    refine wpAny_mono one (fun r s2 q => ?_) fun _ _ e => e
    obtain ⟨v, rfl, q⟩ := q
    ksp_lk
    exact q
end
section
variable {X : Cx} {CX : CXT} {C f : Addr} {fd : FuncData} {ps : List Str} {sp : Sp} {E : XK} {k : Nat}
/-- a word beside any thing -/
def rOwnA (C : Addr) (sp : Sp) (E : XK) : R2 := fun x y H Q => ∃ a dx fs g, x = .ref a ∧ H a = some (.ins C dx fs) ∧ Kd C H y g ∧ sp [.ref a, y] H Q E
theorem op_ownA {op : Operator} {nm nr : Str} (F : FnOk X.prog X.w X.K X.mg X.base CX k f fd ps sp) (hr : Room k X.A) (M : Meth X.K C nm f) (hn : PySem.dunder op.info.2 = nm) (A : Alone X.K C) (hb : Binds X.K fd ps []) (hx : Passes CX X E)
    (hnr : dunderR op.info.2 = nr) (hc : ∃ g : Addr, PySem.W.findIn X.K (.ref C) nr = some (some (.ref g))) (h1 : knownB X.K nm = true) (h2 : knownB X.K nr = true) : OpR X (binaryOp op) (rOwnA C sp E) := by
  intro pins s σ H x y v u Q I rx ry h
  obtain ⟨a, dx, fs, g, rfl, ha, d, q⟩ := h
  obtain ⟨fr, hc⟩ := hc
  cases rx
  obtain ⟨od, J⟩ := TzOwn.inst_at I ha
  obtain ⟨m, hF⟩ := I.fr
  have back : wpAny (model X.prog X.w) X.A (call (.ref f) [.ref a, u]) (PySem.W.CmpBack (EP X pins σ Q)) X.xe s := thn (run_fn (us := [.ref a, u]) (vs := [.ref a, y]) F hr hb .nil hx I (.cons rfl (.cons ry .nil)) q) fun _ _ z => TzOwn.back_cmp z
  have tb := d.looks I ry
  by_cases hg : g = .own
  · subst hg
    exact PySem.W.binop_K hF I.ok.mod.kin J tb A.sf (hn ▸ M.at_) M.fn back
  · have e : g.ty C = .type g.nm := by cases g <;> first | rfl | exact absurd rfl hg
    rw [e] at tb
    obtain ⟨fo, ho⟩ := known_ok h1 (Tag.mem hg)
    obtain ⟨ro, hro⟩ := known_ok h2 (Tag.mem hg)
    exact bin_any hF I.ok.mod.kin J tb A.sf (hn ▸ M.at_) M.fn (hnr ▸ hc) (.inr ⟨fr, rfl⟩) (hn ▸ ho) (hnr ▸ hro) (A.to _ (Tag.mem hg)) back
theorem cmp_ownA {op : CmpOp} {nm : Str} (F : FnOk X.prog X.w X.K X.mg X.base CX k f fd ps sp) (hr : Room k X.A) (M : Meth X.K C nm f) (hn : (cmpInfo op).2.1 = nm) (ho : compareOp op = richCompare op) (hb : Binds X.K fd ps []) (hx : Passes CX X E) (A : Alone X.K C) : OpR X (compareOp op) (rOwnA C sp E) := by
  intro pins s σ H x y v u Q I rx ry h
  obtain ⟨a, dx, fs, g, rfl, ha, d, q⟩ := h
  cases rx
  obtain ⟨od, J⟩ := TzOwn.inst_at I ha
  obtain ⟨m, hF⟩ := I.fr
  rw [ho]
  refine PySem.W.cmp_K (op := op) (tb := g.ty C) hr.units0 hF I.ok.mod.kin J (d.looks I ry) ?_ (hn ▸ M.at_) M.fn ?_
  · unfold PySem.W.notFirst
    by_cases hg : g = .own
    · subst hg
      show (Value.ref C == Value.ref C || _) = true
      rw [beq_self_eq_true, Bool.true_or]
    · have e : g.ty C = .type g.nm := by cases g <;> first | rfl | exact absurd rfl hg
      rw [e, A.to _ (Tag.mem hg)]
      simp
  · exact thn (run_fn (us := [.ref a, u]) (vs := [.ref a, y]) F hr hb .nil hx I (.cons rfl (.cons ry .nil)) q) fun _ _ z => TzOwn.back_cmp z
end
end Tz
namespace Tz
open PySem PySem.Spec PyProof.Rows L2 TzF TzRepr
theorem weak {P : Program} {w : World} {K : PySem.W.Frag} {mg : Str → Option Value} {base : Heap} {CX : CXT} {k : Nat} {f : Addr} {fd : FuncData} {ps : List Str} {sp sp' : Sp} (F : FnOk P w K mg base CX k f fd ps sp) (h : ∀ vs H Q E, sp' vs H Q E → sp vs H Q E) : FnOk P w K mg base CX k f fd ps sp' :=
  ⟨fun vs H Q E q => F.len vs H Q E (h _ _ _ _ q), fun A out s H args us vs Q E hr en bn r q => F.run A out s H args us vs Q E hr en bn r (h _ _ _ _ q)⟩
/-! ### promises for things of all sorts -/
def Tag.whole : Tag → Bool
  | .int => true
  | _ => false
def spWhole (C : Addr) : Sp := fun vs H Q _ => ∃ y g, vs = [y] ∧ Kd C H y g ∧ Q (.bl (Tag.whole g)) H
def spFrom (C : Addr) : Sp := fun vs H Q _ => ∃ y g, ∃ lo hi : Int, vs = [y, .int lo, .int hi] ∧ Kd C H y g ∧ ∀ b : Bool, (b = true ↔ ∃ n, y = .int n ∧ lo ≤ n ∧ n ≤ hi) → Q (.bl b) H
def spFound (C : Addr) : Sp := fun vs H Q _ => ∃ w : Nat, ∃ y r, vs = [.int w, y] ∧ 1 ≤ w ∧ w ≤ 64 ∧ Side C H w y r ∧ match r with
  | .val v => Q (.int v) H
  | _ => Q .non H
def spCheckedX (C B : Addr) : Sp := fun vs H Q E => ∃ w : Nat, ∃ y r, vs = [.int w, y] ∧ 1 ≤ w ∧ w ≤ 64 ∧ Side C H w y r ∧ match r with
  | .val v => Q (.int v) H
  | _ => Flies B [("value", y)] H E
def spOperandX (C B U : Addr) : Sp := fun vs H Q E => ∃ x y, ∃ w : Nat, ∃ u r, vs = [.ref x, y] ∧ WordAt C H x w u ∧ Side C H w y r ∧ Got B U w y r H E fun v => Q (.int v) H
def spAddX (C B U : Addr) : Sp := fun vs H Q E => ∃ x y, ∃ w : Nat, ∃ u r, vs = [.ref x, y] ∧ WordAt C H x w u ∧ Side C H w y r ∧ Got B U w y r H E fun v => NewW C w (cr w (u + v)) H Q
def spSubX (C B U : Addr) : Sp := fun vs H Q E => ∃ x y, ∃ w : Nat, ∃ u r, vs = [.ref x, y] ∧ WordAt C H x w u ∧ Side C H w y r ∧ Got B U w y r H E fun v => NewW C w (cr w (u + (mw w - v))) H Q
end Tz
namespace Tz
open PySem PySem.Spec PyProof.Rows L2 TzF TzRepr
/-! ### def f(a, *r): called by place, or f(a = e) -/
def StarW (sp : Sp) : Sp := fun vs H Q E => ∃ v more, vs = v :: more ∧ more.length ≤ 1000 ∧ ∀ p, H p = none → sp [v, .ref p] (upd H p (.tup more)) Q E
structure Star1 (P : Program) (w : World) (K : PySem.W.Frag) (mg : Str → Option Value) (base : Heap) (CX : CXT) (k : Nat) (f : Addr) (p1 : Str) (sp : Sp) : Prop where
  pos : FnR P w K mg base CX k f (StarW sp)
  key : ∀ (A : Around) (out : List Env) (s : Shared) (H : Hp) (u : Value) (v : V) (Q : VK) (E : XK), Room k A → Env0 P w K mg base A out s H → RelV v u → StarW sp [v] H Q E → codeAny (model P w) A (.call (.ref f) ⟨[], [(p1, u)]⟩) (CR CX out P w H s Q E) s
theorem star1 {P : Program} {w : World} {K : PySem.W.Frag} {mg : Str → Option Value} {base : Heap} {CX : CXT} {k : Nat} {f : Addr} {fd : FuncData} {x qual p1 pr : Str} {st : Stmt} {N : List Str} {sp : Sp} (F : Fun K x qual st f fd) (S : FnScope N [p1, pr] (defScope st)) (up : StX.CXUp CX)
    (b0 : ∀ (kV doc pm : Value) (an : Option Addr) (cdv ct a : Value), bindArgs (PySem.W.fnOf x qual (defArgs st) (defBody st) (defScope st) .none kV doc pm an cdv ct) ⟨[a], []⟩ = (newTuple [] >>= fun t => pure [(p1, a), (pr, t)]))
    (b1 : ∀ (kV doc pm : Value) (an : Option Addr) (cdv ct a b : Value) (bs : List Value), bindArgs (PySem.W.fnOf x qual (defArgs st) (defBody st) (defScope st) .none kV doc pm an cdv ct) ⟨a :: b :: bs, []⟩ = (newTuple (b :: bs) >>= fun t => pure [(p1, a), (pr, t)]))
    (bk : ∀ (kV doc pm : Value) (an : Option Addr) (cdv ct a : Value), bindArgs (PySem.W.fnOf x qual (defArgs st) (defBody st) (defScope st) .none kV doc pm an cdv ct) ⟨[], [(p1, a)]⟩ = (newTuple [] >>= fun t => pure [(p1, a), (pr, t)]))
    (body : ∀ (cdv : Value) (A : Around) (out : List Env) (s : Shared) (H : Hp) (vs : List V) (Q : VK) (E : XK), Room k (A.deeper (envOfC qual (defScope st) s.heap.objs.size f cdv)) → sp vs H Q E →
      ∃ t, PSs (cxOf CX P w K mg base N qual (defScope st) f cdv A out s H E) (defBody st) t ∧ t { nx := fun _ J => Q .non J, rt := Q } (start N vs) H) : Star1 P w K mg base CX (k + 1) f p1 sp := by
  obtain ⟨oc, od, kV, doc, pm, an, cdv, ct, osl, rfl, lk, code⟩ := F.ex
  refine ⟨fun A out s H us vs Q E hr en r h => ?_, fun A out s H u v Q E hr en r h => ?_⟩
  · obtain ⟨v, more, rfl, small, go⟩ := h
    have all := StX.fn_star (CX := CX) (base := base) (mg := mg) (P := P) (w := w) (ps := [p1]) (pv := pr) (sp := sp) (k := k) lk code S up (fun us rest e => by
      match us, rest, e with
      | [a], [], _ => exact b0 kV doc pm an cdv ct a
      | [a], b :: bs, _ => exact b1 kV doc pm an cdv ct a b bs) (fun A out s H vs Q E hr h => body cdv A out s H vs Q E hr h)
    exact all A out s H us _ Q E hr en r ⟨[v], more, rfl, rfl, Nat.le_trans small (by decide), go⟩
  · obtain ⟨v', more, e, _, go⟩ := h
    cases e
    have hn : H s.heap.objs.size = none := en.hok.fresh (Nat.le_refl _)
    have new : ObjOk P w (upd H s.heap.objs.size (.tup [])) (s.heap.push ({ cls := .type "tuple", data := .seq ([] : List Value).toArray } : Obj)) s.heap.objs.size (.tup []) := ⟨Nat.zero_le _, [], .nil, ⟨_, Heap.get?_push_size _ rfl, rfl, _, rfl⟩⟩
    have un := StX.un_laid (fs := frs out) (s := s) (o := ({ cls := .type "tuple", data := .seq ([] : List Value).toArray } : Obj)) (u := .tup []) hn
    refine StX.run_bnd (N := N) (ps := [p1, pr]) lk code S hr en (G := fun xs H2 => ∃ p, H p = none ∧ xs = [v, .ref p] ∧ H2 = upd H p (.tup [])) (fun A' Ex Q' q => ?_) fun s2 H2 xs ⟨p, np, e1, e2⟩ hr' => ?_
    · rw [bk]
      refine wpAny_bind (wpAny_newTuple (wpAny_pure ?_) (Nat.zero_le _))
      exact q _ _ [v, .ref s.heap.objs.size] [u, .ref s.heap.objs.size] (StX.env0_laid en new) un rfl (fun e s' => up out s H _ _ E e s' un (fun b o z => Heap.get?_push_of_some _ z) rfl) (.cons r (.cons rfl .nil)) rfl ⟨_, hn, rfl, rfl⟩
    · subst e1 e2
      exact body cdv A out s2 _ _ Q E hr' (go p np)
section
variable {X : Cx} {CX : CXT} {k : Nat} {f : Addr} {p1 x : Str} {sp : Sp} {E : XK} {e : Expr} {es : List Expr} {te : TE} {t : TA} {p pos kp : Pos}
/-- f(e, ..) -/
theorem pe_star (F : Star1 X.prog X.w X.K X.mg X.base CX k f p1 sp) (hr : Room k X.A) (gl : Gl X x) (hm : X.mg x = some (.ref f)) (hk : PySem.W.keepIn X.K (.ref f) = true) (hx : Passes CX X E) (ha : PA X (e :: es) t)
    (hst : starEach (e :: es) X.env = (false, eval e X.env) :: starEach es X.env := by rfl) (hpl : (backTo pos (starEach es X.env)).any (·.1) = false := by rfl) (hdb : (x == ("__debug__" : Str)) = false := by decide) :
    PE X (.Call (.Name x p) (e :: es) [] pos) (fun σ H Q => t σ H fun vs H1 => StarW sp vs H1 Q E) :=
  ⟨fun pins s σ H Q I h => wpAny_Call_Name_kw (ld_glob I gl hm (PySem.W.callWith_K (h₀ := X.base) I.ok.mod.kin hk (thn (ha.run pos pins s σ H _ I h) fun us s1 ⟨vs, H1, I1, r, q⟩ => ⟨I1.kIn, wpAny_call (run_fnR F.pos hr hx I1 r q)⟩) hst hpl) hdb)⟩
/-- f(a = e) -/
theorem pe_starK (F : Star1 X.prog X.w X.K X.mg X.base CX k f p1 sp) (hr : Room k X.A) (gl : Gl X x) (hm : X.mg x = some (.ref f)) (hk : PySem.W.keepIn X.K (.ref f) = true) (hx : Passes CX X E) (he : PE X e te)
    (hall : (backToKw pos (keywordEach [⟨some p1, e, kp⟩] X.env)).all (·.1.isSome) = true := by rfl) (hks : (backToKw pos (keywordEach [⟨some p1, e, kp⟩] X.env)).filterMap (·.1) = [p1] := by rfl)
    (hpl : ((backTo pos (starEach [] X.env)).any (·.1) || (backToKw pos (keywordEach [⟨some p1, e, kp⟩] X.env)).any (·.1.isNone)) = false := by rfl) (hdb : (x == ("__debug__" : Str)) = false := by decide) :
    PE X (.Call (.Name x p) [] [⟨some p1, e, kp⟩] pos) (fun σ H Q => te σ H fun v H1 => ∃ v', [v] = [v'] ∧ StarW sp [v'] H1 Q E) := by
  refine ⟨fun pins s σ H Q I h => ?_⟩
  refine wpAny_Call_Name_kw (ld_glob I gl hm ?_ hdb)
  refine PySem.W.callWith_KW0 (first := []) (h₀ := X.base) I.ok.mod.kin hk hall (thn ((pk_cons (kpos := kp) (nm := some p1) he pk_nil).run pos pins s σ H (fun zs H1 => ∃ v, zs = [v] ∧ StarW sp [v] H1 Q E) I h) fun ws s2 ⟨zs, H2, I2, rz, v, ez, q⟩ => ⟨I2.kIn, ?_⟩) hpl
  subst ez
  obtain ⟨u, rfl, ru⟩ := vals1 rz
  rw [hks]
  refine wpAny_call (codeAny_mono (F.key X.A X.stack s2 H2 u v Q E hr I2.env0 ru q) fun r s' hq => ?_)
  cases r with
  | error er => exact hx _ σ H2 s2 er s' I2 hq
  | ok fl =>
    cases fl with
    | ret w' => exact I2.after hq
    | next => exact False.elim hq
    | brk => exact False.elim hq
    | cont => exact False.elim hq
end
end Tz
namespace Tz
open PySem PySem.Spec PyProof.Rows L2 TzF TzRepr
/-! ### what a call does is heard: a tuple tells it -/
theorem pe_up {X : Cx} {e : Expr} {t : TE} (h : PE X e t) : PE X e (fun σ H Q => ∃ Q0 : VK, t σ H Q0 ∧ ∀ v J, Q0 v J → Q v J) :=
  ⟨fun pins s σ H Q I ⟨Q0, q, up⟩ => wpAny_mono (h.run pins s σ H Q0 I q) (fun u s' ⟨v, J, I', r, z⟩ => ⟨v, J, I', r, up v J z⟩) fun _ _ z => z⟩
/-- the tuple at p is new -/
def Tup (H : Hp) (ys : List V) (Q : VK) : Prop := ∀ p H', H p = none → Ex H H' → H' p = some (.tup ys) → Q (.ref p) H'
def Catch1 (X : Addr) (f tag : Str) (Q : VK) : XK := fun k d H => k = .ref X ∧ ∃ dd v, d = some dd ∧ H dd = some (.xd [(f, v)]) ∧ Tup H [.str tag, v] Q
def Catch2 (X : Addr) (f g tag : Str) (Q : VK) : XK := fun k d H => k = .ref X ∧ ∃ dd u v, d = some dd ∧ H dd = some (.xd [(g, v), (f, u)]) ∧ Tup H [.str tag, u, v] Q
theorem Tup.go {H : Hp} {ys : List V} {Q : VK} {p : Addr} (h : Tup H ys Q) (np : H p = none) : Q (.ref p) (upd H p (.tup ys)) := h p _ np (Ex.new np) upd_same
/-- one field of a caught error -/
theorem xf1 {H : Hp} {a dd X : Addr} {k : Value} {d : Option Addr} {f : Str} {v : V} {Q : VK} (e1 : k = .ref X) (e2 : d = some dd) (h : H dd = some (.xd [(f, v)])) (q : Q v H) :
    V.ref a = .ref a ∧ k = .ref X ∧ ∃ (z : Addr) (fs : List (Str × V)) (y : V), d = some z ∧ H z = some (.xd fs) ∧ fs.lookup f = some y ∧ Q y H := ⟨rfl, e1, dd, _, v, e2, h, by simp [List.lookup], q⟩
theorem xf2 {H : Hp} {a dd X : Addr} {k : Value} {d : Option Addr} {f g n : Str} {u v y : V} {Q : VK} (e1 : k = .ref X) (e2 : d = some dd) (h : H dd = some (.xd [(g, v), (f, u)])) (hl : List.lookup n [(g, v), (f, u)] = some y) (q : Q y H) :
    V.ref a = .ref a ∧ k = .ref X ∧ ∃ (z : Addr) (fs : List (Str × V)) (y : V), d = some z ∧ H z = some (.xd fs) ∧ fs.lookup n = some y ∧ Q y H := ⟨rfl, e1, dd, _, y, e2, h, hl, q⟩
/-! ### all but z, and but the tables, is as it was -/
def Go (z : Addr) (H H' : Hp) : Prop := ∀ a o, a ≠ z → (∀ ps, o ≠ .tbl ps) → H a = some o → H' a = some o
section
variable {z c a x : Addr} {H H1 H2 : Hp} {C : Addr} {w : Nat} {u : Int} {cells : List Int} {t : Nat}
theorem Go.refl : Go z H H := fun _ _ _ _ h => h
theorem Go.trans (a : Go z H H1) (b : Go z H1 H2) : Go z H H2 := fun x o n m h => b x o n m (a x o n m h)
theorem Fw.go (f : Fw z H H1) : Go z H H1 := fun a o n _ h => f a o n h
theorem Ex.go (f : Ex H H1) : Go z H H1 := fun a o _ _ h => f a o h
theorem Go.ext (f : LamX.ExtN H H1) : Go z H H1 := fun a o _ m h => f a o h m
theorem PenAt.ext (h : PenAt H z c cells t) (e : LamX.ExtN H H1) : PenAt H1 z c cells t := by
  obtain ⟨⟨i, l, h1, h2⟩, h3, h4, h5⟩ := h
  exact ⟨⟨i, l, e _ _ h1 (fun _ q => by cases q), h2⟩, e _ _ h3 (fun _ q => by cases q), h4, h5⟩
theorem WordAt.go (h : WordAt C H x w u) (g : Go z H H1) (n : x ≠ z) : WordAt C H1 x w u := by
  obtain ⟨⟨dx, h1⟩, h2, h3, h4, h5⟩ := h
  exact ⟨⟨dx, g _ _ n (fun _ q => by cases q) h1⟩, h2, h3, h4, h5⟩
theorem WordAt.ext (h : WordAt C H x w u) (e : LamX.ExtN H H1) : WordAt C H1 x w u := by
  obtain ⟨⟨dx, h1⟩, h2, h3, h4, h5⟩ := h
  exact ⟨⟨dx, e _ _ h1 (fun _ q => by cases q)⟩, h2, h3, h4, h5⟩
theorem PenAt.isl (h : PenAt H z c cells t) : ∃ xs, H z = some (.lst xs) := by
  obtain ⟨⟨i, l, h1, _⟩, _⟩ := h
  exact ⟨_, h1⟩
theorem tabs_go {T : List (Addr × Str)} (h : LamX.Tabs T H) (f : Fw z H H1) (hz : ∃ xs, H z = some (.lst xs)) : LamX.Tabs T H1 := fun p hp => by
  obtain ⟨xs, hz⟩ := hz
  obtain ⟨ps, h1, h2, h3⟩ := h p hp
  refine ⟨ps, f _ _ (ne_of h1 hz (by intro q; cases q)) h1, h2, fun pos cv hc => ?_⟩
  obtain ⟨c, e1, e2⟩ := h3 pos cv hc
  exact ⟨c, e1, f _ _ (ne_of e2 hz (by intro q; unfold LamX.CodeO at q; cases q)) e2⟩
end
/-! ### a thing beside the pen, its text known -/
theorem Flat.go {C z : Addr} {H H1 : Hp} {y : V} {t : Str} (s : Flat C y t H) (g : Go z H H1) (hz : ∃ xs, H z = some (.lst xs)) : Flat C y t H1 := by
  rcases s with s | s | ⟨a, dx, fs, h1, h2, w, u, W, h3⟩
  · exact .inl s
  · exact .inr (.inl s)
  · obtain ⟨xs, hz⟩ := hz
    have n : a ≠ z := ne_of h2 hz (by intro q; cases q)
    exact .inr (.inr ⟨a, dx, fs, h1, g _ _ n (fun _ q => by cases q) h2, w, u, W.go g n, h3⟩)
theorem Shown.go {C z : Addr} {H H1 : Hp} {y : V} {t : Str} (s : Shown C H y t) (g : Go z H H1) (hz : ∃ xs, H z = some (.lst xs)) (n : y ≠ .ref z) : Shown C H1 y t := by
  have each : ∀ {xs : List V} {ts : List Str}, Each (Flat C) xs ts H → Each (Flat C) xs ts H1 := fun p => ⟨p.1, fun i x t h1 h2 => (p.2 i x t h1 h2).go g hz⟩
  rcases s with s | ⟨a, h1, h2, h3⟩ | ⟨l, xs, ts, h1, h2, h3, h4⟩ | ⟨l, xs, ts, h1, h2, h3, h4⟩
  · exact .inl (s.go g hz)
  · exact .inr (.inl ⟨a, h1, g _ _ (fun q => n (by rw [h1, q])) (fun _ q => by cases q) h2, h3⟩)
  · exact .inr (.inr (.inl ⟨l, xs, ts, h1, g _ _ (fun q => n (by rw [h1, q])) (fun _ q => by cases q) h2, h3, each h4⟩))
  · exact .inr (.inr (.inr ⟨l, xs, ts, h1, g _ _ (fun q => n (by rw [h1, q])) (fun _ q => by cases q) h2, h3, each h4⟩))
theorem two_each {D : Rpr} {H : Hp} {a b : V} {t u : Str} (h1 : D a t H) (h2 : D b u H) : Each D [a, b] [t, u] H := ⟨rfl, fun i x s e1 e2 => by
  match i with
  | 0 => cases e1; cases e2; exact h1
  | 1 => cases e1; cases e2; exact h2
  | i + 2 => simp at e1⟩
theorem three_each {D : Rpr} {H : Hp} {a b c : V} {t u v : Str} (h1 : D a t H) (h2 : D b u H) (h3 : D c v H) : Each D [a, b, c] [t, u, v] H := ⟨rfl, fun i x s e1 e2 => by
  match i with
  | 0 => cases e1; cases e2; exact h1
  | 1 => cases e1; cases e2; exact h2
  | 2 => cases e1; cases e2; exact h3
  | i + 3 => simp at e1⟩
end Tz
namespace Tz
open PySem PySem.Spec PyProof.Rows L2 TzF TzRepr
def TTH (HE : VK → XK) : (XK → Hp → VK → Prop) → Hp → VK → Prop := fun tl H Q => ∀ H0, Ex H H0 → tl (HE Q) H0 (fun v H1 => Tup H1 [.str "made", v] Q)
def HE3 (B1 B2 U : Addr) (Q : VK) : XK := fun k d H => Catch1 B1 "width" "width" Q k d H ∨ (Catch1 B2 "value" "word" Q k d H ∨ Catch2 U "one" "other" "unlike" Q k d H)
section
variable {B1 B2 U : Addr} {Q : VK} {H : Hp} {y : V} {w w' : Int}
theorem fly_width (h : ∀ H1, Ex H H1 → Tup H1 [.str "width", y] Q) : Flies B1 [("width", y)] H (HE3 B1 B2 U Q) := fun d H' e q => .inl ⟨rfl, d, y, rfl, q, h H' e⟩
theorem fly_value (h : ∀ H1, Ex H H1 → Tup H1 [.str "word", y] Q) : Flies B2 [("value", y)] H (HE3 B1 B2 U Q) := fun d H' e q => .inr (.inl ⟨rfl, d, y, rfl, q, h H' e⟩)
theorem fly_unlike (h : ∀ H1, Ex H H1 → Tup H1 [.str "unlike", .int w, .int w'] Q) : Flies U [("other", .int w'), ("one", .int w)] H (HE3 B1 B2 U Q) := fun d H' e q => .inr (.inr ⟨rfl, d, _, _, rfl, q, h H' e⟩)
end
/-! ### totals of things -/
abbrev Itm := V × Res × Str
inductive Out where
  | made (v : Int) | word (y : V) (tx : Str) | unlike (w : Nat)
def outc (w : Nat) : Int → List Itm → Out
  | s, [] => .made s
  | s, (_, .val v, _) :: l => outc w (cr w (s + v)) l
  | _, (_, .unlike w', _) :: _ => .unlike w'
  | _, (y, .bad, tx) :: _ => .word y tx
def Out.ts (w : Nat) : Out → List Str
  | .made v => [reprText "made", wtext w v]
  | .word _ tx => [reprText "word", tx]
  | .unlike w' => [reprText "unlike", PyData.shown (.int (w : Int)), PyData.shown (.int (w' : Int))]
/-- what the sum of them does -/
def OutK (C B U : Addr) (w : Nat) (o : Out) (H : Hp) (Q : VK) (E : XK) : Prop := match o with
  | .made v => ∀ a H', Ex H H' → WordAt C H' a w v → Q (.ref a) H'
  | .word y _ => Flies B [("value", y)] H E
  | .unlike w' => Flies U [("other", .int w'), ("one", .int w)] H E
/-- the first one a word, the others anything -/
def Lead (C : Addr) (H : Hp) (y : V) (w : Nat) (u : Int) : Prop := ∃ x, y = .ref x ∧ WordAt C H x w u
def spTotal (C B U : Addr) : Sp := fun vs H Q E => ∃ y p its, vs = [y, .ref p] ∧ H p = some (.tup (its.map (·.1))) ∧
  ((∃ w u, Lead C H y w u ∧ (∀ i ∈ its, Side C H w i.1 i.2.1) ∧ OutK C B U w (outc w u its) H Q E) ∨ (∃ g, Kd C H y g ∧ g ≠ .own ∧ Flies B [("value", y)] H E))
end Tz
namespace Tz
open PySem PySem.Spec PyProof.Rows L2 TzF TzRepr
/-! ### rules whose reading names K itself: within comprehensions and lambdas -/
section
variable {X : Cx} {K : PySem.W.Frag} {e a : Expr} {te ta : TE} {n : Str} {pos : Pos}
theorem pe_fldK (hK : X.K = K) (he : PE X e te) (hb : attributeBase e n X.env (eval e X.env) = eval e X.env := by rfl) : PE X (.Attribute e n pos) (tFld K te n) := by
  subst hK
  exact pe_fld he hb
theorem pt_truthK (hK : X.K = K) (ha : PE X a ta) (he : ∀ whole, isTrue a X.env whole = (do let v ← whole; standAt a.pos; holding [v] (truthy v))) : PT X a (fun σ H Q => ta σ H fun x H' => ∃ k, TruV K x H' k ∧ Q k H') := by
  subst hK
  exact pt_truth ha he
end
theorem ix_listK {X : Cx} {K : PySem.W.Frag} (hK : X.K = K) : IxR X (rIxL K) := by
  subst hK
  exact ix_list
theorem ix_tupK {X : Cx} {K : PySem.W.Frag} (hK : X.K = K) : IxR X (rIxT K) := by
  subst hK
  exact ix_tup
/-! ### tests that are decided -/
theorem iteD {c A B : Prop} [Decidable c] (hc : c) (h : A) : if decide c = true then A else B := by
  rw [decide_eq_true hc]
  exact iteT h
theorem iteN {c A B : Prop} [Decidable c] (hc : ¬ c) (h : B) : if decide c = true then A else B := by
  rw [decide_eq_false hc]
  exact iteF h
end Tz
namespace TzBit
open PySem PySem.Spec PyProof.Rows L2 PySem.NumText PySem.Calls
/-! int(t, 2) of a text of bits -/
def IsBit (c : Nat) : Prop := c = 48 ∨ c = 49
theorem bit_hex {c : Nat} (h : IsBit c) : Hx.IsHex c := .inl (by unfold IsBit at h; omega)
theorem bit_val {c : Nat} (h : IsBit c) : Hx.hv c = c - 48 := by
  unfold Hx.hv
  exact if_pos (by unfold IsBit at h; omega)
theorem bit_step {ds : Array Nat} {b : Bool} {c : Nat} (h : IsBit c) : PySem.NumText.step 2 (ds, b) c = some (ds.push (c - 48), true) := by
  have hr : c ≠ 95 := by unfold IsBit at h; omega
  have lt : c - 48 < 2 := by unfold IsBit at h; omega
  unfold PySem.NumText.step
  rw [if_neg (fun z => hr (beq_iff_eq.mp z)), Hx.digit_hex (bit_hex h), bit_val h]
  exact if_pos lt
theorem bit_fold : ∀ (cs : List Nat) (ds : Array Nat), (∀ c ∈ cs, IsBit c) → cs.foldlM (PySem.NumText.step 2) (ds, true) = some (cs.foldl (fun a c => a.push (c - 48)) ds, true)
  | [], _, _ => rfl
  | c :: cs, ds, h => by
    rw [List.foldlM_cons, bit_step (h c List.mem_cons_self)]
    exact bit_fold cs (ds.push (c - 48)) fun d hd => h d (List.mem_cons_of_mem _ hd)
theorem bit_digits {cs : List Nat} (h : ∀ c ∈ cs, IsBit c) (hne : cs ≠ []) : digits? 2 cs = some (cs.foldl (fun a c => a.push (c - 48)) #[]) := by
  match cs, hne with
  | c :: cs, _ =>
    have q := bit_fold cs ((#[] : Array Nat).push (c - 48)) fun d hd => h d (List.mem_cons_of_mem _ hd)
    unfold digits?
    rw [List.foldlM_cons, bit_step (h c List.mem_cons_self)]
    show (cs.foldlM (PySem.NumText.step 2) ((#[] : Array Nat).push (c - 48), true)).bind _ = _
    rw [q]
    all_goals rfl
theorem bit_push : ∀ (cs : List Nat) (ds : Array Nat), (cs.foldl (fun a c => a.push (c - 48)) ds).foldl (fun a d => a * 2 + d) 0 = cs.foldl (fun a c => 2 * a + (c - 48)) (ds.foldl (fun a d => a * 2 + d) 0)
  | [], _ => rfl
  | c :: cs, ds => by
    rw [List.foldl_cons, bit_push cs (ds.push (c - 48)), List.foldl_cons]
    congr 1
    simp [Nat.mul_comm]
theorem bit_based {cs : List Nat} (h : ∀ c ∈ cs, IsBit c) : based 2 cs = (2, false, cs) := by
  match cs, h with
  | [], _ => rfl
  | [a], h =>
    rcases (show a = 48 ∨ a = 49 from h a List.mem_cons_self) with rfl | rfl <;> rfl
  | a :: c :: r, h =>
    rcases (show a = 48 ∨ a = 49 from h a List.mem_cons_self) with rfl | rfl <;>
    rcases (show c = 48 ∨ c = 49 from h c (List.mem_cons_of_mem _ List.mem_cons_self)) with rfl | rfl <;> rfl
theorem bit_read {cs : List Nat} (h : ∀ c ∈ cs, IsBit c) (hne : cs ≠ []) : (int_private% "readNumeral") 0 2 cs = (int_private% "Numeral.value") ((Tz.worth cs : Nat) : Int) := by
  have hx : ∀ c ∈ cs, Hx.IsHex c := fun c hc => bit_hex (h c hc)
  have hr : ∀ c ∈ cs.reverse, Hx.IsHex c := fun c hc => hx c (List.mem_reverse.mp hc)
  refine (readNumeral_eq 0 2 cs).trans ?_
  rw [Hx.dropB hx, Hx.signH hx]
  show judge 0 false (based 2 cs).1 (based 2 cs).2.1 (digits? (based 2 cs).1 (((based 2 cs).2.2.reverse.dropWhile blank).reverse)) = _
  rw [bit_based h]
  show judge 0 false 2 false (digits? 2 ((cs.reverse.dropWhile blank).reverse)) = _
  rw [Hx.dropB hr, List.reverse_reverse, bit_digits h hne]
  show (int_private% "Numeral.value") (((cs.foldl (fun a c => a.push (c - 48)) (#[] : Array Nat)).foldl (fun a d => a * 2 + d) 0 : Nat) : Int) = _
  have z : (#[] : Array Nat).foldl (fun a d => a * 2 + d) 0 = 0 := by first | rfl | simp
  rw [bit_push, z]
  all_goals rfl
theorem bit_gives {x : PySem.Str} {u t : Tok} (hl : x.length ≤ 640) (h : ∀ c ∈ x.cps.toList, IsBit c) (hne : x.cps.toList ≠ []) :
    Gives (Builtin.«int.__new__» ⟨[.type "int", .str x u, .int 2 t], []⟩) (.int ((Tz.worth x.cps.toList : Nat) : Int)) :=
  .of_wp fun M A E s Q hQ => by
    obtain ⟨hp, g, d, tk, os⟩ := s
    have f1 := F.conv_sub_int
    have f2 := F.madeHere_int
    have f6 : typeOf (.str x u) = pure (.type "str") := rfl
    obtain ⟨e1, e2⟩ := Hx.seen_hex fun c hc => bit_hex (h c hc)
    have hs : (numSeenOf x).length ≤ 640 := by
      rw [e2, Array.length_toList]
      exact hl
    have hr : (int_private% "readNumeral") 0 2 (numSeenOf x) = (int_private% "Numeral.value") ((Tz.worth x.cps.toList : Nat) : Int) := by
      rw [e2]
      exact bit_read h hne
    have ha : ((numSeenOf x).length == (numTextOf x).length) = true := by
      rw [e1, e2]
      exact beq_self_eq_true _
    have hk := Hx.Hid.mk (And.intro hs (And.intro hr ha))
    clear hs hr ha e1 e2 hl hne h
    repeat (any_goals (first
      | assumption
      | ((with_reducible show wpAny _ _ ((int_private% "intFromText") _ _ _) _ _ _); refine Hx.wp_textB hk.out.1 hk.out.2.1 hk.out.2.2 ?_)
      | wp_step))
    all_goals first | exact ⟨_, rfl, hQ⟩ | skip
theorem bit_call {prog : Program} {w : World} {A : Around} {E : Value → Shared → Prop} {s : Shared} {Q : Value → Shared → Prop} {x : PySem.Str} {u t : Tok} (hl : x.length ≤ 640) (h : ∀ c ∈ x.cps.toList, IsBit c) (hne : x.cps.toList ≠ [])
    (hQ : Q (.int ((Tz.worth x.cps.toList : Nat) : Int) s.toks) { s with toks := s.toks + 1 }) : wpAny (model prog w) A (call (.type "int") [.str x u, .int 2 t]) Q E s :=
  callType_new F.called_int F.newNe_int (Hx.typeCall_int_2 _ _) (Hx.newCall_int_2 _ _) (fun obj => F.initArgs_range_2 obj _ _) F.entry_int_new (bit_gives hl h hne).meets (show (Made.int ((Tz.worth x.cps.toList : Nat) : Int)).post _ s from ⟨rfl, hQ⟩)
/-- int(t, 2) -/
theorem call_int_bits {X : Cx} : CallR X (.type "int") (fun xs H Q => ∃ l : List Nat, xs = [.str (SX.S l), .int 2] ∧ l ≠ [] ∧ l.length ≤ 640 ∧ (∀ c ∈ l, IsBit c) ∧ Q (.int ((Tz.worth l : Nat) : Int)) H) := by
  intro pins s σ H xs us Q I r h
  obtain ⟨l, rfl, hne, hl, hx, q⟩ := h
  obtain ⟨u, w', rfl, r1, r2⟩ := vals2 r
  obtain ⟨t1, rfl⟩ := r1
  obtain ⟨t2, rfl⟩ := r2
  exact bit_call (x := SX.S l) (by rw [SX.S_len]; exact hl) hx hne ⟨.int ((Tz.worth l : Nat) : Int), H, I.tok _, ⟨_, rfl⟩, q⟩
end TzBit
namespace Tz
open PySem PySem.Spec PyProof.Rows L2 TzF TzRepr
/-! ### the text of a word's bits -/
theorem bt_get (v : Nat) : ∀ (n i : Nat), i < n → (bt v n)[i]? = some (48 + v / 2 ^ (n - 1 - i) % 2)
  | 0, i, h => absurd h (Nat.not_lt_zero i)
  | n + 1, 0, _ => by
    rw [bt]
    rfl
  | n + 1, i + 1, h => by
    have e := bt_get v n i (by omega)
    rw [bt, List.getElem?_cons_succ, e]
    congr 5
    omega
theorem join_ones : ∀ l : List Nat, TL.joinL [] (l.map fun c => [c]) = l
  | [] => rfl
  | [c] => rfl
  | c :: d :: r => by
    have e := join_ones (d :: r)
    rw [List.map_cons, List.map_cons, TL.joinL, ← List.map_cons (f := fun c => [c]), e]
    rfl
theorem join_bits (l : List Nat) : Txt.join ("" : Str) ((l.map fun c => SX.S [c])) = SX.S l := by
  have e := SX.join_S [] (l.map fun c => [c])
  rw [List.map_map, join_ones] at e
  exact e
theorem len_bits (l : List Nat) : ((l.map fun c => SX.S [c]).map (·.length)).sum = l.length := by
  induction l with
  | nil => rfl
  | cons c r ih =>
    rw [List.map_cons, List.map_cons, List.sum_cons, ih, SX.S_len, List.length_cons]
    show 1 + r.length = r.length + 1
    omega
def spStr (C : Addr) : Sp := fun vs H Q _ => ∃ x, ∃ w : Nat, ∃ u : Int, vs = [.ref x] ∧ WordAt C H x w u ∧ ∀ H', Ex H H' → Q (.str (SX.S (bt u.toNat w))) H'
theorem bit_is {u : Int} (u0 : 0 ≤ u) (k : Nat) : Builtin.bitAnd (u / 2 ^ k) 1 = ((u.toNat / 2 ^ k % 2 : Nat) : Int) := by
  have e : Builtin.bitAnd (u / 2 ^ k) (2 ^ 1 - 1) = (u / 2 ^ k) % 2 ^ 1 := PySem.W.kbt_mask _ 1
  have e1 : (2 : Int) ^ 1 - 1 = 1 := by decide
  have e2 : (2 : Int) ^ 1 = 2 := by decide
  rw [e1, e2] at e
  rw [e]
  have hu : u = (u.toNat : Int) := (Int.toNat_of_nonneg u0).symm
  conv => lhs; rw [hu]
  rw [Int.natCast_emod, Int.natCast_ediv, Int.natCast_pow]
  rfl
end Tz
namespace Tz
open PySem PySem.Spec PyProof.Rows L2 TzF TzRepr
/-- what a thing at y needs of the heap stays: all that is no list, and y's own object -/
def Stay (y : V) (H H' : Hp) : Prop := ∀ a o, H a = some o → (∀ ps, o ≠ .tbl ps) → ((∃ xs, o = .lst xs) → y = .ref a) → H' a = some o
theorem Stay.ext {y : V} {H H' : Hp} (e : LamX.ExtN H H') : Stay y H H' := fun a o h n _ => e a o h n
theorem Stay.ex {y : V} {H H' : Hp} (e : Ex H H') : Stay y H H' := fun a o h _ _ => e a o h
theorem Stay.go {y : V} {z : Addr} {H H' : Hp} (g : Go z H H') (hz : ∃ xs, H z = some (.lst xs)) (n : y ≠ .ref z) : Stay y H H' := fun a o h m l => g a o (fun e => by
  obtain ⟨xs, hz⟩ := hz
  subst e
  rw [hz] at h
  cases h
  exact n (l ⟨_, rfl⟩)) m h
theorem Stay.upd {y : V} {z : Addr} {H : Hp} {u : HO} (hz : ∃ xs, H z = some (.lst xs)) (n : y ≠ .ref z) : Stay y H (upd H z u) := Stay.go (z := z) (fun a o na _ h => by rw [upd_ne na]; exact h) hz n
section
variable {C : Addr} {H H' : Hp} {w : Nat} {u : Int} {y : V} {t : Str} {g : Tag} {r : Res}
theorem WordAt.stay {x : Addr} {y : V} (h : WordAt C H x w u) (s : Stay y H H') : WordAt C H' x w u := by
  obtain ⟨⟨dx, h1⟩, h2, h3, h4, h5⟩ := h
  exact ⟨⟨dx, s _ _ h1 (fun _ q => by cases q) (fun ⟨_, q⟩ => by cases q)⟩, h2, h3, h4, h5⟩
theorem Kd.stay (k : Kd C H y g) (s : Stay y H H') : Kd C H' y g := k.step fun a o h m e => s a o h m fun _ => e
theorem Side.stay (k : Side C H w y r) (s : Stay y H H') : Side C H' w y r := k.step fun a o h m e => s a o h m fun _ => e
theorem Flat.stay {x y : V} (f : Flat C x t H) (s : Stay y H H') : Flat C x t H' := by
  rcases f with f | f | ⟨a, dx, fs, h1, h2, w, u, W, h3⟩
  · exact .inl f
  · exact .inr (.inl f)
  · exact .inr (.inr ⟨a, dx, fs, h1, s _ _ h2 (fun _ q => by cases q) (fun ⟨_, q⟩ => by cases q), w, u, W.stay s, h3⟩)
theorem Shown.stay (d : Shown C H y t) (s : Stay y H H') : Shown C H' y t := by
  have each : ∀ {xs : List V} {ts : List Str}, Each (Flat C) xs ts H → Each (Flat C) xs ts H' := fun p => ⟨p.1, fun i x t h1 h2 => (p.2 i x t h1 h2).stay s⟩
  rcases d with d | ⟨a, h1, h2, h3⟩ | ⟨l, xs, ts, h1, h2, h3, h4⟩ | ⟨l, xs, ts, h1, h2, h3, h4⟩
  · exact .inl (d.stay s)
  · exact .inr (.inl ⟨a, h1, s _ _ h2 (fun _ q => by cases q) (fun _ => h1), h3⟩)
  · exact .inr (.inr (.inl ⟨l, xs, ts, h1, s _ _ h2 (fun _ q => by cases q) (fun _ => h1), h3, each h4⟩))
  · exact .inr (.inr (.inr ⟨l, xs, ts, h1, s _ _ h2 (fun _ q => by cases q) (fun _ => h1), h3, each h4⟩))
end
/-! ### what is due -/
def Verd (C : Addr) (H : Hp) (w : Nat) (i0 : Itm) (its : List Itm) (o : Out) : Prop :=
  (∃ u, Lead C H i0.1 w u ∧ (∀ i ∈ its, Side C H w i.1 i.2.1 ∧ Shown C H i.1 i.2.2) ∧ o = outc w u its) ∨ (∃ g, Kd C H i0.1 g ∧ g ≠ .own ∧ Shown C H i0.1 i0.2.2 ∧ o = .word i0.1 i0.2.2)
theorem Verd.stay {C : Addr} {H H' : Hp} {w : Nat} {i0 : Itm} {its : List Itm} {o : Out} (h : Verd C H w i0 its o) (s0 : Stay i0.1 H H') (s : ∀ i ∈ its, Stay i.1 H H') : Verd C H' w i0 its o := by
  rcases h with ⟨u, ⟨x, e, W⟩, h, eo⟩ | ⟨g, d, ng, sh, eo⟩
  · exact .inl ⟨u, ⟨x, e, W.stay s0⟩, fun i hi => ⟨(h i hi).1.stay (s i hi), (h i hi).2.stay (s i hi)⟩, eo⟩
  · exact .inr ⟨g, d.stay s0, ng, sh.stay s0, eo⟩
theorem outc_word {C : Addr} {H : Hp} {w : Nat} {y : V} {tx : Str} : ∀ {its : List Itm} {u : Int}, (∀ i ∈ its, Side C H w i.1 i.2.1 ∧ Shown C H i.1 i.2.2) → outc w u its = .word y tx → Shown C H y tx
  | [], _, _, e => by cases e
  | (x, .val v, t) :: l, u, h, e => outc_word (fun i hi => h i (List.mem_cons_of_mem _ hi)) e
  | (x, .unlike w', t) :: l, u, h, e => by cases e
  | (x, .bad, t) :: l, u, h, e => by
    cases e
    exact (h _ List.mem_cons_self).2
theorem outc_unlike {C : Addr} {H : Hp} {w w' : Nat} : ∀ {its : List Itm} {u : Int}, (∀ i ∈ its, Side C H w i.1 i.2.1 ∧ Shown C H i.1 i.2.2) → outc w u its = .unlike w' → w' ≤ 64
  | [], _, _, e => by cases e
  | (x, .val v, t) :: l, u, h, e => outc_unlike (fun i hi => h i (List.mem_cons_of_mem _ hi)) e
  | (x, .unlike w2, t) :: l, u, h, e => by
    cases e
    have s := (h _ List.mem_cons_self).1
    cases s with
    | unlike W ne => exact W.w64
  | (x, .bad, t) :: l, u, h, e => by cases e
section
variable {K : PySem.W.Frag} {C B1 B2 U p : Addr} {H H' : Hp} {w : Nat} {o : Out} {Q : VK}
theorem th_str {s : Str} : Thg K C p (.str s) (reprText s) H := .inl (.inr (.inl ⟨s, rfl, rfl⟩))
theorem small_log {n : Nat} (h : n ≤ 64) : ((n : Int)).natAbs.log2 < 1920 := by
  have : ((n : Int)).natAbs < 2 ^ 64 := by
    have : n < 2 ^ 64 := Nat.lt_of_le_of_lt h (by decide)
    simpa using this
  have := PySem.Flt.log2_lt_of (by decide) this
  omega
theorem th_nat {n : Nat} (h : n ≤ 64) : Thg K C p (.int (n : Int)) (PyData.shown (.int (n : Int))) H := .inl (.inl (.inr (.inr ⟨_, rfl, small_log h, rfl⟩)))
theorem th_word {a : Addr} {u : Int} (W : WordAt C H a w u) : Thg K C p (.ref a) (wtext w u) H := by
  obtain ⟨dx, h⟩ := W.ob
  exact .inl (.inr (.inr ⟨a, dx, _, rfl, h, w, u, W, rfl⟩))
/-- a tuple that tells it, new at p -/
def Tells (K : PySem.W.Frag) (C : Addr) (w : Nat) (o : Out) (H : Hp) (Q : VK) : Prop := ∀ p H' ys, Ex H H' → H p = none → H' p = some (.tup ys) → Each (Thg K C p) ys (o.ts w) H' → Q (.ref p) H'
theorem Tells.ex (k : Tells K C w o H Q) (e : Ex H H') : Tells K C w o H' Q := fun p H2 ys e2 np h t => k p H2 ys (e.trans e2) (back e np) h t
theorem out_heard (k : Tells K C w o H Q) (w64 : w ≤ 64) (sh : ∀ y tx, o = .word y tx → Shown C H y tx) (un : ∀ w', o = .unlike w' → w' ≤ 64) : OutK C B2 U w o H (fun v H2 => Tup H2 [.str "made", v] Q) (HE3 B1 B2 U Q) := by
  cases o with
  | made v => exact fun a H' e W p H2 np e2 hp => k p H2 _ (e.trans e2) (back e np) hp (two_each th_str (th_word (W.ex e2)))
  | word y tx => exact fly_value fun H1 e1 p H2 np e2 hp => k p H2 _ (e1.trans e2) (back e1 np) hp (two_each th_str (mon_Thg _ _ _ _ e2 (((sh y tx rfl).ex e1).at np)))
  | unlike w' => exact fly_unlike fun H1 e1 p H2 np e2 hp => k p H2 _ (e1.trans e2) (back e1 np) hp (three_each th_str (th_nat w64) (th_nat (un w' rfl)))
end
def spAsked (K : PySem.W.Frag) (C : Addr) (TL : List (Addr × Str)) : Sp := fun vs H Q _ => ∃ l i0 its w o, vs = [.ref l] ∧ H l = some (.lst ((i0 :: its).map (·.1))) ∧ its.length ≤ 3 ∧ LamX.Tabs TL H ∧ w ≤ 64 ∧ Verd C H w i0 its o ∧
  ∀ H1, LamX.ExtN H H1 → LamX.Tabs TL H1 → Tells K C w o H1 Q
def spDue (K : PySem.W.Frag) (C : Addr) : Sp := fun vs H Q _ => ∃ l i0 its w o, vs = [.ref l] ∧ H l = some (.lst ((i0 :: its).map (·.1))) ∧ its.length ≤ 3 ∧ w ≤ 64 ∧ Verd C H w i0 its o ∧ Tells K C w o H Q
/-- a thing that is drawn -/
def spThing (C : Addr) : Sp := fun vs H Q _ => ∃ z c cells t, ∃ w : Nat, vs = [.ref z, .int w] ∧ PenAt H z c cells t ∧ t ≤ 80000 ∧ 1 ≤ w ∧ w ≤ 64 ∧
  ∀ y r tx H', Side C H' w y r → Shown C H' y tx → tx.length ≤ 100 → (∀ a, y = .ref a → H a = none) → PenAt H' z c cells (t + 6) → Fw z H H' → Q y H'
theorem at0 {y : V} {ys : List V} : atI (y :: ys) 0 = some y := by
  have h : (y :: ys)[0]? = some y := rfl
  exact atI_nat h
theorem cut1 (y : V) (ys : List V) : cutV (y :: ys) (some 1) none = ys := by
  unfold cutV
  have e : HT.sIx (y :: ys).length 0 (some (1 : Int)) = min 1 (y :: ys).length := HT.sIx_nat (y :: ys).length 0 1
  rw [HT.sIx_none, e, List.length_cons, Nat.min_eq_left (by omega), List.drop_succ_cons, List.drop_zero, List.take_of_length_le (by omega)]
theorem Fw.back {z p : Addr} {H H' : Hp} (f : Fw z H H') (np : H' p = none) (n : p ≠ z) : H p = none := by
  cases q : H p with
  | none => rfl
  | some o =>
    rw [f _ _ n q] at np
    cases np
section
variable {C : Addr} {H : Hp}
theorem sh_int {i : Int} (h : i.natAbs.log2 < 1920) : Shown C H (.int i) (PyData.shown (.int i)) := .inl (.inl (.inr (.inr ⟨i, rfl, h, rfl⟩)))
theorem sh_bl (b : Bool) : Shown C H (.bl b) (PyData.shown (.bool b)) := .inl (.inl (.inr (.inl ⟨b, rfl, rfl⟩)))
theorem sh_non : Shown C H .non "None" := .inl (.inl (.inl ⟨rfl, rfl⟩))
theorem sh_str (s : Str) : Shown C H (.str s) (reprText s) := .inl (.inr (.inl ⟨s, rfl, rfl⟩))
theorem sh_word {a : Addr} {w : Nat} {u : Int} (W : WordAt C H a w u) : Shown C H (.ref a) (wtext w u) := by
  obtain ⟨dx, h⟩ := W.ob
  exact .inl (.inr (.inr ⟨a, dx, _, rfl, h, w, u, W, rfl⟩))
theorem sh_dic {a : Addr} (h : H a = some (.dK [])) : Shown C H (.ref a) "{}" := .inr (.inl ⟨a, rfl, h, rfl⟩)
theorem log_64 {i : Int} (h0 : 0 ≤ i) (h1 : i ≤ 18446744073709551616) : i.natAbs.log2 < 1920 := by
  have : i.natAbs < 2 ^ 65 := by omega
  have := PySem.Flt.log2_lt_of (by decide) this
  omega
theorem len_64 {i : Int} (h0 : 0 ≤ i) (h1 : i ≤ 18446744073709551616) : (PyData.shown (.int i)).length ≤ 100 := by
  rw [PyData.shown_int]
  exact Nat.le_trans (PyProof.Rows.toString_length_le h0 (k := 20) (by decide) (by omega)) (by decide)
theorem len_bl (b : Bool) : (PyData.shown (.bool b)).length ≤ 100 := by
  rw [PyData.shown_bool]
  cases b <;> decide +kernel
end
theorem minus1 : (-1 : Int).natAbs.log2 < 1920 ∧ (PyData.shown (.int (-1))).length ≤ 100 := by
  refine ⟨by decide, ?_⟩
  rw [PyData.shown_int]
  decide +kernel
def spLawT (K : PySem.W.Frag) (TL : List (Addr × Str)) : Sp := fun vs H Q _ => ∃ (a : Addr) (ns : List Int), vs = [.ref a] ∧ SqL K H a (ns.map V.int) ∧ ns.length ≤ 63 ∧ LamX.Tabs TL H ∧ ∀ H', Q (.bl true) H'
theorem outc_short {C : Addr} {H : Hp} {w : Nat} (w1 : 1 ≤ w) (w64 : w ≤ 64) : ∀ {its : List Itm} {s : Int}, 0 ≤ s → s ≤ mw w → (∀ i ∈ its, Side C H w i.1 i.2.1 ∧ i.2.2.length ≤ 10000) → ∀ t ∈ (outc w s its).ts w, t.length ≤ 10000
  | [], s, s0, s1, _, t, ht => by
    have m64 := mw_64 w64
    have ht : t ∈ [reprText "made", wtext w s] := ht
    rcases List.mem_cons.mp ht with rfl | ht
    · decide +kernel
    · rw [List.mem_singleton.mp ht]
      exact Nat.le_trans (wtext_len w64 s0 (by omega)) (by decide)
  | (x, .val v, tx) :: l, s, s0, s1, h, t, ht => by
    have b := (h _ List.mem_cons_self).1.val_bd
    have cb := cr_bd w1 (s + v)
    exact outc_short w1 w64 cb.1 cb.2 (fun i hi => h i (List.mem_cons_of_mem _ hi)) t ht
  | (x, .unlike w', tx) :: l, s, s0, s1, h, t, ht => by
    have sd := (h _ List.mem_cons_self).1
    have hw : w' ≤ 64 := by
      cases sd with
      | unlike W ne => exact W.w64
    have ht : t ∈ [reprText "unlike", PyData.shown (.int (w : Int)), PyData.shown (.int (w' : Int))] := ht
    rcases List.mem_cons.mp ht with rfl | ht
    · decide +kernel
    · rcases List.mem_cons.mp ht with rfl | ht
      · exact Nat.le_trans (len_64 (by omega) (by omega)) (by decide)
      · rw [List.mem_singleton.mp ht]
        exact Nat.le_trans (len_64 (by omega) (by omega)) (by decide)
  | (x, .bad, tx) :: l, s, s0, s1, h, t, ht => by
    have ht : t ∈ [reprText "word", tx] := ht
    rcases List.mem_cons.mp ht with rfl | ht
    · decide +kernel
    · rw [List.mem_singleton.mp ht]
      exact (h _ List.mem_cons_self).2
theorem ts_len (w : Nat) (o : Out) : (o.ts w).length ≤ 100 := by
  cases o <;> (show _ ≤ 100; simp [Out.ts])
theorem word_short {w : Nat} {y : V} {tx : Str} (h : tx.length ≤ 10000) : ∀ t ∈ (Out.word y tx).ts w, t.length ≤ 10000 := fun t ht => by
  have ht : t ∈ [reprText "word", tx] := ht
  rcases List.mem_cons.mp ht with rfl | ht
  · decide +kernel
  · rw [List.mem_singleton.mp ht]
    exact h
theorem bits_short {u w : Nat} (h : w ≤ 64) : (reprText (SX.S (bt u w))).length ≤ 10000 := by
  have e := StrLaws.reprText_len (SX.S (bt u w)) fun c hc => by
    have z : c ∈ bt u w := hc
    rcases bt_mem z with rfl | rfl <;> decide
  have l : (SX.S (bt u w)).length = w := by rw [SX.S_len, bt_len]
  have s : (reprText (SX.S (bt u w))).length ≤ 10 * (SX.S (bt u w)).length + 2 := by
    refine Nat.le_trans (Nat.le_of_eq ?_) e
    simp [Str.length]
  omega
theorem Kd.told {C a : Addr} {H : Hp} {y : V} {g : Tag} (d : Kd C H y g) (e : y = .ref a) : ¬ H a = none := fun n => by
  cases d with
  | non => cases e
  | bl b => cases e
  | int i => cases e
  | str z => cases e
  | lst h => cases e; rw [n] at h; cases h
  | tup h => cases e; rw [n] at h; cases h
  | dic h => cases e; rw [n] at h; cases h
  | own W =>
    obtain ⟨_, h⟩ := W.ob
    cases e
    rw [n] at h
    cases h
theorem Side.told {C a : Addr} {H : Hp} {w : Nat} {y : V} {r : Res} (s : Side C H w y r) (e : y = .ref a) : ¬ H a = none := by
  obtain ⟨g, d⟩ := s.kd
  exact d.told e
end Tz
namespace Tz
open PySem PySem.Spec PyProof.Rows L2 TzF TzRepr
/-! ### what makes no word -/
def NoWidth (y : V) : Prop := ∀ n, y = .int n → ¬ (1 ≤ n ∧ n ≤ 64)
def NoVal (w : Nat) (y : V) : Prop := ∀ n, y = .int n → ¬ (0 ≤ n ∧ n ≤ mw w)
/-- no text of 1 to 64 bits -/
def NoBits (y : V) : Prop := ∀ z, y = .str z → (z.length ≤ sizeLine ∧ (z.length = 0 ∨ 64 < z.length)) ∨ (z.length ≤ 64 ∧ ∃ c ∈ z.cps.toList, ¬ TzBit.IsBit c)
def isb (c : Nat) : Bool := decide (c ∈ ("01" : Str).cps.toList)
theorem isb_iff (c : Nat) : c ∈ ("01" : Str).cps.toList ↔ TzBit.IsBit c := by
  have e : ("01" : Str).cps.toList = [48, 49] := by decide +kernel
  rw [e]
  unfold TzBit.IsBit
  simp
def spWidthX (C B : Addr) : Sp := fun vs H Q E => ∃ y g, vs = [y] ∧ Kd C H y g ∧ NoWidth y ∧ Flies B [("width", y)] H E
def spInitX (C B1 B2 : Addr) : Sp := fun vs H Q E => ∃ p dx y g v gv, vs = [.ref p, y, v] ∧ H p = some (.ins C dx []) ∧ Kd C H y g ∧ Kd C H v gv ∧
  ((NoWidth y ∧ Flies B1 [("width", y)] H E) ∨ ∃ w : Nat, y = .int w ∧ 1 ≤ w ∧ w ≤ 64 ∧ NoVal w v ∧ Flies B2 [("value", v)] H E)
def spBitsX (C : Addr) : Sp := fun vs H Q _ => ∃ y g, vs = [y] ∧ Kd C H y g ∧ NoBits y ∧ ∀ H', Ex H H' → Q (.bl false) H'
def spOddW (C B : Addr) : Sp := fun vs H Q E => ∃ y g, vs = [y] ∧ Kd C H y g ∧ NoWidth y ∧ Flies B [("width", y)] H E
def spReadX (C B : Addr) : Sp := fun vs H Q E => ∃ y g, vs = [.ref C, y] ∧ Kd C H y g ∧ NoBits y ∧ Flies B [("value", y)] H E
/-! ### isinstance of a caught error that has fields -/
def rIsEd (K : PySem.W.Frag) (a : Addr) (k : Value) (d : Option Addr) : List V → Hp → VK → Prop := fun xs H Q => ∃ (D dd : Addr) (fs : List (Str × V)) (c : V) (cv : Value) (b : Bool),
  k = .ref D ∧ ExcC K D ∧ d = some dd ∧ H dd = some (.xd fs) ∧ xs = [.ref a, c] ∧ (∀ u, RelV c u → u = cv) ∧ PySem.W.kitOne K (.ref D) cv = some b ∧ Q (.bl b) H
theorem call_isEd {X : Cx} {a : Addr} {k : Value} {d : Option Addr} {oe : Obj} {pn : List (Addr × Obj)} (hz : Zc k d oe) (hf : ∃ vs, oe.data = .fields vs) : CallR (X.suite a ((a, oe) :: pn)) (.builtin "isinstance") (rIsEd X.K a k d) := by
  intro pins s σ H xs us Q I r h
  obtain ⟨D, dd, fs, c, cv, b, rfl, C, rfl, ea, rfl, hcv, e, q⟩ := h
  cases r with
  | cons rx rr =>
    cases rr with
    | cons rt rr =>
      cases rr
      cases rx
      have ec := hcv _ rt
      subst ec
      obtain ⟨ha, _⟩ := I.pin (a, oe) (List.mem_append.mpr (.inl List.mem_cons_self))
      obtain ⟨vs, hd⟩ := hf
      have hx : ObjOk X.prog X.w H s.heap dd (.xd fs) := I.hok dd _ ea
      obtain ⟨mA, hns, hr⟩ := hx
      obtain ⟨od, ho, hl⟩ := lookIn_ns hns
      have J : PySem.W.InstAt s.heap a oe D (some od) := ⟨ha, hz.1, by unfold PySem.W.notCls; rw [hd] <;> rfl, by rw [hz.2]; exact ho⟩
      have hcl : (PySem.W.clsIn X.K D).isSome = true := by
        obtain ⟨cd, hc, _⟩ := PySem.W.any_some C.hd
        rw [hc]
        rfl
      exact PySem.W.kia_one (PySem.W.kitx_exc hcl C.hg C.hk C.hs C.ha C.hn C.ht C.hm) I.kIn J e (fun z => nomatch z) fun tk => ⟨.bl b, H, I.kept (t' := tk) fun _ _ z => z, rfl, q⟩
/-- what a caught error is asked -/
def TTE (HE : VK → XK) : (XK → Hp → VK → Prop) → Hp → VK → Prop := fun tl H Q => tl (HE Q) H (fun _ H1 => Q (.bl false) H1)
def HEE (B1 B2 : Addr) (Q : VK) : XK := fun k d H => ∃ (D dd : Addr) (fs : List (Str × V)), (D = B1 ∨ D = B2) ∧ k = .ref D ∧ d = some dd ∧ H dd = some (.xd fs) ∧ ∀ H1, Ex H H1 → Q (.bl true) H1
theorem fly_e1 {B1 B2 : Addr} {Q : VK} {H : Hp} {fs : List (Str × V)} (h : ∀ H1, Ex H H1 → Q (.bl true) H1) : Flies B1 fs H (HEE B1 B2 Q) := fun d H' e q => ⟨B1, d, fs, .inl rfl, rfl, rfl, q, fun H1 e1 => h H1 (e.trans e1)⟩
theorem fly_e2 {B1 B2 : Addr} {Q : VK} {H : Hp} {fs : List (Str × V)} (h : ∀ H1, Ex H H1 → Q (.bl true) H1) : Flies B2 fs H (HEE B1 B2 Q) := fun d H' e q => ⟨B2, d, fs, .inr rfl, rfl, rfl, q, fun H1 e1 => h H1 (e.trans e1)⟩
/-! ### things -/
section
variable {C a : Addr} {H : Hp}
theorem fl_int {i : Int} (h : i.natAbs.log2 < 1920) : Flat C (.int i) (PyData.shown (.int i)) H := .inl (.inr (.inr ⟨i, rfl, h, rfl⟩))
theorem fl_str (s : Str) : Flat C (.str s) (reprText s) H := .inr (.inl ⟨s, rfl, rfl⟩)
theorem each1 {D : Rpr} {x : V} {t : Str} (h : D x t H) : Each D [x] [t] H := ⟨rfl, fun i y s e1 e2 => by
  match i with
  | 0 => cases e1; cases e2; exact h
  | i + 1 => simp at e1⟩
theorem each0 {D : Rpr} : Each D [] [] H := ⟨rfl, fun i y s e1 e2 => by simp at e1⟩
theorem sh_lst1 {x : V} {t : Str} (h : H a = some (.lst [x])) (f : Flat C x t H) : Shown C H (.ref a) (listText [t]) := .inr (.inr (.inl ⟨a, _, _, rfl, h, rfl, each1 f⟩))
theorem sh_tup1 {x : V} {t : Str} (h : H a = some (.tup [x])) (f : Flat C x t H) : Shown C H (.ref a) (tupleText [t]) := .inr (.inr (.inr ⟨a, _, _, rfl, h, rfl, each1 f⟩))
theorem sh_tup0 (h : H a = some (.tup [])) : Shown C H (.ref a) (tupleText []) := .inr (.inr (.inr ⟨a, _, _, rfl, h, rfl, each0⟩))
theorem sh_tup2 {x y : V} {t u : Str} (h : H a = some (.tup [x, y])) (f : Flat C x t H) (g : Flat C y u H) : Shown C H (.ref a) (tupleText [t, u]) := .inr (.inr (.inr ⟨a, _, _, rfl, h, rfl, two_each f g⟩))
end
/-- a thing that is drawn, of no use -/
def Odd1 (C : Addr) (bad : V → Prop) (H H' : Hp) (y : V) (tx : Str) : Prop := (∃ g, Kd C H' y g) ∧ bad y ∧ Shown C H' y tx ∧ tx.length ≤ 1000 ∧ ∀ a, y = .ref a → H a = none
def DrawnK (C : Addr) (bad : V → Prop) (z c : Addr) (cells : List Int) (t : Nat) (H : Hp) (Q : VK) : Prop := ∀ y tx H', Odd1 C bad H H' y tx → PenAt H' z c cells (t + 1) → Fw z H H' → Q y H'
def spNoWidth (C : Addr) : Sp := fun vs H Q _ => ∃ z c cells t, vs = [.ref z] ∧ PenAt H z c cells t ∧ t ≤ 80000 ∧ DrawnK C NoWidth z c cells t H Q
def spNoValue (C : Addr) : Sp := fun vs H Q _ => ∃ z c cells t, ∃ w : Nat, vs = [.ref z, .int w] ∧ PenAt H z c cells t ∧ t ≤ 80000 ∧ 1 ≤ w ∧ w ≤ 64 ∧ DrawnK C (NoVal w) z c cells t H Q
def spNoText (C : Addr) : Sp := fun vs H Q _ => ∃ z c cells t, ∃ w : Nat, vs = [.ref z, .int w] ∧ PenAt H z c cells t ∧ t ≤ 80000 ∧ 1 ≤ w ∧ w ≤ 64 ∧ DrawnK C NoBits z c cells t H Q
theorem NoBits.off {y : V} (h : ∀ z, y ≠ .str z) : NoBits y := fun z e => absurd e (h z)
theorem NoWidth.off {y : V} (h : ∀ n, y ≠ .int n) : NoWidth y := fun n e => absurd e (h n)
theorem NoVal.off {w : Nat} {y : V} (h : ∀ n, y ≠ .int n) : NoVal w y := fun n e => absurd e (h n)
theorem op_mul_str {X : Cx} : OpR X (binaryOp .Mult) (fun x y H Q => ∃ z n, x = .str z ∧ y = .int n ∧ MulOk z n ∧ Q (.str (Txt.mul z n)) H) := by
  intro pins s σ H x y v u Q I rx ry h
  obtain ⟨z, n, rfl, rfl, ok, q⟩ := h
  obtain ⟨t, rfl⟩ := rx
  obtain ⟨t', rfl⟩ := ry
  exact SB.mul ok fun t'' k => ⟨.str _, H, I.tok _, ⟨_, rfl⟩, q⟩
def bb : List Nat := (List.replicate 33 [48, 49]).flatten
theorem bb_mul : Txt.mul ("01" : Str) 33 = SX.S bb := by decide +kernel
theorem bb_bit : ∀ c ∈ bb, TzBit.IsBit c := by
  unfold TzBit.IsBit
  decide +kernel
theorem cutS_to {l : List Nat} {n : Nat} (h : n ≤ l.length) : cutS (SX.S l) none (some (n : Int)) = SX.S (l.take n) := by rw [C8.cutS_slice, SX.slice_to (by omega), Int.toNat_natCast]
theorem nob {s : Str} (c : Nat) (hl : s.length ≤ 64) (hc : c ∈ s.cps.toList) (nb : ¬ TzBit.IsBit c) : NoBits (.str s) := fun z e => by
  cases e
  exact .inr ⟨hl, c, hc, nb⟩
theorem rep_short {l : List Nat} (h : ∀ c ∈ l, c < 16 ^ 8) (n : l.length ≤ 90) : (reprText (SX.S l)).length ≤ 1000 := by
  have e := StrLaws.reprText_len (SX.S l) h
  have q : (SX.S l).length = l.length := SX.S_len l
  have s : (reprText (SX.S l)).length ≤ 10 * (SX.S l).length + 2 := by
    refine Nat.le_trans (Nat.le_of_eq ?_) e
    simp [Str.length]
  omega
theorem short2 {a b : Str} (ha : a.length ≤ 1000) (hb : b.length ≤ 1000) : (tupleText [a, b]).length ≤ sizeLine := short_tup (fun t ht => by
  rcases List.mem_cons.mp ht with rfl | ht
  · omega
  · rw [List.mem_singleton.mp ht]
    omega) (by show 2 ≤ 100; decide)
theorem exn {H H' : Hp} (e : Ex H H') : LamX.ExtN H H' := fun a o h _ => e a o h
structure ExcK (K : PySem.W.Frag) (D : Addr) : Prop where
  ha : PySem.W.findIn K (.ref D) "__class__" = some (some (.builtin "object.__class__"))
  hm : PySem.W.mroIn K D (.type "object") = some true
  kv : PySem.W.kitOne K (.ref D) (.type "ValueError") = some true
def excB (K : PySem.W.Frag) (D : Addr) : Bool := eqV (PySem.W.findIn K (.ref D) "__class__") (some (some (.builtin "object.__class__"))) && (decide (PySem.W.mroIn K D (.type "object") = some true) && decide (PySem.W.kitOne K (.ref D) (.type "ValueError") = some true))
theorem excK_ok {K : PySem.W.Frag} {D : Addr} (h : excB K D = true) : ExcK K D := by
  obtain ⟨h1, h⟩ := two h
  obtain ⟨h2, h3⟩ := two h
  exact ⟨of_decide_eq_true h1, of_decide_eq_true h2, of_decide_eq_true h3⟩
theorem new_two {C x dx : Addr} {H : Hp} (nx : H x = none) (ndx : H dx = none) (ne : dx ≠ x) : Ex H (upd (upd H dx (.own x)) x (.ins C dx [])) := fun b o h => by
  rw [upd_ne (ne_of_none h nx), upd_ne (ne_of_none h ndx)]
  exact h
end Tz
namespace TzFmt
open PySem PySem.Spec PyProof.Rows L2
/-- the digits of n to the base 2 -/
def bin (n : Nat) : PySem.Str := ⟨((Nat.toDigits 2 n).map Char.toNat).toArray⟩
def fb : PySem.Builtin.Float.FormatSpec := { align := 62, type := some 98 }
theorem pf (name : String) : PySem.Builtin.Float.parseFormatSpec ("b" : PySem.Str).cps.toList name 62 = .ok fb := by rfl
theorem field_b (n : Nat) : intField' fb false [] ((Nat.toDigits 2 n).map fun c => (if (98 : Nat) == 88 then c.toUpper else c).toNat) [] 4 = bin n := by
  have e1 : ((Nat.toDigits 2 n).map fun c => (if (98 : Nat) == 88 then c.toUpper else c).toNat) = (Nat.toDigits 2 n).map Char.toNat := rfl
  rw [e1]
  have e2 : ((Nat.toDigits 2 n).map Char.toNat).isEmpty = false := by
    have := tDigits_len_ge 2 n
    cases h : Nat.toDigits 2 n with
    | nil => rw [h] at this; simp at this
    | cons a l => rfl
  unfold bin
  generalize (Nat.toDigits 2 n).map Char.toNat = ds at e2
  unfold intField'
  have e3 : fb.width = none := rfl
  have e4 : fb.fill = 32 := rfl
  have e5 : fb.align = 62 := rfl
  have e6 : fb.grouping = none := rfl
  have e7 : fb.sign = none := rfl
  have e8 : (-1 - ((0 : Nat) : Int) - (ds.length : Int)).toNat = 0 := by omega
  simp [e2, e3, e4, e5, e6, e7]
  all_goals omega
section
variable {prog : Program} {w : World} {A : Around} {E : Value → Shared → Prop} {s : Shared}
theorem format_b {n : Nat} {t : Tok} {Q : Value → Shared → Prop} (hl : (bin n).length ≤ sizeLine) (h : Q (.str (bin n) (s.toks + 1)) { s with toks := s.toks + 1 + 1 }) : wpAny (model prog w) A (formatField (.int n t) "b") Q E s := by
  show wpAny _ _ (holding [.int (n : Int) t] (pyFormat (.int n t) "b")) Q E s
  refine wpAny_holding ?_
  unfold pyFormat
  refine wpAny_bind (wpAny_mkStr ?_ (by decide))
  refine wpAny_bind (m := callSpecial? (.int (n : Int) t) (Str.ofString "__format__") [.str "b" s.toks]) ?_
  refine wpAny_callSpecial?_slot (name := Str.ofString "__format__") (typeIs_int _ (n : Int) t) slot_int_format (wpAny_call (codeAny_call_builtin slot_int_format.plain entry_int_format (slot_int_format.check _ _ _ _ _ _ _ _ (typeIs_int _ (n : Int) t) (args_int_format _ _) ?_)))
  unfold Builtin.«int.__format__»
  simp only [selfAndOne, noKeywords, Builtin.Int.intOfSelf, asInt?, asStr?, List.isEmpty_nil, if_true, pure_bind, bind_pure, bind_assoc, show (Value.str "b" s.toks == Value.none) = false from rfl, show (("b" : PySem.Str).length == 0) = false from rfl, Bool.false_eq_true, if_false]
  refine wpAny_bind (wpAny_typeNameOf (T := "str") (typeIs_str _ "b" _) (by decide) fun _ => ?_)
  refine wpAny_bind (wpAny_typeNameOfCut_int ?_)
  simp only [pf]
  have hty : fb.type.getD (if (("b" : PySem.Str).cps.back? == some 0) = true then 0 else 100) = 98 := rfl
  simp only [hty]
  rw [if_pos (by decide)]
  have e0 : decide ((n : Int) < 0) = false := decide_eq_false (by omega)
  have fin := field_b n
  have h1 : fb.precision.isSome = false := rfl
  have h2 : fb.noNeg0 = false := rfl
  have h3 : fb.alt = false := rfl
  have h4 : fb.width = none := rfl
  have h5 : fb.fill = 32 := rfl
  have h6 : fb.align = 62 := rfl
  have h7 : fb.grouping = none := rfl
  have h8 : fb.sign = none := rfl
  generalize fb = f at h1 h2 h3 h4 h5 h6 h7 h8 fin
  show wpAny _ _ (if _ then _ else _) _ _ _
  rw [if_neg (by simp [h1])]
  show wpAny _ _ (if _ then _ else _) _ _ _
  rw [if_neg (by simp [h2])]
  show wpAny _ _ (if _ then _ else _) _ _ _
  rw [if_neg (by decide)]
  show wpAny _ _ (if _ then _ else _) _ _ _
  rw [if_neg (by decide)]
  show wpAny _ _ (if _ then _ else _) _ _ _
  rw [if_neg (by simp [h4])]
  show wpAny _ _ (retStr _) _ _ _
  unfold retStr
  rw [h3, if_neg (by decide), e0]
  have e2 : ((Nat.toDigits 2 (n : Int).natAbs).map fun c => (if (98 : Nat) == 88 then c.toUpper else c).toNat).isEmpty = false := by
    have := tDigits_len_ge 2 n
    show ((Nat.toDigits 2 n).map _).isEmpty = false
    cases h : Nat.toDigits 2 n with
    | nil => rw [h] at this; simp at this
    | cons a l => rfl
  have e3 : bin n = ⟨((Nat.toDigits 2 (n : Int).natAbs).map fun c => (if (98 : Nat) == 88 then c.toUpper else c).toNat).toArray⟩ := rfl
  rw [e3] at hl h
  generalize ((Nat.toDigits 2 (n : Int).natAbs).map fun c => (if (98 : Nat) == 88 then c.toUpper else c).toNat) = ds at e2 hl h
  have e8 : (-1 - (ds.length : Int)).toNat = 0 := by omega
  refine wpAny_bind (wpAny_mkStr (wpAny_pure ?_) ?hs2)
  case hs2 =>
    conv => lhs; arg 1; whnf
    simp only [h4, h5, h6, h7, h8]
    simp [e2, e8]
    generalize instDecidableEqBool (f.align == 60) true = d
    cases d <;> simpa using hl
  dsimp only
  refine wpAny_bind (wpAny_isInstance (typeIs_str _ _ _) isSubtype_str_str (wpAny_pure ?_))
  conv => arg 1; arg 1; whnf
  simp only [h4, h5, h6, h7, h8]
  simp [e2, e8]
  generalize instDecidableEqBool (f.align == 60) true = d
  cases d <;> simpa using h
end
end TzFmt
namespace TzTry
open PySem PySem.Spec PyProof.Rows L2
/-! an error that is caught and kept by another name: what stands behind the try is judged with the error at hand -/
/-- no end at all -/
def never : Ends := ⟨fun _ _ => False, fun _ _ => False, fun _ _ => False, fun _ _ => False⟩
/-- the only end is the last row's -/
def thenK (i : Nat) (t : TS) (D : Ends) : Ends := ⟨fun z J => t D (z.set i none) J, fun _ _ => False, fun _ _ => False, fun _ _ => False⟩
def wKeep (K : PySem.W.Frag) (D : Ends) (c : Value) (i : Nat) (ts t1 : Addr → Value → Option Addr → TS) : WX := fun k d z J => PySem.W.exmOne K k c = some true ∧ ∀ a, J a = none → ts a k d (thenK i (t1 a k d) D) (z.set i (some (.ref a))) J
section
variable {X : Cx} {body rest : List Stmt} {pos p1 p2 : Pos} {tb : WX → TS} {x n : Str} {i : Nat} {c : Value} {ts t1 : Addr → Value → Option Addr → TS} {st : Stmt} {sts : List Stmt}
theorem sp_tr {pins pn : List (Addr × Obj)} {p : Addr × Obj} {D : Ends} {fl : Flow} {s : Shared} (ok : X.Ok) (h : SP (X.tr (p :: (X.pn ++ pins)) X.xe) [] D fl s) : SP X pins D fl s := by
  have out : ∀ {σ H}, L2.Inv (X.tr (p :: (X.pn ++ pins)) X.xe) [] σ H s → L2.Inv X pins σ H s := fun I => ⟨ok, I.os, I.bare, I.base, I.loc, I.cell, I.free, I.freeC, fun q hq => I.pin q (List.mem_append_left _ (List.mem_cons_of_mem _ hq)), I.hok, I.len⟩
  cases fl with
  | next =>
    obtain ⟨z, J, I, q⟩ := h
    exact ⟨z, J, out I, q⟩
  | brk =>
    obtain ⟨z, J, I, q⟩ := h
    exact ⟨z, J, out I, q⟩
  | cont =>
    obtain ⟨z, J, I, q⟩ := h
    exact ⟨z, J, out I, q⟩
  | ret v =>
    obtain ⟨y, z, J, I, r, q⟩ := h
    exact ⟨y, z, J, out I, r, q⟩
theorem pss_keep (top : X.stack = X.env :: X.outer) (fr : X.env.frame = some X.env.locals) (nd : X.N.Nodup)
    (tries : ∀ (W : WX) (ps : List (Addr × Obj)) (out : Value → Shared → Prop), Takes (X.tr ps out) W → PassesOwn (model X.prog X.w) X.A X.env out → PSs (X.tr ps out) body (tb W))
    (known : Names X x c) (slot : X.N[i]? = some n) (loc : X.env.kindOf n = some .local)
    (suite : ∀ (a : Addr) (o : Obj) (k : Value) (d : Option Addr) (ps : List (Addr × Obj)), Zc k d o → (∃ us, o.data = .fields us) → PSs (X.suite a ((a, o) :: ps)) (st :: sts) (ts a k d))
    (behind : ∀ (a : Addr) (o : Obj) (k : Value) (d : Option Addr) (ps : List (Addr × Obj)), Zc k d o → (∃ us, o.data = .fields us) → PSs (X.tr ((a, o) :: ps) X.xe) rest (t1 a k d)) :
    PSs X (.Try body [.ExceptHandler (some (.Name x p1)) (some n) (st :: sts) p2] [] [] pos :: rest) (fun D z J => tb (atN X (wKeep X.K D c i ts t1)) never z J) := by
  refine ⟨fun pins s z J D I0 want => ?_⟩
  have fine := I0.ok
  have frames : X.A.frames = some (X.env :: X.outer) := by rw [fine.frames, top]
  have key : wpAny (model X.prog X.w) X.A (exec (.Try body [.ExceptHandler (some (.Name x p1)) (some n) (st :: sts) p2] [] [] pos) X.env) (fun fl s1 => fl = .next ∧ wpAny (model X.prog X.w) X.A (execs rest X.env) (SP X pins D) X.xe s1) X.xe s := by
    refine wpAny_Try_except ?_
    have inner := (tries (atN X (wKeep X.K D c i ts t1)) (X.pn ++ pins) (fun u s1 => wpAny (model X.prog X.w) X.A (noteFrame u X.env) (fun _ s2 => wpAny (model X.prog X.w) X.A (setFlight u none) (fun _ s3 => wpAny (model X.prog X.w) X.A (handleBy u X.env [.ExceptHandler (some (.Name x p1)) (some n) (st :: sts) p2]) (fun fl s1 => fl = .next ∧ wpAny (model X.prog X.w) X.A (execs rest X.env) (SP X pins D) X.xe s1) X.xe s3) X.xe s2) X.xe s1) (fun u s2 caught => ?_) PassesOwn.looking).run [] s z J never (I0.toTry _) want
    · refine wpAny_mono inner (fun fl s1 ends => ?_) fun u s1 q => q
      cases fl with
      | next =>
        obtain ⟨_, _, _, q⟩ := ends
        exact q.elim
      | brk =>
        obtain ⟨_, _, _, q⟩ := ends
        exact q.elim
      | cont =>
        obtain ⟨_, _, _, q⟩ := ends
        exact q.elim
      | ret v =>
        obtain ⟨_, _, _, _, _, q⟩ := ends
        exact q.elim
    · obtain ⟨a, B, sb, pins1, z1, J1, k, d, rfl, Ib, nb, upto, sky, na, os, bare, w⟩ := caught
      have I1 : L2.Inv X pins z1 J1 sb := Ib.ofTry fine
      rw [top] at sky
      show wpAny (model X.prog X.w) X.A (noteFrame (.ref a) X.env) _ _ _
      refine Sky.land Zc.steady frames fr sky fun h3 fl3 up3 => ?_
      have I3 : L2.Inv X pins z1 J1 { s2 with heap := h3 } := I1.landed nb fl3.1 (upto.trans up3) os bare
      obtain ⟨o3, us3, at3, zc3, dt3⟩ := fl3.there
      have apart : a ∉ frs (X.env :: X.outer) := fun hm => by
        obtain ⟨_, o', e', nf⟩ := fl3.2.2.1.mem hm
        rw [at3] at e'
        cases e'
        exact nf _ dt3
      have aL : a ≠ X.env.locals := fun q => apart (List.mem_filterMap.mpr ⟨X.env, List.mem_cons_self, by rw [fr, q]⟩)
      have aF : a ∉ X.fs := fun hm => by
        obtain ⟨e, he, q⟩ := List.mem_filterMap.mp hm
        exact apart (List.mem_filterMap.mpr ⟨e, List.mem_cons_of_mem _ he, q⟩)
      have S3 := I3.suite at3 dt3 na aL aF
      obtain ⟨is, yes⟩ := w I1.len
      refine wpAny_handleBy_cons (codeAny_handlers_test ?_) (by intro q; cases q)
      have T1 : PySem.W.Looks (model X.prog X.w) h3 (typeOf (.ref a)) k := fun A Q E s4 keeps q => wpAny_typeOf_ref (keeps _ _ at3) (by rw [zc3.1]; exact q)
      have T2 := PySem.W.exm_one (M := model X.prog X.w) I3.kIn T1 is
      have named : ∀ {Q : Value → Shared → Prop} {E : Value → Shared → Prop}, Q c { s2 with heap := h3 } → wpAny (model X.prog X.w) (X.A.mark (some (.ref a))) (eval (.Name x p1) X.env) Q E { s2 with heap := h3 } := fun {Q E} q => by
        obtain ⟨g, dbg, hm | ⟨hm, hv, hn⟩⟩ := known
        · exact ld_glob (X := X.suite a ((a, o3) :: (X.pn ++ pins))) S3 g hm q dbg
        · exact ld_blt (X := X.suite a ((a, o3) :: (X.pn ++ pins))) S3 g hm hv q hn dbg
      refine named (T2.here ?_)
      refine codeAny_handlers_suite_as ?_
      refine HandSPX.lands_againZ fl3 fun h4 fl4 up4 => ?_
      have I4 : L2.Inv X pins z1 J1 { s2 with heap := h4 } := I1.landed nb fl4.1 ((upto.trans up3).trans up4) os bare
      obtain ⟨o4, us4, at4, zc4, dt4⟩ := fl4.there
      have S4 := I4.suite at4 dt4 na aL aF
      refine store_ok (X := X.suite a ((a, o4) :: (X.pn ++ pins))) (v := .ref a) S4 nd slot (.inl loc) rfl (fun s5 S5 => ?_) (.inr loc)
      refine wpAny_mono ((suite a o4 k d (X.pn ++ pins) zc4 ⟨_, dt4⟩).run [] s5 _ J1 _ S5 (yes a na)) (fun fl s6 ends => ?_) fun _ _ q => False.elim q
      cases fl with
      | next =>
        obtain ⟨z6, J6, S6, q⟩ := ends
        have P6 : L2.Inv (X.tr ((a, o4) :: (X.pn ++ pins)) X.xe) [] z6 J6 s6 := ⟨fine.toTry _ _, S6.os, S6.bare, S6.base, S6.loc, S6.cell, S6.free, S6.freeC, S6.pin, S6.hok, S6.len⟩
        refine gone_ok (X := X.tr ((a, o4) :: (X.pn ++ pins)) X.xe) P6 nd slot loc fun s7 I7 => ⟨rfl, ?_⟩
        exact wpAny_mono ((behind a o4 k d (X.pn ++ pins) zc4 ⟨_, dt4⟩).run [] s7 _ J6 D I7 q) (fun fl s8 e => sp_tr (pn := []) fine e) fun _ _ e => e
      | brk =>
        obtain ⟨_, _, _, q⟩ := ends
        exact q.elim
      | cont =>
        obtain ⟨_, _, _, q⟩ := ends
        exact q.elim
      | ret v =>
        obtain ⟨_, _, _, _, _, q⟩ := ends
        exact q.elim
  refine wpAny_execs_cons (wpAny_mono key (fun fl s1 e => ?_) fun _ _ e => e)
  obtain ⟨rfl, q⟩ := e
  exact q
end
end TzTry
namespace Tz
open PySem PySem.Spec PyProof.Rows L2 TzF TzRepr
theorem call_isKept {X : Cx} {a : Addr} {k : Value} {d : Option Addr} {oe : Obj} (hp : (a, oe) ∈ X.pn) (hz : Zc k d oe) (hf : ∃ vs, oe.data = .fields vs) : CallR X (.builtin "isinstance") (rIsEd X.K a k d) := by
  intro pins s σ H xs us Q I r h
  obtain ⟨D, dd, fs, c, cv, b, rfl, C, rfl, ea, rfl, hcv, e, q⟩ := h
  cases r with
  | cons rx rr =>
    cases rr with
    | cons rt rr =>
      cases rr
      cases rx
      have ec := hcv _ rt
      subst ec
      obtain ⟨ha, _⟩ := I.pin (a, oe) (List.mem_append.mpr (.inl hp))
      obtain ⟨vs, hd⟩ := hf
      have hx : ObjOk X.prog X.w H s.heap dd (.xd fs) := I.hok dd _ ea
      obtain ⟨mA, hns, hr⟩ := hx
      obtain ⟨od, ho, hl⟩ := lookIn_ns hns
      have J : PySem.W.InstAt s.heap a oe D (some od) := ⟨ha, hz.1, by unfold PySem.W.notCls; rw [hd] <;> rfl, by rw [hz.2]; exact ho⟩
      have hcl : (PySem.W.clsIn X.K D).isSome = true := by
        obtain ⟨cd, hc, _⟩ := PySem.W.any_some C.hd
        rw [hc]
        rfl
      exact PySem.W.kia_one (PySem.W.kitx_exc hcl C.hg C.hk C.hs C.ha C.hn C.ht C.hm) I.kIn J e (fun z => nomatch z) fun tk => ⟨.bl b, H, I.kept (t' := tk) fun _ _ z => z, rfl, q⟩
theorem pe_xfKept {X : Cx} {a C : Addr} {oe : Obj} {cls : Value} {d : Option Addr} {e : Expr} {te : TE} {pos : Pos} {n : Str} (hp : (a, oe) ∈ X.pn) (T : XfC X.K C) (hno : PySem.W.findIn X.K (.ref C) n = some none)
    (hz : Zc cls d oe) (hf : ∃ vs, oe.data = .fields vs) (he : PE X e te) (hb : attributeBase e n X.env (eval e X.env) = eval e X.env := by rfl) : PE X (.Attribute e n pos) (tXf a cls d C n te) := by
  refine ⟨fun pins s σ H Q I h => attr_of hb (thn (he.run pins s σ H _ I h) fun u s1 hh => ?_)⟩
  obtain ⟨x, H1, I1, rx, ex, ec, dd, fs, v, ed, ea, l, q⟩ := hh
  subst ex ec ed
  obtain rfl : u = Value.ref a := rx
  obtain ⟨ha, _⟩ := I1.pin (a, oe) (List.mem_append_left _ hp)
  obtain ⟨vs, hd⟩ := hf
  obtain ⟨mA, hns, hr⟩ := (show ObjOk X.prog X.w H1 s1.heap dd (.xd fs) from I1.hok dd _ ea)
  obtain ⟨od, ho, hl⟩ := lookIn_ns hns
  obtain ⟨u, hu, ru⟩ := RelO.some_of (v := v) (o := mA n) (by rw [← l]; exact hr n)
  exact HandSPX.exc_get I1.kIn (show PySem.W.InstAt s1.heap a oe C (some od) from ⟨ha, hz.1, by unfold PySem.W.notCls; rw [hd] <;> rfl, by rw [hz.2]; exact ho⟩) T.ga T.gg T.exC (PySem.W.findObj_own T.hdC hno rfl (by rw [hl, hu])) (handed_of ru) ⟨v, H1, I1.tok _, ru, q⟩
/-- f'{x:b}' -/
def tFmtB (te ts : TE) : TE := fun σ H Q => te σ H fun x H1 => ∃ n : Nat, x = .int n ∧ (TzFmt.bin n).length ≤ sizeLine ∧ ts σ H1 fun y H2 => y = .str "b" ∧ Q (.str (TzFmt.bin n)) H2
theorem pe_fmtb {X : Cx} {e sp : Expr} {te ts : TE} {pos : Pos} (he : PE X e te) (hs : PE X sp ts) : PE X (.FormattedValue e (-1) (some sp) pos) (tFmtB te ts) := by
  refine ⟨fun pins s σ H Q I h => wpAny_FormattedValue_spec (thn (he.run pins s σ H _ I h) fun v s1 hv => ?_)⟩
  obtain ⟨x, H1, I1, r1, n, rfl, hl, q⟩ := hv
  obtain ⟨t, rfl⟩ := r1
  refine thn (hs.run pins s1 σ H1 _ I1 q) fun u s2 hu => ?_
  obtain ⟨y, H2, I2, r2, rfl, q⟩ := hu
  obtain ⟨t2, rfl⟩ := r2
  exact ⟨_, _, rfl, TzFmt.format_b hl ⟨.str (TzFmt.bin n), H2, I2.tok _, ⟨_, rfl⟩, q⟩⟩
end Tz
namespace TzNum
/-! orders of 2, common divisors, digits to the base 2 -/
def Dv (n k : Nat) : Prop := n ∣ 2 ^ k - 1
def Ord (n k : Nat) : Prop := 1 ≤ k ∧ Dv n k ∧ ∀ j, 1 ≤ j → j < k → ¬ Dv n j
theorem one_le (k : Nat) : 1 ≤ 2 ^ k := Nat.one_le_two_pow
theorem ord_eq {n k m : Nat} (h : Ord n k) (g : Ord n m) : k = m := by
  rcases Nat.lt_trichotomy k m with e | e | e
  · exact absurd h.2.1 (g.2.2 k h.1 e)
  · exact e
  · exact absurd g.2.1 (h.2.2 m g.1 e)
theorem cast_pow (k : Nat) : ((2 ^ k - 1 : Nat) : Int) = 2 ^ k - 1 := by
  have := one_le k
  rw [Int.natCast_sub this, Int.natCast_pow]
  rfl
theorem dv_iff {n k : Nat} {r : Int} (hr : r % n = 2 ^ k % n) : ((r - 1) % (n : Int) = 0) ↔ Dv n k := by
  have e : (r - 1) % (n : Int) = (2 ^ k - 1) % n := by rw [← Int.emod_sub_emod, hr, Int.emod_sub_emod]
  rw [e, ← cast_pow]
  unfold Dv
  rw [← Int.ofNat_dvd]
  exact Int.dvd_iff_emod_eq_zero.symm
theorem dv_add {n a b : Nat} (h : Dv n a) (g : Dv n b) : Dv n (a + b) := by
  have e : 2 ^ (a + b) - 1 = 2 ^ a * (2 ^ b - 1) + (2 ^ a - 1) := by
    have h1 := one_le a
    have h2 := one_le b
    rw [Nat.pow_add, Nat.mul_sub, Nat.mul_one]
    have : 2 ^ a ≤ 2 ^ a * 2 ^ b := Nat.le_mul_of_pos_right _ (by omega)
    omega
  unfold Dv
  rw [e]
  exact Nat.dvd_add (Nat.dvd_trans g (Nat.dvd_mul_left _ _)) h
theorem dv_mul {n k : Nat} (h : Dv n k) : ∀ m, Dv n (k * m)
  | 0 => ⟨0, by simp⟩
  | m + 1 => by
    rw [Nat.mul_succ]
    exact dv_add (dv_mul h m) h
/-- the widths k * m further on there is the same common divisor -/
theorem gcd_far {n k : Nat} (h : Dv n k) (s m : Nat) : Nat.gcd n (2 ^ (s + k * m) - 1) = Nat.gcd n (2 ^ s - 1) := by
  obtain ⟨c, hc⟩ := dv_mul h m
  have e : 2 ^ (s + k * m) - 1 = n * (2 ^ s * c) + (2 ^ s - 1) := by
    have h1 := one_le s
    have h2 := one_le (k * m)
    have e1 : n * (2 ^ s * c) = 2 ^ s * (2 ^ (k * m) - 1) := by rw [hc, Nat.mul_left_comm]
    rw [e1, Nat.pow_add, Nat.mul_sub, Nat.mul_one]
    have : 2 ^ s ≤ 2 ^ s * 2 ^ (k * m) := Nat.le_mul_of_pos_right _ (by omega)
    omega
  rw [e]
  refine Nat.dvd_antisymm (Nat.dvd_gcd (Nat.gcd_dvd_left _ _) ?_) (Nat.dvd_gcd (Nat.gcd_dvd_left _ _) ?_)
  · exact (Nat.dvd_add_right (Nat.dvd_trans (Nat.gcd_dvd_left _ _) (Nat.dvd_mul_right _ _))).mp (Nat.gcd_dvd_right n _)
  · exact Nat.dvd_add (Nat.dvd_trans (Nat.gcd_dvd_left _ _) (Nat.dvd_mul_right _ _)) (Nat.gcd_dvd_right _ _)
/-- powers of two play no part -/
theorem odd_pow {k : Nat} (h : 1 ≤ k) : (2 ^ k - 1) % 2 = 1 := by
  obtain ⟨m, rfl⟩ : ∃ m, k = m + 1 := ⟨k - 1, by omega⟩
  have := one_le m
  rw [Nat.pow_succ]
  omega
theorem coprime_two {n : Nat} (h : n % 2 = 1) : Nat.Coprime 2 n := by
  show Nat.gcd 2 n = 1
  rw [Nat.gcd_rec, h]
  rfl
theorem gcd_shift {n s k : Nat} (h : 1 ≤ k) : Nat.gcd (n * 2 ^ s) (2 ^ k - 1) = Nat.gcd n (2 ^ k - 1) :=
  Nat.Coprime.gcd_mul_right_cancel n (Nat.Coprime.pow_left s (coprime_two (odd_pow h)))
/-! ### there is an order -/
theorem pigeon : ∀ (n : Nat) (f : Nat → Nat), (∀ i, i ≤ n → f i < n) → ∃ i j, i < j ∧ j ≤ n ∧ f i = f j
  | 0, f, h => absurd (h 0 (Nat.le_refl 0)) (Nat.not_lt_zero _)
  | n + 1, f, h => by
    by_cases e : ∃ i, i ≤ n ∧ f i = f (n + 1)
    · obtain ⟨i, hi, q⟩ := e
      exact ⟨i, n + 1, by omega, Nat.le_refl _, q⟩
    · have ne : ∀ i, i ≤ n → f i ≠ f (n + 1) := fun i hi q => e ⟨i, hi, q⟩
      have top := h (n + 1) (Nat.le_refl _)
      obtain ⟨i, j, hij, hj, q⟩ := pigeon n (fun i => if f i = n then f (n + 1) else f i) fun i hi => by
        have h1 := h i (by omega)
        have h2 := ne i hi
        by_cases q : f i = n
        · show (if f i = n then f (n + 1) else f i) < n
          rw [if_pos q]
          omega
        · show (if f i = n then f (n + 1) else f i) < n
          rw [if_neg q]
          omega
      refine ⟨i, j, hij, by omega, ?_⟩
      have h1 := ne i (by omega)
      have h2 := ne j hj
      have q : (if f i = n then f (n + 1) else f i) = (if f j = n then f (n + 1) else f j) := q
      split at q <;> split at q <;> omega
theorem has_dv {n : Nat} (h : n % 2 = 1) : ∃ k, 1 ≤ k ∧ k ≤ n ∧ Dv n k := by
  have pos : 0 < n := by omega
  obtain ⟨i, j, hij, hj, q⟩ := pigeon n (fun i => 2 ^ i % n) fun i _ => Nat.mod_lt _ pos
  refine ⟨j - i, by omega, by omega, ?_⟩
  have d : n ∣ 2 ^ j - 2 ^ i := Nat.dvd_of_mod_eq_zero (Nat.sub_mod_eq_zero_of_mod_eq q.symm)
  have e : 2 ^ j - 2 ^ i = 2 ^ i * (2 ^ (j - i) - 1) := by
    rw [Nat.mul_sub, Nat.mul_one, ← Nat.pow_add]
    congr 2
    omega
  rw [e] at d
  exact Nat.Coprime.dvd_of_dvd_mul_left (Nat.Coprime.symm (Nat.Coprime.pow_left i (coprime_two h))) d
theorem least {p : Nat → Prop} : ∀ k, 1 ≤ k → p k → ∃ m, 1 ≤ m ∧ m ≤ k ∧ p m ∧ ∀ j, 1 ≤ j → j < m → ¬ p j := by
  intro k
  induction k using Nat.strongRecOn with
  | ind k ih =>
    intro h1 hp
    by_cases e : ∃ j, 1 ≤ j ∧ j < k ∧ p j
    · obtain ⟨j, a, b, c⟩ := e
      obtain ⟨m, m1, m2, m3⟩ := ih j b a c
      exact ⟨m, m1, by omega, m3⟩
    · exact ⟨k, h1, Nat.le_refl _, hp, fun j a b c => e ⟨j, a, b, c⟩⟩
theorem has_ord {n : Nat} (h : n % 2 = 1) : ∃ k, k ≤ n ∧ Ord n k := by
  obtain ⟨k, k1, kn, d⟩ := has_dv h
  obtain ⟨m, m1, mk, dm, no⟩ := least (p := Dv n) k k1 d
  exact ⟨m, by omega, m1, dm, no⟩
/-! ### orders that are reckoned -/
/-- r is 2 ^ k; the next so many powers do not leave 1 -/
def noneB (n : Nat) : Nat → Nat → Bool
  | 0, _ => true
  | f + 1, r => !Nat.beq ((2 * r % n + (n - 1)) % n) 0 && noneB n f (2 * r % n)
theorem dv_mod {n k : Nat} (h : 0 < n) : Nat.beq ((2 ^ k % n + (n - 1)) % n) 0 = true ↔ Dv n k := by
  rw [Nat.beq_eq]
  have e : (2 ^ k % n + (n - 1)) % n = (2 ^ k - 1) % n := by
    have h1 := one_le k
    have : 2 ^ k + (n - 1) = (2 ^ k - 1) + n := by omega
    rw [Nat.mod_add_mod, this, Nat.add_mod_right]
  rw [e]
  exact ⟨Nat.dvd_of_mod_eq_zero, Nat.mod_eq_zero_of_dvd⟩
theorem none_ok {n : Nat} (h : 0 < n) : ∀ (f k : Nat), noneB n f (2 ^ k % n) = true → ∀ j, k < j → j ≤ k + f → ¬ Dv n j
  | 0, k, _, j, h1, h2 => absurd h1 (by omega)
  | f + 1, k, q, j, h1, h2 => by
    have e : 2 * (2 ^ k % n) % n = 2 ^ (k + 1) % n := by rw [Nat.pow_succ, Nat.mul_comm (2 ^ k) 2, Nat.mul_mod_mod]
    obtain ⟨q1, q2⟩ := Bool.and_eq_true_iff.mp (show (!Nat.beq ((2 * (2 ^ k % n) % n + (n - 1)) % n) 0 && noneB n f (2 * (2 ^ k % n) % n)) = true from q)
    rw [e] at q1 q2
    by_cases ej : j = k + 1
    · subst ej
      intro d
      rw [(dv_mod h).mpr d] at q1
      cases q1
    · exact none_ok h f (k + 1) q2 j (by omega) (by omega)
theorem none_at {n : Nat} (h : 0 < n) {f : Nat} (q : noneB n f (1 % n) = true) : ∀ j, 1 ≤ j → j ≤ f → ¬ Dv n j := fun j h1 h2 => none_ok h f 0 (by rw [Nat.pow_zero]; exact q) j (by omega) (by omega)
theorem ord_at {n k : Nat} (h : 0 < n) (q : noneB n k (1 % n) = true) (d : (2 ^ (k + 1) - 1) % n = 0) : Ord n (k + 1) := ⟨by omega, Nat.dvd_of_mod_eq_zero d, fun j h1 h2 => none_at h q j h1 (by omega)⟩
/-- all bits -/
theorem ord_full {L : Nat} (h : 1 ≤ L) : Ord (2 ^ L - 1) L := by
  refine ⟨h, Nat.dvd_refl _, fun j h1 h2 d => ?_⟩
  have p := Nat.pow_lt_pow_right (a := 2) (by decide) h2
  have q := Nat.pow_le_pow_right (n := 2) (by decide) h1
  have := Nat.le_of_dvd (by omega) d
  omega
/-! ### common divisors, from rests -/
theorem gcd_cong {n r a : Nat} (ha : 1 ≤ a) (h : r % n = a % n) : Nat.gcd n ((r : Int) - 1).natAbs = Nat.gcd n (a - 1) := by
  have d : (n : Int) ∣ (r : Int) - a := by
    refine Int.dvd_of_emod_eq_zero (Int.emod_eq_emod_iff_emod_sub_eq_zero.mp ?_)
    rw [← Int.natCast_emod, ← Int.natCast_emod, h]
  have e : ((a - 1 : Nat) : Int) = a - 1 := by omega
  refine Nat.dvd_antisymm (Nat.dvd_gcd (Nat.gcd_dvd_left _ _) ?_) (Nat.dvd_gcd (Nat.gcd_dvd_left _ _) ?_)
  · have h1 : ((Nat.gcd n ((r : Int) - 1).natAbs : Nat) : Int) ∣ (r : Int) - 1 := Int.dvd_trans (Int.ofNat_dvd.mpr (Nat.gcd_dvd_right n _)) (Int.natAbs_dvd_self)
    have h2 : ((Nat.gcd n ((r : Int) - 1).natAbs : Nat) : Int) ∣ (r : Int) - a := Int.dvd_trans (Int.ofNat_dvd.mpr (Nat.gcd_dvd_left n _)) d
    rw [← Int.ofNat_dvd, e]
    have h3 := Int.dvd_sub h1 h2
    have e3 : (r : Int) - 1 - (r - a) = a - 1 := by omega
    rwa [e3] at h3
  · have h1 : ((Nat.gcd n (a - 1) : Nat) : Int) ∣ (a : Int) - 1 := by rw [← e]; exact Int.ofNat_dvd.mpr (Nat.gcd_dvd_right n _)
    have h2 : ((Nat.gcd n (a - 1) : Nat) : Int) ∣ (r : Int) - a := Int.dvd_trans (Int.ofNat_dvd.mpr (Nat.gcd_dvd_left n _)) d
    have h3 := Int.dvd_add h1 h2
    have e3 : (a : Int) - 1 + (r - a) = r - 1 := by omega
    rw [e3] at h3
    have := Int.natAbs_dvd_natAbs.mpr h3
    rwa [Int.natAbs_natCast] at this
/-! ### the digits -/
def val (l : List Nat) : Nat := l.foldl (fun a b => 2 * a + b) 0
theorem val_app (l : List Nat) (b : Nat) : val (l ++ [b]) = 2 * val l + b := by
  unfold val
  rw [List.foldl_append]
  rfl
theorem digits_core : ∀ (fuel n : Nat) (ds : List Char), n < fuel → ∃ l : List Nat, Nat.toDigitsCore 2 fuel n ds = l.map Nat.digitChar ++ ds ∧ (∀ b ∈ l, b < 2) ∧ val l = n ∧ ∀ k, 1 ≤ k → n < 2 ^ k → l.length ≤ k
  | 0, n, ds, h => absurd h (Nat.not_lt_zero _)
  | fuel + 1, n, ds, h => by
    have e : Nat.toDigitsCore 2 (fuel + 1) n ds = if n / 2 = 0 then Nat.digitChar (n % 2) :: ds else Nat.toDigitsCore 2 fuel (n / 2) (Nat.digitChar (n % 2) :: ds) := rfl
    rw [e]
    have lt := Nat.mod_lt n (show 0 < 2 by decide)
    by_cases z : n / 2 = 0
    · rw [if_pos z]
      refine ⟨[n % 2], rfl, fun b hb => by rw [List.mem_singleton.mp hb]; exact lt, ?_, fun k hk _ => hk⟩
      show 2 * 0 + n % 2 = n
      omega
    · rw [if_neg z]
      obtain ⟨l, h1, h2, h3, h4⟩ := digits_core fuel (n / 2) (Nat.digitChar (n % 2) :: ds) (by omega)
      refine ⟨l ++ [n % 2], by rw [h1, List.map_append, List.append_assoc]; rfl, fun b hb => ?_, by rw [val_app, h3]; omega, fun k hk hn => ?_⟩
      · rcases List.mem_append.mp hb with hb | hb
        · exact h2 b hb
        · rw [List.mem_singleton.mp hb]
          exact lt
      · obtain ⟨m, rfl⟩ : ∃ m, k = m + 1 := ⟨k - 1, by omega⟩
        rw [Nat.pow_succ] at hn
        have m1 : 1 ≤ m := by
          cases m with
          | zero => simp at hn; omega
          | succ m => omega
        have := h4 m m1 (by omega)
        rw [List.length_append]
        show l.length + 1 ≤ m + 1
        omega
theorem digits_of (n : Nat) : ∃ l : List Nat, (Nat.toDigits 2 n).map Char.toNat = l.map (48 + ·) ∧ (∀ b ∈ l, b < 2) ∧ val l = n ∧ ∀ k, 1 ≤ k → n < 2 ^ k → l.length ≤ k := by
  obtain ⟨l, h1, h2, h3⟩ := digits_core (n + 1) n [] (Nat.lt_succ_self n)
  refine ⟨l, ?_, h2, h3⟩
  unfold Nat.toDigits
  rw [h1, List.append_nil, List.map_map]
  refine List.map_congr_left fun b hb => ?_
  have := h2 b hb
  match b, this with
  | 0, _ => rfl
  | 1, _ => rfl
/-- one bit further -/
theorem step_bit {n r p b : Nat} (h : r % n = 2 ^ p % n) (hb : b < 2) : (r * r * (if b = 1 then 2 else 1) % n) % n = 2 ^ (2 * p + b) % n := by
  have e : 2 ^ (2 * p + b) = 2 ^ p * 2 ^ p * (if b = 1 then 2 else 1) := by
    rw [Nat.pow_add, Nat.two_mul, Nat.pow_add]
    match b, hb with
    | 0, _ => simp
    | 1, _ => simp
  have h2 : r * r % n = 2 ^ p * 2 ^ p % n := by rw [Nat.mul_mod, h, ← Nat.mul_mod]
  rw [Nat.mod_mod, e, Nat.mul_mod, h2, ← Nat.mul_mod]
theorem ord_great : Ord 73862057 5040 := ord_at (k := 5039) (by decide) (by decide +kernel) (by decide +kernel)
theorem ord_one : Ord 1 1 := ord_at (k := 0) (by decide) rfl rfl
theorem no_a : ∀ j, 1 ≤ j → j ≤ 5040 → ¬ Dv 167555 j := none_at (by decide) (by decide +kernel)
theorem no_b : ∀ j, 1 ≤ j → j ≤ 5040 → ¬ Dv 32805 j := none_at (by decide) (by decide +kernel)
theorem no_c : ∀ j, 1 ≤ j → j ≤ 5040 → ¬ Dv 837775 j := none_at (by decide) (by decide +kernel)
theorem no_d {u : Nat} (h : u < 4) : ∀ j, 1 ≤ j → j ≤ 5040 → ¬ Dv (19683 * (1 + 2 * u)) j := by
  match u, h with
  | 0, _ => exact none_at (by decide) (by decide +kernel)
  | 1, _ => exact none_at (by decide) (by decide +kernel)
  | 2, _ => exact none_at (by decide) (by decide +kernel)
  | 3, _ => exact none_at (by decide) (by decide +kernel)
theorem ord_three {p : Nat} (h : p < 9) : Ord (3 ^ p) (if p = 0 then 1 else 2 * (3 ^ p / 3)) := by
  match p, h with
  | 0, _ => exact ord_one
  | 1, _ => exact ord_at (k := 1) (by decide) (by decide +kernel) (by decide +kernel)
  | 2, _ => exact ord_at (k := 5) (by decide) (by decide +kernel) (by decide +kernel)
  | 3, _ => exact ord_at (k := 17) (by decide) (by decide +kernel) (by decide +kernel)
  | 4, _ => exact ord_at (k := 53) (by decide) (by decide +kernel) (by decide +kernel)
  | 5, _ => exact ord_at (k := 161) (by decide) (by decide +kernel) (by decide +kernel)
  | 6, _ => exact ord_at (k := 485) (by decide) (by decide +kernel) (by decide +kernel)
  | 7, _ => exact ord_at (k := 1457) (by decide) (by decide +kernel) (by decide +kernel)
  | 8, _ => exact ord_at (k := 4373) (by decide) (by decide +kernel) (by decide +kernel)

end TzNum
namespace Tz
open PySem PySem.Spec PyProof.Rows L2 TzF TzRepr TzNum
def big : Nat := 1267650600228229401496703205376
def spOrderOf (B : Addr) : Sp := fun vs H Q E => ∃ n : Nat, vs = [.int n] ∧ 1 ≤ n ∧ n ≤ big ∧
  ((∃ k : Nat, k ≤ 5040 ∧ Ord n k ∧ Q (.int k) H) ∨ ((∀ j, 1 ≤ j → j ≤ 5040 → ¬ Dv n j) ∧ Flies B [("most", .int 5040), ("what", .str "length")] H E))
def spShared : Sp := fun vs H Q _ => ∃ n w : Nat, vs = [.int n, .int w] ∧ 1 ≤ n ∧ n ≤ big ∧ w ≤ big ∧ Q (.int ((Nat.gcd n (2 ^ w - 1) : Nat) : Int)) H
def spDrawX : Sp := fun vs H Q _ => ∃ z c cells t many, vs = [.ref z, .int many] ∧ PenAt H z c cells t ∧ t ≤ 100000 ∧ 0 < many ∧ many ≤ 10000000000000000000000000 ∧
  ∀ n H', 0 ≤ n → n < many → PenAt H' z c cells (t + 1) → Fw z H H' → Q (.int n) H'
def spPick : Sp := fun vs H Q _ => ∃ z c cells t l, ∃ xs : List V, vs = [.ref z, .ref l] ∧ PenAt H z c cells t ∧ t ≤ 100000 ∧ H l = some (.lst xs) ∧ 0 < xs.length ∧ xs.length ≤ 100 ∧ l ≠ z ∧
  ∀ (j : Nat) y H', xs[j]? = some y → PenAt H' z c cells (t + 1) → Fw z H H' → Q y H'
def spLGcd : Sp := fun vs H Q _ => ∃ a b : Nat, vs = [.int a, .int b] ∧ a ≤ big ∧ b ≤ big ∧ Q (.int ((Nat.gcd a b : Nat) : Int)) H
def spLOrder : Sp := fun vs H Q _ => ∃ n m : Nat, vs = [.int n] ∧ 1 ≤ n ∧ Ord n m ∧ ∀ H', Ex H H' → Q (.int m) H'
theorem draw_pwA {cell ix a b : Int} (h0 : 0 ≤ ix) (h1 : ix ≤ 100000) (ha : 0 ≤ a) (ha2 : a ≤ 1000000) (hb : 0 ≤ b) (hb2 : b ≤ 1000000) : CPow (cell % 2147483563 + a * ix + b) 3 := by
  have h := emod_bd (a := cell) (m := 2147483563) (by decide)
  have m := mul_bd ha ha2 h0 h1
  exact cpow_of (by omega) (by omega) (by decide) (by decide)
theorem draw_pwB {m ix c d e : Int} (h0 : 0 ≤ ix) (h1 : ix ≤ 100000) (m0 : 0 ≤ m) (m1 : m < 2147483629) (hc : 0 ≤ c) (hc2 : c ≤ 1000000) (hd : 0 ≤ d) (hd2 : d ≤ 1000000) (he : 0 ≤ e) (he2 : e ≤ 1000000) :
    CPow (m * (2 * ix + c) + d * ix * ix + e) 5 := by
  have a := mul_bd m0 (A := 2147483629) (by omega) (b := 2 * ix + c) (by omega) (B := 1200000) (by omega)
  have b := mul_bd hd hd2 h0 h1
  have g := mul_bd b.1 b.2 h0 h1
  exact cpow_of (by omega) (by omega) (by decide) (by decide)
theorem passE0 {X : Cx} : Passes (L2.CX X.prog X.w) X E0 := fun _ _ _ _ _ _ _ ⟨_, _, _, _, _, _, _, _, _, _, _, _, h⟩ => h.elim
def kwA {α : Type} : List α → List α → List α
  | [], [b] => [b]
  | _, _ => []
theorem kwA_vals {vs : List V} {us : List Value} {zs : List V} {ws : List Value} (r : Vals vs us) (z : Vals zs ws) : Vals (kwA vs zs) (kwA us ws) := by
  cases r with
  | nil =>
    cases z with
    | nil => exact .nil
    | cons h z =>
      cases z with
      | nil => exact .cons h .nil
      | cons _ _ => exact .nil
  | cons _ _ => exact .nil
def kwB {α : Type} : List α → List α → List α
  | [], [a, b] => [a, b]
  | _, _ => []
theorem kwB_vals {vs : List V} {us : List Value} {zs : List V} {ws : List Value} (r : Vals vs us) (z : Vals zs ws) : Vals (kwB vs zs) (kwB us ws) := by
  cases r with
  | nil =>
    cases z with
    | nil => exact .nil
    | cons h z =>
      cases z with
      | nil => exact .nil
      | cons g z =>
        cases z with
        | nil => exact .cons h (.cons g .nil)
        | cons _ _ => exact .nil
  | cons _ _ => exact .nil
/-- f(k = e, ..), by keywords alone -/
theorem pe_callK0 {X : Cx} {CX : CXT} {k : Nat} {f : Addr} {fd : FuncData} {ps ks : List Str} {sp : Sp} {E : XK} {x : Str} {p pos : Pos} {kws : List Keyword} {tk : TA} {g : List Value → List Value → List Value} {gV : List V → List V → List V}
    (F : FnOk X.prog X.w X.K X.mg X.base CX k f fd ps sp) (hr : Room k X.A) (gl : Gl X x) (hm : X.mg x = some (.ref f)) (hk : PySem.W.keepIn X.K (.ref f) = true) (hb : KBinds X.K fd ps ks g gV) (hx : Passes CX X E) (hkw : PK X kws tk)
    (hall : (backToKw pos (keywordEach kws X.env)).all (·.1.isSome) = true := by rfl) (hks : (backToKw pos (keywordEach kws X.env)).filterMap (·.1) = ks := by rfl) (hdb : (x == ("__debug__" : Str)) = false := by decide)
    (hpl : ((backTo pos (starEach [] X.env)).any (·.1) || (backToKw pos (keywordEach kws X.env)).any (·.1.isNone)) = false := by rfl) : PE X (.Call (.Name x p) [] kws pos) (fun σ H Q => tk σ H fun zs H2 => sp (gV [] zs) H2 Q E) := by
  refine ⟨fun pins s σ H Q I h => wpAny_Call_Name_kw (ld_glob I gl hm ?_ hdb)⟩
  refine PySem.W.callWith_KW0 (first := []) (h₀ := X.base) I.ok.mod.kin hk hall (thn (hkw.run pos pins s σ H _ I h) fun ws s2 ⟨zs, H2, I2, rz, q⟩ => ⟨I2.kIn, ?_⟩) hpl
  rw [hks]
  exact run_fnk (us := []) (vs := []) F hr hb hx I2 .nil rz q
def spRefused : Sp := fun vs H Q _ => ∃ n : Nat, vs = [.int n] ∧ 1 ≤ n ∧ n ≤ big ∧ (∀ j, 1 ≤ j → j ≤ 5040 → ¬ Dv n j) ∧ ∀ H', Ex H H' → Q (.bl true) H'
/-- the error of order_of, in flight -/
def Long (B : Addr) (H0 : Hp) : XK := fun k d J => Ex H0 J ∧ k = .ref B ∧ ∃ dd, d = some dd ∧ J dd = some (.xd [("most", .int 5040), ("what", .str "length")])
theorem fly_long {B : Addr} {H : Hp} : Flies B [("most", .int 5040), ("what", .str "length")] H (Long B H) := fun d H' e q => ⟨e, rfl, d, rfl, q⟩
theorem what_data {K : PySem.W.Frag} {H : Hp} {p : Addr} (h : H p = some (.tup [.str "length", .int 5040])) : Dp K H (.ref p) (.tuple [.str "length", .int 5040]) := .tup (.inl (.inl h)) (.cons (.str _) (.cons (.int _) .nil))
end Tz
namespace Tz
open PySem L2 TzF TzRepr TzNum
def top (i : Nat) : Stmt := PySem.Challenge.pw_twozeros_k37_orders_and_shared.main.body.getD i (.Pass ⟨0, 0, 0, 0⟩)
abbrev s_TooLarge_init_ : Stmt := inClass (top 3) 0
abbrev s_order_of : Stmt := top 6
abbrev s_shared : Stmt := top 7
abbrev s_law_pen : Stmt := top 9
abbrev s_law_draw : Stmt := top 10
abbrev s_law_pick : Stmt := top 11
abbrev s_law_gcd : Stmt := top 12
abbrev s_law_order : Stmt := top 13
abbrev s_law_is_refused : Stmt := top 14
abbrev s_law : Stmt := top 15
structure FnG (K : PySem.W.Frag) (mg : Str → Option Value) (x : Str) (st : Stmt) where
  a : Addr
  fd : FuncData
  F : Fun K x x st a fd
  m : mg x = some (.ref a)
structure FnM (K : PySem.W.Frag) (C : Addr) (x q : Str) (st : Stmt) where
  a : Addr
  fd : FuncData
  F : Fun K x q st a fd
  M : Meth K C x a
structure Kl (K : PySem.W.Frag) (mg : Str → Option Value) (x : Str) where
  C : Addr
  cl : Cls K C
  m : mg x = some (.ref C)
  kp : PySem.W.keepIn K (.ref C) = true
  al : Alone K C
  rd : ClX.CRead K C (.type "type")
structure ErG (K : PySem.W.Frag) (mg : Str → Option Value) (x : Str) where
  C : Addr
  m : mg x = some (.ref C)
  er : Err K C
structure CoI (mg : Str → Option Value) (x : Str) (n : Int) where
  t : Tok
  m : mg x = some (.int n t)
structure CoC (K : PySem.W.Frag) (C : Addr) (x : Str) (n : Int) where
  t : Tok
  c : ClX.CVal K C (.type "type") x (.int n) (.int n t)
structure FnS (K : PySem.W.Frag) (C : Addr) (x q : Str) (st : Stmt) where
  a : Addr
  fd : FuncData
  F : Fun K x q st a fd
  p : Addr
  S : TzOwn.SMet K C (.type "type") x p a
structure FnC (K : PySem.W.Frag) (C : Addr) (x q : Str) (st : Stmt) where
  a : Addr
  fd : FuncData
  F : Fun K x q st a fd
  p : Addr
  S : ClX.CMet K C (.type "type") x p a
structure Tx (K : PySem.W.Frag) (mg : Str → Option Value) where
  b_int : mg "int" = none
  b_len : mg "len" = none
  b_abs : mg "abs" = none
  b_list : mg "list" = none
  b_isinstance : mg "isinstance" = none
  b_range : mg "range" = none
  b_repr : mg "repr" = none
  c_MOST_LENGTH : CoI mg "MOST_LENGTH" 5040
  e_ZerosError : ErG K mg "ZerosError"
  e_TooLarge : ErG K mg "TooLarge"
  n_TooLarge_what : PySem.W.findIn K (.ref e_TooLarge.C) "what" = some none
  n_TooLarge_most : PySem.W.findIn K (.ref e_TooLarge.C) "most" = some none
  x_TooLarge : ExcK K e_TooLarge.C
  g_gcd : mg "gcd" = some (.builtin "math.gcd")
  s_get : PySem.W.specialIn K (.builtin "object.__class__") "__get__" = some (some (.builtin "getset_descriptor.__get__"))
  s_takes : PySem.W.takesIn K (.builtin "object.__class__") = some true
  xm_TooLarge_ZerosError : PySem.W.exmOne K (.ref e_TooLarge.C) (.ref e_ZerosError.C) = some true
  f_TooLarge_init_ : FnM K e_TooLarge.C "__init__" "TooLarge.__init__" s_TooLarge_init_
  f_order_of : FnG K mg "order_of" s_order_of
  f_shared : FnG K mg "shared" s_shared
  f_law_pen : FnG K mg "_law_pen" s_law_pen
  f_law_draw : FnG K mg "_law_draw" s_law_draw
  f_law_pick : FnG K mg "_law_pick" s_law_pick
  f_law_gcd : FnG K mg "_law_gcd" s_law_gcd
  f_law_order : FnG K mg "_law_order" s_law_order
  f_law_is_refused : FnG K mg "_law_is_refused" s_law_is_refused
  f_law : FnG K mg "law" s_law
section
variable {P : Program} {w : World} {K : PySem.W.Frag} {mg : Str → Option Value} {base : Heap}
theorem sc_TooLarge_init_ : FnScope ["self", "what", "most"] ["self", "what", "most"] (defScope s_TooLarge_init_) := ⟨rfl, rfl, rfl, by decide +kernel, rfl, by decide +kernel, by decide +kernel⟩
theorem bd_TooLarge_init_ (T : Tx K mg) : Binds K T.f_TooLarge_init_.fd ["self", "what", "most"] [] := T.f_TooLarge_init_.F.binds (ps := ["self", "what", "most"]) fun _ _ _ _ _ _ us hl => match us, hl with | [_, _, _], _ => rfl
theorem sc_order_of : FnScope ["number", "rest", "length"] ["number"] (defScope s_order_of) := ⟨rfl, rfl, rfl, by decide +kernel, rfl, by decide +kernel, by decide +kernel⟩
theorem bd_order_of (T : Tx K mg) : Binds K T.f_order_of.fd ["number"] [] := T.f_order_of.F.binds (ps := ["number"]) fun _ _ _ _ _ _ us hl => match us, hl with | [_], _ => rfl
theorem sc_shared : FnScope ["number", "width", "rest", "bits", "bit"] ["number", "width"] (defScope s_shared) := ⟨rfl, rfl, rfl, by decide +kernel, rfl, by decide +kernel, by decide +kernel⟩
theorem bd_shared (T : Tx K mg) : Binds K T.f_shared.fd ["number", "width"] [] := T.f_shared.F.binds (ps := ["number", "width"]) fun _ _ _ _ _ _ us hl => match us, hl with | [_, _], _ => rfl
theorem sc_law_pen : FnScope ["_law_script"] ["_law_script"] (defScope s_law_pen) := ⟨rfl, rfl, rfl, by decide +kernel, rfl, by decide +kernel, by decide +kernel⟩
theorem bd_law_pen (T : Tx K mg) : Binds K T.f_law_pen.fd ["_law_script"] [] := T.f_law_pen.F.binds (ps := ["_law_script"]) fun _ _ _ _ _ _ us hl => match us, hl with | [_], _ => rfl
theorem sc_law_draw : FnScope ["_law_pen_here", "_law_many", "_law_digit", "_law_at", "_law_cell", "_law_great", "_law_mixed"] ["_law_pen_here", "_law_many"] (defScope s_law_draw) := ⟨rfl, rfl, rfl, by decide +kernel, rfl, by decide +kernel, by decide +kernel⟩
theorem bd_law_draw (T : Tx K mg) : Binds K T.f_law_draw.fd ["_law_pen_here", "_law_many"] [] := T.f_law_draw.F.binds (ps := ["_law_pen_here", "_law_many"]) fun _ _ _ _ _ _ us hl => match us, hl with | [_, _], _ => rfl
theorem sc_law_pick : FnScope ["_law_pen_here", "_law_some"] ["_law_pen_here", "_law_some"] (defScope s_law_pick) := ⟨rfl, rfl, rfl, by decide +kernel, rfl, by decide +kernel, by decide +kernel⟩
theorem bd_law_pick (T : Tx K mg) : Binds K T.f_law_pick.fd ["_law_pen_here", "_law_some"] [] := T.f_law_pick.F.binds (ps := ["_law_pen_here", "_law_some"]) fun _ _ _ _ _ _ us hl => match us, hl with | [_, _], _ => rfl
theorem sc_law_gcd : FnScope ["_law_one", "_law_other"] ["_law_one", "_law_other"] (defScope s_law_gcd) := ⟨rfl, rfl, rfl, by decide +kernel, rfl, by decide +kernel, by decide +kernel⟩
theorem bd_law_gcd (T : Tx K mg) : Binds K T.f_law_gcd.fd ["_law_one", "_law_other"] [] := T.f_law_gcd.F.binds (ps := ["_law_one", "_law_other"]) fun _ _ _ _ _ _ us hl => match us, hl with | [_, _], _ => rfl
theorem sc_law_order : FnScope ["_law_odd", "_law_k", "_law_power"] ["_law_odd"] (defScope s_law_order) := ⟨rfl, rfl, rfl, by decide +kernel, rfl, by decide +kernel, by decide +kernel⟩
theorem bd_law_order (T : Tx K mg) : Binds K T.f_law_order.fd ["_law_odd"] [] := T.f_law_order.F.binds (ps := ["_law_odd"]) fun _ _ _ _ _ _ us hl => match us, hl with | [_], _ => rfl
theorem sc_law_is_refused : FnScope ["_law_odd", "_law_caught", "error"] ["_law_odd"] (defScope s_law_is_refused) := ⟨rfl, rfl, rfl, by decide +kernel, rfl, by decide +kernel, by decide +kernel⟩
theorem bd_law_is_refused (T : Tx K mg) : Binds K T.f_law_is_refused.fd ["_law_odd"] [] := T.f_law_is_refused.F.binds (ps := ["_law_odd"]) fun _ _ _ _ _ _ us hl => match us, hl with | [_], _ => rfl
theorem sc_law : FnScope ["_law_script", "_law_pen_here", "_law_turn", "_law_odd", "_law_k", "_law_whole", "_law_span", "_law_due", "_law_far", "_law_power", "_law_three", "_law_long"] ["_law_script"] (defScope s_law) := ⟨rfl, rfl, rfl, by decide +kernel, rfl, by decide +kernel, by decide +kernel⟩
theorem bd_law (T : Tx K mg) : Binds K T.f_law.fd ["_law_script"] [] := T.f_law.F.binds (ps := ["_law_script"]) fun _ _ _ _ _ _ us hl => match us, hl with | [_], _ => rfl
end
section
variable {P : Program} {w : World} {K : PySem.W.Frag} {mg : Str → Option Value} {base : Heap}
theorem ok_TooLarge_init_ (T : Tx K mg) : FnOk P w K mg base CX0 1 T.f_TooLarge_init_.a T.f_TooLarge_init_.fd ["self", "what", "most"] (spErr2 T.e_TooLarge.C "what" "most") := by
  refine T.f_TooLarge_init_.F.ok sc_TooLarge_init_ (fun vs H Q E h => ?_) (fun cdv A outer s H vs Q E hr h => ?_)
  · obtain ⟨a, u, v, rfl, _⟩ := h
    rfl
  · obtain ⟨a, u, v, rfl, ha, k⟩ := h
    refine ⟨_, (pss_cons (ps_ost (pv 0) (pv 1))
      (pss_one (ps_ost (pv 0) (pv 2)))), ?_⟩

    refine ⟨u, rfl, _, rfl, a, T.e_TooLarge.C, rfl, T.e_TooLarge.er.made, T.n_TooLarge_what, .inl ⟨ha, fun dx n ne => ?_⟩⟩
    exact ⟨v, rfl, _, rfl, a, T.e_TooLarge.C, rfl, T.e_TooLarge.er.made, T.n_TooLarge_most, .inr ⟨dx, _, upd_same, by rw [upd_ne ne, upd_same], by show 1 ≤ 900; decide, k dx n ne⟩⟩
theorem ok_order_of (T : Tx K mg) : FnOk P w K mg base (L2.CX P w) 3 T.f_order_of.a T.f_order_of.fd ["number"] (spOrderOf T.e_TooLarge.C) := by
  refine T.f_order_of.F.okX sc_order_of (fun vs H Q E h => ?_) (fun cdv A outer s H vs Q E hr h => ?_)
  · obtain ⟨n, rfl, _⟩ := h
    rfl
  · obtain ⟨n, rfl, n1, nb, k⟩ := h
    refine ⟨_, (pss_cons (ps_set (i := 1) sc_order_of.nd rfl (Or.inl rfl) (pe_op op_mod pe_int (pv 0)))
      (pss_cons (ps_for (passes_of rfl) rfl (pi_range2 (by rfl) T.b_range (pa_cons pe_int (pa_cons (pe_op op_add (pe_glob (v := .int 5040) (by rfl) T.c_MOST_LENGTH.m ⟨_, rfl⟩) pe_int) pa_nil))) (pg_name (i := 2) sc_order_of.nd rfl (Or.inl rfl)) (pss_cons (ps_set (i := 1) sc_order_of.nd rfl (Or.inl rfl) (pe_op op_mod (pe_op op_mul pe_int (pv 1)) (pv 0)))
      (pss_one (ps_if (pt_cmpR op_eq (pe_op op_mod (pe_op op_sub (pv 1) pe_int) (pv 0)) pe_int (nomark _)) (pss_one (ps_ret (pv 2))) pss_nil))))
      (pss_one (ps_raise rfl (takes_of rfl rfl rfl rfl) (pmk_oex T.e_TooLarge.er.made T.f_TooLarge_init_.M.at_ (beq_iff_eq.mp T.f_TooLarge_init_.M.fn) (ok_TooLarge_init_ T) (hr.mono (by decide)) (bd_TooLarge_init_ T) .nil pass0 (by rfl) T.e_TooLarge.m (pa_cons pe_str (pa_cons (pe_glob (v := .int 5040) (by rfl) T.c_MOST_LENGTH.m ⟨_, rfl⟩) pa_nil))))))), ?_⟩
    have np : (0 : Int) < n := by omega
    refine ⟨_, rfl, _, _, rfl, rfl, np, ?_⟩
    refine ⟨_, _, rfl, rfl, 1, _, rfl, ⟨by decide, by decide, by decide, by decide⟩, for_range (lo := 1) (n := 5040) (fun i σ' H' => H' = H ∧ ∃ (r : Int) (o : Option V), σ' = [some (.int (n : Int)), some (.int r), o] ∧ r % (n : Int) = 2 ^ i % n ∧ ∀ j, 1 ≤ j → j ≤ i → ¬ Dv n j) ⟨rfl, _, _, rfl, Int.emod_emod _ _, fun j h1 h2 => absurd h1 (by omega)⟩ ?_ ?_⟩
    · rintro i σ' H' hi ⟨rfl, r, o, rfl, hr, no⟩
      have hr' : (2 * r % (n : Int)) % n = 2 ^ (i + 1) % n := by rw [Int.emod_emod, Int.mul_emod, hr, ← Int.mul_emod, Int.mul_comm 2, ← Int.pow_succ]
      have dv := dv_iff hr'
      refine ⟨_, rfl, _, _, rfl, rfl, .inl ⟨by decide, by decide⟩, _, rfl, _, _, rfl, rfl, np, ?_⟩
      refine ⟨_, rfl, _, _, rfl, rfl, _, rfl, _, _, rfl, rfl, np, rfl, _, rfl, ite2 (fun q => ?_) (fun q => ?_)⟩
      · have q := dv.mp (V.int.inj (of_decide_eq_true q))
        rcases k with ⟨k, k0, o, kQ⟩ | ⟨none, _⟩
        · have e := ord_eq o ⟨by omega, q, fun j h1 h2 => no j h1 (by omega)⟩
          subst e
          have e : (1 : Int) + (i : Nat) = ((i + 1 : Nat) : Int) := by omega
          refine ⟨_, rfl, ?_⟩
          rw [e]
          exact kQ
        · exact absurd q (none (i + 1) (by omega) (by omega))
      · refine ⟨rfl, _, _, rfl, hr', fun j h1 h2 d => ?_⟩
        by_cases e : j = i + 1
        · subst e
          exact q (decide_eq_true (by show V.int ((2 * r % (n : Int) - 1) % n) = V.int 0; rw [dv.mpr d]))
        · exact no j h1 (by omega) d
    · rintro σ' H' ⟨rfl, r, o, rfl, hr, no⟩
      rcases k with ⟨k, k0, o, kQ⟩ | ⟨none, f⟩
      · exact absurd o.2.1 (no k o.1 k0)
      · exact err2 f
theorem ok_shared (T : Tx K mg) : FnOk P w K mg base CX0 2 T.f_shared.a T.f_shared.fd ["number", "width"] spShared := by
  refine T.f_shared.F.ok sc_shared (fun vs H Q E h => ?_) (fun cdv A outer s H vs Q E hr h => ?_)
  · obtain ⟨n, wd, rfl, _⟩ := h
    rfl
  · obtain ⟨n, wd, rfl, n1, nb, wb, k⟩ := h
    refine ⟨_, (pss_cons (ps_set (i := 2) sc_shared.nd rfl (Or.inl rfl) pe_int)
      (pss_cons (ps_set (i := 3) sc_shared.nd rfl (.inl rfl) (pe_joined1 (pe_fmtb (pv 1) (pe_joined1 pe_str))))
      (pss_cons (ps_for PassesOwn.never rfl (pi_str (pv 3)) (pg_name (i := 4) sc_shared.nd rfl (Or.inl rfl)) (pss_one (ps_set (i := 2) sc_shared.nd rfl (Or.inl rfl) (pe_op op_mod (pe_op op_mul (pe_op op_mulW (pv 2) (pv 2)) (pe_ifExp (pt_cmpR op_eq (pv 4) pe_str (nomark _)) pe_int pe_int)) (pv 0)))))
      (pss_one (ps_ret (pe_callBfun cr_gcd (by rfl) T.g_gcd (pa_cons (pv 0) (pa_cons (pe_op op_sub (pv 2) pe_int) pa_nil)))))))), ?_⟩
    have np : (0 : Int) < n := by omega
    obtain ⟨l, hl, b2, hv, hk⟩ := digits_of wd
    have len : l.length ≤ 101 := hk 101 (by decide) (Nat.lt_of_le_of_lt wb (by decide))
    have ebin : TzFmt.bin wd = ⟨(l.map (48 + ·)).toArray⟩ := by
      unfold TzFmt.bin
      rw [hl]
    have esz : (⟨(l.map (48 + ·)).toArray⟩ : Str).cps.size = l.length := by simp
    refine ⟨_, rfl, wd, rfl, ?_, rfl, ?_⟩
    · rw [ebin]
      exact Nat.le_trans (Nat.le_of_eq esz) (Nat.le_trans len (by decide))
    rw [ebin]
    refine ⟨_, rfl, _, rfl, for_it walk_str (fun i σ' H' => H' = H ∧ ∃ (r : Nat) (o : Option V), σ' = [some (.int (n : Int)), some (.int (wd : Int)), some (.int (r : Int)), some (.str ⟨(l.map (48 + ·)).toArray⟩), o] ∧ r ≤ n ∧ r % n = 2 ^ (val (l.take i)) % n) ⟨rfl, 1, none, rfl, n1, rfl⟩ (fun _ _ _ _ _ => trivial) ?_ ?_⟩
    · rintro i x σ' H1 H2 hi ⟨rfl, r, o, rfl, rn, hr⟩ ⟨rfl, c, hc, rfl⟩
      have il : i < l.length := by rw [esz] at hi; exact hi
      have ec : c = 48 + l[i] := by
        have h1 : (l.map (48 + ·))[i]? = some c := by simpa using hc
        rw [List.getElem?_map, List.getElem?_eq_getElem il] at h1
        exact (Option.some.inj h1).symm
      have et : val (l.take (i + 1)) = 2 * val (l.take i) + l[i] := by
        rw [List.take_add_one, List.getElem?_eq_getElem il]
        exact val_app _ _
      have lt := b2 l[i] (List.getElem_mem il)
      rw [et]
      generalize l[i] = b at ec lt
      subst ec
      have lg : ((r : Int)).natAbs.log2 + ((r : Int)).natAbs.log2 < 1000000 := by
        have : r < 2 ^ 101 := Nat.lt_of_le_of_lt (Nat.le_trans rn nb) (by decide)
        have := PySem.Flt.log2_lt_of (by decide) this
        rw [Int.natAbs_natCast]
        omega
      have st := step_bit hr lt
      refine ⟨_, rfl, _, rfl, _, _, rfl, rfl, lg, _, rfl, rfl, _, rfl, ?_⟩
      have pos : 0 < n := n1
      match b, lt with
      | 0, _ =>
        refine ite2 (fun q => absurd q (by decide +kernel)) fun _ => ?_
        refine ⟨_, _, rfl, rfl, .inr ⟨by decide, by decide⟩, _, rfl, _, _, rfl, rfl, np, ?_⟩
        have e : (r : Int) * r * 1 % n = ((r * r * (if 0 = 1 then 2 else 1) % n : Nat) : Int) := by
          rw [Int.natCast_emod, Int.natCast_mul, Int.natCast_mul]
          rfl
        exact ⟨rfl, _, _, (by show [some (V.int (n : Int)), some (V.int (wd : Int)), some (V.int ((r : Int) * r * 1 % n)), some (V.str ⟨(l.map (48 + ·)).toArray⟩), _] = _; rw [e]), Nat.le_of_lt (Nat.mod_lt _ pos), st⟩
      | 1, _ =>
        refine ite2 (fun _ => ?_) fun q => absurd (by decide +kernel) q
        refine ⟨_, _, rfl, rfl, .inr ⟨by decide, by decide⟩, _, rfl, _, _, rfl, rfl, np, ?_⟩
        have e : (r : Int) * r * 2 % n = ((r * r * (if 1 = 1 then 2 else 1) % n : Nat) : Int) := by
          rw [Int.natCast_emod, Int.natCast_mul, Int.natCast_mul]
          rfl
        exact ⟨rfl, _, _, (by show [some (V.int (n : Int)), some (V.int (wd : Int)), some (V.int ((r : Int) * r * 2 % n)), some (V.str ⟨(l.map (48 + ·)).toArray⟩), _] = _; rw [e]), Nat.le_of_lt (Nat.mod_lt _ pos), st⟩
    · rintro σ' H1 ⟨rfl, r, o, rfl, rn, hr⟩
      rw [esz, List.take_length, hv] at hr
      refine ⟨_, rfl, _, rfl, _, _, rfl, rfl, _, _, rfl, ?_⟩
      rw [Int.natAbs_natCast, gcd_cong (one_le wd) hr]
      exact k
theorem ok_law_pen (T : Tx K mg) : FnOk P w K mg base CX0 1 T.f_law_pen.a T.f_law_pen.fd ["_law_script"] (spPen K) := by
  refine T.f_law_pen.F.ok sc_law_pen (fun vs H Q E h => ?_) (fun cdv A outer s H vs Q E hr h => ?_)
  · obtain ⟨a, ns, rfl, _⟩ := h
    rfl
  · obtain ⟨a, ns, rfl, hS, hl, k⟩ := h
    refine ⟨_, (pss_one (ps_ret (pe_lst (pa_cons (pe_callTy call_list_of (by rfl) T.b_list (by decide +kernel) (pa_cons (pe_slice sl_list (pv 0) po_none (po_some pe_int)) pa_nil)) (pa_cons pe_int (pa_cons pe_int pa_nil)))))), ?_⟩
    refine ⟨_, rfl, _, rfl, a, _, rfl, hS, fun b nb => ?_⟩
    (generalize g_H1 : upd _ b _ = H1); have hb := gat g_H1; have e1 := gex g_H1 nb; clear g_H1
    refine ⟨b, _, rfl, .inl (sq hb), fun c nc => ?_⟩
    (generalize g_H2 : upd _ c _ = H2); have hc := gat g_H2; have e2 := gex g_H2 nc; clear g_H2
    refine ⟨by show 3 ≤ sizeLine; decide, fun z nz => ?_⟩
    (generalize g_H3 : upd _ z _ = H3); have hz := gat g_H3; have e3 := gex g_H3 nz; clear g_H3
    have ec : cutV (ns.map V.int) none (some 63) = ns.map V.int := by
      unfold cutV
      have h1 : HT.sIx (ns.map V.int).length 0 none = 0 := rfl
      rw [h1, List.drop_zero, List.take_of_length_le]
      rw [List.length_map]
      have h2 : HT.sIx ns.length ns.length (some 63) = min 63 ns.length := cut63 ns.length
      rw [h2]
      omega
    rw [ec] at hc
    refine k z c H3 ⟨⟨0, 0, hz, by omega, by omega, by omega⟩, e3 _ _ hc, ne_of_none hc nz, hl⟩ ((e1.trans e2).trans e3) ?_ ?_
    · exact back (e1.trans e2) nz
    · exact back e1 nc
theorem ok_law_draw (T : Tx K mg) : FnOk P w K mg base CX0 1 T.f_law_draw.a T.f_law_draw.fd ["_law_pen_here", "_law_many"] spDrawX := by
  refine T.f_law_draw.F.ok sc_law_draw (fun vs H Q E h => ?_) (fun cdv A outer s H vs Q E hr h => ?_)
  · obtain ⟨z, c, cells, t, many, rfl, _⟩ := h
    rfl
  · obtain ⟨z, c, cells, t, many, rfl, PA, ht, hm0, hm1, k⟩ := h
    obtain ⟨⟨ix, left, hz, i0, it, l0⟩, hc, cz, few⟩ := id PA
    refine ⟨_, (pss_cons (ps_if (pt_cmpR op_gt (pe_ix ix_list (pv 0) pe_int (fun _ _ => rfl)) pe_int (nomark _)) (pss_cons (ps_set (i := 2) sc_law_draw.nd rfl (Or.inl rfl) (pe_op op_mod (pe_callTy call_int1 (by rfl) T.b_int (by decide +kernel) (pa_cons (pe_ix ix_list (pv 0) pe_int (fun _ _ => rfl)) pa_nil)) (pv 1)))
      (pss_cons (ps_asg (pe_op op_fdivW (pe_callTy call_int1 (by rfl) T.b_int (by decide +kernel) (pa_cons (pe_ix ix_list (pv 0) pe_int (fun _ _ => rfl)) pa_nil)) (pv 1)) (pg_sub (pv 0) pe_int set_list))
      (pss_one (ps_ret (pv 2))))) pss_nil)
      (pss_cons (ps_set (i := 3) sc_law_draw.nd rfl (Or.inl rfl) (pe_ix ix_list (pv 0) pe_int (fun _ _ => rfl)))
      (pss_cons (ps_asg (pe_op op_add (pv 3) pe_int) (pg_sub (pv 0) pe_int set_list))
      (pss_cons (ps_set (i := 4) sc_law_draw.nd rfl (Or.inl rfl) (pe_op op_add (pe_op op_mul pe_int (pv 3)) pe_int))
      (Evl.pss_cut (ps_if (pt_cmpR (op_neD hr.units) (pe_ix ix_list (pv 0) pe_int (fun _ _ => rfl)) (pe_lst pa_nil) (nomark _)) (pss_one (ps_set (i := 4) sc_law_draw.nd rfl (Or.inl rfl) (pe_ix ix_list (pe_ix ix_list (pv 0) pe_int (fun _ _ => rfl)) (pe_op op_mod (pe_callTy call_int1 (by rfl) T.b_int (by decide +kernel) (pa_cons (pv 3) pa_nil)) (pe_callB call_len_seq (by rfl) T.b_len (by decide +kernel) (pa_cons (pe_ix ix_list (pv 0) pe_int (fun _ _ => rfl)) pa_nil))) (fun _ _ => rfl)))) pss_nil)
      (Evl.pss_cut (ps_if (PW.pt (pw_and (pt_cmpR op_lt (pv 3) (pe_callB call_len_seq (by rfl) T.b_len (by decide +kernel) (pa_cons (pe_ix ix_list (pv 0) pe_int (fun _ _ => rfl)) pa_nil)) (nomark _)) (pw_and1 (pt_cmpR op_ge (pe_callB call_abs (by rfl) T.b_abs (by decide +kernel) (pa_cons (pv 4) pa_nil)) (pe_op op_pow pe_int pe_int) (nomark _))))) (pss_cons (ps_set (i := 5) sc_law_draw.nd rfl (Or.inl rfl) (pe_op op_add (pe_op op_mul pe_int (pe_op op_sub (pe_callB call_abs (by rfl) T.b_abs (by decide +kernel) (pa_cons (pv 4) pa_nil)) (pe_op op_pow pe_int pe_int))) (pe_callTy call_int1 (by rfl) T.b_int (by decide +kernel) (pa_cons (pe_cmpR op_lt (pv 4) pe_int (nomark _)) pa_nil))))
      (pss_cons (ps_asg (pe_op op_fdivW (pe_callTy call_int1 (by rfl) T.b_int (by decide +kernel) (pa_cons (pv 5) pa_nil)) (pv 1)) (pg_sub (pv 0) pe_int set_list))
      (pss_one (ps_ret (pe_op op_mod (pe_callTy call_int1 (by rfl) T.b_int (by decide +kernel) (pa_cons (pv 5) pa_nil)) (pv 1)))))) pss_nil)
      (pss_cons (ps_set (i := 6) sc_law_draw.nd rfl (Or.inl rfl) (pe_op op_mod (pe_callTy call_int1 (by rfl) T.b_int (by decide +kernel) (pa_cons (pe_op op_pow (pe_op op_add (pe_op op_add (pe_op op_mod (pe_callTy call_int1 (by rfl) T.b_int (by decide +kernel) (pa_cons (pv 4) pa_nil)) pe_int) (pe_op op_mul pe_int (pv 3))) pe_int) pe_int) pa_nil)) pe_int))
      (pss_cons (ps_set (i := 6) sc_law_draw.nd rfl (Or.inl rfl) (pe_op op_mod (pe_callTy call_int1 (by rfl) T.b_int (by decide +kernel) (pa_cons (pe_op op_pow (pe_op op_add (pe_op op_add (pe_op op_mul (pv 6) (pe_op op_add (pe_op op_mul pe_int (pv 3)) pe_int)) (pe_op op_mul (pe_op op_mul pe_int (pv 3)) (pv 3))) pe_int) pe_int) pa_nil)) pe_int))
      (pss_one (ps_ret (pe_op op_mod (pe_callTy call_int1 (by rfl) T.b_int (by decide +kernel) (pa_cons (pe_op op_fdiv (pv 6) pe_int) pa_nil)) (pv 1)))))))))))), ?_⟩
    refine ⟨_, rfl, z, _, 2, .int left, rfl, rfl, sq hz, rfl, _, _, rfl, rfl, _, rfl, ?_⟩
    have divw : CDivW left many := wide_div hm0 (b := 90) (by omega) (by decide) (by decide)
    refine ite2 (fun _ => ?_) (fun _ => ?_)
    · -- a digit of a great cell
      refine ⟨_, rfl, z, _, 2, .int left, rfl, rfl, sq hz, rfl, .inl ⟨_, rfl, ?_⟩⟩
      refine ⟨_, rfl, _, _, rfl, rfl, hm0, ?_⟩
      refine ⟨_, rfl, z, _, 2, .int left, rfl, rfl, sq hz, rfl, .inl ⟨_, rfl, _, rfl, _, _, rfl, rfl, divw, ?_⟩⟩
      refine ⟨_, rfl, z, _, 2, 2, rfl, rfl, hz, rfl, ?_⟩
      refine ⟨_, rfl, ?_⟩
      refine k _ _ (emod_bd hm0).1 (emod_bd hm0).2 ⟨⟨ix, left / many, upd_same, i0, by omega, Int.ediv_nonneg l0 (by omega)⟩, ?_, cz, few⟩ Fw.at
      rw [upd_ne cz]
      exact hc
    · refine ⟨_, rfl, z, _, 1, .int ix, rfl, rfl, sq hz, rfl, ?_⟩
      refine ⟨_, rfl, _, _, rfl, rfl, _, rfl, z, _, 1, 1, rfl, rfl, hz, rfl, ?_⟩
      refine ⟨_, rfl, _, _, rfl, rfl, .inl ⟨by omega, by omega⟩, _, _, rfl, rfl, ?_⟩
      (generalize g_H1 : upd _ z _ = H1); have z1 := gat g_H1; have f1 := gfw g_H1; clear g_H1
      have z1 : H1 z = some (.lst [.ref c, .int (ix + 1), .int left]) := z1
      have c1 : H1 c = some (.lst (cells.map V.int)) := f1 _ _ cz hc
      -- the cell, whatever it is
      refine ⟨fun σ' H' => ∃ cell : Int, σ' = [some (.ref z), some (.int many), none, some (.int ix), some (.int cell), none, none] ∧ H' z = some (.lst [.ref c, .int (ix + 1), .int left]) ∧ H' c = some (.lst (cells.map V.int)) ∧ Fw z H H', ?_, ?_⟩
      · refine ⟨_, rfl, z, _, 0, .ref c, rfl, rfl, sq z1, rfl, ?_⟩
        refine ⟨by show 0 ≤ sizeLine; decide, fun b nb => ?_⟩
        (generalize g_H2 : upd _ b _ = H2); have hb := gat g_H2; have e2 := gex g_H2 nb; clear g_H2
        refine ⟨_, _, Dp.lst (sq (e2 _ _ c1)) (dp_ints cells), Dp.lst (sq hb) DpAll.nil, shaped_ints cells, rfl, _, rfl, ?_⟩
        cases hcl : cells with
        | nil =>
          refine iteF ?_
          exact ⟨_, rfl, e2 _ _ z1, by rw [← hcl]; exact e2 _ _ c1, f1.trans e2.fw⟩
        | cons y ys =>
          refine iteT ?_
          rw [← hcl]
          have hpos : 0 < cells.length := by rw [hcl]; exact Nat.succ_pos _
          have hlen : (0 : Int) < ((cells.map V.int).length : Nat) := by rw [List.length_map]; omega
          obtain ⟨j, hj⟩ : ∃ j : Nat, ix % ((cells.map V.int).length : Nat) = (j : Int) := ⟨(ix % ((cells.map V.int).length : Nat)).toNat, by rw [Int.toNat_of_nonneg (emod_bd hlen).1]⟩
          have hjl : j < cells.length := by
            have h1 := (emod_bd (a := ix) hlen).2
            rw [hj, List.length_map] at h1
            omega
          obtain ⟨v, hv⟩ := cell_get hjl
          refine ⟨_, rfl, z, _, 0, .ref c, rfl, rfl, sq (e2 _ _ z1), rfl, ?_⟩
          refine ⟨_, rfl, .inl ⟨_, rfl, ?_⟩⟩
          refine ⟨_, rfl, z, _, 0, .ref c, rfl, rfl, sq (e2 _ _ z1), rfl, c, _, rfl, .inl (sq (e2 _ _ c1)), _, _, rfl, rfl, hlen, ?_⟩
          refine ⟨c, _, _, .int v, rfl, rfl, sq (e2 _ _ c1), by rw [hj]; exact atI_nat hv, ?_⟩
          exact ⟨v, rfl, e2 _ _ z1, e2 _ _ c1, f1.trans e2.fw⟩
      · rintro σ' H2 ⟨cell, rfl, z2, c2, f2⟩
        have lenc : (((cells.map V.int).length : Nat) : Int) ≤ 63 := by rw [List.length_map]; omega
        have ix1 : ix ≤ 100000 := by omega
        refine ⟨fun σ' H' => σ' = [some (.ref z), some (.int many), none, some (.int ix), some (.int cell), none, none] ∧ H' = H2, ?_, ?_⟩
        · refine ⟨_, rfl, _, rfl, z, _, 0, .ref c, rfl, rfl, sq z2, rfl, c, _, rfl, .inl (sq c2), _, _, rfl, rfl, _, rfl, ?_⟩
          refine ite2 (fun _ => ?_) (fun _ => iteF ⟨rfl, rfl⟩)
          refine ⟨_, rfl, _, rfl, _, _, rfl, rfl, ⟨by decide, by decide, by decide⟩, _, _, rfl, rfl, _, rfl, ?_⟩
          refine ite2 (fun hg => ?_) (fun _ => ⟨rfl, rfl⟩)
          have hg := of_decide_eq_true hg
          rw [pow18] at hg
          -- a great cell
          refine ⟨_, rfl, _, rfl, _, _, rfl, rfl, ⟨by decide, by decide, by decide⟩, _, _, rfl, rfl, _, _, rfl, rfl, .inl ⟨by decide, by decide⟩, _, rfl, _, _, rfl, rfl, .inr ⟨_, rfl, _, _, rfl, rfl, ?_⟩⟩
          dsimp only
          rw [pow18]
          have g0 : 0 ≤ 2 * ((if cell < 0 then -cell else cell) - 1000000000000000000) + (if decide (cell < 0) = true then 1 else 0) := by
            split at hg <;> split <;> omega
          generalize 2 * ((if cell < 0 then -cell else cell) - 1000000000000000000) + (if decide (cell < 0) = true then 1 else 0) = great at g0
          refine ⟨_, rfl, .inl ⟨_, rfl, _, rfl, _, _, rfl, rfl, divw, _, rfl, z, _, 2, 2, rfl, rfl, z2, rfl, ?_⟩⟩
          (generalize g_H3 : upd _ z _ = H3); have z3 := gat g_H3; have f3 := gfw g_H3; clear g_H3
          refine ⟨_, rfl, .inl ⟨_, rfl, _, rfl, _, _, rfl, rfl, hm0, ?_⟩⟩
          exact k _ _ (emod_bd hm0).1 (emod_bd hm0).2 ⟨⟨ix + 1, great / many, z3, by omega, by omega, Int.ediv_nonneg g0 (by omega)⟩, f3 _ _ cz c2, cz, few⟩ (f2.trans f3)
        · rintro σ' H' ⟨rfl, rfl⟩
          refine ⟨_, rfl, .inl ⟨_, rfl, _, _, rfl, rfl, by show (0 : Int) < 2147483563; decide, _, rfl, _, _, rfl, rfl, .inl ⟨by decide, by decide⟩, _, _, rfl, rfl, _, _, rfl, rfl, _, _, rfl, rfl,
            draw_pwA i0 ix1 (by decide) (by decide) (by decide) (by decide), .inl ⟨_, rfl, _, _, rfl, rfl, by show (0 : Int) < 2147483629; decide, ?_⟩⟩⟩
          dsimp only
          generalize hm : (_ % 2147483629 : Int) = m
          have mb : 0 ≤ m ∧ m < 2147483629 := by rw [← hm]; exact emod_bd (by decide)
          refine ⟨_, rfl, _, rfl, _, _, rfl, rfl, .inl ⟨by decide, by decide⟩, _, _, rfl, rfl, _, _, rfl, rfl, .inl ⟨by omega, by omega⟩, _, rfl, _, _, rfl, rfl, .inl ⟨by decide, by decide⟩, _, rfl, _, _, rfl, rfl, .inr ⟨by omega, by omega⟩,
            _, _, rfl, rfl, _, _, rfl, rfl, _, _, rfl, rfl, draw_pwB i0 ix1 mb.1 mb.2 (by decide) (by decide) (by decide) (by decide) (by decide) (by decide), .inl ⟨_, rfl, _, _, rfl, rfl, by show (0 : Int) < 2147483587; decide, ?_⟩⟩
          dsimp only
          generalize (_ % 2147483587 : Int) = m2
          refine ⟨_, rfl, _, _, rfl, rfl, ⟨by decide, by decide⟩, .inl ⟨_, rfl, _, rfl, _, _, rfl, rfl, hm0, ?_⟩⟩
          exact k _ _ (emod_bd hm0).1 (emod_bd hm0).2 ⟨⟨ix + 1, left, z2, by omega, by omega, l0⟩, c2, cz, few⟩ f2
theorem ok_law_pick (T : Tx K mg) : FnOk P w K mg base CX0 2 T.f_law_pick.a T.f_law_pick.fd ["_law_pen_here", "_law_some"] spPick := by
  refine T.f_law_pick.F.ok sc_law_pick (fun vs H Q E h => ?_) (fun cdv A outer s H vs Q E hr h => ?_)
  · obtain ⟨z, c, cells, t, l, xs, rfl, _⟩ := h
    rfl
  · obtain ⟨z, c, cells, t, l, xs, rfl, PA, ht, hl, x0, x1, lz, k⟩ := h
    refine ⟨_, (pss_one (ps_ret (pe_ix ix_list (pv 1) (pe_call (ok_law_draw T) (hr.mono (by decide)) (by rfl) T.f_law_draw.m T.f_law_draw.F.kp (bd_law_draw T) .nil pass0 (pa_cons (pv 0) (pa_cons (pe_callB call_len_seq (by rfl) T.b_len (by decide +kernel) (pa_cons (pv 1) pa_nil)) pa_nil))) (fun _ _ => rfl)))), ?_⟩
    refine ⟨_, rfl, _, rfl, _, rfl, l, _, rfl, .inl (sq hl), z, c, cells, t, _, rfl, PA, ht, by omega, by omega, fun j H1 j0 j1 P1 f1 => ?_⟩
    obtain ⟨j, rfl⟩ : ∃ i : Nat, j = (i : Int) := ⟨j.toNat, by omega⟩
    have lt : j < xs.length := by omega
    exact ⟨l, _, _, _, rfl, rfl, sq (f1 _ _ lz hl), atI_nat (List.getElem?_eq_getElem lt), k j _ H1 (List.getElem?_eq_getElem lt) P1 f1⟩
theorem ok_law_gcd (T : Tx K mg) : FnOk P w K mg base CX0 1 T.f_law_gcd.a T.f_law_gcd.fd ["_law_one", "_law_other"] spLGcd := by
  refine T.f_law_gcd.F.ok sc_law_gcd (fun vs H Q E h => ?_) (fun cdv A outer s H vs Q E hr h => ?_)
  · obtain ⟨a, b, rfl, _⟩ := h
    rfl
  · obtain ⟨a, b, rfl, ha, hb, k⟩ := h
    refine ⟨_, (pss_cons (ps_while PassesOwn.never (pt_cmpR op_ne (pv 1) pe_int (nomark _)) (pss_one (ps_par (i := 0) (j := 1) (by rfl) sc_law_gcd.nd rfl rfl (by decide) rfl rfl (pa_cons (pv 1) (pa_cons (pe_op op_mod (pe_callTy call_int1 (by rfl) T.b_int (by decide +kernel) (pa_cons (pv 0) pa_nil)) (pv 1)) pa_nil)) (by rfl))))
      (pss_one (ps_ret (pv 0)))), ?_⟩
    refine ⟨fun m σ' H' => ∃ a b : Nat, m = b ∧ H' = H ∧ σ' = [some (.int (a : Int)), some (.int (b : Int))] ∧ Q (.int ((Nat.gcd a b : Nat) : Int)) H, ⟨b, a, b, rfl, rfl, rfl, k⟩, ?_⟩
    clear k ha hb
    rintro m σ' H' ⟨a, b, em, rfl, rfl, k⟩
    refine ⟨_, rfl, rfl, _, rfl, ite2 (fun q => ?_) (fun q => ?_)⟩
    · have bp : 0 < b := by
        rcases Nat.eq_zero_or_pos b with e | e
        · rw [e] at q
          exact absurd q (by decide)
        · exact e
      refine ⟨fun σ' H2 => ∃ c : Nat, c = a % b ∧ H2 = H' ∧ σ' = [some (.int (b : Int)), some (.int (c : Int))], fun σ' H2 h => ?_, ?_⟩
      · obtain ⟨c, rfl, rfl, rfl⟩ := h
        refine ⟨a % b, by rw [em]; exact Nat.mod_lt _ bp, b, a % b, rfl, rfl, rfl, ?_⟩
        have e : Nat.gcd b (a % b) = Nat.gcd a b := by rw [Nat.gcd_comm a b, Nat.gcd_rec b a, Nat.gcd_comm]
        rw [e]
        exact k
      · refine ⟨_, rfl, _, rfl, .inl ⟨_, rfl, _, rfl, _, _, rfl, rfl, by omega, ?_⟩⟩
        refine ⟨_, _, rfl, a % b, rfl, rfl, ?_⟩
        show [some (V.int (b : Int)), some (V.int ((a : Int) % b))] = _
        rw [Int.natCast_emod]
    · have e : b = 0 := by
        rcases Nat.eq_zero_or_pos b with e | e
        · exact e
        · refine absurd ?_ q
          show (!decide (V.int (b : Int) = V.int 0)) = true
          rw [decide_eq_false fun z => by have := V.int.inj z; omega]
          rfl
      rw [e, Nat.gcd_zero_right] at k
      exact ⟨_, rfl, k⟩
theorem ok_law_order (T : Tx K mg) : FnOk P w K mg base CX0 1 T.f_law_order.a T.f_law_order.fd ["_law_odd"] spLOrder := by
  refine T.f_law_order.F.ok sc_law_order (fun vs H Q E h => ?_) (fun cdv A outer s H vs Q E hr h => ?_)
  · obtain ⟨n, m, rfl, _⟩ := h
    rfl
  · obtain ⟨n, m, rfl, n1, o, k⟩ := h
    refine ⟨_, (pss_cons (ps_asg (pe_tup (pa_cons pe_int (pa_cons pe_int pa_nil))) (pg_tup rfl (pgs_cons (pg_name (i := 1) sc_law_order.nd rfl (Or.inl rfl)) (pgs_cons (pg_name (i := 2) sc_law_order.nd rfl (Or.inl rfl)) pgs_nil))))
      (pss_cons (ps_while PassesOwn.never (pt_cmpR op_ne (pe_op op_mod (pe_callTy call_int1 (by rfl) T.b_int (by decide +kernel) (pa_cons (pe_op op_sub (pv 2) pe_int) pa_nil)) (pv 0)) pe_int (nomark _)) (pss_one (ps_par (i := 1) (j := 2) (by rfl) sc_law_order.nd rfl rfl (by decide) rfl rfl (pa_cons (pe_op op_add (pv 1) pe_int) (pa_cons (pe_op op_mod (pe_callTy call_int1 (by rfl) T.b_int (by decide +kernel) (pa_cons (pe_op op_mul pe_int (pv 2)) pa_nil)) (pv 0)) pa_nil)) (by rfl))))
      (pss_one (ps_ret (pv 1))))), ?_⟩
    have np : (0 : Int) < n := by omega
    refine ⟨by show 2 ≤ sizeLine; decide, fun tp ntp => ?_⟩
    (generalize g_H1 : upd _ tp _ = H1); have htp := gat g_H1; have e1 := gex g_H1 ntp; clear g_H1
    refine ⟨tp, _, rfl, .inl (.inl htp), rfl, _, _, rfl, _, _, rfl, rfl, ?_⟩
    have k : ∀ H2, Ex H H2 → Q (.int (m : Int)) H2 := k
    refine ⟨fun f σ' H' => ∃ (i : Nat) (r : Int), f = m - i ∧ H' = H1 ∧ σ' = [some (.int (n : Int)), some (.int (i : Int)), some (.int r)] ∧ r % (n : Int) = 2 ^ i % n ∧ 1 ≤ i ∧ i ≤ m, ⟨m - 1, 1, 2, rfl, rfl, rfl, rfl, Nat.le_refl _, o.1⟩, ?_⟩
    rintro f σ' H' ⟨i, r, ef, rfl, rfl, hr, i1, im⟩
    have dv := dv_iff hr
    refine ⟨_, rfl, _, _, rfl, rfl, .inl ⟨_, rfl, _, rfl, _, _, rfl, rfl, np, rfl, _, rfl, ite2 (fun q => ?_) (fun q => ?_)⟩⟩
    · have nd : ¬ Dv n i := fun d => by
        have q : (!decide (V.int ((r - 1) % (n : Int)) = V.int 0)) = true := q
        rw [dv.mpr d] at q
        exact absurd q (by decide)
      have lt : i < m := by
        rcases Nat.lt_or_ge i m with e | e
        · exact e
        · have e : i = m := by omega
          subst e
          exact absurd o.2.1 nd
      refine ⟨fun σ' H2 => H2 = H' ∧ σ' = [some (.int (n : Int)), some (.int ((i + 1 : Nat) : Int)), some (.int (2 * r % n))], fun σ' H2 h => ?_, ?_⟩
      · obtain ⟨rfl, rfl⟩ := h
        refine ⟨m - (i + 1), by omega, i + 1, _, rfl, rfl, rfl, ?_, by omega, by omega⟩
        rw [Int.emod_emod, Int.mul_emod, hr, ← Int.mul_emod, Int.mul_comm 2, ← Int.pow_succ]
      · refine ⟨_, rfl, _, _, rfl, rfl, _, rfl, _, _, rfl, rfl, .inl ⟨by decide, by decide⟩, .inl ⟨_, rfl, _, rfl, _, _, rfl, rfl, np, ?_⟩⟩
        refine ⟨_, _, rfl, rfl, ?_⟩
        show [some (V.int (n : Int)), some (V.int ((i : Int) + 1)), some (V.int (2 * r % (n : Int)))] = _
        rfl
    · have d : Dv n i := dv.mp (by
        by_cases z : (r - 1) % (n : Int) = 0
        · exact z
        · refine absurd ?_ q
          show (!decide (V.int ((r - 1) % (n : Int)) = V.int 0)) = true
          rw [decide_eq_false fun z' => z (V.int.inj z')]
          rfl)
      have e : i = m := by
        rcases Nat.lt_or_ge i m with e | e
        · exact absurd d (o.2.2 i i1 e)
        · omega
      subst e
      exact ⟨_, rfl, k _ e1⟩
theorem ok_law_is_refused (T : Tx K mg) : FnOk P w K mg base CX0 5 T.f_law_is_refused.a T.f_law_is_refused.fd ["_law_odd"] spRefused := by
  refine T.f_law_is_refused.F.ok sc_law_is_refused (fun vs H Q E h => ?_) (fun cdv A outer s H vs Q E hr h => ?_)
  · obtain ⟨n, rfl, _⟩ := h
    rfl
  · obtain ⟨n, rfl, n1, nb, none, k⟩ := h
    refine ⟨_, pss_cons (ps_set (i := 1) sc_law_is_refused.nd rfl (.inl rfl) pe_non) (TzTry.pss_keep rfl rfl sc_law_is_refused.nd
      (tb := fun W D z J => ∃ Ech : XK, (∀ k d z J, Ech k d J → W k d z J) ∧ tDrop (tCall (spOrderOf T.e_TooLarge.C) [] Ech (tCons (tVar 0) tNil)) D z J)
      (fun W pn xe tk _ => ⟨fun pins s' z J D I h => by
        obtain ⟨Ech, hW, h⟩ := h
        exact (pss_one (ps_expr (pe_call (ok_order_of T) (hr.mono (by decide)) (by rfl) T.f_order_of.m T.f_order_of.F.kp (bd_order_of T) .nil (passes_call tk fun k d z J e => hW k d z J e) (pa_cons (pv 0) pa_nil)))).run pins s' z J D I h⟩)
      (t1 := fun a k d => tRet (tAndV (tCB (rIsEd K a k d) (tCons (tVar 1) (tCons (tC (.ref T.e_TooLarge.C)) tNil))) (tOp (rEqD K) (tTup (tCons (tXf a k d T.e_TooLarge.C "what" (tVar 1)) (tCons (tXf a k d T.e_TooLarge.C "most" (tVar 1)) tNil))) (tTup (tCons (tC (.str "length")) (tCons (tC (.int 5040)) tNil))))))
      (x := "ZerosError") (n := "error") (i := 2) (c := .ref T.e_ZerosError.C) ⟨rfl, by decide, .inl T.e_ZerosError.m⟩ rfl rfl
      (fun a o k d ps hz hf => pss_one (ps_set (i := 1) sc_law_is_refused.nd rfl (.inl rfl) (pv 2)))
      (fun a o k d ps hz hf => pss_one (ps_ret (pe_and (pe_callB (call_isKept List.mem_cons_self hz hf) (by rfl) T.b_isinstance (by decide +kernel) (pa_cons (pv 1) (pa_cons (pe_glob (v := .ref T.e_TooLarge.C) (by rfl) T.e_TooLarge.m rfl) pa_nil)))
        (pe_one (pe_cmpR (op_eqD hr.units) (pe_tup (pa_cons (pe_xfKept List.mem_cons_self T.e_TooLarge.er.read T.n_TooLarge_what hz hf (pv 1)) (pa_cons (pe_xfKept List.mem_cons_self T.e_TooLarge.er.read T.n_TooLarge_most hz hf (pv 1)) pa_nil))) (pe_tup (pa_cons pe_str (pa_cons pe_int pa_nil))) (nomark _))))))), ?_⟩
    refine ⟨Long T.e_TooLarge.C H, fun c d z J hE len => ?_, ?_⟩
    · obtain ⟨eJ, rfl, dd, rfl, hdd⟩ := hE
      refine ⟨T.xm_TooLarge_ZerosError, fun a na => ?_⟩
      match z, len with
      | [z0, z1, z2], _ =>
        refine ⟨_, rfl, ?_⟩
        refine ⟨_, rfl, T.e_TooLarge.C, dd, _, _, .ref T.e_TooLarge.C, true, rfl, ⟨T.e_TooLarge.er.read.ga, T.e_TooLarge.er.read.gg, T.e_TooLarge.er.read.exC, T.e_TooLarge.er.read.hdC, T.x_TooLarge.ha, T.s_get, T.s_takes, T.x_TooLarge.hm⟩, rfl, hdd, rfl, (fun u r => r), kit_self, _, rfl, iteT ?_⟩
        refine ⟨_, rfl, rfl, rfl, dd, _, _, rfl, hdd, rfl, _, rfl, rfl, rfl, dd, _, _, rfl, hdd, rfl, by show 2 ≤ sizeLine; decide, fun p np => ?_⟩
        (generalize g_H1 : upd _ p _ = H1); have hp := gat g_H1; have e1 := gex g_H1 np; clear g_H1
        refine ⟨by show 2 ≤ sizeLine; decide, fun q nq => ?_⟩
        (generalize g_H2 : upd _ q _ = H2); have hq := gat g_H2; have e2 := gex g_H2 nq; clear g_H2
        refine ⟨_, _, what_data (e2 _ _ hp), what_data hq, by decide +kernel, by decide +kernel, ?_⟩
        exact k H2 ((eJ.trans e1).trans e2)
    · exact ⟨_, rfl, n, rfl, n1, nb, .inr ⟨none, fly_long⟩⟩
theorem kb_order_of (T : Tx K mg) : KBinds K T.f_order_of.fd ["number"] ["number"] kwA kwA where
  to := by
    obtain ⟨oc, od, kV, doc, pm, an, cdv, ct, osl, e, lk, hcd⟩ := T.f_order_of.F.ex
    rw [e]
    intro s us ws _ hl
    match us, ws, hl with
    | [], [_], _ => exact .of_eq rfl
  rel := kwA_vals
theorem kb_shared (T : Tx K mg) : KBinds K T.f_shared.fd ["number", "width"] ["number", "width"] kwB kwB where
  to := by
    obtain ⟨oc, od, kV, doc, pm, an, cdv, ct, osl, e, lk, hcd⟩ := T.f_shared.F.ex
    rw [e]
    intro s us ws _ hl
    match us, ws, hl with
    | [], [_, _], _ => exact .of_eq rfl
  rel := kwB_vals

theorem ok_law {Pr : Program} (T : Tx K mg) : FnQ Pr w K mg base 6 T.f_law.a T.f_law.fd ["_law_script"] (spLaw K) := by
  refine fnq T.f_law.F sc_law (fun vs H Q E h => ?_) (fun cdv A outer s H vs Q gd hr h => ?_)
  · obtain ⟨a, ns, rfl, _⟩ := h
    rfl
  · obtain ⟨a, ns, rfl, hS, hl, k⟩ := h
    refine ⟨_, (pss_cons (ps_set (i := 1) sc_law.nd rfl (Or.inl rfl) (pe_call (ok_law_pen T) (hr.mono (by decide)) (by rfl) T.f_law_pen.m T.f_law_pen.F.kp (bd_law_pen T) .nil pass0 (pa_cons (pv 0) pa_nil)))
      (pss_cons (ps_for PassesOwn.never rfl (pi_range1 (by rfl) T.b_range (pa_cons pe_int pa_nil)) (pg_name (i := 2) sc_law.nd rfl (Or.inl rfl)) (pss_cons (ps_set (i := 3) sc_law.nd rfl (Or.inl rfl) (pe_op op_add pe_int (pe_op op_mul pe_int (pe_call (ok_law_draw T) (hr.mono (by decide)) (by rfl) T.f_law_draw.m T.f_law_draw.F.kp (bd_law_draw T) .nil pass0 (pa_cons (pv 1) (pa_cons (pe_call (ok_law_pick T) (hr.mono (by decide)) (by rfl) T.f_law_pick.m T.f_law_pick.F.kp (bd_law_pick T) .nil pass0 (pa_cons (pv 1) (pa_cons (pe_lst (pa_cons pe_int (pa_cons pe_int (pa_cons pe_int (pa_cons pe_int pa_nil))))) pa_nil))) pa_nil))))))
      (pss_cons (ps_set (i := 4) sc_law.nd rfl (Or.inl rfl) (pe_call (ok_law_order T) (hr.mono (by decide)) (by rfl) T.f_law_order.m T.f_law_order.F.kp (bd_law_order T) .nil pass0 (pa_cons (pv 3) pa_nil)))
      (pss_cons (ps_if (pt_cmpR op_ne (pe_callB SkE.call_repr_int (by rfl) T.b_repr (by decide +kernel) (pa_cons (pe_callK0 (ok_order_of T) (hr.mono (by decide)) (by rfl) T.f_order_of.m T.f_order_of.F.kp (kb_order_of T) passE0 (pk_cons (pv 3) pk_nil)) pa_nil)) (pe_callB SkE.call_repr_int (by rfl) T.b_repr (by decide +kernel) (pa_cons (pv 4) pa_nil)) (nomark _)) (pss_one (ps_ret pe_bl)) pss_nil)
      (pss_cons (ps_set (i := 5) sc_law.nd rfl (Or.inl rfl) (pe_op op_shl (pv 3) (pe_call (ok_law_pick T) (hr.mono (by decide)) (by rfl) T.f_law_pick.m T.f_law_pick.F.kp (bd_law_pick T) .nil pass0 (pa_cons (pv 1) (pa_cons (pe_lst (pa_cons pe_int (pa_cons pe_int (pa_cons pe_int (pa_cons pe_int pa_nil))))) pa_nil)))))
      (pss_cons (ps_set (i := 6) sc_law.nd rfl (Or.inl rfl) (pe_op op_add pe_int (pe_call (ok_law_draw T) (hr.mono (by decide)) (by rfl) T.f_law_draw.m T.f_law_draw.F.kp (bd_law_draw T) .nil pass0 (pa_cons (pv 1) (pa_cons pe_int pa_nil)))))
      (pss_cons (ps_set (i := 7) sc_law.nd rfl (Or.inl rfl) (pe_call (ok_law_gcd T) (hr.mono (by decide)) (by rfl) T.f_law_gcd.m T.f_law_gcd.F.kp (bd_law_gcd T) .nil pass0 (pa_cons (pv 5) (pa_cons (pe_op op_sub (pe_op op_shl pe_int (pv 6)) pe_int) pa_nil))))
      (pss_cons (ps_if (pt_cmpR op_ne (pe_callB SkE.call_repr_int (by rfl) T.b_repr (by decide +kernel) (pa_cons (pe_callK0 (ok_shared T) (hr.mono (by decide)) (by rfl) T.f_shared.m T.f_shared.F.kp (kb_shared T) pass0 (pk_cons (pv 5) (pk_cons (pv 6) pk_nil))) pa_nil)) (pe_callB SkE.call_repr_int (by rfl) T.b_repr (by decide +kernel) (pa_cons (pv 7) pa_nil)) (nomark _)) (pss_one (ps_ret pe_bl)) pss_nil)
      (pss_cons (ps_set (i := 8) sc_law.nd rfl (Or.inl rfl) (pe_op op_add (pv 6) (pe_op op_mul (pv 4) (pe_call (ok_law_draw T) (hr.mono (by decide)) (by rfl) T.f_law_draw.m T.f_law_draw.F.kp (bd_law_draw T) .nil pass0 (pa_cons (pv 1) (pa_cons (pe_call (ok_law_pick T) (hr.mono (by decide)) (by rfl) T.f_law_pick.m T.f_law_pick.F.kp (bd_law_pick T) .nil pass0 (pa_cons (pv 1) (pa_cons (pe_lst (pa_cons pe_int (pa_cons (pe_op op_pow pe_int pe_int) (pa_cons (pe_op op_pow pe_int pe_int) pa_nil)))) pa_nil))) pa_nil))))))
      (pss_one (ps_if (PW.pt (pw_or (pt_cmpR op_ne (pe_callB SkE.call_repr_int (by rfl) T.b_repr (by decide +kernel) (pa_cons (pe_call (ok_shared T) (hr.mono (by decide)) (by rfl) T.f_shared.m T.f_shared.F.kp (bd_shared T) .nil pass0 (pa_cons (pv 5) (pa_cons (pv 8) pa_nil))) pa_nil)) (pe_callB SkE.call_repr_int (by rfl) T.b_repr (by decide +kernel) (pa_cons (pv 7) pa_nil)) (nomark _)) (pw_or1 (pt_cmpR op_ne (pe_callB SkE.call_repr_int (by rfl) T.b_repr (by decide +kernel) (pa_cons (pe_call (ok_shared T) (hr.mono (by decide)) (by rfl) T.f_shared.m T.f_shared.F.kp (bd_shared T) .nil pass0 (pa_cons (pv 3) (pa_cons (pe_op op_mul (pv 4) (pe_op op_add pe_int (pe_call (ok_law_draw T) (hr.mono (by decide)) (by rfl) T.f_law_draw.m T.f_law_draw.F.kp (bd_law_draw T) .nil pass0 (pa_cons (pv 1) (pa_cons (pe_op op_pow pe_int pe_int) pa_nil))))) pa_nil))) pa_nil)) (pe_callB SkE.call_repr_int (by rfl) T.b_repr (by decide +kernel) (pa_cons (pv 3) pa_nil)) (nomark _))))) (pss_one (ps_ret pe_bl)) pss_nil)))))))))))
      (pss_cons (ps_set (i := 9) sc_law.nd rfl (Or.inl rfl) (pe_call (ok_law_draw T) (hr.mono (by decide)) (by rfl) T.f_law_draw.m T.f_law_draw.F.kp (bd_law_draw T) .nil pass0 (pa_cons (pv 1) (pa_cons pe_int pa_nil))))
      (pss_cons (ps_set (i := 10) sc_law.nd rfl (Or.inl rfl) pe_int)
      (pss_cons (ps_for PassesOwn.never rfl (pi_range1 (by rfl) T.b_range (pa_cons (pv 9) pa_nil)) (pg_name (i := 2) sc_law.nd rfl (Or.inl rfl)) (pss_one (ps_set (i := 10) sc_law.nd rfl (Or.inl rfl) (pe_op op_mul pe_int (pv 10)))))
      (Evl.pss_cut (ps_if (pt_cmpR op_ne (pe_call (ok_order_of T) (hr.mono (by decide)) (by rfl) T.f_order_of.m T.f_order_of.F.kp (bd_order_of T) .nil passE0 (pa_cons (pv 10) pa_nil)) (pe_ifExp (pt_cmpR op_eq (pv 9) pe_int (nomark _)) pe_int (pe_op op_mul pe_int (pe_op op_fdivW (pv 10) pe_int))) (nomark _)) (pss_one (ps_ret pe_bl)) pss_nil)
      (pss_cons (ps_set (i := 11) sc_law.nd rfl (Or.inl rfl) (pe_op op_add pe_int (pe_call (ok_law_draw T) (hr.mono (by decide)) (by rfl) T.f_law_draw.m T.f_law_draw.F.kp (bd_law_draw T) .nil pass0 (pa_cons (pv 1) (pa_cons pe_int pa_nil)))))
      (pss_cons (ps_if (PW.pt (pw_or (pt_cmpR op_ne (pe_call (ok_order_of T) (hr.mono (by decide)) (by rfl) T.f_order_of.m T.f_order_of.F.kp (bd_order_of T) .nil passE0 (pa_cons (pe_op op_sub (pe_op op_shl pe_int (pv 11)) pe_int) pa_nil)) (pv 11) (nomark _)) (pw_or1 (pt_cmpR op_ne (pe_call (ok_shared T) (hr.mono (by decide)) (by rfl) T.f_shared.m T.f_shared.F.kp (bd_shared T) .nil pass0 (pa_cons (pe_op op_sub (pe_op op_shl pe_int (pv 11)) pe_int) (pa_cons (pe_op op_mul (pv 11) (pe_op op_pow pe_int pe_int)) pa_nil))) (pe_op op_sub (pe_op op_shl pe_int (pv 11)) pe_int) (nomark _))))) (pss_one (ps_ret pe_bl)) pss_nil)
      (pss_cons (ps_if (PW.pt (pw_or (pt_cmpR op_ne (pe_call (ok_order_of T) (hr.mono (by decide)) (by rfl) T.f_order_of.m T.f_order_of.F.kp (bd_order_of T) .nil passE0 (pa_cons pe_int pa_nil)) pe_int (nomark _)) (pw_or1 (pt_not (pt_val (pe_call (ok_law_is_refused T) (hr.mono (by decide)) (by rfl) T.f_law_is_refused.m T.f_law_is_refused.F.kp (bd_law_is_refused T) .nil pass0 (pa_cons (pe_call (ok_law_pick T) (hr.mono (by decide)) (by rfl) T.f_law_pick.m T.f_law_pick.F.kp (bd_law_pick T) .nil pass0 (pa_cons (pv 1) (pa_cons (pe_lst (pa_cons pe_int (pa_cons pe_int (pa_cons (pe_op op_mul pe_int pe_int) pa_nil)))) pa_nil))) pa_nil))))))) (pss_one (ps_ret pe_bl)) pss_nil)
      (pss_one (ps_ret (pe_call (ok_law_is_refused T) (hr.mono (by decide)) (by rfl) T.f_law_is_refused.m T.f_law_is_refused.F.kp (bd_law_is_refused T) .nil pass0 (pa_cons (pe_op op_mul (pe_op op_pow pe_int pe_int) (pe_op op_add pe_int (pe_op op_mul pe_int (pe_call (ok_law_draw T) (hr.mono (by decide)) (by rfl) T.f_law_draw.m T.f_law_draw.F.kp (bd_law_draw T) .nil pass0 (pa_cons (pv 1) (pa_cons pe_int pa_nil)))))) pa_nil))))))))))))), ?_⟩
    have tn : ∀ x : Nat, ((x : Int)).toNat = x := fun x => Int.toNat_natCast x
    have p2 : ∀ x : Nat, (1 : Int) * 2 ^ ((x : Int)).toNat - 1 = ((2 ^ x - 1 : Nat) : Int) := fun x => by
      rw [Int.one_mul, tn, ← cast_pow]
    have lg : ∀ {x : Nat}, x ≤ big → ((x : Int)).natAbs.log2 < 1920 := fun {x} h => by
      have : x < 2 ^ 101 := Nat.lt_of_le_of_lt h (by decide)
      have := PySem.Flt.log2_lt_of (by decide) this
      rw [Int.natAbs_natCast]
      omega
    have eb : big = 1267650600228229401496703205376 := rfl
    have sm : ∀ {x : Nat}, x ≤ 1000000 → x ≤ big := fun h => Nat.le_trans h (by decide)
    refine ⟨_, rfl, a, ns, rfl, hS, hl, fun z c H1 P1 e1 nz nc => ?_⟩
    refine ⟨3, rfl, by decide, by decide, for_range (n := 3) (fun i σ' H' => PenAt H' z c ns (i * 10) ∧ ∃ o2 o3 o4 o5 o6 o7 o8, σ' = [some (.ref a), some (.ref z), o2, o3, o4, o5, o6, o7, o8, none, none, none]) ⟨P1, _, _, _, _, _, _, _, rfl⟩ ?_ ?_⟩
    · rintro i σ' H2 hi ⟨P2, o2, o3, o4, o5, o6, o7, o8, rfl⟩
      refine ⟨_, rfl, _, rfl, by show 4 ≤ sizeLine; decide, fun l nl => ?_⟩
      (generalize g_H3 : upd _ l _ = H3); have hl3 := gat g_H3; have e3 := gex g_H3 nl; clear g_H3
      refine ⟨z, c, ns, _, l, _, rfl, P2.ex e3, by omega, hl3, by decide, by decide, (P2.off nl).1, fun j y H4 hy P4 f4 => ?_⟩
      obtain ⟨m, rfl, m1, m2⟩ : ∃ m : Nat, y = .int m ∧ 1 ≤ m ∧ m ≤ 1500 := by
        match j, hy with
        | 0, h => cases h; exact ⟨8, rfl, by decide, by decide⟩
        | 1, h => cases h; exact ⟨40, rfl, by decide, by decide⟩
        | 2, h => cases h; exact ⟨200, rfl, by decide, by decide⟩
        | 3, h => cases h; exact ⟨1500, rfl, by decide, by decide⟩
        | j + 4, h => simp at h
      refine ⟨z, c, ns, _, (m : Int), rfl, P4, by omega, by omega, by omega, fun d H5 d0 d1 P5 f5 => ?_⟩
      obtain ⟨d, rfl⟩ : ∃ x : Nat, d = (x : Int) := ⟨d.toNat, by omega⟩
      refine ⟨_, _, rfl, rfl, .inl ⟨by decide, by decide⟩, _, _, rfl, rfl, ?_⟩
      obtain ⟨n, hn⟩ : ∃ n : Nat, n = 1 + 2 * d := ⟨_, rfl⟩
      have eo : (1 : Int) + 2 * (d : Int) = (n : Int) := by omega
      dsimp only
      rw [eo]
      have n1 : 1 ≤ n := by omega
      have n3 : n ≤ 2999 := by omega
      have nb : n ≤ big := sm (by omega)
      obtain ⟨kk, kn, o⟩ := has_ord (n := n) (by omega)
      have kb : kk ≤ big := sm (by omega)
      refine ⟨_, rfl, n, kk, rfl, n1, o, fun H6 e6 => ?_⟩
      refine ⟨_, rfl, n, rfl, n1, nb, .inl ⟨kk, by omega, o, ?_⟩⟩
      refine ⟨_, rfl, lg kb, _, rfl, _, rfl, lg kb, rfl, _, rfl, iteNS rfl ?_⟩
      have P6 := P5.ex e6
      refine ⟨_, rfl, _, rfl, by show 4 ≤ sizeLine; decide, fun l2 nl2 => ?_⟩
      (generalize g_H7 : upd _ l2 _ = H7); have hl7 := gat g_H7; have e7 := gex g_H7 nl2; clear g_H7
      refine ⟨z, c, ns, _, l2, _, rfl, P6.ex e7, by omega, hl7, by decide, by decide, (P6.off nl2).1, fun j2 y2 H8 hy2 P8 f8 => ?_⟩
      obtain ⟨s, rfl, s4⟩ : ∃ s : Nat, y2 = .int s ∧ s ≤ 40 := by
        match j2, hy2 with
        | 0, h => cases h; exact ⟨0, rfl, by decide⟩
        | 1, h => cases h; exact ⟨1, rfl, by decide⟩
        | 2, h => cases h; exact ⟨5, rfl, by decide⟩
        | 3, h => cases h; exact ⟨40, rfl, by decide⟩
        | j + 4, h => simp at h
      refine ⟨_, _, rfl, rfl, ⟨by omega, by omega, by omega⟩, ?_⟩
      have ew : (n : Int) * 2 ^ ((s : Int)).toNat = ((n * 2 ^ s : Nat) : Int) := by
        rw [tn, Int.natCast_mul, Int.natCast_pow]
        rfl
      dsimp only
      rw [ew]
      have wb : n * 2 ^ s ≤ big := Nat.le_trans (Nat.mul_le_mul n3 (Nat.pow_le_pow_right (by decide) s4)) (by decide)
      have w1 : 1 ≤ n * 2 ^ s := Nat.mul_le_mul n1 (one_le s)
      refine ⟨_, rfl, z, c, ns, _, 60, rfl, P8, by omega, by decide, by decide, fun sp H9 sp0 sp1 P9 f9 => ?_⟩
      obtain ⟨sp, rfl⟩ : ∃ x : Nat, sp = (x : Int) := ⟨sp.toNat, by omega⟩
      refine ⟨_, _, rfl, rfl, ?_⟩
      obtain ⟨u, hu⟩ : ∃ u : Nat, u = 1 + sp := ⟨_, rfl⟩
      have es : (1 : Int) + (sp : Int) = (u : Int) := by omega
      dsimp only
      rw [es]
      have u1 : 1 ≤ u := by omega
      have u6 : u ≤ 60 := by omega
      refine ⟨_, rfl, _, rfl, _, _, rfl, rfl, ⟨by omega, by omega, by decide⟩, _, _, rfl, rfl, ?_⟩
      dsimp only
      rw [p2]
      have ub : 2 ^ u - 1 ≤ big := Nat.le_trans (Nat.sub_le _ _) (Nat.le_trans (Nat.pow_le_pow_right (by decide) u6) (by decide))
      refine ⟨n * 2 ^ s, 2 ^ u - 1, rfl, wb, ub, ?_⟩
      have gb : Nat.gcd (n * 2 ^ s) (2 ^ u - 1) ≤ big := Nat.le_trans (Nat.gcd_le_left _ w1) wb
      refine ⟨_, rfl, _, rfl, n * 2 ^ s, u, rfl, w1, wb, sm (by omega), ?_⟩
      refine ⟨_, rfl, lg gb, _, rfl, _, rfl, lg gb, rfl, _, rfl, iteNS rfl ?_⟩
      refine ⟨_, rfl, _, rfl, _, rfl, _, rfl, _, _, rfl, rfl, ⟨by decide, by decide, by decide⟩, _, _, rfl, rfl, ⟨by decide, by decide, by decide⟩, by show 3 ≤ sizeLine; decide, fun l3 nl3 => ?_⟩
      (generalize g_H10 : upd _ l3 _ = H10); have hl10 := gat g_H10; have e10 := gex g_H10 nl3; clear g_H10
      refine ⟨z, c, ns, _, l3, _, rfl, P9.ex e10, by omega, hl10, by decide, by decide, (P9.off nl3).1, fun j3 y3 H11 hy3 P11 f11 => ?_⟩
      obtain ⟨m3, rfl, a1, a2⟩ : ∃ m3 : Nat, y3 = .int m3 ∧ 1 ≤ m3 ∧ m3 ≤ 10000000000000000000000000 := by
        match j3, hy3 with
        | 0, h => cases h; exact ⟨3, rfl, by decide, by decide⟩
        | 1, h => cases h; exact ⟨1000000, congrArg V.int (by decide +kernel), by decide, by decide⟩
        | 2, h => cases h; exact ⟨10000000000000000000000000, congrArg V.int (by decide +kernel), by decide, by decide⟩
        | j + 3, h => simp at h
      refine ⟨z, c, ns, _, (m3 : Int), rfl, P11, by omega, by omega, by omega, fun f H12 f0 g1 P12 f12 => ?_⟩
      obtain ⟨f, rfl⟩ : ∃ x : Nat, f = (x : Int) := ⟨f.toNat, by omega⟩
      refine ⟨_, _, rfl, rfl, .inl ⟨by omega, by omega⟩, _, _, rfl, rfl, ?_⟩
      have ef : (u : Int) + (kk : Int) * (f : Int) = ((u + kk * f : Nat) : Int) := by rw [Int.natCast_add, Int.natCast_mul]
      dsimp only
      rw [ef]
      have fb : kk * f ≤ 2999 * 10000000000000000000000000 := Nat.mul_le_mul (by omega) (by omega)
      have eg : Nat.gcd (n * 2 ^ s) (2 ^ (u + kk * f) - 1) = Nat.gcd (n * 2 ^ s) (2 ^ u - 1) := by
        rw [gcd_shift (show 1 ≤ u + kk * f by omega), gcd_shift u1, gcd_far o.2.1]
      refine ⟨_, rfl, _, rfl, n * 2 ^ s, u + kk * f, rfl, w1, wb, by omega, ?_⟩
      rw [eg]
      refine ⟨_, rfl, lg gb, _, rfl, _, rfl, lg gb, rfl, _, rfl, iteNS rfl ?_⟩
      have pow20 : (10 : Int) ^ ((20 : Int)).toNat = 100000000000000000000 := by decide +kernel
      refine ⟨_, rfl, _, rfl, _, rfl, _, _, rfl, rfl, ⟨by decide, by decide, by decide⟩, ?_⟩
      dsimp only
      rw [pow20]
      refine ⟨z, c, ns, _, 100000000000000000000, rfl, P12, by omega, by decide, by decide, fun q H13 q0 q1 P13 f13 => ?_⟩
      obtain ⟨q, rfl⟩ : ∃ x : Nat, q = (x : Int) := ⟨q.toNat, by omega⟩
      refine ⟨_, _, rfl, rfl, _, _, rfl, rfl, .inl ⟨by omega, by omega⟩, ?_⟩
      have eq : (kk : Int) * ((1 : Int) + (q : Int)) = ((kk * (1 + q) : Nat) : Int) := by
        rw [Int.natCast_mul, Int.natCast_add]
        rfl
      dsimp only
      rw [eq]
      have qb : kk * (1 + q) ≤ 2999 * 100000000000000000000 := Nat.mul_le_mul (by omega) (by omega)
      refine ⟨n, kk * (1 + q), rfl, n1, nb, by omega, ?_⟩
      rw [Nat.gcd_eq_left (dv_mul o.2.1 (1 + q))]
      refine ⟨_, rfl, lg nb, _, rfl, _, rfl, lg nb, rfl, _, rfl, iteNS rfl ?_⟩
      exact ⟨P13.mono (by omega), _, _, _, _, _, _, _, rfl⟩
    · rintro σ' H2 ⟨P2, o2, o3, o4, o5, o6, o7, o8, rfl⟩
      refine ⟨_, rfl, z, c, ns, _, 9, rfl, P2, by omega, by decide, by decide, fun p H3 p0 p1 P3 f3 => ?_⟩
      obtain ⟨p, rfl⟩ : ∃ x : Nat, p = (x : Int) := ⟨p.toNat, by omega⟩
      refine ⟨_, rfl, _, rfl, by omega, by omega, for_range (n := p) (fun i σ' H' => H' = H3 ∧ ∃ o2, σ' = [some (.ref a), some (.ref z), o2, o3, o4, o5, o6, o7, o8, some (.int (p : Int)), some (.int ((3 ^ i : Nat) : Int)), none]) ⟨rfl, _, rfl⟩ ?_ ?_⟩
      · rintro i σ' H4 hi ⟨rfl, o2, rfl⟩
        refine ⟨_, rfl, _, _, rfl, rfl, .inl ⟨by decide, by decide⟩, rfl, some (.int (0 + (i : Int))), ?_⟩
        have e : (3 : Int) * ((3 ^ i : Nat) : Int) = ((3 ^ (i + 1) : Nat) : Int) := by
          rw [Nat.pow_succ, Int.natCast_mul, Int.mul_comm]
          rfl
        show [some (V.ref a), some (V.ref z), some (V.int (0 + (i : Int))), o3, o4, o5, o6, o7, o8, some (V.int (p : Int)), some (V.int ((3 : Int) * ((3 ^ i : Nat) : Int))), none] = _
        rw [e]
      rintro σ' H4 ⟨rfl, o2, rfl⟩
      have t1 : 1 ≤ 3 ^ p := Nat.one_le_pow _ _ (by decide)
      have t8 : 3 ^ p ≤ 6561 := Nat.le_trans (Nat.pow_le_pow_right (by decide) (show p ≤ 8 by omega)) (by decide)
      refine ⟨fun σ' H' => H' = H4 ∧ σ' = [some (.ref a), some (.ref z), o2, o3, o4, o5, o6, o7, o8, some (.int (p : Int)), some (.int ((3 ^ p : Nat) : Int)), none], ?_, ?_⟩
      · refine ⟨_, rfl, 3 ^ p, rfl, t1, sm (by omega), .inl ⟨_, ?_, ord_three (show p < 9 by omega), ?_⟩⟩
        · split <;> omega
        · refine ⟨_, rfl, rfl, _, rfl, ite2 (fun q => ?_) (fun q => ?_)⟩
          · have e : p = 0 := by
              have := V.int.inj (of_decide_eq_true q)
              omega
            subst e
            refine ⟨rfl, _, rfl, iteNS rfl ?_⟩
            exact ⟨rfl, rfl⟩
          · have ne : p ≠ 0 := fun e => by
              subst e
              exact q (by decide)
            refine ⟨_, rfl, _, _, rfl, rfl, ⟨by decide, by decide⟩, _, _, rfl, rfl, .inl ⟨by decide, by decide⟩, ?_⟩
            have e : ((if p = 0 then 1 else 2 * (3 ^ p / 3) : Nat) : Int) = 2 * (((3 ^ p : Nat) : Int) / 3) := by
              rw [if_neg ne, Int.natCast_mul, Int.natCast_ediv]
              rfl
            dsimp only
            rw [e]
            refine ⟨rfl, _, rfl, iteNS rfl ?_⟩
            exact ⟨rfl, rfl⟩
      rintro σ' H5 ⟨rfl, rfl⟩
      refine ⟨_, rfl, z, c, ns, _, 99, rfl, P3, by omega, by decide, by decide, fun L H6 L0 L1 P6 f6 => ?_⟩
      obtain ⟨L, rfl⟩ : ∃ x : Nat, L = (x : Int) := ⟨L.toNat, by omega⟩
      refine ⟨_, _, rfl, rfl, ?_⟩
      obtain ⟨v, hv⟩ : ∃ v : Nat, v = 1 + L := ⟨_, rfl⟩
      have ev : (1 : Int) + (L : Int) = (v : Int) := by omega
      dsimp only
      rw [ev]
      have v1 : 1 ≤ v := by omega
      have v9 : v ≤ 99 := by omega
      have vb : 2 ^ v - 1 ≤ big := Nat.le_trans (Nat.sub_le _ _) (Nat.le_trans (Nat.pow_le_pow_right (by decide) v9) (by decide))
      have v0 : 1 ≤ 2 ^ v - 1 := by
        have := Nat.pow_le_pow_right (n := 2) (by decide) v1
        omega
      refine ⟨_, rfl, _, _, rfl, rfl, ⟨by omega, by omega, by decide⟩, _, _, rfl, rfl, ?_⟩
      dsimp only
      rw [p2]
      refine ⟨2 ^ v - 1, rfl, v0, vb, .inl ⟨v, by omega, ord_full v1, ?_⟩⟩
      refine ⟨_, rfl, rfl, _, rfl, iteNS rfl ?_⟩
      have pow20 : (10 : Int) ^ ((20 : Int)).toNat = 100000000000000000000 := by decide +kernel
      refine ⟨_, rfl, _, _, rfl, rfl, ⟨by omega, by omega, by decide⟩, _, _, rfl, rfl, _, rfl, _, _, rfl, rfl, ⟨by decide, by decide, by decide⟩, _, _, rfl, rfl, .inl ⟨by omega, by omega⟩, ?_⟩
      dsimp only
      rw [p2, pow20]
      refine ⟨2 ^ v - 1, v * 100000000000000000000, ?_, v0, vb, by omega, ?_⟩
      · rw [Int.natCast_mul]
        rfl
      rw [Nat.gcd_eq_left (dv_mul (Nat.dvd_refl _) _)]
      refine ⟨_, rfl, _, _, rfl, rfl, ⟨by omega, by omega, by decide⟩, _, _, rfl, rfl, ?_⟩
      dsimp only
      rw [p2]
      refine ⟨rfl, _, rfl, iteNS rfl ?_⟩
      refine ⟨73862057, rfl, by decide, by decide, .inl ⟨5040, Nat.le_refl _, ord_great, ?_⟩⟩
      refine ⟨rfl, _, rfl, iteNS rfl ?_⟩
      refine ⟨_, rfl, _, _, rfl, rfl, .inl ⟨by decide, by decide⟩, by show 3 ≤ sizeLine; decide, fun l nl => ?_⟩
      (generalize g_H7 : upd _ l _ = H7); have hl7 := gat g_H7; have e7 := gex g_H7 nl; clear g_H7
      refine ⟨z, c, ns, _, l, _, rfl, P6.ex e7, by omega, hl7, by decide, by decide, (P6.off nl).1, fun j y H8 hy P8 f8 => ?_⟩
      obtain ⟨m, rfl, m1, mb, no⟩ : ∃ m : Nat, y = .int m ∧ 1 ≤ m ∧ m ≤ big ∧ ∀ j, 1 ≤ j → j ≤ 5040 → ¬ Dv m j := by
        match j, hy with
        | 0, h => cases h; exact ⟨167555, rfl, by decide, by decide, no_a⟩
        | 1, h => cases h; exact ⟨32805, rfl, by decide, by decide, no_b⟩
        | 2, h => cases h; exact ⟨837775, congrArg V.int (by decide), by decide, by decide, no_c⟩
        | j + 3, h => simp at h
      refine ⟨m, rfl, m1, mb, no, fun H9 e9 => ?_⟩
      refine ⟨_, rfl, iteF ?_⟩
      have P9 := P8.ex e9
      have pow9 : (3 : Int) ^ ((9 : Int)).toNat = 19683 := by decide +kernel
      refine ⟨_, _, rfl, rfl, ⟨by decide, by decide, by decide⟩, _, rfl, z, c, ns, _, 4, rfl, P9, by omega, by decide, by decide, fun q H10 q0 q1 P10 f10 => ?_⟩
      obtain ⟨q, rfl⟩ : ∃ x : Nat, q = (x : Int) := ⟨q.toNat, by omega⟩
      refine ⟨_, _, rfl, rfl, .inl ⟨by decide, by decide⟩, _, _, rfl, rfl, _, _, rfl, rfl, .inl ⟨by decide +kernel, by decide +kernel⟩, ?_⟩
      dsimp only
      rw [pow9]
      have e : (19683 : Int) * (1 + 2 * (q : Int)) = ((19683 * (1 + 2 * q) : Nat) : Int) := by omega
      rw [e]
      exact ⟨19683 * (1 + 2 * q), rfl, by omega, by omega, no_d (by omega), fun H11 _ => k H11⟩
end
end Tz
namespace TzH
open PySem PySem.Spec PyProof.Rows L2 TzF Tz
def fn : List He.DefD := [⟨("TooLarge", some "__init__"), "__init__", "TooLarge.__init__", defArgs s_TooLarge_init_, defBody s_TooLarge_init_, defScope s_TooLarge_init_, [], []⟩, ⟨("order_of", none), "order_of", "order_of", defArgs s_order_of, defBody s_order_of, defScope s_order_of, [], []⟩, ⟨("shared", none), "shared", "shared", defArgs s_shared, defBody s_shared, defScope s_shared, [], []⟩, ⟨("_law_pen", none), "_law_pen", "_law_pen", defArgs s_law_pen, defBody s_law_pen, defScope s_law_pen, [], []⟩, ⟨("_law_draw", none), "_law_draw", "_law_draw", defArgs s_law_draw, defBody s_law_draw, defScope s_law_draw, [], []⟩, ⟨("_law_pick", none), "_law_pick", "_law_pick", defArgs s_law_pick, defBody s_law_pick, defScope s_law_pick, [], []⟩, ⟨("_law_gcd", none), "_law_gcd", "_law_gcd", defArgs s_law_gcd, defBody s_law_gcd, defScope s_law_gcd, [], []⟩, ⟨("_law_order", none), "_law_order", "_law_order", defArgs s_law_order, defBody s_law_order, defScope s_law_order, [], []⟩, ⟨("_law_is_refused", none), "_law_is_refused", "_law_is_refused", defArgs s_law_is_refused, defBody s_law_is_refused, defScope s_law_is_refused, [], []⟩, ⟨("law", none), "law", "law", defArgs s_law, defBody s_law, defScope s_law, [], []⟩]
def fa : List He.Fa := [.free "int", .free "len", .free "abs", .free "list", .free "isinstance", .free "range", .free "repr", .int "MOST_LENGTH" 5040, .glo "ZerosError", .glo "TooLarge", .noat "TooLarge" "what", .noat "TooLarge" "most", .exm "TooLarge" "ZerosError" true, .meth "TooLarge" "__init__", .glo "order_of", .glo "shared", .glo "_law_pen", .glo "_law_draw", .glo "_law_pick", .glo "_law_gcd", .glo "_law_order", .glo "_law_is_refused", .glo "law"]
def sm : List TzF.SM := []
def tf : List He.Defn := []
def ex0 (K : PySem.W.Frag) : Bool := errB K (He.ga K "ZerosError")
def ex1 (K : PySem.W.Frag) : Bool := errB K (He.ga K "TooLarge")
def ex2 (K : PySem.W.Frag) : Bool := excB K (He.ga K "TooLarge")
def ex3 (K : PySem.W.Frag) : Bool := eqV (PySem.W.nsIn K mainGlobals "gcd") (some (some (.builtin "math.gcd")))
def ex4 (K : PySem.W.Frag) : Bool := eqV (PySem.W.specialIn K (.builtin "object.__class__") "__get__") (some (some (.builtin "getset_descriptor.__get__")))
def ex5 (K : PySem.W.Frag) : Bool := decide (PySem.W.takesIn K (.builtin "object.__class__") = some true)
def ex (K : PySem.W.Frag) : Bool := [ex0, ex1, ex2, ex3, ex4, ex5].all fun f => f K
abbrev R : PySem.W.OpenRow := PySem.W.OpenLaw.row PySem.Challenge.rw_twozeros_k37_orders_and_shared
abbrev hk : PySem.W.Hook := TzF.hookY 6 fa fn sm tf ex
def ob (s : PySem.W.SharedT) : TzF.AlY := TzF.obsY 6 fa fn sm tf ex (HandSHeadRun.getT s)
theorem ob_eq (s : PySem.W.SharedT) : ob s = hk.obs s.abs := TzF.obsY_eq (HandSHeadRun.getT_eq s)
def loose : List Str := (["gcd", "ZerosError", "TooLarge", "MOST_LENGTH", "order_of", "shared", "_law_pen", "_law_draw", "_law_pick", "_law_gcd", "_law_order", "_law_is_refused"] : List Str)
theorem run (w : World) : HandSHeadRun.RunEqI R (PySem.W.view R.prog [15]) hk ob 20000 loose w := by
  unfold HandSHeadRun.RunEqI
  kernel_rfl
theorem facts {w : World} {K : PySem.W.Frag} {h : Heap} {mg : Str → Option Value} {f : Addr} (KX : K.In h) (G : h.Ns mainGlobals mg) (hfa : mg ("law" : Str) = some (.ref f)) (c : TzF.SaysY fa fn sm tf ex h K) : LawQ PySem.Challenge.rw_twozeros_k37_orders_and_shared w K 6 63 "_law_script" mg f h := by
  have x_0 : ex0 K = true := List.all_eq_true.mp c.more ex0 (by simp)
  have x_1 : ex1 K = true := List.all_eq_true.mp c.more ex1 (by simp)
  have x_2 : ex2 K = true := List.all_eq_true.mp c.more ex2 (by simp)
  have x_3 : ex3 K = true := List.all_eq_true.mp c.more ex3 (by simp)
  have x_4 : ex4 K = true := List.all_eq_true.mp c.more ex4 (by simp)
  have x_5 : ex5 K = true := List.all_eq_true.mp c.more ex5 (by simp)
  obtain ⟨t_MOST_LENGTH, h_MOST_LENGTH⟩ := He.int_ok KX G (c.d.fact 7 rfl)
  obtain ⟨fd_TooLarge_init_, D_TooLarge_init_⟩ := c.d.def_ 0 (d := ⟨("TooLarge", some "__init__"), "__init__", "TooLarge.__init__", defArgs s_TooLarge_init_, defBody s_TooLarge_init_, defScope s_TooLarge_init_, [], []⟩) rfl
  obtain ⟨fd_order_of, D_order_of⟩ := c.d.def_ 1 (d := ⟨("order_of", none), "order_of", "order_of", defArgs s_order_of, defBody s_order_of, defScope s_order_of, [], []⟩) rfl
  obtain ⟨fd_shared, D_shared⟩ := c.d.def_ 2 (d := ⟨("shared", none), "shared", "shared", defArgs s_shared, defBody s_shared, defScope s_shared, [], []⟩) rfl
  obtain ⟨fd_law_pen, D_law_pen⟩ := c.d.def_ 3 (d := ⟨("_law_pen", none), "_law_pen", "_law_pen", defArgs s_law_pen, defBody s_law_pen, defScope s_law_pen, [], []⟩) rfl
  obtain ⟨fd_law_draw, D_law_draw⟩ := c.d.def_ 4 (d := ⟨("_law_draw", none), "_law_draw", "_law_draw", defArgs s_law_draw, defBody s_law_draw, defScope s_law_draw, [], []⟩) rfl
  obtain ⟨fd_law_pick, D_law_pick⟩ := c.d.def_ 5 (d := ⟨("_law_pick", none), "_law_pick", "_law_pick", defArgs s_law_pick, defBody s_law_pick, defScope s_law_pick, [], []⟩) rfl
  obtain ⟨fd_law_gcd, D_law_gcd⟩ := c.d.def_ 6 (d := ⟨("_law_gcd", none), "_law_gcd", "_law_gcd", defArgs s_law_gcd, defBody s_law_gcd, defScope s_law_gcd, [], []⟩) rfl
  obtain ⟨fd_law_order, D_law_order⟩ := c.d.def_ 7 (d := ⟨("_law_order", none), "_law_order", "_law_order", defArgs s_law_order, defBody s_law_order, defScope s_law_order, [], []⟩) rfl
  obtain ⟨fd_law_is_refused, D_law_is_refused⟩ := c.d.def_ 8 (d := ⟨("_law_is_refused", none), "_law_is_refused", "_law_is_refused", defArgs s_law_is_refused, defBody s_law_is_refused, defScope s_law_is_refused, [], []⟩) rfl
  obtain ⟨fd_law, D_law⟩ := c.d.def_ 9 (d := ⟨("law", none), "law", "law", defArgs s_law, defBody s_law, defScope s_law, [], []⟩) rfl
  have e := hfa.symm.trans (He.glo_ok KX G (c.d.fact 22 rfl))
  cases e
  let T : Tx K mg := {
    b_int := He.free_ok KX G (c.d.fact 0 rfl),
    b_len := He.free_ok KX G (c.d.fact 1 rfl),
    b_abs := He.free_ok KX G (c.d.fact 2 rfl),
    b_list := He.free_ok KX G (c.d.fact 3 rfl),
    b_isinstance := He.free_ok KX G (c.d.fact 4 rfl),
    b_range := He.free_ok KX G (c.d.fact 5 rfl),
    b_repr := He.free_ok KX G (c.d.fact 6 rfl),
    c_MOST_LENGTH := ⟨t_MOST_LENGTH, h_MOST_LENGTH⟩,
    e_ZerosError := ⟨He.ga K "ZerosError", He.glo_ok KX G (c.d.fact 8 rfl), err_ok x_0⟩,
    e_TooLarge := ⟨He.ga K "TooLarge", He.glo_ok KX G (c.d.fact 9 rfl), err_ok x_1⟩,
    n_TooLarge_what := He.noat_ok (c.d.fact 10 rfl),
    n_TooLarge_most := He.noat_ok (c.d.fact 11 rfl),
    x_TooLarge := excK_ok x_2,
    g_gcd := PySem.W.mg_of KX G (of_decide_eq_true x_3),
    s_get := of_decide_eq_true x_4,
    s_takes := of_decide_eq_true x_5,
    xm_TooLarge_ZerosError := He.exm_ok (c.d.fact 12 rfl),
    f_TooLarge_init_ := ⟨_, fd_TooLarge_init_, fun_of_D D_TooLarge_init_, He.meth_ok (c.d.fact 13 rfl)⟩,
    f_order_of := ⟨_, fd_order_of, fun_of_D D_order_of, He.glo_ok KX G (c.d.fact 14 rfl)⟩,
    f_shared := ⟨_, fd_shared, fun_of_D D_shared, He.glo_ok KX G (c.d.fact 15 rfl)⟩,
    f_law_pen := ⟨_, fd_law_pen, fun_of_D D_law_pen, He.glo_ok KX G (c.d.fact 16 rfl)⟩,
    f_law_draw := ⟨_, fd_law_draw, fun_of_D D_law_draw, He.glo_ok KX G (c.d.fact 17 rfl)⟩,
    f_law_pick := ⟨_, fd_law_pick, fun_of_D D_law_pick, He.glo_ok KX G (c.d.fact 18 rfl)⟩,
    f_law_gcd := ⟨_, fd_law_gcd, fun_of_D D_law_gcd, He.glo_ok KX G (c.d.fact 19 rfl)⟩,
    f_law_order := ⟨_, fd_law_order, fun_of_D D_law_order, He.glo_ok KX G (c.d.fact 20 rfl)⟩,
    f_law_is_refused := ⟨_, fd_law_is_refused, fun_of_D D_law_is_refused, He.glo_ok KX G (c.d.fact 21 rfl)⟩,
    f_law := ⟨_, fd_law, fun_of_D D_law, He.glo_ok KX G (c.d.fact 22 rfl)⟩ }
  refine ⟨T.f_law.fd, tf.map (He.cT K), spLaw K, fun q hq => ?_, fun q hq => ?_, fun q hq => ?_, fun s v => FunD.bindsA (ps := ["_law_script"]) D_law (fun _ _ _ _ _ _ us hl => match us, hl with | [_], _ => rfl) s [v] rfl, ?_, fun base _ _ B => ?_⟩
  · obtain ⟨d, hd, rfl⟩ := List.mem_map.mp hq
    exact c.empty d hd
  · obtain ⟨d, hd, rfl⟩ := List.mem_map.mp hq
    exact c.out d hd
  · obtain ⟨d, hd, rfl⟩ := List.mem_map.mp hq
    exact PySem.W.codeHd_of_K KX (c.hd d hd)
  · intro H a ns hl tb hS
    exact ⟨a, ns, rfl, hS, hl, fun _ => rfl⟩
  · exact ok_law T 
end TzH
open PySem PySem.W PyProof.Rows
set_option maxRecDepth 100000 in
set_option maxHeartbeats 0 in
theorem PySem.Challenge.cw_twozeros_k37_orders_and_shared_holds : PySem.Challenge.rw_twozeros_k37_orders_and_shared.Holds := by
  w_on; o_law
  refine HandSHeadRun.head_imp (r := TzH.R) (q := view TzH.R.prog [15]) (H := TzH.hk) (ob := TzH.ob) (M := 20000) (loose := TzH.loose) (d := HandSHeadRun.topDef TzH.R.prog 15) (kwd := []) TzH.ob_eq
    TzH.run (by kernel_rfl) (by kernel_rfl) (by kernel_rfl) (by rfl) (by first | assumption | decide +kernel) (by decide +kernel) ⟨rfl, rfl, rfl, rfl, rfl, by decide +kernel⟩ ?hw ?hc
  case hw => w_witness2
  case hc =>
    refine Tz.walk_qt (l := PySem.Challenge.rw_twozeros_k37_orders_and_shared) (n := 63) (k := 6) (x := "_law_script") rfl (by decide) (by kernel_rfl) ⟨rfl, by decide, by decide⟩ ?F
    intro w mg fa h Y G hmg0
    obtain ⟨K, KX, c⟩ := Y
    have hmg : mg ("law" : PySem.Str) = some (.ref fa) := by
      have e : (HandSHeadRun.topDef TzH.R.prog 15).name = ("law" : PySem.Str) := by kernel_rfl
      rw [← e]
      exact hmg0
    exact ⟨K, KX, TzH.facts KX G hmg c⟩
